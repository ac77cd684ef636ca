import PyProof.Rows.All
import Wide.All
import OpenK.AllK
import Wide.FinOn
import Lean
import PyProof.EqAt
import PyProof.EqKinds
import PyProof.TupleCall
import KE.KIntText
import KE.KTryMore
import KE.KIsAll
import PyProof.ZipIter
import KE.KRevIter
import PyProof.CollectIter
import PyProof.FactsAll.range_2
import PyProof.FactsAll.range_iterator_1
import PySem.Challenge.RW_rowjudge_k64_stacked
set_option Elab.async false
set_option linter.all false
set_option maxRecDepth 100000
namespace L2
open PySem PySem.Spec PyProof.Rows
abbrev Key:=Sum Int Str
def xk:Key->Value->Bool
 | .inl k,v=>Value.isInt k v
 | .inr x,v=>Value.isStrOf x v
def De (w:World):Key->Int
 | .inl k=>hashInt k
 | .inr x=>hashStr w x
theorem bP:∀ {k:Key} {v:Value},xk k v=true->(∃ i t,k=Sum.inl i/\v=Value.int i t)\/(∃ x t,k=Sum.inr x/\v=Value.str x t)
 | .inl i,v,h=>by
  obtain ⟨t,e⟩:=Value.isInt_shape (k:=i) (v:=v) h
  exact .inl ⟨i,t,rfl,e⟩
 | .inr x,v,h=>by
  obtain ⟨t,e⟩:=Value.isStrOf_shape (x:=x) (v:=v) h
  exact .inr ⟨x,t,rfl,e⟩
theorem xX (a b:Int):decide ((Sum.inl a:Key)=Sum.inl b)=(a == b):=by
 by_cases e:a=b
 ·subst e;simp
 ·have h:¬ (Sum.inl a:Key)=Sum.inl b:=fun q=>e (Sum.inl.inj q)
  rw [decide_eq_false h]
  exact (beq_eq_false_iff_ne.mpr e).symm
theorem xY (a b:Str):decide ((Sum.inr a:Key)=Sum.inr b)=decide (a=b):=by
 by_cases e:a=b
 ·subst e;simp
 ·have h:¬ (Sum.inr a:Key)=Sum.inr b:=fun q=>e (Sum.inr.inj q)
  rw [decide_eq_false h,decide_eq_false e]
theorem xZ (a:Int) (b:Str):decide ((Sum.inl a:Key)=Sum.inr b)=false:=decide_eq_false (fun q=>nomatch q)
theorem ya (a:Str) (b:Int):decide ((Sum.inr a:Key)=Sum.inl b)=false:=decide_eq_false (fun q=>nomatch q)
def oY (prog:Program) (w:World):PySem.KeyKind prog w Key where
 is:=xk
 hash:=De w
 inj:=fun v a b ha hb=>by
  rcases bP ha with ⟨i,t,rfl,rfl⟩ | ⟨x,t,rfl,rfl⟩
  ·rcases bP hb with ⟨j,u,rfl,e⟩ | ⟨y,u,rfl,e⟩
   ·injection e with e1 _;rw [e1]
   ·exact nomatch e
  ·rcases bP hb with ⟨j,u,rfl,e⟩ | ⟨y,u,rfl,e⟩
   ·exact nomatch e
   ·injection e with e1 _;rw [e1]
 byValue:=fun k v h=>by
  rcases bP h with ⟨i,t,rfl,rfl⟩ | ⟨x,t,rfl,rfl⟩ <;> rfl
 pyHash:=fun hv h=>by
  rcases bP hv with ⟨i,t,rfl,rfl⟩ | ⟨x,t,rfl,rfl⟩
  ·exact wpAny_pyHash_int h
  ·exact wpAny_pyHash_str h
 eqBool:=fun hu hv h=>by
  rcases bP hu with ⟨i,t,rfl,rfl⟩ | ⟨x,t,rfl,rfl⟩
  ·rcases bP hv with ⟨j,u,rfl,rfl⟩ | ⟨y,u,rfl,rfl⟩
   ·rw [xX] at h;exact wpAny_eqBool_int h
   ·rw [xZ] at h;exact SeqAt.EqAt.int_str i t y u _ _ _ _ h
  ·rcases bP hv with ⟨j,u,rfl,rfl⟩ | ⟨y,u,rfl,rfl⟩
   ·rw [ya] at h;exact SeqAt.EqAt.str_int x t j u _ _ _ _ h
   ·rw [xY] at h;exact wpAny_eqBool_str h
 «strs»:=fun k x t v h=>by
  rcases bP h with ⟨i,u,rfl,e⟩ | ⟨y,u,rfl,e⟩
  ·exact nomatch e
  ·injection e with e1 _
   subst e1
   cases v <;> rfl
end L2
namespace L2
open PySem PySem.Spec PyProof.Rows
inductive V where
 | non | bl (b:Bool) | int (i:Int) | str (x:Str) | byt (b:Array UInt8) | flt (b:UInt64) | ref (a:Addr) | ty (n:String)
 deriving DecidableEq
def RelV:V->Value->Prop
 | .non,u=>u=Value.none
 | .bl b,u=>u=Value.bool b
 | .int i,u=>∃ t,u=Value.int i t
 | .str x,u=>∃ t,u=Value.str x t
 | .byt b,u=>∃ t,u=Value.bytes b t
 | .flt b,u=>∃ t,u=Value.float b t
 | .ref a,u=>u=Value.ref a
 | .ty n,u=>u=Value.type n
abbrev Vals:List V->List Value->Prop:=Paired RelV
theorem Vals.length {xs:List V} {us:List Value} (r:Vals xs us):xs.length=us.length:=Paired.length r
theorem Vals.get:∀ {xs:List V} {us:List Value} {i:Nat} {x:V},Vals xs us->xs[i]?=some x->∃ u,us[i]?=some u/\RelV x u
 | _,_,_,_,.nil,e=>by simp at e
 | _,_,0,_,.cons r _,e=>by simp at e;subst e;exact ⟨_,rfl,r⟩
 | _,_,i+1,x,.cons _ t,e=>by
  obtain ⟨u,h1,h2⟩:=Vals.get (i:=i) (x:=x) t (by simpa using e)
  exact ⟨u,by simpa using h1,h2⟩
theorem Vals.set {x:V} {u:Value} (r:RelV x u):∀ {xs:List V} {us:List Value} (i:Nat),Vals xs us->Vals (xs.set i x) (us.set i u)
 | _,_,_,.nil=>.nil
 | _,_,0,.cons _ t=>.cons r t
 | _,_,i+1,.cons q t=>.cons q (Vals.set r i t)
theorem Vals.append:∀ {xs ys:List V} {us ws:List Value},Vals xs us->Vals ys ws->Vals (xs ++ ys) (us ++ ws)
 | _,_,_,_,.nil,s=>s
 | _,_,_,_,.cons r t,s=>.cons r (Vals.append t s)
theorem Vals.take:∀ {xs:List V} {us:List Value} (n:Nat),Vals xs us->Vals (xs.take n) (us.take n)
 | _,_,0,_=>.nil
 | _,_,_+1,.nil=>.nil
 | _,_,n+1,.cons r t=>.cons r (Vals.take n t)
theorem Vals.drop:∀ {xs:List V} {us:List Value} (n:Nat),Vals xs us->Vals (xs.drop n) (us.drop n)
 | _,_,0,r=>r
 | _,_,_+1,.nil=>.nil
 | _,_,n+1,.cons _ t=>Vals.drop n t
def nV:Option V->Option Value->Prop
 | some v,some u=>RelV v u
 | none,none=>True
 | _,_=>False
def KV {κ:Type} : List (κ × V)->List (κ × Value)->Prop:=Paired fun (p:κ × V) (q:κ × Value)=>p.1=q.1/\RelV p.2 q.2
def kV:Key->V
 | .inl i=>.int i
 | .inr x=>.str x
inductive HO where
 | lst (xs:List V)
 | tup (xs:List V)
 | dK (kvs:List (Key × V)) | dT (kvs:List (List Key × V))
 | set (S:Int->Bool) (n:Nat)
 | ins (C dx:Addr) (fs:List (Str × V))
 | own (x:Addr)
 | xd (fs:List (Str × V))
 | met (f x:Addr)
 | rng (lo hi:Int)
 | frz (o:Obj) (u:HO)
 | tbl (ps:Array Value)
 | ext (φ:Heap->Prop)
abbrev Hp:=Addr->Option HO
def upd (H:Hp) (a:Addr) (o:HO):Hp:=fun b=>if b=a then some o else H b
theorem ae {H:Hp} {a:Addr} {o:HO} : upd H a o a=some o:=by unfold upd;rw [if_pos rfl]
theorem aC {H:Hp} {a b:Addr} {o:HO} (h:b ≠ a):upd H a o b=H b:=by unfold upd;rw [if_neg h]
theorem dO {H:Hp} {a b:Addr} {o u:HO} (h:H a=some o) (h' : H b=some u) (d:o ≠ u):a ≠ b:=by
 intro e;subst e;rw [h] at h';exact d (Option.some.inj h')
theorem ba {H:Hp} {a b:Addr} {o:HO} (h:H a=some o) (h' : H b=none):a ≠ b:=by
 intro e;subst e;rw [h] at h';cases h'
section
variable (P:Program) (w:World)
def cL (H:Hp) (h:Heap) (a:Addr):HO->Prop
 | .lst xs=>xs.length<=sizeLine/\∃ (its:List Value) (n:Nat),Vals xs its/\h.get? a=some { cls:=.type "list",data:=.seq its.toArray n }
 | .tup xs=>xs.length<=sizeLine/\∃ its:List Value,Vals xs its/\IsTup h a its.toArray
 | .dK kvs=>kvs.length<=sizeLine/\(a == sysModules)=false/\∃ vs,KV kvs vs/\h.DictOf (oY P w) a vs
 | .dT kvs=>kvs.length<=sizeLine/\(a == sysModules)=false/\∃ xs:List (List Key × Addr × Value),
   Paired (fun (p:List Key × V) (q:List Key × Addr × Value)=>p.1=q.1/\H q.2.1=some (.tup (p.1.map kV))/\RelV p.2 q.2.2) kvs xs /\
   ∃ o es ep,h.get? a=some o/\o.ExactDict/\o.data=.dict es ep/\es.toList=xs.map (entryOfKey (tupleKind (oY P w)))/\(xs.map (·.1)).Nodup
 | .set S n=>h.SetOf (intKind P w) a S n
 | .ins C dx fs=>H dx=some (.own a)/\fs.length<=1000/\dx ≠ a/\h.get? a=some (PySem.W.instObj C dx) /\
   ∃ mA,h.Ns1 dx mA/\(∀ f,nV (fs.lookup f) (mA f))/\PySem.Within mA (fs.map (·.1))
 | .own _=>∃ o,h.get? a=some o
 | .xd fs=>∃ mA,h.Ns1 a mA/\∀ f,nV (fs.lookup f) (mA f)
 | .rng lo hi=>∃ t u v,h.get? a=some { cls:=.type "range",data:=.fields #[.int lo t,.int hi u,.int 1 v] }
 | .frz o u=>h.get? a=some o/\cL H h a u
 | .tbl ps=>h.get? a=some { cls:=.none,data:=.fields ps }
 | .met f x=>h.get? a=some (PySem.W.methodObj (.ref f) (.ref x))
 | .ext φ=>φ h/\(∃ o,h.get? a=some o)/\∀ h1 h2:Heap,φ h1->(∀ o,h1.get? a=some o->h2.get? a=some o)->φ h2
def HOk (H:Hp) (h:Heap):Prop:=∀ a o,H a=some o->cL P w H h a o
end
section
variable {P:Program} {w:World} {H H' : Hp} {h h' : Heap} {a:Addr} {o:HO}
theorem cL.lt (x:cL P w H h a o):a < h.objs.size:=by
 cases o with
 | lst xs=>obtain ⟨_,_,_,_,e⟩:=x;exact Heap.lt_size e
 | tup xs=>obtain ⟨_,_,_,p⟩:=x;exact p.lt
 | dK kvs=>obtain ⟨_,_,_,_,o,_,_,e,_⟩:=x;exact Heap.lt_size e
 | dT kvs=>obtain ⟨_,_,_,_,o,_,_,e,_⟩:=x;exact Heap.lt_size e
 | set S n=>obtain ⟨o,_,_,_,e,_⟩:=x;exact Heap.lt_size e
 | ins C dx fs=>obtain ⟨_,_,_,e,_⟩:=x;exact Heap.lt_size e
 | own y=>obtain ⟨_,e⟩:=x;exact Heap.lt_size e
 | xd fs=>obtain ⟨_,⟨_,_,_,e,_⟩,_⟩:=x;exact Heap.lt_size e
 | rng lo hi=>obtain ⟨_,_,_,e⟩:=x;exact Heap.lt_size e
 | frz ob u=>obtain ⟨e,_⟩:=x;exact Heap.lt_size e
 | tbl ps=>exact Heap.lt_size (show h.get? a=some _ from x)
 | met f y=>exact Heap.lt_size (show h.get? a=some _ from x)
 | ext φ=>obtain ⟨_,⟨_,e⟩,_⟩:=x;exact Heap.lt_size e
theorem Paired.mapP {α β:Type} {F G:α->β->Prop} : ∀ {l₁:List α} {l₂:List β},Paired F l₁ l₂->(∀ a b,F a b->G a b)->Paired G l₁ l₂
 | _,_,.nil,_=>.nil
 | _,_,.cons r t,f=>.cons (f _ _ r) (Paired.mapP t f)
theorem cL.stay (x:cL P w H h a o) (k:∀ b u,(b=a\/H b=some (.own a))->h.get? b=some u->h'.get? b=some u)
  (ho:∀ b,H b=some (.own a)->H' b=some (.own a)) (ht:∀ b xs,H b=some (.tup xs)->H' b=some (.tup xs)):cL P w H' h' a o:=by
 induction o with
 | lst xs=>obtain ⟨z,its,n,r,e⟩:=x;exact ⟨z,its,n,r,k _ _ (.inl rfl) e⟩
 | tup xs=>obtain ⟨z,its,r,ob,e,c⟩:=x;exact ⟨z,its,r,ob,k _ _ (.inl rfl) e,c⟩
 | dK kvs=>obtain ⟨z,y,vs,r,ob,es,ep,e,c⟩:=x;exact ⟨z,y,vs,r,ob,es,ep,k _ _ (.inl rfl) e,c⟩
 | dT kvs =>
  obtain ⟨z,y,xs,r,ob,es,ep,e,c⟩:=x
  exact ⟨z,y,xs,Paired.mapP r fun p q z=>⟨z.1,ht _ _ z.2.1,z.2.2⟩,ob,es,ep,k _ _ (.inl rfl) e,c⟩
 | set S n=>obtain ⟨ob,es,ep,t,e,c⟩:=x;exact ⟨ob,es,ep,t,k _ _ (.inl rfl) e,c⟩
 | ins C dx fs =>
  obtain ⟨d,z,ne,e,mA,⟨od,es,ep,e2,c⟩,r⟩:=x
  exact ⟨ho _ d,z,ne,k _ _ (.inl rfl) e,mA,⟨od,es,ep,k _ _ (.inr d) e2,c⟩,r⟩
 | own y=>obtain ⟨ob,e⟩:=x;exact ⟨ob,k _ _ (.inl rfl) e⟩
 | xd fs=>obtain ⟨mA,⟨od,es,ep,e,c⟩,r⟩:=x;exact ⟨mA,⟨od,es,ep,k _ _ (.inl rfl) e,c⟩,r⟩
 | rng lo hi=>obtain ⟨t,u,v,e⟩:=x;exact ⟨t,u,v,k _ _ (.inl rfl) e⟩
 | frz ob u ih=>obtain ⟨e,q⟩:=x;exact ⟨k _ _ (.inl rfl) e,ih q⟩
 | tbl ps =>
  have e:h.get? a=some { cls:=.none,data:=.fields ps }:=x
  show h'.get? a=some { cls:=.none,data:=.fields ps }
  exact k a _ (.inl rfl) e
 | met f y =>
  have e:h.get? a=some (PySem.W.methodObj (.ref f) (.ref y)):=x
  show h'.get? a=some (PySem.W.methodObj (.ref f) (.ref y))
  exact k a _ (.inl rfl) e
 | ext φ=>obtain ⟨p,⟨o,e⟩,st⟩:=x;exact ⟨st _ _ p fun o q=>k _ _ (.inl rfl) q,⟨o,k _ _ (.inl rfl) e⟩,st⟩
theorem HOk.lt (x:HOk P w H h) (e:H a=some o):a < h.objs.size:=(x a o e).lt
theorem HOk.fresh (x:HOk P w H h) (e:h.objs.size<=a):H a=none:=by
 cases q:H a with
 | none=>rfl
 | some u=>exact absurd (Nat.lt_of_lt_of_le (x.lt q) e) (Nat.lt_irrefl _)
theorem HOk.kept (x:HOk P w H h) (k:∀ b u,h.get? b=some u->h'.get? b=some u):HOk P w H h':=fun a o e =>
 (x a o e).stay (fun b u _ q=>k b u q) (fun _ q=>q) fun _ _ q=>q
theorem HOk.laid (x:HOk P w H h) (k:∀ b u,h.get? b=some u->h'.get? b=some u) (hp:h.objs.size<=a) (new:cL P w (upd H a o) h' a o):HOk P w (upd H a o) h':=fun b u e=>by
 have hn:=x.fresh hp
 by_cases hb:b=a
 ·subst hb;rw [ae] at e;cases e;exact new
 ·rw [aC hb] at e
  exact (x b u e).stay (fun c v _ q=>k c v q) (fun c q=>by rw [aC (ba q hn)];exact q) fun c xs q=>by rw [aC (ba q hn)];exact q
end
def Rd (H:Hp) (a:Addr) (u:HO):Prop:=H a=some u\/∃ o,H a=some (.frz o u)
theorem Rd.ok {P:Program} {w:World} {H:Hp} {h:Heap} {a:Addr} {u:HO} (r:Rd H a u) (x:HOk P w H h):cL P w H h a u:=by
 rcases r with r | ⟨o,r⟩
 ·exact x a u r
 ·obtain ⟨_,q⟩:=x a _ r
  exact q
def Mut:Option HO->Prop
 | some (.lst _)=>True
 | some (.dK _)=>True
 | some (.dT _)=>True
 | some (.set _ _)=>True
 | some (.ins _ _ _)=>True
 | some (.ext _)=>True
 | _=>False
section
variable {P:Program} {w:World} {H:Hp} {h h' : Heap} {x e:Addr} {o' : HO}
theorem HOk.write (ok:HOk P w H h) (mu:Mut (H x)) (he:e=x\/H e=some (.own x)) (k:∀ b u,b ≠ e->h.get? b=some u->h'.get? b=some u) (heo:∃ u,h'.get? e=some u)
  (new:cL P w (upd H x o') h' x o'):HOk P w (upd H x o') h':=fun b u q=>by
 have Au:∀ c y,H c=some (.own y)->c ≠ x:=fun c y r z=>by subst z;rw [r] at mu;exact mu
 have Df:∀ c xs,H c=some (.tup xs)->c ≠ x:=fun c xs r z=>by subst z;rw [r] at mu;exact mu
 by_cases hb:b=x
 ·subst hb;rw [ae] at q;cases q;exact new
 ·rw [aC hb] at q
  by_cases hbe:b=e
  ·have q' : H b=some (.own x):=by
    rcases he with z | z
    ·exact absurd (hbe.trans z) hb
    ·rw [hbe];exact z
   rw [q] at q';cases q'
   obtain ⟨v,hv⟩:=heo
   exact ⟨v,by rw [hbe];exact hv⟩
  ·refine (ok b u q).stay (fun c v hc r=>k c v ?_ r) (fun c r=>by rw [aC (Au c b r)];exact r) fun c xs r=>by rw [aC (Df c xs r)];exact r
   rcases hc with rfl | hc
   ·exact hbe
   ·rintro rfl
    rcases he with z | z
    ·exact Au c b hc z
    ·rw [hc] at z;cases z;exact hb rfl
end
structure Un (fs ex:List Addr) (H H' : Hp) (h h' : Heap):Prop where
 keep:∀ b o,h.get? b=some o->H b=none->b ∉ fs->b ∉ ex->h'.get? b=some o
 slot:∀ b o,h.get? b=some o->H b=none->b ∈ fs->b ∉ ex->∃ sl,h'.get? b=some { o with slots:=sl }
 free:∀ b o,h.get? b=some o->H b=none->b ∉ ex->H' b=none
 there:∀ b o,h.get? b=some o->b ∉ ex->∃ o',h'.get? b=some o'
 tups:∀ b xs,H b=some (.tup xs)->H' b=some (.tup xs)
 frzs:∀ b o u,H b=some (.frz o u)->H' b=some (.frz o u)
 tbls:∀ b ps,H b=some (.tbl ps)->∃ more,H' b=some (.tbl (ps ++ more))
section
variable {fs fs' ex ex' : List Addr} {H H1 H2:Hp} {h h1 h2 h' : Heap} {a x e:Addr} {o:HO}
theorem Un.any (u:Un fs ex H H1 h h1) {b:Addr} {ob:Obj} (q:h.get? b=some ob) (n:H b=none) (hx:b ∉ ex):∃ sl,h1.get? b=some { ob with slots:=sl }:=by
 by_cases hb:b ∈ fs
 ·exact u.slot b ob q n hb hx
 ·exact ⟨ob.slots,u.keep b ob q n hb hx⟩
theorem Un.kept (k:∀ b u,h.get? b=some u->h'.get? b=some u):Un fs ex H H h h' :=
 ⟨fun b ob q _ _ _=>k b ob q,fun b ob q _ _ _=>⟨ob.slots,k b ob q⟩,fun _ _ _ n _=>n,fun b ob q _=>⟨ob,k b ob q⟩,fun _ _ q=>q,fun _ _ _ q=>q,fun _ ps q=>⟨#[],by rw [q];simp⟩⟩
theorem Un.refl:Un fs ex H H h h:=Un.kept fun _ _ q=>q
theorem Un.laid (k:∀ b u,h.get? b=some u->h'.get? b=some u) (hp:h.objs.size<=a) (hn:H a=none):Un fs ex H (upd H a o) h h' where
 keep:=fun b u q _ _ _=>k b u q
 slot:=fun b u q _ _ _=>⟨u.slots,k b u q⟩
 free:=fun b u q n _=>by rw [aC (Nat.ne_of_lt (Nat.lt_of_lt_of_le (Heap.lt_size q) hp))];exact n
 there:=fun b u q _=>⟨u,k b u q⟩
 tups:=fun b xs q=>by rw [aC (ba q hn)];exact q
 frzs:=fun b u xs q=>by rw [aC (ba q hn)];exact q
 tbls:=fun b ps q=>⟨#[],by rw [aC (ba q hn),q];simp⟩
theorem Un.write (mu:Mut (H x)) (he:e=x\/H e=some (.own x)) (k:∀ b u,b ≠ e->h.get? b=some u->h'.get? b=some u) (heo:∃ u,h'.get? e=some u):Un fs ex H (upd H x o) h h':=by
 have hx:∀ b,H b=none->b ≠ x:=fun b n z=>by subst z;rw [n] at mu;exact mu
 have hb:∀ b,H b=none->b ≠ e:=fun b n z=>by
  subst z
  rcases he with r | r
  ·exact hx b n r
  ·rw [n] at r;cases r
 have hm:∀ b u,H b=some u->¬ Mut (some u)->b ≠ x:=fun b u q nm z=>by subst z;rw [q] at mu;exact nm mu
 refine ⟨fun b u q n _ _=>k b u (hb b n) q,fun b u q n _ _=>⟨u.slots,k b u (hb b n) q⟩,fun b u q n _=>by rw [aC (hx b n)];exact n,fun b u q _=>?_,
  fun b xs q=>by rw [aC (hm b _ q fun z=>z)];exact q,fun b u xs q=>by rw [aC (hm b _ q fun z=>z)];exact q,fun b ps q=>⟨#[],by rw [aC (hm b _ q fun z=>z),q];simp⟩⟩
 by_cases hbe:b=e
 ·subst hbe;exact heo
 ·exact ⟨u,k b u hbe q⟩
end
def trk (h:Heap) (H:Hp):List Addr:=(List.range h.objs.size).filter fun a=>(H a).isSome
def oZ (h:Heap) (H:Hp):Heap:=PySem.W.hideAll h (trk h H)
theorem tu (h:Heap) (H:Hp):(oZ h H).objs.size=h.objs.size:=PySem.W.hideAll_size _ _
theorem uu {h:Heap} {H:Hp} {b:Addr} {o:Obj} (e:h.get? b=some o) (n:H b=none):(oZ h H).get? b=some o :=
 PySem.W.hideAll_get _ e fun hm=>by
  have q:(H b).isSome=true:=(List.mem_filter.mp hm).2
  rw [n] at q;simp at q
theorem wj {h:Heap} {H:Hp} {b:Addr} {o:Obj} (e:(oZ h H).get? b=some o):h.get? b=some o/\H b=none:=by
 have e' : h.get? b=some o:=PySem.W.of_hideAll (trk h H) e
 refine ⟨e',?_⟩
 cases q:H b with
 | none=>rfl
 | some x =>
  have hm:b ∈ trk h H:=List.mem_filter.mpr ⟨List.mem_range.mpr (Heap.lt_size e'),by simp [q]⟩
  have z:(oZ h H).get? b=none:=PySem.W.hideAll_none (trk h H) hm
  rw [z] at e;cases e
def wm (g h:Heap) (L:Addr):List (Addr × Obj):=(List.range h.objs.size).filterMap fun a=>if a=L\/(g.get? a).isSome=true then none else (h.get? a).map fun o=>(a,o)
def rest (g h:Heap) (L d:Addr):List (Addr × Obj):=(wm g h L).filter fun p=>decide (p.1 ≠ d)
end L2
namespace L2
open PySem PySem.Spec PyProof.Rows
structure Mod (K:PySem.W.Frag) (mg:Str->Option Value) (base:Heap):Prop where
 kin:K.In base
 glob:base.Ns mainGlobals mg
 blt:∃ mb,base.Ns builtinsNs mb/\∀ x:Str,x ≠ "__name__" -> mb x=bootBuiltins x
 nolimit:base.NoLimit
structure Cx where
 prog:Program
 w:World
 K:PySem.W.Frag
 mg:Str->Option Value
 base:Heap
 A:Around
 N:List Str
 s₀:Shared
 H₀:Hp
 env:Env
 outer:List Env
 stack:List Env
 ex:List Addr
 fn:Str->Bool
 calm:Bool
 pn:List (Addr × Obj)
 xe:Value->Shared->Prop
def frs (l:List Env):List Addr:=l.filterMap (·.frame)
abbrev Cx.fs (X:Cx):List Addr:=frs X.outer
def Vis (sc:Scope) (x:Str):Prop:=sc.names.lookup x=some .local\/sc.names.lookup x=some .cell\/sc.names.lookup x=some .free
def Loc (sc:Scope) (x:Str):Prop:=sc.names.lookup x=some .local\/sc.names.lookup x=some .cell
def Look (env:Env) (h:Heap) (m:Str->Option Value) (x:Str) (u:Value):Prop :=
 (env.kindOf x=some .local/\m x=some u)\/((env.kindOf x=some .cell\/env.kindOf x=some .free)/\∃ c,env.cells.lookup x=some c/\h.IsCell c (some u))
structure Cx.Ok (X:Cx):Prop where
 mod:Mod X.K X.mg X.base
 kind:X.env.scope.kind=.function
 glob:X.env.globals=mainGlobals
 blt:X.env.builtins=builtinsNs
 above:X.s₀.heap.objs.size<=X.env.locals
 inj:∀ x y c,X.env.cells.lookup x=some c->X.env.cells.lookup y=some c->x=y
 has:∀ x,(X.env.kindOf x=some .cell\/X.env.kindOf x=some .free)->∃ c,X.env.cells.lookup x=some c
 cab:∀ x c,X.fn x=true->X.env.cells.lookup x=some c->X.s₀.heap.objs.size<=c
 hd:X.calm=true->X.A.handled=none
 frames:X.A.frames=some X.stack
 stk:X.stack=X.outer\/(X.stack=X.env :: X.outer/\X.env.frame=some X.env.locals)
 exf:∀ b ∈ X.ex,b ≠ X.env.locals/\∀ x c,X.env.cells.lookup x=some c->c ≠ b
 bs:∀ b o,X.base.get? b=some o->X.s₀.heap.get? b=some o/\X.H₀ b=none
 bsz:X.base.objs.size<=X.s₀.heap.objs.size
 noex:∀ b o,X.base.get? b=some o->b ∉ X.ex
 exfs:∀ b ∈ X.ex,b ∉ X.fs
 funs:X.s₀.heap.FunFrames X.base X.outer
 frf:∀ b ∈ X.fs,X.H₀ b=none
structure Inv (X:Cx) (pins:List (Addr × Obj)) (σ:List (Option V)) (H:Hp) (s:Shared):Prop where
 ok:X.Ok
 os:s.os=X.s₀.os
 bare:AllBare s.gens
 base:Un X.fs X.ex X.H₀ H X.s₀.heap s.heap
 loc:∃ m,s.heap.Ns X.env.locals m/\∀ (i:Nat) (x:Str) (v:V),X.N[i]?=some x->σ[i]?=some (some v)->Vis X.env.scope x->∃ u,RelV v u/\Look X.env s.heap m x u
 cell:∀ x c,X.env.cells.lookup x=some c->∃ v,s.heap.IsCell c v
 free:H X.env.locals=none
 freeC:∀ x c,X.env.cells.lookup x=some c->H c=none
 pin:∀ p ∈ X.pn ++ pins,s.heap.get? p.1=some p.2/\H p.1=none/\p.1 ≠ X.env.locals/\p.1 ∉ X.fs/\∀ v,p.2.data ≠ .cell v
 hok:HOk X.prog X.w H s.heap
 len:σ.length=X.N.length
section
variable {X:Cx} {pins:List (Addr × Obj)} {σ:List (Option V)} {H H' : Hp} {s:Shared} {h' : Heap}
theorem Cx.Ok.nofr (ok:X.Ok) {b:Addr} {o:Obj} (e:X.base.get? b=some o):b ∉ X.fs:=fun hb=>by
 have:=(ok.funs.mem hb).1
 rw [e] at this;cases this
theorem Inv.bs (I:Inv X pins σ H s):∀ b o,X.base.get? b=some o->s.heap.get? b=some o/\H b=none:=fun b o e =>
 ⟨I.base.keep b o (I.ok.bs b o e).1 (I.ok.bs b o e).2 (I.ok.nofr e) (I.ok.noex b o e),I.base.free b o (I.ok.bs b o e).1 (I.ok.bs b o e).2 (I.ok.noex b o e)⟩
theorem Inv.bk (I:Inv X pins σ H s):∀ b o,X.base.get? b=some o->s.heap.get? b=some o:=fun b o e=>(I.bs b o e).1
theorem Inv.mod (I:Inv X pins σ H s):Mod X.K X.mg X.base:=I.ok.mod
theorem Inv.kIn (I:Inv X pins σ H s):X.K.In s.heap:=I.ok.mod.kin.keeps I.bk
theorem Inv.lt (I:Inv X pins σ H s):X.env.locals < s.heap.objs.size:=let ⟨_,hn,_⟩:=I.loc;hn.lt
theorem Inv.sz (I:Inv X pins σ H s):X.s₀.heap.objs.size<=s.heap.objs.size:=Nat.le_trans I.ok.above (Nat.le_of_lt I.lt)
theorem Inv.nofs (I:Inv X pins σ H s) {a:Addr} (h:s.heap.objs.size<=a):a ∉ X.fs:=fun hb=>by
 obtain ⟨_,o,ho,_⟩:=I.ok.funs.mem hb
 exact absurd (Nat.lt_of_lt_of_le (Heap.lt_size ho) (Nat.le_trans I.sz h)) (Nat.lt_irrefl _)
theorem Inv.cne (I:Inv X pins σ H s):∀ x c,X.env.cells.lookup x=some c->c ≠ X.env.locals:=fun x c e z=>by
 obtain ⟨v,o,ho,hd⟩:=I.cell x c e
 obtain ⟨m,⟨o',es,ep,ho',hd',_⟩,_⟩:=I.loc
 rw [z,ho'] at ho;cases ho;rw [hd'] at hd;cases hd
theorem Inv.funs (I:Inv X pins σ H s):s.heap.FunFrames X.base X.outer:=by
 have all:∀ (l:List Env),(∀ b ∈ frs l,b ∈ X.fs)->X.s₀.heap.FunFrames X.base l->s.heap.FunFrames X.base l:=by
  intro l
  induction l with
  | nil=>intro _ _;trivial
  | cons env r ih =>
   intro hs hl
   obtain ⟨hk,⟨L,o,hf,hn,ho,hd⟩,hr⟩:=hl
   have hL:L ∈ X.fs:=hs L (by unfold frs;rw [List.filterMap_cons,hf];exact List.mem_cons_self)
   obtain ⟨sl,e⟩:=I.base.slot L o ho (I.ok.frf L hL) hL fun z=>I.ok.exfs L z hL
   exact ⟨hk,⟨L,_,hf,hn,e,hd⟩,ih (fun b hb=>hs b (by unfold frs;rw [List.filterMap_cons,hf];exact List.mem_cons_of_mem _ hb)) hr⟩
 exact all X.outer (fun _ hb=>hb) I.ok.funs
theorem Inv.stack (I:Inv X pins σ H s):s.heap.FunFrames X.base X.stack:=by
 rcases I.ok.stk with e | ⟨e,hf⟩
 ·rw [e];exact I.funs
 ·rw [e]
  obtain ⟨m,hn,_⟩:=I.loc
  refine .cons (by rw [I.ok.kind];decide) hf hn ?_ I.funs
  exact Heap.get?_none_of_le (Nat.le_trans I.ok.bsz I.ok.above)
theorem Inv.stkSub (I:Inv X pins σ H s):∀ b ∈ frs X.stack,b ∈ X.env.locals :: X.fs:=fun b hb=>by
 rcases I.ok.stk with e | ⟨e,hf⟩
 ·rw [e] at hb;exact List.mem_cons_of_mem _ hb
 ·rw [e] at hb
  unfold frs at hb
  rw [List.filterMap_cons,hf] at hb
  exact hb
theorem Inv.stkFree (I:Inv X pins σ H s):∀ b ∈ frs X.stack,H b=none:=fun b hb=>by
 rcases List.mem_cons.mp (I.stkSub b hb) with e | hb
 ·rw [e];exact I.free
 ·obtain ⟨_,o,ho,_⟩:=I.ok.funs.mem hb
  exact I.base.free b o ho (I.ok.frf b hb) fun z=>I.ok.exfs b z hb
theorem Inv.step {g' : Array GenState} {t' : Nat} {d' : Drawn} {ch:List Addr} (I:Inv X pins σ H s)
  (hch:∀ b ∈ ch,(b ∈ X.ex\/X.s₀.heap.objs.size<=b)/\b ≠ X.env.locals/\(∀ x c,X.env.cells.lookup x=some c->c ≠ b)/\∀ p ∈ X.pn ++ pins,p.1 ≠ b)
  (keep:∀ b o,b ≠ X.env.locals->b ∉ X.fs->b ∉ ch->s.heap.get? b=some o->H b=none->h'.get? b=some o)
  (slot:∀ b o,b ≠ X.env.locals->b ∈ X.fs->b ∉ ch->s.heap.get? b=some o->H b=none->∃ sl,h'.get? b=some { o with slots:=sl }) (free:∀ b o,b ∉ ch->s.heap.get? b=some o->H b=none->H' b=none)
  (there:∀ b o,b ∉ ch->s.heap.get? b=some o->∃ o',h'.get? b=some o')
  (tups:∀ b xs,H b=some (.tup xs)->H' b=some (.tup xs)) (frzs:∀ b o u,H b=some (.frz o u)->H' b=some (.frz o u)) (tbls:∀ b ps,H b=some (.tbl ps)->∃ more,H' b=some (.tbl (ps ++ more)))
  (ns:∀ m,s.heap.Ns X.env.locals m->h'.Ns X.env.locals m) (hok:HOk X.prog X.w H' h') (hg:AllBare g') :
  Inv X pins σ H' { s with heap:=h',gens:=g',drawn:=d',toks:=t' }:=by
 have neL:∀ b o,X.s₀.heap.get? b=some o->b ≠ X.env.locals:=fun b o e=>Nat.ne_of_lt (Nat.lt_of_lt_of_le (Heap.lt_size e) I.ok.above)
 have neC:∀ b o,X.s₀.heap.get? b=some o->b ∉ X.ex->b ∉ ch:=fun b o e hx hb=>by
  rcases (hch b hb).1 with z | z
  ·exact hx z
  ·exact absurd (Nat.lt_of_lt_of_le (Heap.lt_size e) z) (Nat.lt_irrefl _)
 have cellK:∀ x c,X.env.cells.lookup x=some c->∀ v,s.heap.IsCell c v->h'.IsCell c v:=fun x c e v ⟨o,ho,hd⟩=>by
  have nch:c ∉ ch:=fun z=>(hch c z).2.2.1 x c e rfl
  by_cases hc:c ∈ X.fs
  ·obtain ⟨sl,q⟩:=slot c o (I.cne x c e) hc nch ho (I.freeC x c e)
   exact ⟨_,q,hd⟩
  ·exact ⟨o,keep c o (I.cne x c e) hc nch ho (I.freeC x c e),hd⟩
 refine ⟨I.ok,I.os,hg,⟨fun b o e n hb hx=>?_,fun b o e n hb hx=>?_,fun b o e n hx=>?_,fun b o e hx=>?_,fun b xs e=>tups b xs (I.base.tups b xs e),fun b o xs e=>frzs b o xs (I.base.frzs b o xs e),fun b ps e=>?_⟩,?_,fun x c e=>?_,?_,fun x c e=>?_,fun p hp=>?_,hok,I.len⟩
 ·exact keep b o (neL b o e) hb (neC b o e hx) (I.base.keep b o e n hb hx) (I.base.free b o e n hx)
 ·obtain ⟨sl,e1⟩:=I.base.slot b o e n hb hx
  obtain ⟨sl',e2⟩:=slot b _ (neL b o e) hb (neC b o e hx) e1 (I.base.free b o e n hx)
  exact ⟨sl',e2⟩
 ·obtain ⟨o',e1⟩:=I.base.there b o e hx
  exact free b o' (neC b o e hx) e1 (I.base.free b o e n hx)
 ·obtain ⟨o',e1⟩:=I.base.there b o e hx
  exact there b o' (neC b o e hx) e1
 ·obtain ⟨m1,e1⟩:=I.base.tbls b ps e
  obtain ⟨m2,e2⟩:=tbls b _ e1
  exact ⟨m1 ++ m2,by rw [e2,Array.append_assoc]⟩
 ·obtain ⟨m,hn,hl⟩:=I.loc
  refine ⟨m,ns m hn,fun i x v e1 e2 e3=>?_⟩
  obtain ⟨u,r,l⟩:=hl i x v e1 e2 e3
  refine ⟨u,r,?_⟩
  rcases l with l | ⟨k,c,e,z⟩
  ·exact .inl l
  ·exact .inr ⟨k,c,e,cellK x c e _ z⟩
 ·obtain ⟨v,z⟩:=I.cell x c e
  exact ⟨v,cellK x c e v z⟩
 ·obtain ⟨m,⟨o,_,_,ho,_⟩,_⟩:=I.loc
  exact free _ o (fun z=>(hch _ z).2.1 rfl) ho I.free
 ·obtain ⟨v,o,ho,hd⟩:=I.cell x c e
  exact free c o (fun z=>(hch c z).2.2.1 x c e rfl) ho (I.freeC x c e)
 ·obtain ⟨e,n,ne,nf,d⟩:=I.pin p hp
  have nch:p.1 ∉ ch:=fun z=>(hch p.1 z).2.2.2 p hp rfl
  exact ⟨keep p.1 p.2 ne nf nch e n,free p.1 p.2 nch e n,ne,nf,d⟩
theorem Inv.un {t' : Nat} (I:Inv X pins σ H s) (u:Un X.fs [] H H' s.heap h') (hok:HOk X.prog X.w H' h'):Inv X pins σ H' { s with heap:=h',toks:=t' }:=by
 obtain ⟨m,⟨o,es,ep,ho,r⟩,_⟩:=id I.loc
 obtain ⟨sl,hL⟩:=u.any ho I.free (by simp)
 exact I.step (g':=s.gens) (d':=s.drawn) (ch:=[]) (fun _ z=>nomatch z) (fun b o _ hb _ e n=>u.keep b o e n hb (by simp)) (fun b o _ hb _ e n=>u.slot b o e n hb (by simp)) (fun b o _ e n=>u.free b o e n (by simp)) (fun b o _ e=>u.there b o e (by simp)) u.tups u.frzs u.tbls (fun m' hm=>by
  obtain ⟨o',es',ep',ho',r'⟩:=hm
  rw [ho] at ho';cases ho'
  exact ⟨_,es',ep',hL,r'⟩) hok I.bare
theorem Inv.call {g' : Array GenState} {t' : Nat} {d' : Drawn} {ch:List Addr} (I:Inv X pins σ H s) (u:Un (frs X.stack) ch H H' s.heap h') (hok:HOk X.prog X.w H' h') (hg:AllBare g')
  (hch:∀ b ∈ ch,(b ∈ X.ex\/X.s₀.heap.objs.size<=b)/\b ≠ X.env.locals/\(∀ x c,X.env.cells.lookup x=some c->c ≠ b)/\∀ p ∈ X.pn ++ pins,p.1 ≠ b) :
  Inv X pins σ H' { s with heap:=h',gens:=g',drawn:=d',toks:=t' }:=by
 obtain ⟨m,⟨o,es,ep,ho,r⟩,_⟩:=id I.loc
 obtain ⟨sl,hL⟩:=u.any ho I.free fun z=>(hch _ z).2.1 rfl
 exact I.step (ch:=ch) hch (fun b o hL hb hc e n=>u.keep b o e n (fun z=>(List.mem_cons.mp (I.stkSub b z)).elim hL hb) hc) (fun b o _ _ hc e n=>u.any e n hc) (fun b o hc e n=>u.free b o e n hc) (fun b o hc e=>u.there b o e hc) u.tups u.frzs u.tbls (fun m' hm=>by
  obtain ⟨o',es',ep',ho',r'⟩:=hm
  rw [ho] at ho';cases ho'
  exact ⟨_,es',ep',hL,r'⟩) hok hg
theorem Inv.turned {t' : Nat} {it:Addr} (I:Inv X pins σ H s) (k:∀ b o,b ≠ it->s.heap.get? b=some o->h'.get? b=some o) (hn:H it=none) (hL:it ≠ X.env.locals)
  (h1:it ∈ X.ex\/X.s₀.heap.objs.size<=it) (h2:∀ x c,X.env.cells.lookup x=some c->c ≠ it) (h3:∀ p ∈ X.pn ++ pins,p.1 ≠ it):Inv X pins σ H { s with heap:=h',toks:=t' }:=by
 have nit:∀ b u,H b=some u->b ≠ it:=fun b u e z=>by rw [z,hn] at e;cases e
 refine I.step (g':=s.gens) (d':=s.drawn) (ch:=[it]) (fun b hb=>?_) (fun b o _ _ hc e _=>k b o (fun z=>hc (by simp [z])) e) (fun b o _ _ hc e _=>⟨o.slots,k b o (fun z=>hc (by simp [z])) e⟩) (fun _ _ _ _ n=>n)
  (fun b o hc e=>⟨o,k b o (fun z=>hc (by simp [z])) e⟩) (fun _ _ e=>e) (fun _ _ _ e=>e) (fun b ps e=>⟨#[],by rw [e];simp⟩) (fun m hm=>?_) (fun b u e=>?_) I.bare
 ·have e:b=it:=by simpa using hb
  subst e
  exact ⟨h1,hL,h2,h3⟩
 ·obtain ⟨o,es,ep,ho,r⟩:=hm
  exact ⟨o,es,ep,k _ o (Ne.symm hL) ho,r⟩
 ·refine (I.hok b u e).stay (fun c v hc q=>k c v ?_ q) (fun _ q=>q) fun _ _ q=>q
  rcases hc with z | z
  ·rw [z];exact nit b u e
  ·exact nit c _ z
theorem Inv.tok (I:Inv X pins σ H s) (t:Nat):Inv X pins σ H { s with toks:=t }:=I.un (h':=s.heap) (t':=t) Un.refl I.hok
theorem Inv.kept {t' : Nat} (I:Inv X pins σ H s) (k:∀ b u,s.heap.get? b=some u->h'.get? b=some u):Inv X pins σ H { s with heap:=h',toks:=t' }:=I.un (Un.kept k) (I.hok.kept k)
theorem Inv.laid {a:Addr} {o:HO} {t' : Nat} (I:Inv X pins σ H s) (k:∀ b u,s.heap.get? b=some u->h'.get? b=some u) (hp:s.heap.objs.size<=a) (new:cL X.prog X.w (upd H a o) h' a o) :
  Inv X pins σ (upd H a o) { s with heap:=h',toks:=t' }:=I.un (Un.laid k hp (I.hok.fresh hp)) (I.hok.laid k hp new)
theorem Inv.write {x e:Addr} {o:HO} {t' : Nat} (I:Inv X pins σ H s) (mu:Mut (H x)) (he:e=x\/H e=some (.own x)) (k:∀ b u,b ≠ e->s.heap.get? b=some u->h'.get? b=some u) (heo:∃ u,h'.get? e=some u)
  (new:cL X.prog X.w (upd H x o) h' x o):Inv X pins σ (upd H x o) { s with heap:=h',toks:=t' }:=I.un (Un.write mu he k heo) (I.hok.write mu he k heo new)
theorem Inv.pins_of {xl : List (Addr × Obj)} (I:Inv X pins σ H s) (h:∀ p ∈ xl,s.heap.get? p.1=some p.2/\H p.1=none/\p.1 ≠ X.env.locals/\p.1 ∉ X.fs/\∀ v,p.2.data ≠ .cell v):Inv X xl σ H s :=
 ⟨I.ok,I.os,I.bare,I.base,I.loc,I.cell,I.free,I.freeC,fun p hp=>(List.mem_append.mp hp).elim (fun z=>I.pin p (List.mem_append_left _ z)) (h p),I.hok,I.len⟩
theorem jt {N:List Str} (hN:N.Nodup) {i j:Nat} {x:Str} (a:N[i]?=some x) (b:N[j]?=some x):i=j:=by
 obtain ⟨h1,e1⟩:=List.getElem?_eq_some_iff.mp a
 obtain ⟨h2,e2⟩:=List.getElem?_eq_some_iff.mp b
 exact (List.getElem_inj hN).mp (e1.trans e2.symm)
theorem gB {M:Model} {A:Around} {E:Value->Shared->Prop} {i:Nat} {x:Str} {v:V} {u:Value} {Q:Unit->Shared->Prop} (I:Inv X pins σ H s) (hN:X.N.Nodup) (hi:X.N[i]?=some x) (hx:Loc X.env.scope x) (r:RelV v u)
  (h:∀ s',Inv X pins (σ.set i (some v)) H s'->(∃ a,Heap.SameBut a s.heap s'.heap/\(a=X.env.locals\/X.env.cells.lookup x=some a))->Q () s') (hf:X.fn x=true\/X.env.scope.names.lookup x=some .local:=by first | exact .inl rfl | exact .inr rfl | assumption):wpAny M A (storeName X.env x u) Q E s:=by
 obtain ⟨m,hn,hl⟩:=id I.loc
 have yb:(X.env.scope.kind == .class || (X.env.scope.kind == .module && X.env.locals != X.env.globals))=false:=by rw [I.ok.kind];rfl
 have hiσ:i < σ.length:=by rw [I.len];exact (List.getElem?_eq_some_iff.mp hi).1
 have cne:=I.cne
 have tracked:∀ {a:Addr} {h' : Heap},(∃ o,s.heap.get? a=some o/\H a=none)->Heap.SameBut a s.heap h'->HOk X.prog X.w H h':=fun {a h'} ha hs b ob e=>by
  obtain ⟨_,_,xm⟩:=ha
  refine (I.hok b ob e).stay (fun c w' hc q=>(hs.2 c ?_).trans q) (fun _ q=>q) fun _ _ q=>q
  rintro rfl
  rcases hc with rfl | hc
  ·rw [xm] at e;cases e
  ·rw [xm] at hc;cases hc
 rcases hx with hk | hk
 ·refine wpAny_storeName_local hk hn (fun h' hn' hs=>?_) yb
  obtain ⟨oL,_,_,hoL,_⟩:=id hn
  refine h _ ⟨I.ok,I.os,I.bare,⟨fun b o e n hb hx=>?_,fun b o e n hb hx=>?_,I.base.free,fun b o e hx=>?_,I.base.tups,I.base.frzs,I.base.tbls⟩,⟨_,hn',fun j y v' e1 e2 e3=>?_⟩,fun y c e=>?_,I.free,I.freeC,fun p hp=>?_,tracked ⟨oL,hoL,I.free⟩ hs,by simpa using I.len⟩ ⟨_,hs,.inl rfl⟩
  ·exact (hs.2 b (Nat.ne_of_lt (Nat.lt_of_lt_of_le (Heap.lt_size e) I.ok.above))).trans (I.base.keep b o e n hb hx)
  ·obtain ⟨sl,e1⟩:=I.base.slot b o e n hb hx
   exact ⟨sl,(hs.2 b (Nat.ne_of_lt (Nat.lt_of_lt_of_le (Heap.lt_size e) I.ok.above))).trans e1⟩
  ·obtain ⟨o',e1⟩:=I.base.there b o e hx
   exact ⟨o',(hs.2 b (Nat.ne_of_lt (Nat.lt_of_lt_of_le (Heap.lt_size e) I.ok.above))).trans e1⟩
  ·by_cases hj:j=i
   ·subst hj
    rw [hi] at e1;cases e1
    rw [List.getElem?_set_self hiσ] at e2
    cases e2
    exact ⟨u,r,.inl ⟨hk,by simp⟩⟩
   ·rw [List.getElem?_set_ne (Ne.symm hj)] at e2
    obtain ⟨u',r',q⟩:=hl j y v' e1 e2 e3
    refine ⟨u',r',?_⟩
    rcases q with ⟨k,e⟩ | ⟨k,c,e,z⟩
    ·refine .inl ⟨k,?_⟩
     have:y ≠ x:=fun e=>hj (jt hN e1 (e ▸ hi))
     simp [this,e]
    ·exact .inr ⟨k,c,e,z.sameBut hs (cne y c e)⟩
  ·obtain ⟨w',z⟩:=I.cell y c e
   exact ⟨w',z.sameBut hs (cne y c e)⟩
  ·obtain ⟨e,n,ne,nf,d⟩:=I.pin p hp
   exact ⟨(hs.2 p.1 ne).trans e,n,ne,nf,d⟩
 ·have hfn:X.fn x=true:=by
   rcases hf with z | z
   ·exact z
   ·rw [z] at hk;cases hk
  obtain ⟨c,hc⟩:=I.ok.has x (.inl hk)
  obtain ⟨w',z⟩:=I.cell x c hc
  refine wpAny_storeName_cell I.ok.kind hk hc z (fun h' hc' hs=>?_)
  obtain ⟨oc,hoc,Dg⟩:=id z
  refine h { s with heap:=h' } ⟨I.ok,I.os,I.bare,⟨fun b o e n hb hx=>?_,fun b o e n hb hx=>?_,I.base.free,fun b o e hx=>?_,I.base.tups,I.base.frzs,I.base.tbls⟩,⟨m,hn.sameBut hs (Ne.symm (cne x c hc)),fun j y v' e1 e2 e3=>?_⟩,fun y c' e=>?_,I.free,I.freeC,fun p hp=>?_,tracked ⟨oc,hoc,I.freeC x c hc⟩ hs,by simpa using I.len⟩ ⟨c,hs,.inr hc⟩
  ·exact (hs.2 b (Nat.ne_of_lt (Nat.lt_of_lt_of_le (Heap.lt_size e) (I.ok.cab x c hfn hc)))).trans (I.base.keep b o e n hb hx)
  ·obtain ⟨sl,e1⟩:=I.base.slot b o e n hb hx
   exact ⟨sl,(hs.2 b (Nat.ne_of_lt (Nat.lt_of_lt_of_le (Heap.lt_size e) (I.ok.cab x c hfn hc)))).trans e1⟩
  ·obtain ⟨o',e1⟩:=I.base.there b o e hx
   exact ⟨o',(hs.2 b (Nat.ne_of_lt (Nat.lt_of_lt_of_le (Heap.lt_size e) (I.ok.cab x c hfn hc)))).trans e1⟩
  ·by_cases hj:j=i
   ·subst hj
    rw [hi] at e1;cases e1
    rw [List.getElem?_set_self hiσ] at e2
    cases e2
    exact ⟨u,r,.inr ⟨.inl hk,c,hc,hc'⟩⟩
   ·rw [List.getElem?_set_ne (Ne.symm hj)] at e2
    obtain ⟨u',r',q⟩:=hl j y v' e1 e2 e3
    refine ⟨u',r',?_⟩
    rcases q with q | ⟨k,c',e,z'⟩
    ·exact .inl q
    ·refine .inr ⟨k,c',e,z'.sameBut hs ?_⟩
     rintro rfl
     exact hj (jt hN e1 (I.ok.inj _ _ _ e hc ▸ hi))
  ·by_cases hcc:c'=c
   ·subst hcc;exact ⟨_,hc'⟩
   ·obtain ⟨w2,z2⟩:=I.cell y c' e
    exact ⟨w2,z2.sameBut hs hcc⟩
  ·obtain ⟨e,n,ne,nf,d⟩:=I.pin p hp
   refine ⟨(hs.2 p.1 ?_).trans e,n,ne,nf,d⟩
   intro q
   rw [q,hoc] at e
   have q' : oc=p.2:=Option.some.inj e
   exact d w' (by rw [← q'];exact Dg)
theorem fP {M:Model} {A:Around} {E:Value->Shared->Prop} {i:Nat} {x:Str} {v:V} {u:Value} {Q:Unit->Shared->Prop} (I:Inv X pins σ H s) (hN:X.N.Nodup) (hi:X.N[i]?=some x) (hx:Loc X.env.scope x) (r:RelV v u)
  (h:∀ s',Inv X pins (σ.set i (some v)) H s'->Q () s') (hf:X.fn x=true\/X.env.scope.names.lookup x=some .local:=by first | exact .inl rfl | exact .inr rfl | assumption):wpAny M A (storeName X.env x u) Q E s :=
 gB I hN hi hx r (fun s' I' _=>h s' I') hf
theorem Inv.call' {s' : Shared} {ch:List Addr} (I:Inv X pins σ H s) (ho:s'.os=s.os) (u:Un (frs X.stack) ch H H' s.heap s'.heap) (hok:HOk X.prog X.w H' s'.heap) (hg:AllBare s'.gens)
  (hch:∀ b ∈ ch,(b ∈ X.ex\/X.s₀.heap.objs.size<=b)/\b ≠ X.env.locals/\(∀ x c,X.env.cells.lookup x=some c->c ≠ b)/\∀ p ∈ X.pn ++ pins,p.1 ≠ b):Inv X pins σ H' s':=by
 obtain ⟨h',g',d',t',o'⟩:=s'
 have e:o'=s.os:=ho
 subst e
 exact I.call (g':=g') (t':=t') (d':=d') u hok hg hch
end
abbrev XK:=Value->Option Addr->Hp->Prop
abbrev St:=List (Option V)
abbrev VK:=V->Hp->Prop
abbrev TE:=St->Hp->VK->Prop
abbrev TT:=St->Hp->(Bool->Hp->Prop)->Prop
abbrev TA:=St->Hp->(List V->Hp->Prop)->Prop
structure Ends where
 nx:St->Hp->Prop
 rt:VK
 bk:St->Hp->Prop:=fun _ _=>False
 ct:St->Hp->Prop:=fun _ _=>False
abbrev TS:=Ends->St->Hp->Prop
def EP (X:Cx) (pins:List (Addr × Obj)) (σ:St) (Q:VK) (u:Value) (s' : Shared):Prop:=∃ v H',Inv X pins σ H' s'/\RelV v u/\Q v H'
def TP (X:Cx) (pins:List (Addr × Obj)) (σ:St) (Q:Bool->Hp->Prop) (b:Bool) (s' : Shared):Prop:=∃ H',Inv X pins σ H' s'/\Q b H'
def AP (X:Cx) (pins:List (Addr × Obj)) (σ:St) (Q:List V->Hp->Prop) (us:List Value) (s' : Shared):Prop:=∃ vs H',Inv X pins σ H' s'/\Vals vs us/\Q vs H'
def SP (X:Cx) (pins:List (Addr × Obj)) (D:Ends) (f:Flow) (s' : Shared):Prop :=
 match f with
 | .next=>∃ σ' H',Inv X pins σ' H' s'/\D.nx σ' H'
 | .brk=>∃ σ' H',Inv X pins σ' H' s'/\D.bk σ' H'
 | .cont=>∃ σ' H',Inv X pins σ' H' s'/\D.ct σ' H'
 | .ret u=>∃ v σ' H',Inv X pins σ' H' s'/\RelV v u/\D.rt v H'
def PE (X:Cx) (e:Expr) (t:TE):Prop :=
 ∀ (pins:List (Addr × Obj)) (s:Shared) (σ:St) (H:Hp) (Q:VK),Inv X pins σ H s->t σ H Q->wpAny (model X.prog X.w) X.A (eval e X.env) (EP X pins σ Q) X.xe s
def PT (X:Cx) (e:Expr) (t:TT):Prop :=
 ∀ (pins:List (Addr × Obj)) (s:Shared) (σ:St) (H:Hp) (Q:Bool->Hp->Prop),Inv X pins σ H s->t σ H Q->wpAny (model X.prog X.w) X.A (isTrue e X.env (eval e X.env)) (TP X pins σ Q) X.xe s
def PW (X:Cx) (e:Expr) (t:TT):Prop :=
 ∀ (whole:Sem Value) (pins:List (Addr × Obj)) (s:Shared) (σ:St) (H:Hp) (Q:Bool->Hp->Prop),Inv X pins σ H s->t σ H Q->wpAny (model X.prog X.w) X.A (isTrue e X.env whole) (TP X pins σ Q) X.xe s
theorem PW.pt {X:Cx} {e:Expr} {t:TT} (h:PW X e t):PT X e t:=h _
def PA (X:Cx) (es:List Expr) (t:TA):Prop :=
 ∀ (pos:Pos) (pins:List (Addr × Obj)) (s:Shared) (σ:St) (H:Hp) (Q:List V->Hp->Prop),Inv X pins σ H s->t σ H Q->wpAny (model X.prog X.w) X.A (spliced (backTo pos (starEach es X.env))) (AP X pins σ Q) X.xe s
def PS (X:Cx) (st:Stmt) (t:TS):Prop :=
 ∀ (pins:List (Addr × Obj)) (s:Shared) (σ:St) (H:Hp) (D:Ends),Inv X pins σ H s->t D σ H->wpAny (model X.prog X.w) X.A (exec st X.env) (SP X pins D) X.xe s
def PSs (X:Cx) (st:List Stmt) (t:TS):Prop :=
 ∀ (pins:List (Addr × Obj)) (s:Shared) (σ:St) (H:Hp) (D:Ends),Inv X pins σ H s->t D σ H->wpAny (model X.prog X.w) X.A (execs st X.env) (SP X pins D) X.xe s
theorem thn {α:Type} {t:Sem α} {Q Q' : α->Shared->Prop} {M:Model} {A:Around} {E:Value->Shared->Prop} {s:Shared} (h:wpAny M A t Q E s) (hQ:∀ a s,Q a s->Q' a s):wpAny M A t Q' E s:=wpAny_mono h hQ fun _ _ x=>x
end L2
namespace L2
open PySem PySem.Spec PyProof.Rows
section
variable {X:Cx}
def Av (i:Nat):TE:=fun σ H Q=>∃ v,σ[i]?=some (some v)/\Q v H
def tC (v:V):TE:=fun _ H Q=>Q v H
theorem yc {i:Nat} {x:Str} {pos:Pos} (hN:X.N[i]?=some x) (hv:Vis X.env.scope x) (hd:(x == ("__debug__" : Str))=false:=by decide) (hcd:(x == ("__classdict__" : Str))=false:=by decide):PE X (.Name x pos) (Av i):=by
 intro pins s σ H Q I h
 obtain ⟨v,e,h⟩:=h
 obtain ⟨m,hn,hl⟩:=I.loc
 obtain ⟨u,r,l⟩:=hl i x v hN e hv
 have fin:EP X pins σ Q u s:=⟨v,H,I,r,h⟩
 rcases l with ⟨hk,hm⟩ | ⟨hk,c,hc,xn⟩
 ·exact wpAny_Name (wpAny_loadName_local I.ok.kind hk hn hm fin) hd
 ·rcases hk with hk | hk
  ·exact wpAny_Name (wpAny_loadName_cell I.ok.kind hk hc xn fin) hd
  ·exact wpAny_Name (wpAny_loadName_free I.ok.kind hk hc xn fin hcd) hd
theorem ai {i j pos} : PE X (.Constant (.int i) j pos) (tC (.int i)):=fun _ _ _ H _ I h=>wpAny_Constant_int ⟨.int i,H,I.tok _,⟨_,rfl⟩,h⟩
theorem bU {b j pos} : PE X (.Constant (.bool b) j pos) (tC (.bl b)):=fun _ _ _ H _ I h=>Constant_bool ⟨.bl b,H,I,rfl,h⟩
theorem o6 {j pos} : PE X (.Constant .none j pos) (tC .non):=fun _ _ _ H _ I h=>Constant_none ⟨.non,H,I,rfl,h⟩
theorem aI {x j pos} : PE X (.Constant (.str x) j pos) (tC (.str x)):=fun _ _ _ H _ I h=>Calls.Constant_str ⟨.str x,H,I.tok _,⟨_,rfl⟩,h⟩
def Gl (X:Cx) (x:Str):Prop:=X.env.kindOf x=some .globalImplicit
theorem dF {E:Value->Shared->Prop} {pins:List (Addr × Obj)} {s:Shared} {σ:St} {H:Hp} {x:Str} {u:Value} {pos:Pos} {Q:Value->Shared->Prop} (I:Inv X pins σ H s) (hg:Gl X x) (hm:X.mg x=some u) (h:Q u s)
  (hd:(x == ("__debug__" : Str))=false:=by decide):wpAny (model X.prog X.w) X.A (eval (.Name x pos) X.env) Q E s :=
 Calls.Name_function_global I.ok.kind hg (Calls.loadGlobal_global (by rw [I.ok.glob];exact I.mod.glob.keeps I.bk) hm h) hd
theorem fw {E:Value->Shared->Prop} {pins:List (Addr × Obj)} {s:Shared} {σ:St} {H:Hp} {x:Str} {u:Value} {pos:Pos} {Q:Value->Shared->Prop} (I:Inv X pins σ H s) (hg:Gl X x) (hm:X.mg x=none) (hv:bootBuiltins x=some u) (h:Q u s)
  (hn:x ≠ "__name__" := by decide) (hd:(x == ("__debug__" : Str))=false:=by decide):wpAny (model X.prog X.w) X.A (eval (.Name x pos) X.env) Q E s:=by
 obtain ⟨mb,h1,h2⟩:=I.mod.blt
 exact Calls.Name_function_global I.ok.kind hg (Calls.loadGlobal_builtin (by rw [I.ok.glob];exact I.mod.glob.keeps I.bk) hm (by rw [I.ok.blt];exact h1.keeps I.bk) ((h2 x hn).trans hv) h) hd
theorem bz {x:Str} {v:V} {u:Value} {pos:Pos} (hg:Gl X x) (hm:X.mg x=some u) (r:RelV v u) (hd:(x == ("__debug__" : Str))=false:=by decide):PE X (.Name x pos) (tC v) :=
 fun _ _ _ H _ I h=>dF I hg hm ⟨v,H,I,r,h⟩ hd
theorem fz {x:Str} {v:V} {u:Value} {pos:Pos} (hg:Gl X x) (hm:X.mg x=none) (hv:bootBuiltins x=some u) (r:RelV v u) (hn:x ≠ "__name__" := by decide) (hd:(x == ("__debug__" : Str))=false:=by decide):PE X (.Name x pos) (tC v) :=
 fun _ _ _ H _ I h=>fw I hg hm hv ⟨v,H,I,r,h⟩ hn hd
def t2I (ta tb:TE) (k:Int->Int->Hp->Prop):St->Hp->Prop:=fun σ H=>ta σ H fun x H1=>tb σ H1 fun y H2=>∃ i j,x=.int i/\y=.int j/\k i j H2
def Qj (ta tb:TE):TE:=fun σ H Q=>t2I ta tb (fun i j H2=>Q (.int (i+j)) H2) σ H
def Qk (ta tb:TE):TE:=fun σ H Q=>t2I ta tb (fun i j H2=>Q (.int (i - j)) H2) σ H
def Ql (ta tb:TE):TE:=fun σ H Q=>t2I ta tb (fun i j H2=>(-(2 ^ 64) < i/\i < 2 ^ 64)/\Q (.int (i * j)) H2) σ H
variable {a b:Expr} {ta tb:TE} {pos:Pos}
def PC (X:Cx) (op:CmpOp) (a b:Expr) (t:TE):Prop :=
 ∀ (pins:List (Addr × Obj)) (s:Shared) (σ:St) (H:Hp) (Q:VK),Inv X pins σ H s->t σ H Q ->
  wpAny (model X.prog X.w) X.A (eval a X.env) (fun v s₁=>wpAny (model X.prog X.w) X.A (eval b X.env) (fun u s₂=>wpAny (model X.prog X.w) X.A (compareOp op v u) (EP X pins σ Q) X.xe s₂) X.xe s₁) X.xe s
def tw (p:Int->Int->Bool) (ta tb:TE):TE:=fun σ H Q=>t2I ta tb (fun i j H2=>Q (.bl (p i j)) H2) σ H
abbrev tLt:TE->TE->TE:=tw fun i j=>decide (i < j)
abbrev tLe:TE->TE->TE:=tw fun i j=>decide (i<=j)
abbrev tGt:TE->TE->TE:=tw fun i j=>decide (j < i)
abbrev tGe:TE->TE->TE:=tw fun i j=>decide (j<=i)
abbrev Qm:TE->TE->TE:=tw fun i j=>decide (i=j)
abbrev Qn:TE->TE->TE:=tw fun i j=>!decide (i=j)
def Qo (ta:TE):TE:=fun σ H Q=>ta σ H fun x H1=>Q (.bl (decide (x=.non))) H1
def P2 (ta:TE):TE:=fun σ H Q=>ta σ H fun x H1=>Q (.bl (!decide (x=.non))) H1
def tB (t:TE):TT:=fun σ H Q=>t σ H fun x H1=>∃ c,x=.bl c/\Q c H1
theorem bC {e:Expr} {t:TE} (h:PE X e t) (he:∀ whole,isTrue e X.env whole=(do let v ← whole;standAt e.pos;holding [v] (truthy v)):=by intro _;rfl):PT X e (tB t):=by
 intro pins s σ H Q I hw
 refine isTrue_plain (thn (h pins s σ H _ I hw) fun v s1 ⟨x,H1,I1,r1,q1⟩=>?_) (he _)
 obtain ⟨d,rfl,q⟩:=q1
 cases r1
 exact wpAny_truthy_bool ⟨H1,I1,q⟩
variable {tA tB' : TT} {rest:List Expr}
def Dh (t u:TT):TT:=fun σ H Q=>t σ H fun c H1=>if c=true then u σ H1 Q else Q false H1
def tOr (t u:TT):TT:=fun σ H Q=>t σ H fun c H1=>if c=true then Q true H1 else u σ H1 Q
def Di (t:TT):TT:=fun σ H Q=>t σ H fun c H1=>Q (!c) H1
theorem dG (ha:PT X a tA):PW X (.BoolOp .And [a] pos) tA:=by
 intro wh pins s σ H Q I h
 refine isTrue_and (thn (ha pins s σ H Q I h) fun c s1 e=>?_)
 cases c with
 | true=>exact isTrue_and_nil e
 | false=>exact e
theorem dP (ha:PT X a tA):PW X (.BoolOp .Or [a] pos) tA:=by
 intro wh pins s σ H Q I h
 refine isTrue_or (thn (ha pins s σ H Q I h) fun c s1 e=>?_)
 cases c with
 | false=>exact isTrue_or_nil e
 | true=>exact e
theorem fA (ha:PT X a tA) (hb:PW X (.BoolOp .And (b :: rest) pos) tB'):PW X (.BoolOp .And (a :: b :: rest) pos) (Dh tA tB'):=by
 intro wh pins s σ H Q I h
 refine isTrue_and (thn (ha pins s σ H _ I h) fun c s1 ⟨H1,I1,q1⟩=>?_)
 cases c with
 | true=>exact hb wh pins s1 σ H1 Q I1 q1
 | false=>exact ⟨H1,I1,q1⟩
theorem eE (ha:PT X a tA) (hb:PW X (.BoolOp .Or (b :: rest) pos) tB'):PW X (.BoolOp .Or (a :: b :: rest) pos) (tOr tA tB'):=by
 intro wh pins s σ H Q I h
 refine isTrue_or (thn (ha pins s σ H _ I h) fun c s1 ⟨H1,I1,q1⟩=>?_)
 cases c with
 | true=>exact ⟨H1,I1,q1⟩
 | false=>exact hb wh pins s1 σ H1 Q I1 q1
theorem bV (ha:PT X a tA):PT X (.UnaryOp .Not a pos) (Di tA):=by
 intro pins s σ H Q I h
 exact isTrue_not (ha pins s σ H (fun c H1=>Q (!c) H1) I h)
def Aw (ta tb:TE):TE:=fun σ H Q=>ta σ H fun x H1=>∃ c,x=.bl c/\if c=true then tb σ H1 Q else Q (.bl false) H1
def Qp (ta tb:TE):TE:=fun σ H Q=>ta σ H fun x H1=>∃ c,x=.bl c/\if c=true then Q (.bl true) H1 else tb σ H1 Q
def Ax (ta:TE):TE:=fun σ H Q=>ta σ H fun x H1=>∃ c,x=.bl c/\Q (.bl (!c)) H1
theorem kc {op} {t:TE} (h:PE X a t):PE X (.BoolOp op [a] pos) t:=fun pins s σ H Q I hw=>BoolOp_one (h pins s σ H Q I hw)
theorem fQ (ha:PE X a ta) (hb:PE X (.BoolOp .And (b :: rest) pos) tb):PE X (.BoolOp .And (a :: b :: rest) pos) (Aw ta tb):=by
 intro pins s σ H Q I h
 refine BoolOp_and (thn (ha pins s σ H _ I h) fun v s1 ⟨x,H1,I1,r1,q1⟩=>?_)
 obtain ⟨c,rfl,q1⟩:=q1
 cases r1
 refine wpAny_truthy_bool ?_
 cases c with
 | true=>exact hb pins s1 σ H1 Q I1 q1
 | false=>exact ⟨.bl false,H1,I1,rfl,q1⟩
theorem uv (ha:PE X a ta):PE X (.UnaryOp .Not a pos) (Ax ta):=by
 intro pins s σ H Q I h
 refine UnaryOp_ (thn (ha pins s σ H _ I h) fun v s1 ⟨x,H1,I1,r1,q1⟩=>?_)
 obtain ⟨c,rfl,q1⟩:=q1
 cases r1
 exact not_of (wpAny_truthy_bool ⟨.bl (!c),H1,I1,rfl,q1⟩)
def tIf (t:TT) (ta tb:TE):TE:=fun σ H Q=>t σ H fun c H1=>if c=true then ta σ H1 Q else tb σ H1 Q
theorem qF {c:Expr} (hc:PT X c tA) (ha:PE X a ta) (hb:PE X b tb):PE X (.IfExp c a b pos) (tIf tA ta tb):=by
 intro pins s σ H Q I h
 refine wpAny_IfExp (thn (hc pins s σ H _ I h) fun d s1 ⟨H1,I1,q1⟩=>?_)
 cases d with
 | true=>exact ha pins s1 σ H1 Q I1 q1
 | false=>exact hb pins s1 σ H1 Q I1 q1
end
end L2
namespace L2
open PySem PySem.Spec PyProof.Rows
def SqL (K:PySem.W.Frag) (H:Hp) (a:Addr) (xs:List V):Prop :=
 Rd H a (.lst xs) \/
  ∃ (o:Obj) (its:Array Value) (n:Nat),K.lookup a=some o/\o.cls=.type "list" /\ o.dict=none/\o.data=.seq its n/\its.size<=sizeLine/\Vals xs its.toList
def SqT (K:PySem.W.Frag) (H:Hp) (a:Addr) (xs:List V):Prop :=
 Rd H a (.tup xs) \/
  ∃ (o:Obj) (its:Array Value) (n:Nat),K.lookup a=some o/\o.cls=.type "tuple" /\ o.data=.seq its n/\its.size<=sizeLine/\Vals xs its.toList
def Dj:Value->Option V
 | .none=>some .non
 | .bool b=>some (.bl b)
 | .int i _=>some (.int i)
 | .str x _=>some (.str x)
 | .bytes b _=>some (.byt b)
 | .float b _=>some (.flt b)
 | .ref a=>some (.ref a)
 | .type n=>some (.ty n)
 | _=>none
theorem RelV.abs {x:V} {u:Value} (r:RelV x u):Dj u=some x:=by
 cases x with
 | non=>cases r;rfl
 | bl _=>cases r;rfl
 | int _=>obtain ⟨t,rfl⟩:=r;rfl
 | str _=>obtain ⟨t,rfl⟩:=r;rfl
 | byt _=>obtain ⟨t,rfl⟩:=r;rfl
 | flt _=>obtain ⟨t,rfl⟩:=r;rfl
 | ref _=>cases r;rfl
 | ty _=>cases r;rfl
theorem RelV.inj {x y:V} {u:Value} (r:RelV x u) (q:RelV y u):x=y:=Option.some.inj (r.abs.symm.trans q.abs)
theorem Vals.inj:∀ {xs ys:List V} {us:List Value},Vals xs us->Vals ys us->xs=ys
 | _,_,_,.nil,.nil=>rfl
 | _,_,_,.cons r t,.cons r' t'=>by rw [r.inj r',Vals.inj t t']
section
variable {X:Cx} {pins:List (Addr × Obj)} {σ:St} {H:Hp} {s:Shared} {a:Addr} {xs ys:List V}
theorem SqL.of {K:PySem.W.Frag} (h:H a=some (.lst xs)):SqL K H a xs:=.inl (.inl h)
theorem SqT.of {K:PySem.W.Frag} (h:H a=some (.tup xs)):SqT K H a xs:=.inl (.inl h)
theorem Inv.list (I:Inv X pins σ H s) (h:SqL X.K H a xs):∃ its:List Value,Vals xs its/\PlainL s.heap a its.toArray/\xs.length<=sizeLine:=by
 rcases h with h | ⟨o,its,n,hk,hc,hd,hs,hz,r⟩
 ·obtain ⟨z,its,n,r,e⟩:=h.ok I.hok
  exact ⟨its,r,⟨_,n,e,rfl,rfl,rfl⟩,z⟩
 ·refine ⟨its.toList,r,⟨o,n,I.kIn a o hk,hc,hd,by simpa using hs⟩,?_⟩
  have e:=r.length
  simp only [Array.length_toList] at e
  omega
theorem Inv.tuple (I:Inv X pins σ H s) (h:SqT X.K H a xs):∃ its:List Value,Vals xs its/\IsTup s.heap a its.toArray/\xs.length<=sizeLine:=by
 rcases h with h | ⟨o,its,n,hk,hc,hs,hz,r⟩
 ·obtain ⟨z,its,r,p⟩:=h.ok I.hok
  exact ⟨its,r,p,z⟩
 ·refine ⟨its.toList,r,⟨o,I.kIn a o hk,hc,n,by simpa using hs⟩,?_⟩
  have e:=r.length
  simp only [Array.length_toList] at e
  omega
theorem Inv.list_inj (I:Inv X pins σ H s) (h:SqL X.K H a xs) (h' : SqL X.K H a ys):xs=ys:=by
 obtain ⟨its,r,⟨o,n,e,_,_,d⟩,_⟩:=I.list h
 obtain ⟨its',r',⟨o',n',e',_,_,d'⟩,_⟩:=I.list h'
 rw [e] at e';cases e'
 rw [d] at d'
 injection d' with d1 _
 have:its=its':=by simpa using congrArg Array.toList d1
 subst this
 exact r.inj r'
theorem Inv.tuple_inj (I:Inv X pins σ H s) (h:SqT X.K H a xs) (h' : SqT X.K H a ys):xs=ys:=by
 obtain ⟨its,r,⟨o,e,_,n,d⟩,_⟩:=I.tuple h
 obtain ⟨its',r',⟨o',e',_,n',d'⟩,_⟩:=I.tuple h'
 rw [e] at e';cases e'
 rw [d] at d'
 injection d' with d1 _
 have:its=its':=by simpa using congrArg Array.toList d1
 subst this
 exact r.inj r'
end
abbrev Cx.wish (X:Cx) (E:Value->Shared->Prop):Cx:={ X with xe:=E }
abbrev Cx.nox (X:Cx):Cx:=X.wish fun _ _=>False
theorem Cx.Ok.wish {X:Cx} (ok:X.Ok) (E:Value->Shared->Prop):(X.wish E).Ok :=
 ⟨ok.mod,ok.kind,ok.glob,ok.blt,ok.above,ok.inj,ok.has,ok.cab,ok.hd,ok.frames,ok.stk,ok.exf,ok.bs,ok.bsz,ok.noex,ok.exfs,ok.funs,ok.frf⟩
theorem Cx.Ok.unwish {X:Cx} {E:Value->Shared->Prop} (ok:(X.wish E).Ok):X.Ok :=
 ⟨ok.mod,ok.kind,ok.glob,ok.blt,ok.above,ok.inj,ok.has,ok.cab,ok.hd,ok.frames,ok.stk,ok.exf,ok.bs,ok.bsz,ok.noex,ok.exfs,ok.funs,ok.frf⟩
section
variable {X:Cx} {pins:List (Addr × Obj)} {σ:St} {H:Hp} {s:Shared} {E:Value->Shared->Prop}
theorem Inv.wish (I:Inv X pins σ H s) (E:Value->Shared->Prop):Inv (X.wish E) pins σ H s:=⟨I.ok.wish E,I.os,I.bare,I.base,I.loc,I.cell,I.free,I.freeC,I.pin,I.hok,I.len⟩
theorem Inv.unwish (I:Inv (X.wish E) pins σ H s):Inv X pins σ H s:=⟨I.ok.unwish,I.os,I.bare,I.base,I.loc,I.cell,I.free,I.freeC,I.pin,I.hok,I.len⟩
theorem SP.unwish {D:Ends} {f:Flow} {s' : Shared} (h:SP (X.wish E) pins D f s'):SP X pins D f s':=by
 cases f with
 | next=>obtain ⟨σ',H',I,q⟩:=h;exact ⟨σ',H',I.unwish,q⟩
 | brk=>obtain ⟨σ',H',I,q⟩:=h;exact ⟨σ',H',I.unwish,q⟩
 | cont=>obtain ⟨σ',H',I,q⟩:=h;exact ⟨σ',H',I.unwish,q⟩
 | ret u=>obtain ⟨v,σ',H',I,r,q⟩:=h;exact ⟨v,σ',H',I.unwish,r,q⟩
theorem PSs.nox {st:List Stmt} {t:TS} (h:PSs X.nox st t):PSs X st t:=fun pins s σ H D I hw =>
 wpAny_mono (h pins s σ H D (I.wish _) hw) (fun _ _ q=>q.unwish) fun _ _ z=>False.elim z
end
section
variable {X:Cx} {st:Stmt} {rest:List Stmt} {t u:TS} {e:Expr} {te:TE} {pos:Pos}
def Ay:TS:=fun D σ H=>D.nx σ H
def Dk (t u:TS):TS:=fun D σ H=>t { D with nx:=u D } σ H
theorem aD:PSs X [] Ay:=fun _ _ σ H _ I h=>wpAny_execs_nil ⟨σ,H,I,h⟩
theorem ak (h1:PS X st t) (h2:PSs X rest u):PSs X (st :: rest) (Dk t u):=by
 intro pins s σ H D I h
 refine wpAny_execs_cons (thn (h1 pins s σ H { D with nx:=u D } I h) fun f s1 q=>?_)
 cases f with
 | next =>
  obtain ⟨σ',H',I',q⟩:=q
  exact h2 pins s1 σ' H' D I' q
 | ret v=>exact q
 | brk=>exact q
 | cont=>exact q
theorem aj (h1:PS X st t):PSs X [st] t:=by
 intro pins s σ H D I h
 refine wpAny_execs_cons (thn (h1 pins s σ H D I h) fun f s1 q=>?_)
 cases f with
 | next=>exact wpAny_execs_nil q
 | ret v=>exact q
 | brk=>exact q
 | cont=>exact q
def Dl:TS:=fun D σ H=>D.bk σ H
def P4:TS:=fun D σ H=>D.ct σ H
theorem Inv.quiet {pins:List (Addr × Obj)} {σ:St} {H:Hp} {s:Shared} (I:Inv X pins σ H s):interactive X.env=false:=by simp [interactive,I.ok.kind]
def Az (te:TE):TS:=fun D σ H=>te σ H fun _ H1=>D.nx σ H1
theorem bx (he:PE X e te) (hs:swapsWith e none pos.line X.env=pure false:=by rfl):PS X (.Expr e pos) (Az te):=by
 intro pins s σ H D I h
 exact wpAny_Expr_any (thn (he pins s σ H _ I h) fun v s1 ⟨x,H1,I1,r1,q1⟩=>⟨σ,H1,I1,q1⟩) I.quiet hs
def Dp (te:TE):TS:=fun D σ H=>te σ H D.rt
theorem ay (he:PE X e te):PS X (.Return (some e) pos) (Dp te):=by
 intro pins s σ H D I h
 exact wpAny_Return_some (thn (he pins s σ H _ I h) fun v s1 ⟨x,H1,I1,r1,q1⟩=>⟨x,σ,H1,I1,r1,q1⟩)
def P5:TS:=fun D _ H=>D.rt .non H
def Dq (c:TT) (t u:TS):TS:=fun D σ H=>c σ H fun b H1=>if b=true then t D σ H1 else u D σ H1
theorem aQ {c:Expr} {a b:List Stmt} {tc:TT} (hc:PT X c tc) (ha:PSs X a t) (hb:PSs X b u):PS X (.If c a b pos) (Dq tc t u):=by
 intro pins s σ H D I h
 refine wpAny_If (thn (hc pins s σ H _ I h) fun d s1 ⟨H1,I1,q1⟩=>?_)
 cases d with
 | true=>exact ha pins s1 σ H1 D I1 q1
 | false=>exact hb pins s1 σ H1 D I1 q1
def yd:TS:=fun _ _ _=>False
theorem ju:PS X st yd:=fun _ _ _ _ _ _ h=>h.elim
end
abbrev TG:=V->St->Hp->(St->Hp->Prop)->Prop
abbrev TGs:=List V->St->Hp->(St->Hp->Prop)->Prop
def PG (X:Cx) (target:Expr) (t:TG):Prop :=
 ∀ (pins:List (Addr × Obj)) (s:Shared) (σ:St) (H:Hp) (v:V) (u:Value) (Q:St->Hp->Prop),Inv X pins σ H s->RelV v u->t v σ H Q ->
  wpAny (model X.prog X.w) X.A (assign target X.env u) (fun _ s'=>∃ σ' H',Inv X pins σ' H' s'/\Q σ' H') X.xe s
def PGs (X:Cx) (ts:List Expr) (t:TGs):Prop :=
 ∀ (pins:List (Addr × Obj)) (s:Shared) (σ:St) (H:Hp) (vs:List V) (us:List Value) (Q:St->Hp->Prop),Inv X pins σ H s->Vals vs us->t vs σ H Q ->
  wpAny (model X.prog X.w) X.A (assignInOrder ((assignEach ts X.env).map (·.2)) us) (fun _ s'=>∃ σ' H',Inv X pins σ' H' s'/\Q σ' H') X.xe s
abbrev wo:=V->V->V->Hp->(Hp->Prop)->Prop
def AA (X:Cx) (t:wo):Prop :=
 ∀ (pins:List (Addr × Obj)) (s:Shared) (σ:St) (H:Hp) (o i v:V) (ov iv u:Value) (Q:Hp->Prop),Inv X pins σ H s->RelV o ov->RelV i iv->RelV v u->t o i v H Q ->
  wpAny (model X.prog X.w) X.A (setItem ov iv u) (fun _ s'=>∃ H',Inv X pins σ H' s'/\Q H') X.xe s
abbrev TIp:=V->V->Hp->VK->Prop
def PIp (X:Cx) (op:Operator) (t:TIp):Prop :=
 ∀ (pins:List (Addr × Obj)) (s:Shared) (σ:St) (H:Hp) (x y:V) (v u:Value) (Q:VK),Inv X pins σ H s->RelV x v->RelV y u->t x y H Q ->
  wpAny (model X.prog X.w) X.A (inplaceOp op v u) (EP X pins σ Q) X.xe s
section
variable {X:Cx} {pos:Pos}
def lu (i:Nat):TG:=fun v σ H Q=>Q (σ.set i (some v)) H
theorem aK {i:Nat} {x:Str} (hN:X.N.Nodup) (hi:X.N[i]?=some x) (hx:Loc X.env.scope x) (hf:X.fn x=true\/X.env.scope.names.lookup x=some .local:=by first | exact .inl rfl | exact .inr rfl | assumption):PG X (.Name x pos) (lu i):=by
 intro pins s σ H v u Q I r h
 exact wpAny_assign_Name (fP I hN hi hx r (fun s' I'=>⟨_,H,I',h⟩) hf)
def Dr:TGs:=fun vs σ H Q=>vs=[]/\Q σ H
def AB (t:TG) (u:TGs):TGs:=fun vs σ H Q=>∃ v r,vs=v :: r/\t v σ H fun σ' H'=>u r σ' H' Q
theorem bD:PGs X [] Dr:=by
 intro pins s σ H vs us Q I r h
 obtain ⟨e,h⟩:=h
 subst e
 cases r
 exact assignInOrder_nil ⟨σ,H,I,h⟩
theorem aN {e:Expr} {es:List Expr} {t:TG} {u:TGs} (h1:PG X e t) (h2:PGs X es u)
  (hs:(assignEach (e :: es) X.env).map (·.2)=assign e X.env :: (assignEach es X.env).map (·.2):=by rfl):PGs X (e :: es) (AB t u):=by
 intro pins s σ H vs us Q I r h
 obtain ⟨v,vr,e1,h⟩:=h
 subst e1
 cases r with
 | cons r rr =>
  rw [hs]
  refine assignInOrder_cons (thn (h1 pins s σ H _ _ _ I r h) fun _ s1 ⟨σ1,H1,I1,q1⟩=>?_)
  exact h2 pins s1 σ1 H1 _ _ Q I1 rr q1
def AD (K:PySem.W.Frag) (n:Nat) (t:TGs):TG:=fun v σ H Q=>∃ a xs,v=.ref a/\SqT K H a xs/\xs.length=n/\t xs σ H Q
theorem dz {es:List Expr} {k:Nat} {t:TGs} {n:Nat} (hc:X.calm=true) (h:PGs X es t)
  (hn:(assignEach es X.env).length=n:=by rfl) (hst:(assignEach es X.env).findIdx? (·.1)=none:=by rfl):PG X (.Tuple es k pos) (AD X.K n t):=by
 intro pins s σ H v u Q I r hw
 obtain ⟨a,xs,e1,hq,hl,hw⟩:=hw
 subst e1
 cases r
 obtain ⟨its,rv,ht,hz⟩:=I.tuple hq
 refine assign_Tuple_tuple (I.ok.hd hc) ht (by simp [hn,← hl,rv.length]) hst fun h' hx=>?_
 have I1:Inv X pins σ H { s with heap:=h' }:=I.kept (t':=s.toks) fun b o e=>hx b o (Nat.ne_of_lt (Heap.lt_size e)) e
 exact h pins _ σ H xs _ Q I1 (by simpa using rv) hw
def Ds (to ti:TE) (t:wo):TG:=fun v σ H Q=>to σ H fun o H1=>ti σ H1 fun i H2=>t o i v H2 fun H3=>Q σ H3
theorem o7 {o i:Expr} {to ti:TE} {t:wo} (ho:PE X o to) (hi:PE X i ti) (hs:AA X t)
  (ha:∀ v,assign (.Subscript o i pos) X.env v=(do
   let ov ← holding [v] (eval o X.env)
   let iv ← holding [v,ov] (eval i X.env)
   standAt pos
   holding [v,ov,iv] (setItem ov iv v)
   release [v,ov,iv] []):=by intro _;rfl):PG X (.Subscript o i pos) (Ds to ti t):=by
 intro pins s σ H v u Q I r h
 rw [ha]
 refine wpAny_bind (wpAny_holding (thn (ho pins s σ H _ I h) fun ov s1 ⟨x,H1,I1,r1,q1⟩=>?_))
 refine wpAny_bind (wpAny_holding (thn (hi pins s1 σ H1 _ I1 q1) fun iv s2 ⟨y,H2,I2,r2,q2⟩=>?_))
 refine wpAny_bind (wpAny_standAt (wpAny_bind (wpAny_holding (thn (hs pins s2 σ H2 x y v ov iv u _ I2 r1 r2 r q2) fun _ s3 ⟨H3,I3,q3⟩=>?_))))
 exact wpAny_release ⟨σ,H3,I3,q3⟩
def uw (te:TE) (g:TG):TS:=fun D σ H=>te σ H fun x H1=>g x σ H1 D.nx
theorem o8 {tg e:Expr} {te:TE} {g:TG} (he:PE X e te) (hg:PG X tg g) (hs:swapsWithSole [tg] e pos.line X.env=pure false:=by rfl) (hw:swappedStores [tg] e X.env=pure none:=by rfl)
  (h1:(assignEach [tg] X.env).map (·.2)=[assign tg X.env]:=by rfl):PS X (.Assign [tg] e pos) (uw te g):=by
 intro pins s σ H D I h
 refine wpAny_Assign_stores (thn (he pins s σ H _ I h) fun v s1 ⟨x,H1,I1,r1,q1⟩=>?_) hs hw
 rw [h1]
 exact thn (hg pins s1 σ H1 x v _ I1 r1 q1) fun _ s2 q=>q
theorem aM {i:Nat} {x:Str} {e:Expr} {te:TE} {pos' : Pos} (hN:X.N.Nodup) (hi:X.N[i]?=some x) (hx:Loc X.env.scope x) (he:PE X e te) (hs:swapsWith e (some (.Name x pos')) pos.line X.env=pure false:=by rfl) (hf:X.fn x=true\/X.env.scope.names.lookup x=some .local:=by first | exact .inl rfl | exact .inr rfl | assumption) :
  PS X (.Assign [.Name x pos'] e pos) (uw te (lu i)):=by
 intro pins s σ H D I h
 refine wpAny_Assign_Name (thn (he pins s σ H _ I h) fun v s1 ⟨y,H1,I1,r1,q1⟩=>?_) hs
 exact fP I1 hN hi hx r1 (fun s2 I2=>⟨_,H1,I2,q1⟩) hf
def Qq (i j:Nat) (ta:TA):TS:=fun D σ H=>ta σ H fun vs H1=>∃ v w,vs=[v,w]/\D.nx ((σ.set i (some v)).set j (some w)) H1
def Qr (i:Nat) (te:TE) (ti:TIp):TS:=fun D σ H=>∃ x,σ[i]?=some (some x)/\te σ H fun y H1=>ti x y H1 fun z H2=>D.nx (σ.set i (some z)) H2
def P6 (to ti te:TE) (Dt:V->V->Hp->VK->Prop) (tip:TIp) (Du:wo):TS:=fun D σ H=>to σ H fun o H1=>ti σ H1 fun i H2=>Dt o i H2 fun x H3=>te σ H3 fun y H4=>tip x y H4 fun z H5=>Du o i z H5 fun H6=>D.nx σ H6
def Qs (X:Cx) (t:V->V->Hp->VK->Prop):Prop :=
 ∀ (pins:List (Addr × Obj)) (s:Shared) (σ:St) (H:Hp) (o i:V) (ov iv:Value) (Q:VK),Inv X pins σ H s->RelV o ov->RelV i iv->t o i H Q ->
  wpAny (model X.prog X.w) X.A (getItem ov iv) (EP X pins σ Q) X.xe s
def ipI (f:Int->Int->Int):TIp:=fun x y H Q=>∃ i j,x=.int i/\y=.int j/\Q (.int (f i j)) H
end
section
variable {X:Cx} {pos:Pos}
def Dv (c:TT) (tb:TS):TS:=fun D σ H=>∃ W:Nat->St->Hp->Prop,(∃ m,W m σ H)/\∀ m σ H,W m σ H ->
 c σ H fun b H1=>if b=true then ∃ N:St->Hp->Prop,(∀ σ' H',N σ' H'->∃ m',m' < m/\W m' σ' H')/\tb { D with nx:=N,ct:=N,bk:=D.nx } σ H1 else D.nx σ H1
end
structure It where
 go:Nat->Hp->Prop
 yld:Nat->Hp->V->Hp->Prop
 stop:Nat->Hp->Prop
def iu (X:Cx) (pins:List (Addr × Obj)) (H:Hp) (b:Addr):Prop :=
 H b=none/\b ≠ X.env.locals/\b ∉ X.fs/\(b ∈ X.ex\/X.s₀.heap.objs.size<=b)/\(∀ x c,X.env.cells.lookup x=some c->c ≠ b)/\∀ p ∈ X.pn ++ pins,p.1 ≠ b
theorem Inv.fpOk {X:Cx} {pins:List (Addr × Obj)} {σ:St} {H H' : Hp} {s:Shared} {b:Addr} (I:Inv X pins σ H s) (hb:s.heap.objs.size<=b) (hn:H' b=none):iu X pins H' b:=by
 refine ⟨hn,Nat.ne_of_gt (Nat.lt_of_lt_of_le I.lt hb),I.nofs hb,.inr (Nat.le_trans I.sz hb),fun x c e z=>?_,fun p hp z=>?_⟩
 ·obtain ⟨v,q⟩:=I.cell x c e
  exact absurd (Nat.lt_of_lt_of_le q.lt (by rw [z];exact hb)) (Nat.lt_irrefl _)
 ·exact absurd (Nat.lt_of_lt_of_le (Heap.lt_size (I.pin p hp).1) (by rw [z];exact hb)) (Nat.lt_irrefl _)
structure Turn (P:Program) (w:World) (K:PySem.W.Frag) (tg:Expr) (J:It) (fp:List Addr) (it:Addr) (tn:Nat->Heap->Prop):Prop where
 mem:it ∈ fp
 obj:∀ i h,tn i h->∀ b ∈ fp,∃ o,h.get? b=some o/\∀ v,o.data ≠ .cell v
 keep:∀ i h h',tn i h->(∀ b ∈ fp,∀ o,h.get? b=some o->h'.get? b=some o)->tn i h'
 item:∀ (X:Cx),X.prog=P->X.w=w->X.K=K->X.calm=true->∀ (i:Nat) (pins:List (Addr × Obj)) (s:Shared) (σ:St) (H:Hp) (E:Value->Shared->Prop),Inv X pins σ H s->(∀ b ∈ fp,iu X pins H b)->tn i s.heap->J.go i H ->
  wpAny (model P w) X.A (pyNext (.ref it)) (fun r s1=>∃ u,r=some u /\
   wpAny (model P w) X.A (letOwnedTupleGo tg (.ref it) u) (fun _ s2=>∃ x H',Inv X pins σ H' s2/\RelV x u/\J.yld i H x H'/\tn (i+1) s2.heap/\∀ b ∈ fp,H' b=none) E s1) E s
 done:∀ (X:Cx),X.prog=P->X.w=w->X.K=K->X.calm=true->∀ (i:Nat) (pins:List (Addr × Obj)) (s:Shared) (σ:St) (H:Hp) (E:Value->Shared->Prop),Inv X pins σ H s->(∀ b ∈ fp,iu X pins H b)->tn i s.heap->J.stop i H ->
  wpAny (model P w) X.A (pyNext (.ref it)) (fun r s1=>r=none/\Inv X pins σ H s1) E s
 self:∀ (A:Around) (i:Nat) (s:Shared) (Q:Value->Shared->Prop) (E:Value->Shared->Prop),tn i s.heap->Q (.ref it) s->wpAny (model P w) A (pyIter (.ref it)) Q E s
abbrev TI:=St->Hp->(It->Hp->Prop)->Prop
def PIE (X:Cx) (pins:List (Addr × Obj)) (σ:St) (tg:Expr) (R:It->Hp->Prop) (itv:Value) (s2:Shared):Prop :=
 ∃ (it:Addr) (fp:List Addr) (tn:Nat->Heap->Prop) (J:It) (H' : Hp),itv=.ref it/\Inv X pins σ H' s2/\Turn X.prog X.w X.K tg J fp it tn/\tn 0 s2.heap/\(∀ b ∈ fp,iu X pins H' b)/\R J H'
def PI (X:Cx) (tg iter:Expr) (wi:TI):Prop :=
 ∀ (pins:List (Addr × Obj)) (s:Shared) (σ:St) (H:Hp) (R:It->Hp->Prop),Inv X pins σ H s->wi σ H R ->
  wpAny (model X.prog X.w) X.A (eval iter X.env) (fun v s1=>wpAny (model X.prog X.w) X.A (pyIter v) (PIE X pins σ tg R) X.xe s1) X.xe s
theorem sH {M:Model} {A:Around} {E:Value->Shared->Prop} {s:Shared} {tg:Expr} {it:Addr} {u:Value} {o:Obj} {n:String} {vs:Array Value} {Q:Unit->Shared->Prop} (ho:s.heap.get? it=some o) (hc:o.cls=.type n) (hd:o.data=.fields vs)
  (hn:["enumerate", "zip", "dict_itemiterator", "dict_reverseitemiterator", "odict_iterator", "itertools.zip_longest", "itertools.pairwise"].contains n=false) (hQ:Q () s):wpAny M A (letOwnedTupleGo tg (.ref it) u) Q E s:=by
 unfold letOwnedTupleGo
 cases tg <;> first
  | exact wpAny_pure hQ
  | (cases u <;> first
    | exact wpAny_pure hQ
    | (refine wpAny_bind (wpAny_load ho ?_);rw [hc,hd];show wpAny M A (if (["enumerate", "zip", "dict_itemiterator", "dict_reverseitemiterator", "odict_iterator", "itertools.zip_longest", "itertools.pairwise"].contains n && vs[0]? == some (rawInt _))=true then _ else _) Q E s;rw [if_neg (by intro h;rw [hn,Bool.false_and] at h;cases h)];exact wpAny_pure hQ))
def Itl (K:PySem.W.Frag) (a:Addr):It :=
 ⟨fun i H=>∃ xs x,SqL K H a xs/\xs[i]?=some x,fun i H x H'=>H'=H/\∀ xs,SqL K H a xs->xs[i]?=some x,fun i H=>∃ xs,SqL K H a xs/\xs.length<=i⟩
def Itt (K:PySem.W.Frag) (a:Addr):It :=
 ⟨fun i H=>∃ xs x,SqT K H a xs/\xs[i]?=some x,fun i H x H'=>H'=H/\∀ xs,SqT K H a xs->xs[i]?=some x,fun i H=>∃ xs,SqT K H a xs/\xs.length<=i⟩
def Itr (lo:Int) (n:Nat):It:=⟨fun i _=>i < n,fun i H x H'=>H'=H/\x=.int (lo+i),fun i _=>n<=i⟩
theorem tx {P:Program} {w:World} {K:PySem.W.Frag} {tg:Expr} (a it:Addr):Turn P w K tg (Itl K a) [it] it (fun i h=>h.IsListIter it a i) where
 mem:=by simp
 obj:=fun i h st b hb=>by
  have e:b=it:=by simpa using hb
  subst e
  obtain ⟨o,e,c,d⟩:=st
  exact ⟨o,e,fun v z=>by rw [d] at z;cases z⟩
 keep:=fun i h h' st k=>st.at fun o e=>k it (by simp) o e
 item:=by
  intro X hP hw hK hc i pins s σ H E I hf st hg
  subst hP hw hK
  obtain ⟨xs,x,hq,hx⟩:=hg
  obtain ⟨its,rv,p,hz⟩:=I.list hq
  obtain ⟨u,hu,ru⟩:=rv.get hx
  obtain ⟨f0,f1,f2,f3,f4,f5⟩:=hf it (by simp)
  refine wpAny_pyNext_list_item st p.isList (x:=u) (by simpa using hu) fun h' st' sb=>?_
  have I1:Inv X pins σ H { s with heap:=h' }:=I.turned (t':=s.toks) (fun b o hb e=>(sb.2 b hb).trans e) f0 f1 f3 f4 f5
  obtain ⟨o,e,c,d⟩:=id st'
  exact ⟨u,rfl,sH (s:={ s with heap:=h' }) e c d (by decide) ⟨x,H,I1,ru,⟨rfl,fun ys hy=>by rw [I.list_inj hy hq];exact hx⟩,st',fun b hb=>(hf b hb).1⟩⟩
 done:=by
  intro X hP hw hK hc i pins s σ H E I hf st hg
  subst hP hw hK
  obtain ⟨xs,hq,hx⟩:=hg
  obtain ⟨its,rv,p,hz⟩:=I.list hq
  obtain ⟨f0,f1,f2,f3,f4,f5⟩:=hf it (by simp)
  have hl:=rv.length
  exact wpAny_pyNext_list_end (I.ok.hd hc) st p.isList (by simp;omega) fun h' eb=>⟨rfl,I.turned (t':=s.toks) (fun b o hb e=>eb b o hb e) f0 f1 f3 f4 f5⟩
 self:=fun _ _ _ _ _ st h=>wpAny_pyIter_listiter st h
theorem rj {P:Program} {w:World} {K:PySem.W.Frag} {tg:Expr} (it:Addr) (lo:Int) (n:Nat):Turn P w K tg (Itr lo n) [it] it (fun i h=>IsRangeIter h it (lo+(i:Nat) * 1) ((n:Int) - (i:Nat)) 1) where
 mem:=by simp
 obj:=fun i h st b hb=>by
  have e:b=it:=by simpa using hb
  subst e
  exact ⟨_,st,fun v z=>by
   have z' : Data.fields _=Data.cell v:=z
   cases z'⟩
 keep:=fun i h h' st k=>k it (by simp) _ st
 item:=by
  intro X hP hw hK hc i pins s σ H E I hf st hg
  subst hP hw hK
  obtain ⟨f0,f1,f2,f3,f4,f5⟩:=hf it (by simp)
  have W:=Walks.range (prog:=X.prog) (w:=X.w) (I.ok.hd hc) it lo 1 n
  refine W.item i s _ _ hg st fun v h' tk hv st' kk=>?_
  obtain ⟨t,rfl⟩:=hv
  have I1:Inv X pins σ H { s with heap:=h',toks:=tk }:=I.turned (fun b o hb e=>kk b o (by simpa using hb) e) f0 f1 f3 f4 f5
  refine ⟨_,rfl,sH (s:={ s with heap:=h',toks:=tk }) (n := "range_iterator") st' rfl rfl (by decide) ⟨.int (lo+i),H,I1,⟨t,?_⟩,⟨rfl,rfl⟩,st',fun b hb=>(hf b hb).1⟩⟩
  rw [Int.mul_one]
 done:=by
  intro X hP hw hK hc i pins s σ H E I hf st hg
  subst hP hw hK
  obtain ⟨f0,f1,f2,f3,f4,f5⟩:=hf it (by simp)
  exact wpAny_pyNext_range_end (I.ok.hd hc) st (by have:n<=i:=hg;omega) fun h' eb=>⟨rfl,I.turned (t':=s.toks) (fun b o hb e=>eb b o hb e) f0 f1 f3 f4 f5⟩
 self:=fun _ _ _ _ _ st h=>wpAny_pyIter_rangeiter st h
end L2
namespace L2
open PySem PySem.Spec PyProof.Rows
section
variable {X:Cx} {tg:Expr}
def xo (K:PySem.W.Frag) (tl:TE):TI:=fun σ H R=>tl σ H fun x H1=>∃ a,x=.ref a/\(∃ xs,SqL K H1 a xs)/\R (Itl K a) H1
def Qt (K:PySem.W.Frag) (tl:TE):TI:=fun σ H R=>tl σ H fun x H1=>∃ a,x=.ref a/\(∃ xs,SqT K H1 a xs)/\R (Itt K a) H1
theorem bq {l:Expr} {tl:TE} (hl:PE X l tl):PI X tg l (xo X.K tl):=by
 intro pins s σ H R I h
 refine thn (hl pins s σ H _ I h) fun v s1 ⟨x,H1,I1,r1,q1⟩=>?_
 obtain ⟨a,e,⟨xs,hq⟩,q⟩:=q1
 subst e
 cases r1
 obtain ⟨its,rv,p,hz⟩:=I1.list hq
 refine wpAny_pyIter_list p.isList ?_
 refine ⟨s1.heap.objs.size,[s1.heap.objs.size],_,_,H1,rfl,I1.kept (t':=s1.toks) fun b o e=>Heap.get?_push_of_some _ e,tx a _,⟨_,Heap.get?_push_size _ rfl,rfl,rfl⟩,fun b hb=>?_,q⟩
 have e:b=s1.heap.objs.size:=by simpa using hb
 subst e
 exact I1.fpOk (Nat.le_refl _) (I1.hok.fresh (Nat.le_refl _))
theorem ux {pins:List (Addr × Obj)} {σ:St} {H:Hp} {s:Shared} {R:It->Hp->Prop} {E:Value->Shared->Prop} {lo hi:Int} {t u v:Tok} {tk:Nat} (I:Inv X pins σ H s) (h1 : -(2 ^ 62)<=lo) (h2:lo < 2 ^ 62) (h3 : -(2 ^ 62)<=hi) (h4:hi < 2 ^ 62)
  (q:R (Itr lo (hi - lo).toNat) H):wpAny (model X.prog X.w) X.A (pyIter (.ref s.heap.objs.size)) (PIE X pins σ tg R) E { s with heap:=s.heap.push { cls:=.type "range",data:=.fields #[.int lo t,.int hi u,.int 1 v] },toks:=tk }:=by
 refine wpAny_pyIter_range (IsRange.new ..) (small_one h1 h2 h3 h4) ?_
 have I1:Inv X pins σ H { s with heap:=s.heap.push { cls:=.type "range",data:=.fields #[.int lo t,.int hi u,.int 1 v] },toks:=tk }:=I.kept fun b o e=>Heap.get?_push_of_some _ e
 refine ⟨(s.heap.push { cls:=.type "range",data:=.fields #[.int lo t,.int hi u,.int 1 v] }).objs.size,[(s.heap.push { cls:=.type "range",data:=.fields #[.int lo t,.int hi u,.int 1 v] }).objs.size],_,_,H,rfl,
  I1.kept (t':=tk) fun b o e=>Heap.get?_push_of_some _ e,rj _ lo (hi - lo).toNat,?_,fun b hb=>?_,q⟩
 ·have e1:lo+((0:Nat):Int) * 1=lo:=by simp
  have e2:(((hi - lo).toNat:Nat):Int) - ((0:Nat):Int)=Builtin.Range.rangeSize lo hi 1:=by rw [rangeSize_one];split <;> omega
  show IsRangeIter _ _ (lo+((0:Nat):Int) * 1) ((((hi - lo).toNat:Nat):Int) - ((0:Nat):Int)) 1
  rw [e1,e2]
  exact Heap.get?_push_size _ rfl
 ·have e:b=(s.heap.push { cls:=.type "range",data:=.fields #[.int lo t,.int hi u,.int 1 v] }).objs.size:=by simpa using hb
  subst e
  exact I1.fpOk (Nat.le_refl _) (I1.hok.fresh (Nat.le_refl _))
def AE (ta:TA):TI:=fun σ H R=>ta σ H fun vs H1=>∃ j:Int,vs=[.int j]/\-(2 ^ 62)<=j/\j < 2 ^ 62/\R (Itr 0 j.toNat) H1
def P7 (ta:TA):TI:=fun σ H R=>ta σ H fun vs H1=>∃ i j:Int,vs=[.int i,.int j]/\(-(2 ^ 62)<=i/\i < 2 ^ 62/\-(2 ^ 62)<=j/\j < 2 ^ 62)/\R (Itr i (j - i).toNat) H1
theorem dJ {a:Expr} {ta:TA} {p pos:Pos} (hg:Gl X "range") (hm:X.mg "range" = none) (ha:PA X [a] ta) (hs:starEach [a] X.env=[(false,eval a X.env)]:=by rfl):PI X tg (.Call (.Name "range" p) [a] [] pos) (AE ta):=by
 intro pins s σ H R I h
 refine Call_ (fw I hg hm boot_range (PyProof.Rows.callWith_type1 (thn (ha pos pins s σ H _ I h) fun us s1 ⟨vs,H1,I1,r1,q1⟩=>?_) hs rfl))
 obtain ⟨j,e,q1,q2,q⟩:=q1
 subst e
 cases r1 with
 | cons r rr =>
  cases rr
  obtain ⟨t,rfl⟩:=r
  exact call_range_1 (ux I1 (by omega) (by omega) q1 q2 (by simpa using q))
def Dw (wi:TI) (g:TG) (tb:TS):TS:=fun D σ H=>wi σ H fun J H1=>∃ W:Nat->Nat->St->Hp->Prop,(∃ m,W 0 m σ H1)/\∀ i m σ H,W i m σ H ->
 (J.stop i H/\D.nx σ H)\/(J.go i H/\∃ N:St->Hp->Prop,(∀ σ' H',N σ' H'->∃ m',m' < m/\W (i+1) m' σ' H')/\∀ x H',J.yld i H x H'->g x σ H' fun σ2 H2=>tb { D with nx:=N,ct:=N,bk:=D.nx } σ2 H2)
def iw (fp:List Addr) (h:Heap):List (Addr × Obj):=fp.filterMap fun b=>(h.get? b).map fun o=>(b,o)
theorem cx {fp:List Addr} {h:Heap} {b:Addr} {o:Obj} (hb:b ∈ fp) (e:h.get? b=some o):(b,o) ∈ iw fp h:=List.mem_filterMap.mpr ⟨b,hb,by rw [e];rfl⟩
theorem tD {fp:List Addr} {h:Heap} {p:Addr × Obj} (hp:p ∈ iw fp h):p.1 ∈ fp/\h.get? p.1=some p.2:=by
 obtain ⟨b,hb,e⟩:=List.mem_filterMap.mp hp
 cases q:h.get? b with
 | none=>rw [q] at e;cases e
 | some o =>
  rw [q] at e
  have e' : (b,o)=p:=Option.some.inj e
  subst e'
  exact ⟨hb,q⟩
theorem Inv.pinned {pins:List (Addr × Obj)} {σ:St} {H:Hp} {s:Shared} {fp:List Addr} (I:Inv X pins σ H s) (hf:∀ b ∈ fp,iu X pins H b) (ho:∀ b ∈ fp,∃ o,s.heap.get? b=some o/\∀ v,o.data ≠ .cell v):Inv X (pins ++ iw fp s.heap) σ H s :=
 I.pins_of fun p hp=>(List.mem_append.mp hp).elim (fun z=>I.pin p (List.mem_append_right _ z)) fun z=>by
  obtain ⟨hb,e⟩:=tD z
  obtain ⟨f0,f1,f2,_⟩:=hf p.1 hb
  obtain ⟨o,e',d⟩:=ho p.1 hb
  rw [e] at e';cases e'
  exact ⟨e,f0,f1,f2,d⟩
theorem Inv.unpinned {pins pl:List (Addr × Obj)} {σ:St} {H:Hp} {s:Shared} (I:Inv X (pins ++ pl) σ H s):Inv X pins σ H s:=I.pins_of fun p hp=>I.pin p (List.mem_append_right _ (List.mem_append_left _ hp))
theorem bM {iter:Expr} {body:List Stmt} {wi:TI} {g:TG} {tb:TS} {pos:Pos} (hp:PassesOwn (model X.prog X.w) X.A X.env X.xe) (hc:X.calm=true) (hi:PI X tg iter wi) (hg:PG X tg g) (hb:PSs X body tb)
  (hs:∀ x,foldedSetIterable iter X.env x=pure x:=by intro _;rfl):PS X (.For tg iter body [] pos) (Dw wi g tb):=by
 intro pins s σ H D I h
 refine wpAny_For (thn (hi pins s σ H _ I h) fun v s1 h1=>thn h1 fun itv s2 h2=>?_) hs
 obtain ⟨it,fp,tn,J,H2,e,I2,T,st2,f2,W,⟨m0,w0⟩,turn⟩:=h2
 subst e
 have ye:∀ {H' : Hp},(∀ b ∈ fp,H' b=none)->∀ b ∈ fp,iu X pins H' b:=fun hn b hb=>⟨hn b hb,(f2 b hb).2⟩
 refine codeAny_forLoop_any (fun n s'=>∃ i σ' H',Inv X pins σ' H' s'/\tn i s'.heap/\(∀ b ∈ fp,H' b=none)/\W i n σ' H') ?_ m0 ⟨0,σ,H2,I2,st2,fun b hb=>(f2 b hb).1,w0⟩
 rintro n s3 ⟨i,σ3,H3,I3,st3,fr3,w3⟩
 rcases turn i n σ3 H3 w3 with ⟨stop,qn⟩ | ⟨go,N,hN,step⟩
 ·refine wpAny_passesOwn hp (thn (T.done X rfl rfl rfl hc i pins s3 σ3 H3 X.xe I3 (ye fr3) st3 stop) fun r s4 ⟨hr,I4⟩=>?_)
  subst hr
  exact wpAny_execs_nil ⟨σ3,H3,I4,qn⟩
 ·refine wpAny_passesOwn hp (thn (T.item X rfl rfl rfl hc i pins s3 σ3 H3 X.xe I3 (ye fr3) st3 go) fun r s4 ⟨u,hr,h4⟩=>?_)
  subst hr
  refine wpAny_passesOwn hp (thn h4 fun _ s5 ⟨x,H5,I5,r5,y5,st5,fr5⟩=>?_)
  have I5':=I5.pinned (ye fr5) (T.obj _ _ st5)
  refine wpAny_passesOwn hp (thn (hg _ s5 σ3 H5 x u _ I5' r5 (step x H5 y5)) fun _ s6 ⟨σ6,H6,I6,q6⟩=>?_)
  refine wpAny_passesOwn hp (thn (hb _ s6 σ6 H6 _ I6 q6) fun f s7 q7=>?_)
  have again:∀ {σ7:St} {H7:Hp},Inv X (pins ++ iw fp s5.heap) σ7 H7 s7->N σ7 H7->∃ m,m < n/\∃ i σ' H',Inv X pins σ' H' s7/\tn i s7.heap/\(∀ b ∈ fp,H' b=none)/\W i m σ' H':=fun {σ7 H7} I7 n7=>by
   obtain ⟨m',hm,w7⟩:=hN σ7 H7 n7
   refine ⟨m',hm,i+1,σ7,H7,I7.unpinned,T.keep _ _ _ st5 fun b hb o e=>(I7.pin (b,o) (List.mem_append_right _ (List.mem_append_right _ (cx hb e)))).1,fun b hb=>?_,w7⟩
   obtain ⟨o,e,d⟩:=T.obj _ _ st5 b hb
   exact (I7.pin (b,o) (List.mem_append_right _ (List.mem_append_right _ (cx hb e)))).2.1
  cases f with
  | next=>obtain ⟨σ7,H7,I7,n7⟩:=q7;exact again I7 n7
  | cont=>obtain ⟨σ7,H7,I7,n7⟩:=q7;exact again I7 n7
  | brk=>obtain ⟨σ7,H7,I7,q7⟩:=q7;exact ⟨σ7,H7,I7.unpinned,q7⟩
  | ret v=>obtain ⟨x7,σ7,H7,I7,r7,q7⟩:=q7;exact ⟨x7,σ7,H7,I7.unpinned,r7,q7⟩
end
theorem bY {K:PySem.W.Frag} {a:Addr} {xs:List V} {g:TG} {tb:TS} {D:Ends} {σ:St} {H:Hp} (Pv:Nat->St->Hp->Prop) (h0:Pv 0 σ H) (hl:∀ i σ H,i<=xs.length->Pv i σ H->SqL K H a xs)
  (hs:∀ i x σ H,xs[i]?=some x->Pv i σ H->g x σ H fun σ2 H2=>tb { D with nx:=Pv (i+1),ct:=Pv (i+1),bk:=D.nx } σ2 H2) (hd:∀ σ H,Pv xs.length σ H->D.nx σ H) :
  ∃ W:Nat->Nat->St->Hp->Prop,(∃ m,W 0 m σ H)/\∀ i m σ H,W i m σ H ->
   ((Itl K a).stop i H/\D.nx σ H)\/((Itl K a).go i H/\∃ N:St->Hp->Prop,(∀ σ' H',N σ' H'->∃ m',m' < m/\W (i+1) m' σ' H')/\∀ x H',(Itl K a).yld i H x H'->g x σ H' fun σ2 H2=>tb { D with nx:=N,ct:=N,bk:=D.nx } σ2 H2):=by
 refine ⟨fun i m σ H=>m=xs.length - i/\i<=xs.length/\Pv i σ H,⟨xs.length,by simp,Nat.zero_le _,h0⟩,?_⟩
 rintro i m σ H ⟨rfl,hi,p⟩
 have q:=hl i σ H hi p
 by_cases hlt:i < xs.length
 ·refine .inr ⟨⟨xs,xs[i],q,by simp [hlt]⟩,Pv (i+1),fun σ' H' p'=>⟨xs.length - (i+1),by omega,rfl,hlt,p'⟩,fun x H' y=>?_⟩
  obtain ⟨e,y⟩:=y
  subst e
  exact hs i x σ _ (y xs q) p
 ·have e:i=xs.length:=by omega
  subst e
  exact .inl ⟨⟨xs,q,Nat.le_refl _⟩,hd σ H p⟩
theorem oj {lo:Int} {n:Nat} {g:TG} {tb:TS} {D:Ends} {σ:St} {H:Hp} (Pv:Nat->St->Hp->Prop) (h0:Pv 0 σ H)
  (hs:∀ i σ H,i < n->Pv i σ H->g (.int (lo+i)) σ H fun σ2 H2=>tb { D with nx:=Pv (i+1),ct:=Pv (i+1),bk:=D.nx } σ2 H2) (hd:∀ σ H,Pv n σ H->D.nx σ H) :
  ∃ W:Nat->Nat->St->Hp->Prop,(∃ m,W 0 m σ H)/\∀ i m σ H,W i m σ H ->
   ((Itr lo n).stop i H/\D.nx σ H)\/((Itr lo n).go i H/\∃ N:St->Hp->Prop,(∀ σ' H',N σ' H'->∃ m',m' < m/\W (i+1) m' σ' H')/\∀ x H',(Itr lo n).yld i H x H'->g x σ H' fun σ2 H2=>tb { D with nx:=N,ct:=N,bk:=D.nx } σ2 H2):=by
 refine ⟨fun i m σ H=>m=n - i/\i<=n/\Pv i σ H,⟨n,by simp,Nat.zero_le _,h0⟩,?_⟩
 rintro i m σ H ⟨rfl,hi,p⟩
 by_cases hlt:i < n
 ·refine .inr ⟨hlt,Pv (i+1),fun σ' H' p'=>⟨n - (i+1),by omega,rfl,hlt,p'⟩,fun x H' y=>?_⟩
  obtain ⟨e,y⟩:=y
  subst e y
  exact hs i σ _ hlt p
 ·have e:i=n:=by omega
  subst e
  exact .inl ⟨Nat.le_refl _,hd σ H p⟩
end L2
namespace L2
open PySem PySem.Spec PyProof.Rows
abbrev R2:=V->V->Hp->VK->Prop
def OpR (X:Cx) (f:Value->Value->Sem Value) (r:R2):Prop :=
 ∀ (pins:List (Addr × Obj)) (s:Shared) (σ:St) (H:Hp) (x y:V) (v u:Value) (Q:VK),Inv X pins σ H s->RelV x v->RelV y u->r x y H Q ->
  wpAny (model X.prog X.w) X.A (f v u) (EP X pins σ Q) X.xe s
def UnR (X:Cx) (f:Value->Sem Value) (r:V->Hp->VK->Prop):Prop :=
 ∀ (pins:List (Addr × Obj)) (s:Shared) (σ:St) (H:Hp) (x:V) (v:Value) (Q:VK),Inv X pins σ H s->RelV x v->r x H Q ->
  wpAny (model X.prog X.w) X.A (f v) (EP X pins σ Q) X.xe s
def de (X:Cx) (f:Value) (r:List V->Hp->VK->Prop):Prop :=
 ∀ (pins:List (Addr × Obj)) (s:Shared) (σ:St) (H:Hp) (xs:List V) (us:List Value) (Q:VK),Inv X pins σ H s->Vals xs us->r xs H Q ->
  wpAny (model X.prog X.w) X.A (call f us) (EP X pins σ Q) X.xe s
def Dx (X:Cx) (r:V->Hp->(Bool->Hp->Prop)->Prop):Prop :=
 ∀ (pins:List (Addr × Obj)) (s:Shared) (σ:St) (H:Hp) (x:V) (v:Value) (Q:Bool->Hp->Prop),Inv X pins σ H s->RelV x v->r x H Q ->
  wpAny (model X.prog X.w) X.A (truthy v) (TP X pins σ Q) X.xe s
def tOp (r:R2) (ta tb:TE):TE:=fun σ H Q=>ta σ H fun x H1=>tb σ H1 fun y H2=>r x y H2 Q
def tUn (r:V->Hp->VK->Prop) (ta:TE):TE:=fun σ H Q=>ta σ H fun x H1=>r x H1 Q
def rI (C:Int->Int->Prop) (g:Int->Int->V):R2:=fun x y H Q=>∃ i j,x=.int i/\y=.int j/\C i j/\Q (g i j) H
def rI0 (g:Int->Int->V):R2:=fun x y H Q=>∃ i j,x=.int i/\y=.int j/\Q (g i j) H
def rU (g:Int->V):V->Hp->VK->Prop:=fun x H Q=>∃ i,x=.int i/\Q (g i) H
section
variable {X:Cx} {a b c:Expr} {ta tb tc:TE} {pos:Pos}
theorem yf (ha:PE X a ta) (hb:PE X b tb) {pins:List (Addr × Obj)} {s:Shared} {σ:St} {H:Hp} {R:V->V->Hp->Prop} (I:Inv X pins σ H s)
  (h:ta σ H fun x H1=>tb σ H1 fun y H2=>R x y H2) {Q:Value->Shared->Prop} {f:Value->Value->Sem Value}
  (hf:∀ v u s2 x y H2,Inv X pins σ H2 s2->RelV x v->RelV y u->R x y H2->wpAny (model X.prog X.w) X.A (f v u) Q X.xe s2) :
  wpAny (model X.prog X.w) X.A (eval a X.env) (fun v s₁=>wpAny (model X.prog X.w) X.A (eval b X.env) (fun u s₂=>wpAny (model X.prog X.w) X.A (f v u) Q X.xe s₂) X.xe s₁) X.xe s:=by
 refine thn (ha pins s σ H _ I h) fun v s1 ⟨x,H1,I1,r1,q1⟩=>?_
 refine thn (hb pins s1 σ H1 _ I1 q1) fun u s2 ⟨y,H2,I2,r2,q2⟩=>?_
 exact hf v u s2 x y H2 I2 r1 r2 q2
theorem ao {op:Operator} {r:R2} (ho:OpR X (binaryOp op) r) (ha:PE X a ta) (hb:PE X b tb):PE X (.BinOp a op b pos) (tOp r ta tb):=by
 intro pins s σ H Q I h
 exact wpAny_BinOp (yf ha hb I h fun v u s2 x y H2 I2 rx ry q=>ho pins s2 σ H2 x y v u Q I2 rx ry q)
theorem qG {op:UnaryOp} {r:V->Hp->VK->Prop} (ho:UnR X (unaryOp op) r) (ha:PE X a ta):PE X (.UnaryOp op a pos) (tUn r ta):=by
 intro pins s σ H Q I h
 exact UnaryOp_ (thn (ha pins s σ H _ I h) fun v s1 ⟨x,H1,I1,r1,q1⟩=>ho pins s1 σ H1 x v Q I1 r1 q1)
theorem opI {f:Value->Value->Sem Value} {C:Int->Int->Prop} {g:Int->Int->Int}
  (rule:∀ (i j:Int) (t u:Tok) (s:Shared) (Q:Value->Shared->Prop) (E:Value->Shared->Prop),C i j->Q (.int (g i j) s.toks) { s with toks:=s.toks+1 }->wpAny (model X.prog X.w) X.A (f (.int i t) (.int j u)) Q E s) :
  OpR X f (rI C fun i j=>.int (g i j)):=by
 intro pins s σ H x y v u Q I rx ry h
 obtain ⟨i,j,rfl,rfl,hc,q⟩:=h
 obtain ⟨t,rfl⟩:=rx
 obtain ⟨t',rfl⟩:=ry
 exact rule i j t t' s _ _ hc ⟨.int (g i j),H,I.tok _,⟨_,rfl⟩,q⟩
theorem yg {f:Value->Value->Sem Value} {g:Int->Int->Int}
  (rule:∀ (i j:Int) (t u:Tok) (s:Shared) (Q:Value->Shared->Prop) (E:Value->Shared->Prop),Q (.int (g i j) s.toks) { s with toks:=s.toks+1 }->wpAny (model X.prog X.w) X.A (f (.int i t) (.int j u)) Q E s) :
  OpR X f (rI0 fun i j=>.int (g i j)):=by
 intro pins s σ H x y v u Q I rx ry h
 obtain ⟨i,j,rfl,rfl,q⟩:=h
 obtain ⟨t,rfl⟩:=rx
 obtain ⟨t',rfl⟩:=ry
 exact rule i j t t' s _ _ ⟨.int (g i j),H,I.tok _,⟨_,rfl⟩,q⟩
theorem yh {f:Value->Value->Sem Value} {g:Int->Int->Bool}
  (rule:∀ (i j:Int) (t u:Tok) (s:Shared) (Q:Value->Shared->Prop) (E:Value->Shared->Prop),Q (.bool (g i j)) s->wpAny (model X.prog X.w) X.A (f (.int i t) (.int j u)) Q E s) :
  OpR X f (rI0 fun i j=>.bl (g i j)):=by
 intro pins s σ H x y v u Q I rx ry h
 obtain ⟨i,j,rfl,rfl,q⟩:=h
 obtain ⟨t,rfl⟩:=rx
 obtain ⟨t',rfl⟩:=ry
 exact rule i j t t' s _ _ ⟨.bl (g i j),H,I,rfl,q⟩
def Dy (i j:Int):Prop:=0 < j/\j < 1073741824
def P8 (i j:Int):Prop:=j ≠ 0/\j.natAbs < 1073741824
def AF (i j:Int):Prop:=0<=j/\j<=1000000/\i.natAbs < 2 ^ 64
def yi (i j:Int):Prop:=(-(2 ^ 64) < i/\i < 2 ^ 64)\/(-(2 ^ 64) < j/\j < 2 ^ 64)
theorem yi.ok {i j:Int} (h:yi i j):IntMulOk i j:=by
 rcases h with ⟨h1,h2⟩ | ⟨h1,h2⟩
 ·exact .of_left (intBits_le_64 h1 h2)
 ·exact .of_right (intBits_le_64 h1 h2)
theorem rk (k:Nat):(0:Int)<=2 ^ k:=by
 rw [two_pow_cast]
 exact Int.natCast_nonneg _
theorem bE:OpR X (binaryOp .Add) (rI0 fun i j=>.int (i+j)):=yg fun _ _ _ _ _ _ _ q=>add_int q
theorem fR:OpR X (binaryOp .Sub) (rI0 fun i j=>.int (i - j)):=yg fun _ _ _ _ _ _ _ q=>sub_int q
theorem o9:OpR X (binaryOp .Mult) (rI yi fun i j=>.int (i * j)):=opI fun _ _ _ _ _ _ _ hc q=>mul_int q hc.ok
theorem aY:OpR X (binaryOp .FloorDiv) (rI Dy fun i j=>.int (i / j)):=opI fun i j _ _ _ _ _ hc q=>by
 have h1:(0:Int) < j:=hc.1
 have h2:j < 1073741824:=hc.2
 exact floordiv_int (by omega) (by rw [Int.fdiv_eq_ediv_of_nonneg i (by omega)];exact q) (.inl (PyProof.noPylong_small (by omega)))
theorem aU:OpR X (binaryOp .Mod) (rI (fun _ j=>0 < j) fun i j=>.int (i % j)):=opI fun i j _ _ _ _ _ hc q=>by
 have h1:(0:Int) < j:=hc
 exact mod_int' (by omega) (by rw [Int.fmod_eq_emod_of_nonneg i (by omega)];exact q)
theorem ke:OpR X (binaryOp .Pow) (rI AF fun i j=>.int (i ^ j.toNat)):=opI fun _ _ _ _ _ _ _ hc q=>pow_int_small hc.1 hc.2.1 hc.2.2 q
theorem rm:OpR X (binaryOp .LShift) (rI AF fun i j=>.int (i * 2 ^ j.toNat)):=opI fun _ _ _ _ _ _ _ hc q=>lshift_int_small hc.1 hc.2.1 hc.2.2 q
theorem pb:OpR X (binaryOp .RShift) (rI (fun _ j=>0<=j) fun i j=>.int (i / 2 ^ j.toNat)):=opI fun i j _ _ _ _ _ hc q =>
 rshift_int hc (by rw [Int.fdiv_eq_ediv_of_nonneg i (rk _)];exact q)
theorem pd:OpR X (binaryOp .BitAnd) (rI0 fun i j=>.int (Builtin.bitAnd i j)):=yg fun _ _ _ _ _ _ _ q=>and_int q
theorem unI {f:Value->Sem Value} {g:Int->Int}
  (rule:∀ (i:Int) (t:Tok) (s:Shared) (Q:Value->Shared->Prop) (E:Value->Shared->Prop),Q (.int (g i) s.toks) { s with toks:=s.toks+1 }->wpAny (model X.prog X.w) X.A (f (.int i t)) Q E s) :
  UnR X f (rU fun i=>.int (g i)):=by
 intro pins s σ H x v Q I rx h
 obtain ⟨i,rfl,q⟩:=h
 obtain ⟨t,rfl⟩:=rx
 exact rule i t s _ _ ⟨.int (g i),H,I.tok _,⟨_,rfl⟩,q⟩
theorem mx:UnR X (unaryOp .USub) (rU fun i=>.int (-i)):=unI fun _ _ _ _ _ q=>neg_int q
end
def AG:V->V->Bool
 | .non,.non=>true | .non,.int _=>true | .int _,.non=>true | .non,.bl _=>true | .bl _,.non=>true | .non,.str _=>true | .str _,.non=>true
 | .int _,.int _=>true | .bl _,.bl _=>true | .str _,.str _=>true | .byt _,.byt _=>true
 | .int _,.str _=>true | .str _,.int _=>true | .bl _,.str _=>true | .str _,.bl _=>true
 | _,_=>false
def rEq:R2:=fun x y H Q=>AG x y=true/\Q (.bl (decide (x=y))) H
def rNe:R2:=fun x y H Q=>AG x y=true/\Q (.bl (!decide (x=y))) H
theorem sI {i j:Int} : decide (V.int i=V.int j)=(i == j):=by
 rw [Bool.eq_iff_iff]
 simp
theorem uy {i j:Bool} : decide (V.bl i=V.bl j)=(i == j):=by
 rw [Bool.eq_iff_iff]
 simp
theorem sJ {i j:Str} : decide (V.str i=V.str j)=(i == j):=by
 rw [Bool.eq_iff_iff]
 simp
theorem sL {i j:Array UInt8} : decide (V.byt i=V.byt j)=(i.toList == j.toList):=by
 rw [Bool.eq_iff_iff]
 cases i
 cases j
 simp
section
variable {X:Cx} {a b c:Expr} {ta tb tc:TE} {pos:Pos}
theorem bb {pins:List (Addr × Obj)} {σ:St} {H:Hp} {s:Shared} {Q:VK} {k k' : Bool} (I:Inv X pins σ H s) (q:Q (.bl k) H) (e:k=k'):EP X pins σ Q (.bool k') s:=by
 subst e
 exact ⟨.bl k,H,I,rfl,q⟩
theorem bJ:OpR X (compareOp .Eq) rEq:=by
 intro pins s σ H x y v u Q I rx ry h
 obtain ⟨hs,q⟩:=h
 cases x with
 | non =>
  cases rx
  cases y with
  | non=>cases ry;exact PySem.EqNone.eq_none_none (bb I q (by simp))
  | bl j=>cases ry;exact PySem.EqNone.eq_none_bool (bb I q (by simp))
  | int j=>obtain ⟨t',rfl⟩:=ry;exact PySem.EqNone.eq_none_int (bb I q (by simp))
  | str j=>obtain ⟨t',rfl⟩:=ry;exact PySem.EqNone.eq_none_str (bb I q (by simp))
  | _=>exact absurd (show false=true from hs) Bool.false_ne_true
 | bl i =>
  cases rx
  cases y with
  | non=>cases ry;exact PySem.EqNone.eq_bool_none (bb I q (by simp))
  | bl j=>cases ry;exact eq_bool (bb I q uy)
  | str j=>obtain ⟨t',rfl⟩:=ry;exact PySem.EqMixed.eq_bool_str (bb I q (by simp))
  | _=>exact absurd (show false=true from hs) Bool.false_ne_true
 | int i =>
  obtain ⟨t,rfl⟩:=rx
  cases y with
  | non=>cases ry;exact PySem.EqNone.eq_int_none (bb I q (by simp))
  | int j=>obtain ⟨t',rfl⟩:=ry;exact eq_int (bb I q sI)
  | str j=>obtain ⟨t',rfl⟩:=ry;exact PySem.EqMixed.eq_int_str (bb I q (by simp))
  | _=>exact absurd (show false=true from hs) Bool.false_ne_true
 | str i =>
  obtain ⟨t,rfl⟩:=rx
  cases y with
  | non=>cases ry;exact PySem.EqNone.eq_str_none (bb I q (by simp))
  | bl j=>cases ry;exact PySem.EqMixed.eq_str_bool (bb I q (by simp))
  | int j=>obtain ⟨t',rfl⟩:=ry;exact PySem.EqMixed.eq_str_int (bb I q (by simp))
  | str j=>obtain ⟨t',rfl⟩:=ry;exact eq_str (bb I q sJ)
  | _=>exact absurd (show false=true from hs) Bool.false_ne_true
 | byt i =>
  obtain ⟨t,rfl⟩:=rx
  cases y with
  | byt j=>obtain ⟨t',rfl⟩:=ry;exact PySem.W.eq_bytes (bb I q sL)
  | _=>exact absurd (show false=true from hs) Bool.false_ne_true
 | _=>cases y <;> exact absurd (show false=true from hs) Bool.false_ne_true
theorem fL:OpR X (compareOp .NotEq) rNe:=by
 intro pins s σ H x y v u Q I rx ry h
 obtain ⟨hs,q⟩:=h
 cases x with
 | non =>
  cases rx
  cases y with
  | non=>cases ry;exact PySem.EqNone.ne_none_none (bb I q (by simp))
  | bl j=>cases ry;exact PySem.EqNone.ne_none_bool (bb I q (by simp))
  | int j=>obtain ⟨t',rfl⟩:=ry;exact PySem.EqNone.ne_none_int (bb I q (by simp))
  | str j=>obtain ⟨t',rfl⟩:=ry;exact PySem.EqNone.ne_none_str (bb I q (by simp))
  | _=>exact absurd (show false=true from hs) Bool.false_ne_true
 | bl i =>
  cases rx
  cases y with
  | non=>cases ry;exact PySem.EqNone.ne_bool_none (bb I q (by simp))
  | bl j=>cases ry;exact ne_bool (bb I q (congrArg not uy))
  | str j=>obtain ⟨t',rfl⟩:=ry;exact PySem.EqMixed.ne_bool_str (bb I q (by simp))
  | _=>exact absurd (show false=true from hs) Bool.false_ne_true
 | int i =>
  obtain ⟨t,rfl⟩:=rx
  cases y with
  | non=>cases ry;exact PySem.EqNone.ne_int_none (bb I q (by simp))
  | int j=>obtain ⟨t',rfl⟩:=ry;exact ne_int (bb I q (congrArg not sI))
  | str j=>obtain ⟨t',rfl⟩:=ry;exact PySem.EqMixed.ne_int_str (bb I q (by simp))
  | _=>exact absurd (show false=true from hs) Bool.false_ne_true
 | str i =>
  obtain ⟨t,rfl⟩:=rx
  cases y with
  | non=>cases ry;exact PySem.EqNone.ne_str_none (bb I q (by simp))
  | bl j=>cases ry;exact PySem.EqMixed.ne_str_bool (bb I q (by simp))
  | int j=>obtain ⟨t',rfl⟩:=ry;exact PySem.EqMixed.ne_str_int (bb I q (by simp))
  | str j=>obtain ⟨t',rfl⟩:=ry;exact ne_str (bb I q (congrArg not sJ))
  | _=>exact absurd (show false=true from hs) Bool.false_ne_true
 | byt i =>
  obtain ⟨t,rfl⟩:=rx
  cases y with
  | byt j=>obtain ⟨t',rfl⟩:=ry;exact PySem.W.ne_bytes (bb I q (congrArg not sL))
  | _=>exact absurd (show false=true from hs) Bool.false_ne_true
 | _=>cases y <;> exact absurd (show false=true from hs) Bool.false_ne_true
theorem om:OpR X (compareOp .Lt) (rI0 fun i j=>.bl (decide (i < j))):=yh fun _ _ _ _ _ _ _ q=>lt_int q
theorem fM:OpR X (compareOp .LtE) (rI0 fun i j=>.bl (decide (i<=j))):=yh fun _ _ _ _ _ _ _ q=>le_int q
theorem jv:OpR X (compareOp .Gt) (rI0 fun i j=>.bl (decide (j < i))):=yh fun _ _ _ _ _ _ _ q=>gt_int q
theorem pe:OpR X (compareOp .NotIn) (fun x y H Q=>∃ i j,x=.str i/\y=.str j/\Q (.bl (!(!(Builtin.Str.occurrences j i 0 j.length 1).isEmpty))) H):=by
 intro pins s σ H x y v u Q I rx ry h
 obtain ⟨i,j,rfl,rfl,q⟩:=h
 obtain ⟨t,rfl⟩:=rx
 obtain ⟨t',rfl⟩:=ry
 exact notIn_str (bb I q rfl)
def isObj:HO->Bool
 | .lst _=>true
 | .ins _ _ _=>true
 | _=>false
theorem aJ (b:Expr) {op:CmpOp} (h:op ≠ .In:=by decide) (h2:op ≠ .NotIn:=by decide):behindInMarks op b=false:=by
 have e1:(op == CmpOp.In)=false:=by cases op <;> first | rfl | exact absurd rfl h
 have e2:(op == CmpOp.NotIn)=false:=by cases op <;> first | rfl | exact absurd rfl h2
 cases b <;> simp [behindInMarks,e1,e2]
theorem df {op:CmpOp} {r:R2} (ho:OpR X (compareOp op) r) (ha:PE X a ta) (hb:PE X b tb) (hm:behindInMarks op b=false):PE X (.Compare a [op] [b] pos) (tOp r ta tb):=by
 intro pins s σ H Q I h
 exact wpAny_Compare1 (yf ha hb I h fun v u s2 x y H2 I2 rx ry q=>ho pins s2 σ H2 x y v u Q I2 rx ry q) hm
def xp (t:TE):TT:=fun σ H Q=>t σ H fun x H'=>∃ k,x=.bl k/\Q k H'
theorem aG {op:CmpOp} {r:R2} (ho:OpR X (compareOp op) r) (ha:PE X a ta) (hb:PE X b tb) (hm:behindInMarks op b=false):PT X (.Compare a [op] [b] pos) (xp (tOp r ta tb)):=by
 intro pins s σ H Q I h
 refine wpAny_isTrue_Compare1 (thn (ha pins s σ H _ I h) fun v s1 ⟨x,H1,I1,r1,q1⟩=>thn (hb pins s1 σ H1 _ I1 q1) fun u s2 ⟨y,H2,I2,r2,q2⟩ =>
  thn (ho pins s2 σ H2 x y v u _ I2 r1 r2 q2) fun c s3 ⟨z,H3,I3,r3,k,e,q3⟩=>?_) hm
 subst e
 cases r3
 exact wpAny_truthy_bool ⟨H3,I3,q3⟩
def uz (r r' : R2) (ta tb tc:TE):TE:=fun σ H Q=>ta σ H fun x H1=>tb σ H1 fun y H2=>r x y H2 fun z H3=>∃ k,z=.bl k /\
 (if k=true then tc σ H3 fun w' H4=>r' y w' H4 Q else Q (.bl false) H3)
theorem my {op op' : CmpOp} {r r' : R2} (ho:OpR X (compareOp op) r) (ho' : OpR X (compareOp op') r') (ha:PE X a ta) (hb:PE X b tb) (hc:PE X c tc)
  (hm:lastMarks [op,op'] [b,c]=false:=by with_unfolding_all rfl):PE X (.Compare a [op,op'] [b,c] pos) (uz r r' ta tb tc):=by
 intro pins s σ H Q I h
 refine Compare_chain (thn (ha pins s σ H _ I h) fun v s1 ⟨x,H1,I1,r1,q1⟩=>chain_link (thn (hb pins s1 σ H1 _ I1 q1) fun u s2 ⟨y,H2,I2,r2,q2⟩ =>
  thn (ho pins s2 σ H2 x y v u _ I2 r1 r2 q2) fun d s3 ⟨z,H3,I3,r3,k,e,q3⟩=>?_)) hm
 subst e
 cases r3
 refine wpAny_truthy_bool ?_
 cases k with
 | false=>exact ite_ff ⟨.bl false,H3,I3,rfl,q3⟩
 | true=>exact ite_tt (chain_last (thn (hc pins s3 σ H3 _ I3 q3) fun w' s4 ⟨z',H4,I4,r4,q4⟩=>ho' pins s4 σ H4 y z' u w' Q I4 r2 r4 q4))
theorem mz {op op' : CmpOp} {r r' : R2} (ho:OpR X (compareOp op) r) (ho' : OpR X (compareOp op') r') (ha:PE X a ta) (hb:PE X b tb) (hc:PE X c tc)
  (hm:lastMarks [op,op'] [b,c]=false:=by with_unfolding_all rfl):PT X (.Compare a [op,op'] [b,c] pos) (xp (uz r r' ta tb tc)):=by
 intro pins s σ H Q I h
 refine isTrue_chain (thn (ha pins s σ H _ I h) fun v s1 ⟨x,H1,I1,r1,q1⟩=>test_link (thn (hb pins s1 σ H1 _ I1 q1) fun u s2 ⟨y,H2,I2,r2,q2⟩ =>
  thn (ho pins s2 σ H2 x y v u _ I2 r1 r2 q2) fun d s3 ⟨z,H3,I3,r3,k,e,q3⟩=>?_)) hm
 subst e
 cases r3
 refine wpAny_truthy_bool ?_
 cases k with
 | false =>
  obtain ⟨k',e',q'⟩:=q3
  cases e'
  exact ite_ff ⟨H3,I3,q'⟩
 | true =>
  refine ite_tt (test_last (thn (hc pins s3 σ H3 _ I3 q3) fun w' s4 ⟨z',H4,I4,r4,q4⟩=>thn (ho' pins s4 σ H4 y z' u w' _ I4 r2 r4 q4) fun d' s5 ⟨z2,H5,I5,r5,k2,e2,q5⟩=>?_))
  subst e2
  cases r5
  exact wpAny_truthy_bool ⟨H5,I5,q5⟩
def yj (K:PySem.W.Frag) (x:V) (H:Hp) (k:Bool):Prop :=
 match x with
 | .non=>k=false
 | .bl b=>k=b
 | .int i=>k=(i != 0)
 | .str y=>y.length<=sizeLine/\k=((y.length:Int) != 0)
 | .byt y=>y.size<=sizeLine/\k=((y.size:Int) != 0)
 | .ref p=>(∃ xs,SqL K H p xs/\k = !xs.isEmpty)\/(∃ xs,SqT K H p xs/\k = !xs.isEmpty)\/∃ kvs,H p=some (.dK kvs)/\k = !kvs.isEmpty
 | _=>False
theorem rn {κ:Type} {kvs:List (κ × V)} {vs:List (κ × Value)} (r:KV kvs vs):(!vs.isEmpty) = !kvs.isEmpty:=by
 cases r <;> rfl
theorem mB {xs:List V} {its:List Value} (r:Vals xs its):(!its.toArray.isEmpty) = !xs.isEmpty:=by
 cases r <;> simp
theorem iy:(sizeLine:Nat) < 2 ^ 63:=by rw [sizeLine_eq];decide
theorem yk:Dx X (fun x H Q=>∃ k,yj X.K x H k/\Q k H):=by
 intro pins s σ H x v Q I rx h
 obtain ⟨k,e,q⟩:=h
 have hl:=iy
 have hs:sizeLine=16777216:=sizeLine_eq
 cases x with
 | non =>
  cases rx
  have e' : k=false:=e
  subst e'
  exact truthy_none ⟨H,I,q⟩
 | bl b =>
  cases rx
  have e' : k=b:=e
  subst e'
  exact wpAny_truthy_bool ⟨H,I,q⟩
 | int i =>
  obtain ⟨t,rfl⟩:=rx
  have e' : k=(i != 0):=e
  subst e'
  exact PySem.P.truthy_int ⟨H,I,q⟩
 | str y =>
  obtain ⟨t,rfl⟩:=rx
  obtain ⟨hy,e'⟩:y.length<=sizeLine/\k=((y.length:Int) != 0):=e
  subst e'
  exact PySem.P.truthy_str (by omega) ⟨H,I.tok _,q⟩
 | byt y =>
  obtain ⟨t,rfl⟩:=rx
  obtain ⟨hy,e'⟩:y.size<=sizeLine/\k=((y.size:Int) != 0):=e
  subst e'
  exact PySem.W.truthy_bytes (by omega) ⟨H,I.tok _,q⟩
 | ref p =>
  cases rx
  have e' : (∃ xs,SqL X.K H p xs/\k = !xs.isEmpty)\/(∃ xs,SqT X.K H p xs/\k = !xs.isEmpty)\/∃ kvs,H p=some (.dK kvs)/\k = !kvs.isEmpty:=e
  rcases e' with ⟨xs,hx,e'⟩ | ⟨xs,hx,e'⟩ | ⟨kvs,hx,e'⟩
  ·subst e'
   obtain ⟨its,r,pl,hz⟩:=I.list hx
   have hlen:=r.length
   exact wpAny_truthy_list pl.isList (by simp only [List.size_toArray];omega) ⟨H,I.tok _,by rw [mB r];exact q⟩
  ·subst e'
   obtain ⟨its,r,pl,hz⟩:=I.tuple hx
   have hlen:=r.length
   exact truthy_tuple pl (by simp only [List.size_toArray];omega) ⟨H,I.tok _,by rw [mB r];exact q⟩
  ·subst e'
   obtain ⟨hz,hS,vs,r,m⟩:kvs.length<=sizeLine/\(p == sysModules)=false/\∃ vs,KV kvs vs/\s.heap.DictOf (oY X.prog X.w) p vs:=I.hok p _ hx
   have hlen:kvs.length=vs.length:=Paired.length r
   exact wpAny_truthy_dict hS m (by omega) ⟨H,I.tok _,by rw [rn r];exact q⟩
 | _=>exact (show False from e).elim
theorem dQ (ha:PE X a ta) (he:∀ whole,isTrue a X.env whole=(do let v ← whole;standAt a.pos;holding [v] (truthy v))) :
  PT X a (fun σ H Q=>ta σ H fun x H'=>∃ k,yj X.K x H' k/\Q k H'):=by
 intro pins s σ H Q I h
 exact isTrue_plain (thn (ha pins s σ H _ I h) fun v s1 ⟨x,H1,I1,r1,q1⟩=>yk pins s1 σ H1 x v Q I1 r1 q1) (he _)
theorem dR:OpR X (binaryOp .Add) (fun x y H Q=>∃ i j,x=.str i/\y=.str j/\i.length+j.length<=sizeLine/\Q (.str (i ++ j)) H):=by
 intro pins s σ H x y v u Q I rx ry h
 obtain ⟨i,j,rfl,rfl,hz,q⟩:=h
 obtain ⟨t,rfl⟩:=rx
 obtain ⟨t',rfl⟩:=ry
 exact add_str (fun t' tk=>⟨.str (i ++ j),H,I.tok _,⟨_,rfl⟩,q⟩) hz
theorem ym:OpR X (binaryOp .Add) (fun x y H Q=>∃ i j,x=.byt i/\y=.byt j/\i.size+j.size<=16777216/\Q (.byt (i ++ j)) H):=by
 intro pins s σ H x y v u Q I rx ry h
 obtain ⟨i,j,rfl,rfl,hz,q⟩:=h
 obtain ⟨t,rfl⟩:=rx
 obtain ⟨t',rfl⟩:=ry
 exact PySem.W.KBy.add_bytes hz (fun t' tk=>⟨.byt (i ++ j),H,I.tok _,⟨_,rfl⟩,q⟩)
def AH (b:Expr):Prop:=∀ o i,subscripted b false o i=operate [o,i] (getItem o i)
theorem vals1 {x:V} {us:List Value} (r:Vals [x] us):∃ u,us=[u]/\RelV x u:=by
 cases r with
 | cons r1 r2=>cases r2;exact ⟨_,rfl,r1⟩
theorem vals2 {x y:V} {us:List Value} (r:Vals [x,y] us):∃ u w',us=[u,w']/\RelV x u/\RelV y w':=by
 cases r with
 | cons r1 r2 =>
  cases r2 with
  | cons r3 r4=>cases r4;exact ⟨_,_,rfl,r1,r3⟩
theorem oo (hc:X.calm=true):de X (.builtin "max") (fun xs H Q=>∃ i j,xs=[.int i,.int j]/\Q (.int (if j > i then j else i)) H):=by
 intro pins s σ H xs us Q I r h
 obtain ⟨i,j,rfl,q⟩:=h
 obtain ⟨u,w',rfl,⟨t,rfl⟩,⟨t',rfl⟩⟩:=vals2 r
 refine max_two_ints (I.ok.hd hc) fun h' tk k=>⟨_,H,I.kept k,?_,q⟩
 by_cases hj:j > i
 ·rw [if_pos hj,if_pos hj];exact ⟨_,rfl⟩
 ·rw [if_neg hj,if_neg hj];exact ⟨_,rfl⟩
theorem oq (hc:X.calm=true):de X (.builtin "min") (fun xs H Q=>∃ i j,xs=[.int i,.int j]/\Q (.int (if j < i then j else i)) H):=by
 intro pins s σ H xs us Q I r h
 obtain ⟨i,j,rfl,q⟩:=h
 obtain ⟨u,w',rfl,⟨t,rfl⟩,⟨t',rfl⟩⟩:=vals2 r
 refine min_two_ints (I.ok.hd hc) fun h' tk k=>⟨_,H,I.kept k,?_,q⟩
 by_cases hj:j < i
 ·rw [if_pos hj,if_pos hj];exact ⟨_,rfl⟩
 ·rw [if_neg hj,if_neg hj];exact ⟨_,rfl⟩
theorem kf:de X (.type "int") (fun xs H Q=>(∃ i,xs=[.int i]/\Q (.int i) H)\/∃ k,xs=[.bl k]/\Q (.int (if k then 1 else 0)) H):=by
 intro pins s σ H xs us Q I r h
 rcases h with ⟨i,rfl,q⟩ | ⟨k,rfl,q⟩
 ·obtain ⟨u,rfl,t,rfl⟩:=vals1 r
  exact call_int_int ⟨.int i,H,I,⟨_,rfl⟩,q⟩
 ·obtain ⟨u,rfl,r1⟩:=vals1 r
  cases r1
  exact call_int_bool ⟨.int (if k then 1 else 0),H,I.tok _,⟨_,rfl⟩,q⟩
def Qu (K:PySem.W.Frag) (x:V) (H:Hp) (n:Nat):Prop :=
 match x with
 | .str y=>y.length<=sizeLine/\n=y.length
 | .byt y=>y.size<=sizeLine/\n=y.size
 | .ref p=>(∃ xs,SqL K H p xs/\n=xs.length)\/∃ xs,SqT K H p xs/\n=xs.length
 | _=>False
end
end L2
namespace L2
open PySem PySem.Spec PyProof.Rows
structure rq (h:Heap) (x dx C:Addr) (mA:Str->Option Value):Prop where
 obj:h.get? x=some (PySem.W.instObj C dx)
 ns:h.Ns1 dx mA
 ne:dx ≠ x
theorem tE {h:Heap} {dx:Addr} {mA:Str->Option Value} (n:h.Ns1 dx mA):∃ od,h.get? dx=some od/\∀ name,PySem.W.lookIn name od=some (mA name):=by
 obtain ⟨o,es,ep,ho,hd,hk,_,hm⟩:=n
 refine ⟨o,ho,fun name=>?_⟩
 have e:=hm name
 unfold nsFind findBy at e
 rw [← Array.find?_toList] at e
 unfold PySem.W.lookIn
 rw [hd]
 dsimp only
 split
 ·rename_i y q
  rw [q] at e
  exact congrArg some e
 ·rename_i q
  rw [q] at e
  have a:es.toList.any (·.refKey)=false:=by
   rw [List.any_eq_false]
   intro y hy
   obtain ⟨z,t,Dz⟩:=hk y (Array.mem_toList_iff.mp hy)
   simp [DictEntry.refKey,Dz]
  have a' : ¬ es.toList.any (·.refKey)=true:=by rw [a];exact Bool.false_ne_true
  rw [if_neg a']
  exact congrArg some e
theorem rq.look {h:Heap} {x dx C:Addr} {mA:Str->Option Value} (I:rq h x dx C mA):∃ od,PySem.W.InstAt h x (PySem.W.instObj C dx) C (some od)/\∀ name,PySem.W.lookIn name od=some (mA name) :=
 let ⟨od,ho,hl⟩:=tE I.ns
 ⟨od,⟨I.obj,rfl,rfl,ho⟩,hl⟩
section
variable {prog:Program} {w:World} {A:Around} {E:Value->Shared->Prop} {s:Shared} {K:PySem.W.Frag} {x dx C f:Addr} {mA:Str->Option Value} {name:Str} {v:Value}
theorem get_map {expr:Bool} {Q:Value->Shared->Prop} (X:K.In s.heap) (I:rq s.heap x dx C mA) (hg:PySem.W.plainGet K C name=true) (hh:PySem.W.hasDictIn K C=true)
  (ha:PySem.W.findIn K (.ref C) name=some none) (hv:mA name=some v) (hv' : PySem.W.handedIn v=true) (h:Q v { s with toks:=s.toks+1 }) :
  wpAny (model prog w) A (getAttr (.ref x) name expr) Q E s:=by
 obtain ⟨od,J,hl⟩:=I.look
 exact PySem.W.get_value X J (PySem.W.plainGet_of hg).1 (PySem.W.findObj_own hh ha rfl (by rw [hl,hv])) hv' h
theorem uB {pl:Sem Bool} {Q:Value × List Value->Shared->Prop} (X:K.In s.heap) (I:rq s.heap x dx C mA) (hg:PySem.W.plainGet K C name=true)
  (hf:PySem.W.findIn K (.ref C) name=some (some (.ref f))) (ht:PySem.W.isFn K (.ref f)=true) (hv:mA name=none) (h:Q (.ref f,[.ref x]) s) :
  wpAny (model prog w) A (getMethod (.ref x) name pl) Q E s:=by
 obtain ⟨od,J,hl⟩:=I.look
 exact PySem.W.method_fn X J (PySem.W.plainGet_of hg).1 (PySem.W.plainGet_of hg).2 hf (beq_iff_eq.mp ht) (by show (PySem.W.lookIn name od).map (·.isSome)=some false;rw [hl,hv];rfl) h
theorem wq {ns:List Str} {Q:Unit->Shared->Prop} (X:K.In s.heap) (I:rq s.heap x dx C mA)
  (hs:PySem.W.findIn K (.ref C) "__setattr__" = some (some (.builtin "object.__setattr__"))) (hp:PySem.W.plainOver K C=true) (ht:PySem.W.takerIn K C name=some none) (hh:PySem.W.hasDictIn K C=true)
  (hw:PySem.Within mA ns) (hsz:ns.length<=sizeLine)
  (h:∀ h',rq h' x dx C (fun y=>if y=name then some v else mA y)->Heap.SameBut dx s.heap h'->Q () { s with heap:=h',toks:=s.toks+2 }) :
  wpAny (model prog w) A (setAttr (.ref x) name v) Q E s:=by
 obtain ⟨od,J,hl⟩:=I.look
 refine PySem.W.set_plain X J hs (PySem.W.osa_open (s:={ s with toks:=s.toks+1 }) (r:=none) X J hp ht fun b=>?_)
 obtain ⟨cd,hc,hd'⟩:=PySem.W.any_some hh
 have hx:s.heap.get? x=some ⟨.ref C,some dx,.plain,#[]⟩:=I.obj
 refine wpAny_bind (wpAny_pure (wpAny_bind (wpAny_bind (wpAny_loadPart hx (wpAny_bind (PySem.W.Looks.here (s:={ s with toks:=s.toks+1 }) (PySem.W.looks_clsIn X hc) ?_))))))
 rw [hd']
 refine wpAny_pure (a:=some dx) (wpAny_bind (wpAny_pure (wpAny_bind ?_)))
 refine wpAny_nsSet1 (s:={ s with toks:=s.toks+1 }) I.ns fun h' hn2 hs2=>?_
 obtain ⟨oD,esD,epD,hoD,hdD,hcD⟩:=hn2.count (PySem.Within.cons name v hw)
 refine wpAny_bind (wpAny_lookBehind hoD (by rw [hdD];exact pastItsLine_dict (Nat.le_trans hcD (by rw [List.length_cons];omega))) ?_)
 exact wpAny_pure (h _ ⟨(hs2.2 _ (Ne.symm I.ne)).trans I.obj,hn2,I.ne⟩ hs2)
theorem uC {R:Result->Shared->Prop} {vs:List Value} {kw:List (Str × Value)} (X:K.In s.heap) (hm:PySem.W.makesIn K C=true)
  (hi:PySem.W.findIn K (.ref C) "__init__" = some (some (.ref f))) (hf:PySem.W.typeIn K (.ref f)=some (.type "function"))
  (h:codeAny (model prog w) (A.under (.builtin "type.__call__" ⟨.ref C :: vs,kw⟩)) (.call (.ref f) ⟨.ref (s.heap.objs.size+1) :: vs,kw⟩) (PySem.W.InitBack (s.heap.objs.size+1) R)
   { s with heap:=(s.heap.push PySem.W.emptyDict).push (PySem.W.instObj C s.heap.objs.size) }) :
  codeAny (model prog w) A (.call (.ref C) ⟨vs,kw⟩) R s:=by
 obtain ⟨hh,g,d,t,os⟩:=s
 exact PySem.W.make_core (PySem.W.makes_of X hm) (PySem.W.looks_findIn X hi) (fun self=>PySem.W.bind_fn X self hf) (.inl rfl) h
end
def bp (f:Str) (v:V):List (Str × V)->List (Str × V)
 | []=>[(f,v)]
 | (g,x) :: r=>if g=f then (g,v) :: r else (g,x) :: bp f v r
theorem ly (f g:Str) (v:V):∀ fs:List (Str × V),(bp f v fs).lookup g=if g=f then some v else fs.lookup g
 | []=>by
  show List.lookup g [(f,v)]=_
  by_cases h:g=f
  ·have hb:(g == f)=true:=beq_iff_eq.mpr h
   simp only [List.lookup,hb,if_pos h]
  ·have hb:(g == f)=false:=beq_eq_false_iff_ne.mpr h
   simp only [List.lookup,hb,if_neg h]
 | (k,x) :: r=>by
  have ih:=ly f g v r
  rw [show bp f v ((k,x) :: r)=(if k=f then (k,v) :: r else (k,x) :: bp f v r) from rfl]
  by_cases hk:k=f
  ·rw [if_pos hk]
   by_cases h:g=k
   ·have hb:(g == k)=true:=beq_iff_eq.mpr h
    simp only [List.lookup,hb,if_pos (h.trans hk)]
   ·have hb:(g == k)=false:=beq_eq_false_iff_ne.mpr h
    simp only [List.lookup,hb,if_neg (fun e:g=f=>h (e.trans hk.symm))]
  ·rw [if_neg hk]
   by_cases h:g=k
   ·have hb:(g == k)=true:=beq_iff_eq.mpr h
    simp only [List.lookup,hb,if_neg (fun e:g=f=>hk (h.symm.trans e))]
   ·have hb:(g == k)=false:=beq_eq_false_iff_ne.mpr h
    simp only [List.lookup,hb]
    exact ih
theorem kg (f:Str) (v:V):∀ fs:List (Str × V),f ∈ (bp f v fs).map (·.1)/\∀ g,g ∈ fs.map (·.1)->g ∈ (bp f v fs).map (·.1)
 | []=>⟨by simp [bp],fun g h=>by simp at h⟩
 | (k,x) :: r=>by
  obtain ⟨i1,i2⟩:=kg f v r
  rw [show bp f v ((k,x) :: r)=(if k=f then (k,v) :: r else (k,x) :: bp f v r) from rfl]
  by_cases hk:k=f
  ·rw [if_pos hk]
   subst hk
   exact ⟨by simp,fun g h=>by simpa using h⟩
  ·rw [if_neg hk]
   refine ⟨?_,fun g h=>?_⟩
   ·rw [List.map_cons]
    exact List.mem_cons_of_mem _ i1
   ·rw [List.map_cons] at h ⊢
    rcases List.mem_cons.mp h with e | e
    ·exact List.mem_cons.mpr (.inl e)
    ·exact List.mem_cons_of_mem _ (i2 g e)
theorem lz (f:Str) (v:V):∀ fs:List (Str × V),(bp f v fs).length<=fs.length+1
 | []=>by simp [bp]
 | (k,x) :: r=>by
  have ih:=lz f v r
  rw [show bp f v ((k,x) :: r)=(if k=f then (k,v) :: r else (k,x) :: bp f v r) from rfl]
  by_cases hk:k=f
  ·rw [if_pos hk,List.length_cons,List.length_cons];omega
  ·rw [if_neg hk,List.length_cons,List.length_cons];omega
theorem nV.some_of {v:V} {o:Option Value} (r:nV (some v) o):∃ u,o=some u/\RelV v u:=by
 cases o with
 | none=>exact (show False from r).elim
 | some u=>exact ⟨u,rfl,r⟩
theorem nV.none_of {o:Option Value} (r:nV none o):o=none:=by
 cases o with
 | none=>rfl
 | some u=>exact (show False from r).elim
theorem ot {v:V} {u:Value} (r:RelV v u):PySem.W.handedIn u=true:=by
 cases v with
 | non=>cases (show u=Value.none from r);rfl
 | bl b=>cases (show u=Value.bool b from r);rfl
 | int i=>obtain ⟨t,e⟩:=(show ∃ t,u=Value.int i t from r);cases e;rfl
 | str x=>obtain ⟨t,e⟩:=(show ∃ t,u=Value.str x t from r);cases e;rfl
 | byt b=>obtain ⟨t,e⟩:=(show ∃ t,u=Value.bytes b t from r);cases e;rfl
 | flt b=>obtain ⟨t,e⟩:=(show ∃ t,u=Value.float b t from r);cases e;rfl
 | ref a=>cases (show u=Value.ref a from r);rfl
 | ty n=>cases (show u=Value.type n from r);rfl
section
variable {P:Program} {w:World} {H H' : Hp} {h h' : Heap} {a C dx:Addr} {fs fs' : List (Str × V)}
theorem lP (hok:HOk P w H h) (e:H a=some (.ins C dx fs)):∃ mA,rq h a dx C mA/\(∀ f,nV (fs.lookup f) (mA f))/\PySem.Within mA (fs.map (·.1))/\fs.length<=1000/\H dx=some (.own a):=by
 obtain ⟨d,z,ne,ob,mA,n,r,q⟩:=(show cL P w H h a (.ins C dx fs) from hok a _ e)
 exact ⟨mA,⟨ob,n,ne⟩,r,q,z,d⟩
end
structure Cls (K:PySem.W.Frag) (C:Addr):Prop where
 pg:PySem.W.plainGet K C Str.empty=true
 hd:PySem.W.hasDictIn K C=true
 po:PySem.W.plainOver K C=true
 sa:PySem.W.findIn K (.ref C) "__setattr__" = some (some (.builtin "object.__setattr__"))
theorem Cls.get {K:PySem.W.Frag} {C:Addr} (c:Cls K C) (f:Str):PySem.W.plainGet K C f=true:=c.pg
def bc (K:PySem.W.Frag) (C:Addr) (f:Str):Prop:=PySem.W.findIn K (.ref C) f=some none
theorem bc.taker {K:PySem.W.Frag} {C:Addr} {f:Str} (n:bc K C f):PySem.W.takerIn K C f=some none:=by
 unfold PySem.W.takerIn
 rw [show PySem.W.findIn K (.ref C) f=some none from n]
 rfl
structure Con (K:PySem.W.Frag) (C:Addr) (f:Str) (v:V) (u:Value):Prop where
 at_:PySem.W.findIn K (.ref C) f=some (some u)
 rel:RelV v u
 get:PySem.W.specialIn K u "__get__" = some none
 cp:PySem.W.copiedNames.contains f=false
structure Meth (K:PySem.W.Frag) (C:Addr) (m:Str) (f:Addr):Prop where
 at_:PySem.W.findIn K (.ref C) m=some (some (.ref f))
 fn:PySem.W.isFn K (.ref f)=true
 kp:PySem.W.keepIn K (.ref f)=true
section
variable {X:Cx} {pins:List (Addr × Obj)} {σ:St} {H:Hp} {s:Shared} {a C dx:Addr} {fs:List (Str × V)} {f:Str} {v:V} {A:Around} {E:Value->Shared->Prop}
theorem rA {b:Bool} {Q:Value->Shared->Prop} (I:Inv X pins σ H s) (e:H a=some (.ins C dx fs)) (c:Cls X.K C) (n:bc X.K C f) (l:fs.lookup f=some v)
  (h:∀ u s',Inv X pins σ H s'->RelV v u->Q u s'):wpAny (model X.prog X.w) A (getAttr (.ref a) f b) Q E s:=by
 obtain ⟨mA,O,r,_,_,_⟩:=lP I.hok e
 obtain ⟨u,hu,ru⟩:=nV.some_of (v:=v) (o:=mA f) (by rw [← l];exact r f)
 exact get_map I.kIn O (c.get f) c.hd n hu (ot ru) (h u _ (I.tok _) ru)
theorem mC {m:Str} {g:Addr} {pl:Sem Bool} {Q:Value × List Value->Shared->Prop} (I:Inv X pins σ H s) (e:H a=some (.ins C dx fs)) (c:Cls X.K C) (k:Meth X.K C m g) (l:fs.lookup m=none)
  (h:Q (.ref g,[.ref a]) s):wpAny (model X.prog X.w) A (getMethod (.ref a) m pl) Q E s:=by
 obtain ⟨mA,O,r,_,_,_⟩:=lP I.hok e
 have hn:mA m=none:=nV.none_of (by rw [← l];exact r m)
 exact uB I.kIn O (c.get m) k.at_ k.fn hn h
theorem rB {y:V} {u:Value} {Q:Unit->Shared->Prop} (I:Inv X pins σ H s) (e:H a=some (.ins C dx fs)) (c:Cls X.K C) (n:bc X.K C f) (hl:fs.length < 1000) (ry:RelV y u)
  (h:∀ s',Inv X pins σ (upd H a (.ins C dx (bp f y fs))) s'->Q () s'):wpAny (model X.prog X.w) A (setAttr (.ref a) f u) Q E s:=by
 obtain ⟨mA,O,r,wi,_,ho⟩:=lP I.hok e
 have hz:(fs.map (·.1)).length<=sizeLine:=by rw [List.length_map,sizeLine_eq];omega
 refine wq I.kIn O c.sa c.po n.taker c.hd wi hz fun h' O' sb=>h _ ?_
 have hd:∃ o,h'.get? dx=some o:=let ⟨o,_,_,e',_⟩:=O'.ns;⟨o,e'⟩
 refine I.write (x:=a) (e:=dx) (by rw [e];exact True.intro) (.inr ho) (fun b q hb z=>(sb.2 b hb).trans z) hd ?_
 refine ⟨by rw [aC O.ne];exact ho,?_,O.ne,O'.obj,_,O'.ns,fun g=>?_,fun g hg=>?_⟩
 ·have:=lz f y fs;omega
 ·show nV ((bp f y fs).lookup g) (if g=f then some u else mA g)
  rw [ly]
  by_cases q:g=f
  ·rw [if_pos q,if_pos q];exact ry
  ·rw [if_neg q,if_neg q];exact r g
 ·by_cases q:g=f
  ·rw [q];exact (kg f y fs).1
  ·refine (kg f y fs).2 g (wi g fun z=>hg ?_)
   show (if g=f then some u else mA g)=none
   rw [if_neg q];exact z
theorem Inv.made (I:Inv X pins σ H s):Inv X pins σ (upd (upd H s.heap.objs.size (.own (s.heap.objs.size+1))) (s.heap.objs.size+1) (.ins C s.heap.objs.size []))
  { s with heap:=(s.heap.push PySem.W.emptyDict).push (PySem.W.instObj C s.heap.objs.size) }:=by
 have e1:(s.heap.push PySem.W.emptyDict).get? s.heap.objs.size=some PySem.W.emptyDict:=Heap.get?_push_size s.heap rfl
 have e2:((s.heap.push PySem.W.emptyDict).push (PySem.W.instObj C s.heap.objs.size)).get? (s.heap.objs.size+1)=some (PySem.W.instObj C s.heap.objs.size):=by
  have:=Heap.get?_push_size (s.heap.push PySem.W.emptyDict) (o:=PySem.W.instObj C s.heap.objs.size) rfl
  rwa [Heap.size_push] at this
 have e3:(s.heap.push PySem.W.emptyDict).Ns s.heap.objs.size (fun _=>none):=⟨PySem.W.emptyDict,#[],_,e1,rfl,(fun e he=>absurd he (by simp)),fun _=>rfl⟩
 have I1:=I.laid (a:=s.heap.objs.size) (o:=.own (s.heap.objs.size+1)) (h':=s.heap.push PySem.W.emptyDict) (t':=s.toks) (fun b u q=>Heap.get?_push_of_some _ q) (Nat.le_refl _) ⟨_,e1⟩
 refine I1.laid (a:=s.heap.objs.size+1) (o:=.ins C s.heap.objs.size []) (t':=s.toks) (fun b u q=>Heap.get?_push_of_some _ q) (Nat.le_of_eq (Heap.size_push _ _)) ?_
 have ne:s.heap.objs.size ≠ s.heap.objs.size+1:=Nat.ne_of_lt (Nat.lt_succ_self _)
 refine ⟨by rw [aC ne,ae],Nat.zero_le _,ne,e2,fun _=>none,(Heap.Ns1.of_empty e3).at fun o q=>Heap.get?_push_of_some _ q,fun _=>True.intro,fun y hy=>absurd rfl hy⟩
theorem wt {prog:Program} {w:World} {env:Env} {e:Expr} {f:Str} {pos:Pos} {s:Shared} {Q:Value->Shared->Prop} (hb:attributeBase e f env (eval e env)=eval e env)
  (h:wpAny (model prog w) A (eval e env) (fun o s₁=>wpAny (model prog w) A (getAttr o f true) Q E s₁) E s):wpAny (model prog w) A (eval (.Attribute e f pos) env) Q E s :=
 Attribute_any_ h (by rw [arm_eval_Attribute,hb])
end
def AI (K:PySem.W.Frag) (ta:TE) (f:Str):TE:=fun σ H Q=>ta σ H fun x H1=>∃ a C dx fs v,x=.ref a/\H1 a=some (.ins C dx fs)/\Cls K C/\bc K C f/\fs.lookup f=some v/\Q v H1
def Qv (K:PySem.W.Frag) (ta:TE) (f:Str):TE:=fun σ H Q=>ta σ H fun x H1=>∃ a C dx fs v u,x=.ref a/\H1 a=some (.ins C dx fs)/\Cls K C/\Con K C f v u/\fs.lookup f=none/\Q v H1
def DA (K:PySem.W.Frag) (ta tv:TE) (f:Str):TS:=fun D σ H=>tv σ H fun y H1=>ta σ H1 fun x H2=>∃ a C dx fs,x=.ref a/\H2 a=some (.ins C dx fs)/\Cls K C/\bc K C f/\fs.length < 1000 /\
 D.nx σ (upd H2 a (.ins C dx (bp f y fs)))
def Qw (X:Cx) (op:Operator) (rd:V->V->Hp->VK->Prop):Prop :=
 ∀ (pins:List (Addr × Obj)) (s:Shared) (σ:St) (H:Hp) (x y:V) (u v:Value) (Q:VK),Inv X pins σ H s->RelV x u->RelV y v->rd x y H Q->wpAny (model X.prog X.w) X.A (inplaceOp op u v) (EP X pins σ Q) X.xe s
def C8 (K:PySem.W.Frag) (ta tv:TE) (rd:V->V->Hp->VK->Prop) (f:Str):TS:=fun D σ H=>ta σ H fun x H1=>∃ a C dx fs v,x=.ref a/\H1 a=some (.ins C dx fs)/\Cls K C/\bc K C f/\fs.lookup f=some v /\
 tv σ H1 fun y H2=>rd v y H2 fun z H3=>∃ dx' fs',H3 a=some (.ins C dx' fs')/\fs'.length < 1000/\D.nx σ (upd H3 a (.ins C dx' (bp f z fs')))
section
variable {X:Cx} {o e value:Expr} {f:Str} {pos pos' Qx:Pos} {ta tv:TE}
theorem ar (he:PE X e ta) (hb:attributeBase e f X.env (eval e X.env)=eval e X.env):PE X (.Attribute e f pos) (AI X.K ta f):=by
 intro pins s σ H Q I h
 refine wt hb (thn (he pins s σ H _ I h) fun u s1 ⟨x,H1,I1,rx,a,C,dx,fs,v,ex,ea,c,n,l,q⟩=>?_)
 subst ex
 obtain rfl:u=Value.ref a:=rx
 exact rA I1 ea c n l fun u' s2 I2 ru=>⟨v,H1,I2,ru,q⟩
theorem cy (ha:PE X o ta) (hv:PE X value tv) (hs:swapsWith value (some (.Attribute o f pos')) pos.line X.env=pure false):PS X (.Assign [.Attribute o f pos'] value pos) (DA X.K ta tv f):=by
 intro pins s σ H D I h
 refine plainObj_wpAny_Assign_Attribute (thn (hv pins s σ H _ I h) fun u s1 ⟨y,H1,I1,ry,q⟩=>thn (ha pins s1 σ H1 _ I1 q) fun ov s2 ⟨x,H2,I2,rx,a,C,dx,fs,ex,ea,c,n,l,q2⟩=>?_) hs
 subst ex
 obtain rfl:ov=Value.ref a:=rx
 exact rB I2 ea c n l ry fun s3 I3=>⟨σ,_,I3,q2⟩
def Qy:V->V->Hp->VK->Prop:=fun x y H Q=>∃ i j,x=.int i/\y=.int j/\Q (.int (i+j)) H
def Qz:V->V->Hp->VK->Prop:=fun x y H Q=>∃ i j,x=.int i/\y=.int j/\Q (.int (i - j)) H
end
section
variable {X:Cx} {pins:List (Addr × Obj)} {σ:St} {H:Hp} {s:Shared} {A:Around} {E:Value->Shared->Prop} {Q:Value->Shared->Prop} {c:Value} {b:Bool}
inductive kh (K:PySem.W.Frag) (H:Hp):V->Value->Prop where
 | non:kh K H .non (.type "NoneType")
 | bl (x:Bool):kh K H (.bl x) (.type "bool")
 | int (i:Int):kh K H (.int i) (.type "int")
 | str (x:Str):kh K H (.str x) (.type "str")
 | flt (x:UInt64):kh K H (.flt x) (.type "float")
 | lst {a:Addr} {xs:List V} (e:H a=some (.lst xs)):kh K H (.ref a) (.type "list")
 | frz {a:Addr} {o:Obj} {xs:List V} (e:H a=some (.frz o (.lst xs))):kh K H (.ref a) (.type "list")
 | tup {a:Addr} {xs:List V} (e:H a=some (.tup xs)):kh K H (.ref a) (.type "tuple")
 | dK {a:Addr} {kvs:List (Key × V)} (e:H a=some (.dK kvs)):kh K H (.ref a) (.type "dict")
 | dT {a:Addr} {kvs:List (List Key × V)} (e:H a=some (.dT kvs)):kh K H (.ref a) (.type "dict")
 | ins {a C dx:Addr} {fs:List (Str × V)} (e:H a=some (.ins C dx fs)) (cl:Cls K C) (ha:PySem.W.findIn K (.ref C) "__class__" = some (some (.builtin "object.__class__")))
   (hn:PySem.W.specialIn K (.builtin "object.__class__") "__get__" = some (some (.builtin "getset_descriptor.__get__"))) (htk:PySem.W.takesIn K (.builtin "object.__class__")=some true)
   (hm:PySem.W.mroIn K C (.type "object")=some true):kh K H (.ref a) (.ref C)
theorem tF {x:V} {u t:Value} (I:Inv X pins σ H s) (rx:RelV x u) (ty:kh X.K H x t) (e:PySem.W.kitOne X.K t c=some b) (h:∀ tk,Q (.bool b) { s with toks:=tk }) :
  wpAny (model X.prog X.w) A (call (.builtin "isinstance") [u,c]) Q E s:=by
 cases ty with
 | non=>cases (show u=Value.none from rx);exact PySem.W.kia_one PySem.W.kitx_none I.kIn True.intro e (fun z=>nomatch z) h
 | bl y=>cases (show u=Value.bool y from rx);exact PySem.W.kia_one PySem.W.kitx_bool I.kIn True.intro e (fun z=>nomatch z) h
 | int i=>obtain ⟨t,q⟩:=(show ∃ t,u=Value.int i t from rx);cases q;exact PySem.W.kia_one PySem.W.kitx_int I.kIn True.intro e (fun z=>nomatch z) h
 | str y=>obtain ⟨t,q⟩:=(show ∃ t,u=Value.str y t from rx);cases q;exact PySem.W.kia_one PySem.W.kitx_str I.kIn True.intro e (fun z=>nomatch z) h
 | flt y=>obtain ⟨t,q⟩:=(show ∃ t,u=Value.float y t from rx);cases q;exact PySem.W.kia_one PySem.W.kitx_float I.kIn True.intro e (fun z=>nomatch z) h
 | @lst a xs ea =>
  cases (show u=Value.ref a from rx)
  obtain ⟨_,_,n,_,h1⟩:=(show cL X.prog X.w H s.heap a (.lst xs) from I.hok a _ ea)
  exact PySem.W.kia_one PySem.W.kitx_list I.kIn ⟨_,h1,rfl⟩ e (fun z=>nomatch z) h
 | @frz a ob xs ea =>
  cases (show u=Value.ref a from rx)
  obtain ⟨_,_,_,n,_,h1⟩:=(show cL X.prog X.w H s.heap a (.frz ob (.lst xs)) from I.hok a _ ea)
  exact PySem.W.kia_one PySem.W.kitx_list I.kIn ⟨_,h1,rfl⟩ e (fun z=>nomatch z) h
 | @tup a xs ea =>
  cases (show u=Value.ref a from rx)
  obtain ⟨_,_,_,p⟩:=(show cL X.prog X.w H s.heap a (.tup xs) from I.hok a _ ea)
  obtain ⟨o,h1,h2,_⟩:=p
  exact PySem.W.kia_one PySem.W.kitx_tuple I.kIn ⟨o,h1,h2⟩ e (fun z=>nomatch z) h
 | @dK a kvs ea =>
  cases (show u=Value.ref a from rx)
  obtain ⟨_,_,vs,_,p⟩:=(show cL X.prog X.w H s.heap a (.dK kvs) from I.hok a _ ea)
  obtain ⟨o,es,ep,h1,h2,_⟩:=p
  exact PySem.W.kia_one PySem.W.kitx_dict I.kIn ⟨o,h1,h2.1⟩ e (fun z=>nomatch z) h
 | @dT a kvs ea =>
  cases (show u=Value.ref a from rx)
  obtain ⟨_,_,xs,_,o,es,ep,h1,h2,_⟩:=(show cL X.prog X.w H s.heap a (.dT kvs) from I.hok a _ ea)
  exact PySem.W.kia_one PySem.W.kitx_dict I.kIn ⟨o,h1,h2.1⟩ e (fun z=>nomatch z) h
 | @ins a C dx fs ea cl ha hn htk hm =>
  cases (show u=Value.ref a from rx)
  obtain ⟨mA,O,_⟩:=lP I.hok ea
  obtain ⟨od,J,_⟩:=O.look
  exact PySem.W.kia_one (PySem.W.kitx_own (cl.get _) cl.hd ha hn htk hm) I.kIn J e (fun z=>nomatch z) h
end
end L2
namespace L2
open PySem PySem.Spec PyProof.Rows
structure bZ (k:Nat) (A:Around):Prop where
 hd:A.handled=none
 dp:A.depth+3 * k+5 < recursionLimit
 un:A.units+16 * k+200 < cLine
theorem bZ.mono {j k:Nat} {A:Around} (r:bZ k A) (h:j<=k):bZ j A:=⟨r.hd,by have:=r.dp;omega,by have:=r.un;omega⟩
theorem bZ.deeper {k:Nat} {A:Around} (r:bZ (k+1) A) (env:Env):bZ k (A.deeper env) :=
 ⟨r.hd,by have:=r.dp;show A.depth+1+3 * k+5 < _;omega,by have:=r.un;show A.units+3+16 * k+200 < _;omega⟩
theorem rC {A:Around} {C:Addr} {us:List Value} {kw:List (Str × Value)} : (A.under (.builtin "type.__call__" ⟨.ref C :: us,kw⟩)).depth=A.depth+1:=by
 first | rfl | simp [Around.under,Code.weight,Code.isCreation,Code.isGuard,Code.isCaller,Code.frames,Code.isFrame,guardIds]
theorem rD {A:Around} {C:Addr} {us:List Value} {kw:List (Str × Value)} : (A.under (.builtin "type.__call__" ⟨.ref C :: us,kw⟩)).units=A.units+1:=by
 first | rfl | simp [Around.under,Code.cUnits,Code.frames,Code.isFrame]
theorem bZ.make {k:Nat} {A:Around} (r:bZ (k+1) A) (C:Addr) (us:List Value) (kw:List (Str × Value)):bZ k (A.under (.builtin "type.__call__" ⟨.ref C :: us,kw⟩)) :=
 ⟨r.hd,by have:=r.dp;rw [rC];omega,by have:=r.un;rw [rD];omega⟩
theorem bZ.depth {k:Nat} {A:Around} (r:bZ k A):A.depth < recursionLimit:=by have:=r.dp;omega
theorem bZ.units {k:Nat} {A:Around} (r:bZ k A):A.units+64 < cLine:=by have:=r.un;omega
def yn:TA:=fun _ H Q=>Q [] H
def AJ (ta:TE) (tr:TA):TA:=fun σ H Q=>ta σ H fun x H1=>tr σ H1 fun xs H2=>Q (x :: xs) H2
section
variable {X:Cx} {e:Expr} {es:List Expr} {te:TE} {t:TA} {pos:Pos}
theorem af:PA X [] yn:=fun _ _ _ _ H Q I h=>Calls.spliced_nil ⟨[],H,I,.nil,h⟩
theorem aa (ha:PE X e te) (hr:PA X es t) (hs:starEach (e :: es) X.env=(false,eval e X.env) :: starEach es X.env:=by rfl):PA X (e :: es) (AJ te t):=by
 intro pos pins s σ H Q I h
 rw [hs]
 show wpAny _ _ (spliced ((false,eval e X.env) :: backTo pos (starEach es X.env))) _ _ s
 refine Calls.spliced_cons (thn (ha pins s σ H _ I h) fun u s1 ⟨x,H1,I1,r1,q1⟩=>?_)
 exact thn (hr pos pins s1 σ H1 _ I1 q1) fun us s2 ⟨xs,H2,I2,r2,q2⟩=>⟨x :: xs,H2,I2,.cons r1 r2,q2⟩
def DB (t:TA):TE:=fun σ H Q=>t σ H fun xs H1=>xs.length<=sizeLine/\∀ p,H1 p=none->Q (.ref p) (upd H1 p (.tup xs))
def DC (t:TA):TE:=fun σ H Q=>t σ H fun xs H1=>xs.length<=sizeLine/\∀ p,H1 p=none->Q (.ref p) (upd H1 p (.lst xs))
theorem bB {x1} (h:PA X es t):PE X (.Tuple es x1 pos) (DB t):=by
 intro pins s σ H Q I hq
 refine wpAny_Tuple_spliced (thn (h pos pins s σ H _ I hq) fun us s1 ⟨xs,H1,I1,r,z,q⟩=>⟨by rw [← r.length];exact z,?_⟩)
 have hf:H1 s1.heap.objs.size=none:=I1.hok.fresh (Nat.le_refl _)
 refine ⟨.ref s1.heap.objs.size,upd H1 s1.heap.objs.size (.tup xs),I1.laid (t':=s1.toks) (fun b u e=>Heap.get?_push_of_some _ e) (Nat.le_refl _) ?_,rfl,q _ hf⟩
 exact ⟨z,us,r,⟨_,Heap.get?_push_size _ rfl,rfl,_,rfl⟩⟩
theorem aX (h:PA X es t):PE X (.List es pos) (DC t):=by
 intro pins s σ H Q I hq
 refine wpAny_List_spliced (thn (h pos pins s σ H _ I hq) fun us s1 ⟨xs,H1,I1,r,z,q⟩=>⟨by rw [← r.length];exact z,?_⟩)
 have hf:H1 s1.heap.objs.size=none:=I1.hok.fresh (Nat.le_refl _)
 refine ⟨.ref s1.heap.objs.size,upd H1 s1.heap.objs.size (.lst xs),I1.laid (t':=s1.toks) (fun b u e=>Heap.get?_push_of_some _ e) (Nat.le_refl _) ?_,rfl,q _ hf⟩
 exact ⟨z,us,0,r,Heap.get?_push_size _ rfl⟩
end
abbrev Sp:=List V->Hp->VK->XK->Prop
abbrev CXT:=List Env->Hp->Shared->XK->Value->Shared->Prop
structure rE (P:Program) (w:World) (K:PySem.W.Frag) (mg:Str->Option Value) (base:Heap) (A:Around) (outer:List Env) (s:Shared) (H:Hp):Prop where
 frames:A.frames=some outer
 mod:Mod K mg base
 bs:∀ b o,base.get? b=some o->s.heap.get? b=some o/\H b=none
 bsz:base.objs.size<=s.heap.objs.size
 funs:s.heap.FunFrames base outer
 frf:∀ b ∈ frs outer,H b=none
 hok:HOk P w H s.heap
 bare:AllBare s.gens
def CE (outer:List Env) (P:Program) (w:World) (H:Hp) (s:Shared) (Q:VK) (u:Value) (s' : Shared):Prop :=
 ∃ v H',s'.os=s.os/\AllBare s'.gens/\Un (frs outer) [] H H' s.heap s'.heap/\HOk P w H' s'.heap/\RelV v u/\Q v H'
def CR (CX:CXT) (outer:List Env) (P:Program) (w:World) (H:Hp) (s:Shared) (Q:VK) (E:XK) (r:Result) (s' : Shared):Prop :=
 match r with
 | .ok (.ret u)=>CE outer P w H s Q u s'
 | .ok _=>False
 | .error e=>CX outer H s E e s'
structure aR (P:Program) (w:World) (K:PySem.W.Frag) (mg:Str->Option Value) (base:Heap) (CX:CXT) (k:Nat) (f:Addr) (fd:FuncData) (ps:List Str) (sp:Sp):Prop where
 len:∀ vs H Q E,sp vs H Q E->vs.length=ps.length
 run:∀ (A:Around) (outer:List Env) (s:Shared) (H:Hp) (args:Args) (us:List Value) (vs:List V) (Q:VK) (E:XK),bZ k A->rE P w K mg base A outer s H->BindsTo s fd args (ps.zip us)->Vals vs us->sp vs H Q E ->
  codeAny (model P w) A (.call (.ref f) args) (CR CX outer P w H s Q E) s
theorem aR.mono {P:Program} {w:World} {K:PySem.W.Frag} {mg:Str->Option Value} {base:Heap} {CX:CXT} {j k:Nat} {f:Addr} {fd:FuncData} {ps:List Str} {sp:Sp} (F:aR P w K mg base CX j f fd ps sp) (h:j<=k) :
  aR P w K mg base CX k f fd ps sp:=⟨F.len,fun A outer s H args us vs Q E hr=>F.run A outer s H args us vs Q E (hr.mono h)⟩
theorem rE.make {P:Program} {w:World} {K:PySem.W.Frag} {mg:Str->Option Value} {base:Heap} {A:Around} {outer:List Env} {s:Shared} {H:Hp} (e:rE P w K mg base A outer s H) (C:Addr) (us:List Value) (kw:List (Str × Value)) :
  rE P w K mg base (A.under (.builtin "type.__call__" ⟨.ref C :: us,kw⟩)) outer s H:=⟨by first | exact e.frames | (simpa [Around.under,Code.envs,Code.isFrame,pushEnvs] using e.frames),e.mod,e.bs,e.bsz,e.funs,e.frf,e.hok,e.bare⟩
section
variable {X:Cx} {pins:List (Addr × Obj)} {σ:St} {H:Hp} {s s' : Shared}
theorem Inv.env0 (I:Inv X pins σ H s):rE X.prog X.w X.K X.mg X.base X.A X.stack s H :=
 ⟨I.ok.frames,I.ok.mod,I.bs,Nat.le_trans I.ok.bsz I.sz,I.stack,I.stkFree,I.hok,I.bare⟩
theorem Inv.after {Q:VK} {u:Value} (I:Inv X pins σ H s) (h:CE X.stack X.prog X.w H s Q u s'):EP X pins σ Q u s':=by
 obtain ⟨v,H',os,bare,un,hok,r,q⟩:=h
 obtain ⟨hh,g,d,t,os'⟩:=s'
 obtain rfl:os'=s.os:=os
 exact ⟨v,H',I.call (h':=hh) (g':=g) (d':=d) (t':=t) (ch:=[]) un hok bare (fun b z=>absurd z (by simp)),r,q⟩
end
def AK (sp:Sp) (dvs:List V) (E:XK) (t:TA):TE:=fun σ H Q=>t σ H fun vs H1=>sp (vs ++ dvs) H1 Q E
def P9 (C:Addr) (m:Str) (sp:Sp) (dvs:List V) (E:XK) (ta:TE) (t:TA):TE:=fun σ H Q=>ta σ H fun x H1=>∃ a dx fs,x=.ref a/\H1 a=some (.ins C dx fs)/\fs.lookup m=none /\
 t σ H1 fun vs H2=>sp (x :: (vs ++ dvs)) H2 Q E
def xq (C:Addr) (sp:Sp) (dvs:List V) (E:XK) (t:TA):TE:=fun σ H Q=>t σ H fun vs H1=>∀ x dx,H1 x=none->H1 dx=none->dx ≠ x ->
 sp (.ref x :: (vs ++ dvs)) (upd (upd H1 dx (.own x)) x (.ins C dx [])) (fun v H2=>v=.non/\Q (.ref x) H2) E
def Binds (K:PySem.W.Frag) (fd:FuncData) (ps:List Str) (ds:List Value):Prop :=
 ∀ (s:Shared) (us:List Value),K.In s.heap->(us ++ ds).length=ps.length->BindsTo s fd ⟨us,[]⟩ (ps.zip (us ++ ds))
theorem Binds.all {K:PySem.W.Frag} {fd:FuncData} {ps:List Str} (h:∀ us:List Value,us.length=ps.length->bindArgs fd ⟨us,[]⟩=pure (ps.zip us)):Binds K fd ps []:=fun s us _ hl=>by
 rw [List.append_nil] at hl ⊢
 exact .of_eq (h us hl)
def Passes (CX:CXT) (X:Cx) (E:XK):Prop:=∀ (pins:List (Addr × Obj)) (σ:St) (H:Hp) (s:Shared) (e:Value) (s' : Shared),Inv X pins σ H s->CX X.stack H s E e s'->X.xe e s'
section
variable {X:Cx} {CX:CXT} {k:Nat} {f C:Addr} {fd:FuncData} {ps:List Str} {sp:Sp} {dvs:List V} {ds:List Value} {E:XK} {x m:Str} {p pos apos:Pos} {e o:Expr} {es:List Expr} {ta:TE} {t:TA}
theorem uD {pins:List (Addr × Obj)} {σ:St} {H:Hp} {s:Shared} {Q:VK} {us:List Value} {vs:List V} (F:aR X.prog X.w X.K X.mg X.base CX k f fd ps sp) (hr:bZ k X.A) (hb:Binds X.K fd ps ds) (hd:Vals dvs ds) (hx:Passes CX X E)
  (I:Inv X pins σ H s) (r:Vals vs us) (h:sp (vs ++ dvs) H Q E):wpAny (model X.prog X.w) X.A (call (.ref f) us) (EP X pins σ Q) X.xe s:=by
 have r2:Vals (vs ++ dvs) (us ++ ds):=r.append hd
 have hl:(us ++ ds).length=ps.length:=by rw [← r2.length];exact F.len _ _ _ _ h
 refine wpAny_call (codeAny_mono (F.run X.A X.stack s H ⟨us,[]⟩ (us ++ ds) (vs ++ dvs) Q E hr I.env0 (hb s us I.kIn hl) r2 h) fun r s' hq=>?_)
 cases r with
 | error e=>exact hx pins σ H s e s' I hq
 | ok fl =>
  cases fl with
  | ret u=>exact I.after hq
  | next=>exact False.elim hq
  | brk=>exact False.elim hq
  | cont=>exact False.elim hq
theorem wu (F:aR X.prog X.w X.K X.mg X.base CX k f fd ps sp) (hr:bZ k X.A) (hg:Gl X x) (hm:X.mg x=some (.ref f)) (hk:PySem.W.keepIn X.K (.ref f)=true) (hb:Binds X.K fd ps ds) (hd:Vals dvs ds) (hx:Passes CX X E)
  (ha:PA X (e :: es) t) (hdb:(x == ("__debug__" : Str))=false:=by decide) (he:starEach (e :: es) X.env=(false,eval e X.env) :: starEach es X.env:=by rfl) (hpl:(backTo pos (starEach es X.env)).any (·.1)=false:=by rfl) :
  PE X (.Call (.Name x p) (e :: es) [] pos) (AK sp dvs E t):=by
 intro pins s σ H Q I h
 refine wpAny_Call_Name_kw (dF I hg hm ?_ hdb)
 refine PySem.W.callWith_K (h₀:=X.base) I.ok.mod.kin hk (thn (ha pos pins s σ H _ I h) fun us s1 ⟨vs,H1,I1,r,q⟩=>⟨I1.kIn,?_⟩) he hpl
 exact uD F hr hb hd hx I1 r q
structure Mk (K:PySem.W.Frag) (C f:Addr):Prop where
 makes:PySem.W.makesIn K C=true
 init:PySem.W.findIn K (.ref C) "__init__" = some (some (.ref f))
 fn:PySem.W.isFn K (.ref f)=true
 kp:PySem.W.keepIn K (.ref C)=true
theorem qH {pins:List (Addr × Obj)} {σ:St} {H:Hp} {s:Shared} {Q:VK} {us:List Value} {vs:List V} (M:Mk X.K C f) (F:aR X.prog X.w X.K X.mg X.base CX k f fd ps sp) (hr:bZ (k+1) X.A) (hb:Binds X.K fd ps ds) (hd:Vals dvs ds)
  (hx:Passes CX X E) (I:Inv X pins σ H s) (r:Vals vs us)
  (h:∀ x dx,H x=none->H dx=none->dx ≠ x->sp (.ref x :: (vs ++ dvs)) (upd (upd H dx (.own x)) x (.ins C dx [])) (fun v H2=>v=.non/\Q (.ref x) H2) E) :
  wpAny (model X.prog X.w) X.A (call (.ref C) us) (EP X pins σ Q) X.xe s:=by
 have hq:=h (s.heap.objs.size+1) s.heap.objs.size (I.hok.fresh (Nat.le_succ _)) (I.hok.fresh (Nat.le_refl _)) (Nat.ne_of_lt (Nat.lt_succ_self _))
 have I2:=Inv.made (C:=C) I
 have r2:Vals (V.ref (s.heap.objs.size+1) :: (vs ++ dvs)) (Value.ref (s.heap.objs.size+1) :: (us ++ ds)):=.cons rfl (r.append hd)
 have hl:(Value.ref (s.heap.objs.size+1) :: us ++ ds).length=ps.length:=by
  have e:=r2.length
  rw [F.len _ _ _ _ hq] at e
  exact e.symm
 refine wpAny_call (uC (f:=f) I.kIn M.makes M.init (beq_iff_eq.mp M.fn) (codeAny_mono (F.run _ X.stack _ _ ⟨Value.ref (s.heap.objs.size+1) :: us,[]⟩ (Value.ref (s.heap.objs.size+1) :: (us ++ ds)) _ _ E (hr.make C us [])
  (I2.env0.make C us []) (hb _ (Value.ref (s.heap.objs.size+1) :: us) I2.kIn hl) r2 hq) fun r s' hq'=>?_))
 cases r with
 | error e=>exact hx pins σ _ _ e s' I2 hq'
 | ok fl =>
  cases fl with
  | ret u =>
   obtain ⟨v,H',I3,rv,ev,q3⟩:=I2.after hq'
   subst ev
   exact ⟨rv,⟨V.ref (s.heap.objs.size+1),H',I3,rfl,q3⟩⟩
  | next=>exact False.elim hq'
  | brk=>exact False.elim hq'
  | cont=>exact False.elim hq'
theorem sM (M:Mk X.K C f) (F:aR X.prog X.w X.K X.mg X.base CX k f fd ps sp) (hr:bZ (k+1) X.A) (hg:Gl X x) (hm:X.mg x=some (.ref C)) (hb:Binds X.K fd ps ds) (hd:Vals dvs ds) (hx:Passes CX X E)
  (ha:PA X (e :: es) t) (hdb:(x == ("__debug__" : Str))=false:=by decide) (he:starEach (e :: es) X.env=(false,eval e X.env) :: starEach es X.env:=by rfl) (hpl:(backTo pos (starEach es X.env)).any (·.1)=false:=by rfl) :
  PE X (.Call (.Name x p) (e :: es) [] pos) (xq C sp dvs E t):=by
 intro pins s σ H Q I h
 refine wpAny_Call_Name_kw (dF I hg hm ?_ hdb)
 refine PySem.W.callWith_K (h₀:=X.base) I.ok.mod.kin M.kp (thn (ha pos pins s σ H _ I h) fun us s1 ⟨vs,H1,I1,r,q⟩=>⟨I1.kIn,?_⟩) he hpl
 exact qH M F hr hb hd hx I1 r q
theorem uE (M:Mk X.K C f) (F:aR X.prog X.w X.K X.mg X.base CX k f fd ps sp) (hr:bZ (k+1) X.A) (hg:Gl X x) (hm:X.mg x=some (.ref C)) (hb:Binds X.K fd ps ds) (hd:Vals dvs ds) (hx:Passes CX X E)
  (hdb:(x == ("__debug__" : Str))=false:=by decide):PE X (.Call (.Name x p) [] [] pos) (xq C sp dvs E yn):=by
 intro pins s σ H Q I h
 refine wpAny_Call_Name_kw (dF I hg hm ?_ hdb)
 exact PySem.W.callWith_K0 I.kIn M.kp (qH (us:=[]) M F hr hb hd hx I .nil h)
end
def PK (X:Cx) (kws:List Keyword) (t:TA):Prop :=
 ∀ (pos:Pos) (pins:List (Addr × Obj)) (s:Shared) (σ:St) (H:Hp) (Q:List V->Hp->Prop),Inv X pins σ H s->t σ H Q->wpAny (model X.prog X.w) X.A (evalAll ((backToKw pos (keywordEach kws X.env)).map (·.2))) (AP X pins σ Q) X.xe s
section
variable {X:Cx} {CX:CXT} {k:Nat} {f C:Addr} {fd:FuncData} {ps ks:List Str} {sp:Sp} {E:XK} {x m:Str} {p pos apos QA:Pos} {e o:Expr} {es:List Expr} {kws:List Keyword} {te ta:TE} {t tk:TA} {nm:Option Str}
structure DD (K:PySem.W.Frag) (fd:FuncData) (ps ks:List Str) (g:List Value->List Value->List Value) (gV:List V->List V->List V):Prop where
 to:∀ (s:Shared) (us ws:List Value),K.In s.heap->(g us ws).length=ps.length->BindsTo s fd ⟨us,ks.zip ws⟩ (ps.zip (g us ws))
 rel:∀ {vs:List V} {us:List Value} {zs:List V} {ws:List Value},Vals vs us->Vals zs ws->Vals (gV vs zs) (g us ws)
def DE (sp:Sp) (gV:List V->List V->List V) (E:XK) (t tk:TA):TE:=fun σ H Q=>t σ H fun vs H1=>tk σ H1 fun zs H2=>sp (gV vs zs) H2 Q E
variable {g:List Value->List Value->List Value} {gV:List V->List V->List V}
end
structure ax (N P:List Str) (sc:Scope):Prop where
 kind:sc.kind=.function
 co:sc.isCoroutine=false
 gen:sc.isGenerator=false
 nd:N.Nodup
 pre:N.take P.length=P
 par:∀ x ∈ P,sc.names.lookup x=some .local\/sc.names.lookup x=some .cell
 nofree:∀ y ∈ sc.names,y.2 ≠ .free
theorem ox {kindOf:Str->Option NameKind} {x:Str} : ∀ {binds:List (Str × Value)} {m:Str->Option Value},(∀ v,(x,v) ∉ binds)->bindL kindOf binds m x=m x
 | [],_,_=>rfl
 | (n,v) :: r,m,h=>by
  unfold bindL
  rw [ox fun w hw=>h w (List.mem_cons_of_mem _ hw)]
  split
  ·have:x ≠ n:=by rintro rfl;exact h v List.mem_cons_self
   simp [this]
  ·rfl
theorem oy {kindOf:Str->Option NameKind} {x:Str} : ∀ {binds:List (Str × Value)} {m:Str->Option Value},(∀ v,(x,v) ∉ binds)->bindC kindOf binds m x=m x
 | [],_,_=>rfl
 | (n,v) :: r,m,h=>by
  unfold bindC
  rw [oy fun w hw=>h w (List.mem_cons_of_mem _ hw)]
  split
  ·rfl
  ·have:x ≠ n:=by rintro rfl;exact h v List.mem_cons_self
   simp [this]
theorem oz {kindOf:Str->Option NameKind} {x:Str} {v:Value} : ∀ {P:List Str} {vs:List Value} {i:Nat} {m:Str->Option Value},P.Nodup->P[i]?=some x->vs[i]?=some v->kindOf x=some .local ->
  bindL kindOf (P.zip vs) m x=some v
 | [],_,_,_,_,h,_,_=>by simp at h
 | _ :: _,[],_,_,_,_,h,_=>by simp at h
 | p :: P,w :: vs,0,m,nd,h1,h2,hk=>by
  simp at h1 h2;subst h1;subst h2
  show bindL kindOf ((p,w) :: P.zip vs) m p=_
  unfold bindL
  rw [ox fun v hv=>(List.nodup_cons.mp nd).1 (List.of_mem_zip hv).1,if_pos hk]
  simp
 | p :: P,w :: vs,i+1,m,nd,h1,h2,hk=>by
  show bindL kindOf ((p,w) :: P.zip vs) m x=_
  unfold bindL
  exact oz (i:=i) (List.nodup_cons.mp nd).2 (by simpa using h1) (by simpa using h2) hk
theorem oA {kindOf:Str->Option NameKind} {x:Str} {v:Value} : ∀ {P:List Str} {vs:List Value} {i:Nat} {m:Str->Option Value},P.Nodup->P[i]?=some x->vs[i]?=some v->kindOf x ≠ some .local ->
  bindC kindOf (P.zip vs) m x=some v
 | [],_,_,_,_,h,_,_=>by simp at h
 | _ :: _,[],_,_,_,_,h,_=>by simp at h
 | p :: P,w :: vs,0,m,nd,h1,h2,hk=>by
  simp at h1 h2;subst h1;subst h2
  show bindC kindOf ((p,w) :: P.zip vs) m p=_
  unfold bindC
  rw [oy fun v hv=>(List.nodup_cons.mp nd).1 (List.of_mem_zip hv).1,if_neg hk]
  simp
 | p :: P,w :: vs,i+1,m,nd,h1,h2,hk=>by
  show bindC kindOf ((p,w) :: P.zip vs) m x=_
  unfold bindC
  exact oA (i:=i) (List.nodup_cons.mp nd).2 (by simpa using h1) (by simpa using h2) hk
def start (N:List Str) (vs:List V):St:=vs.map some ++ List.replicate (N.length - vs.length) none
def jw (CX:CXT) (P:Program) (w:World) (K:PySem.W.Frag) (mg:Str->Option Value) (base:Heap) (N:List Str) (qual:Str) (scope:Scope) (f:Addr) (cd:Value) (A:Around) (outer:List Env) (s:Shared) (H:Hp) (E:XK):Cx where
 prog:=P
 w:=w
 K:=K
 mg:=mg
 base:=base
 A:=A.deeper (envOfC qual scope s.heap.objs.size f cd)
 N:=N
 s₀:=s
 H₀:=H
 env:=envOfC qual scope s.heap.objs.size f cd
 outer:=outer
 stack:=envOfC qual scope s.heap.objs.size f cd :: outer
 ex:=[]
 calm:=true
 fn:=fun _=>true
 pn:=[]
 xe:=fun e s'=>wpAny (model P w) (A.deeper (envOfC qual scope s.heap.objs.size f cd)) (leaving (envOfC qual scope s.heap.objs.size f cd) e) (fun _ s''=>CX outer H s E e s'') (fun e' s''=>CX outer H s E e' s'') s'
theorem qI {sc:Scope} {n:Nat} {x:Str} (h:sc.names.lookup x=some .cell):∃ c,(cellsFrom n sc.names []).lookup x=some c:=by
 have q:=PySem.W.cellsFrom_some sc.names n [] (.inl h)
 exact Option.isSome_iff_exists.mp q
theorem tG {CX:CXT} {P:Program} {w:World} {K:PySem.W.Frag} {mg:Str->Option Value} {base:Heap} {N ps:List Str} {qual:Str} {scope:Scope} {f:Addr} {cd:Value} {A:Around} {outer:List Env} {s s1:Shared} {H:Hp} {E:XK} {us:List Value} {vs:List V}
  (S:ax N ps scope) (hd:A.handled=none) (e0:rE P w K mg base A outer s H) (hl:vs.length=ps.length) (r:Vals vs us)
  (x:InCallC s s.heap.objs.size (bindL (envOfC qual scope s.heap.objs.size f cd).kindOf (ps.zip us) fun _=>none) (cellsFrom (s.heap.objs.size+1) scope.names []) (bindC (envOfC qual scope s.heap.objs.size f cd).kindOf (ps.zip us) fun _=>none) s1) :
  Inv (jw CX P w K mg base N qual scope f cd A outer s H E) [] (start N vs) H s1:=by
 have hpl:ps.length<=N.length:=by have:=congrArg List.length S.pre;rw [List.length_take] at this;omega
 obtain ⟨h1,tk,rfl,hk⟩:=x.done
 have noA:∀ b:Addr,b ∉ (jw CX P w K mg base N qual scope f cd A outer s H E).ex:=fun b z=>absurd (show b ∈ ([]:List Addr) from z) (by simp)
 refine ⟨⟨e0.mod,S.kind,rfl,rfl,Nat.le_refl _,fun y z c h1 h2=>?_,fun y hy=>?_,fun y c _ h=>?_,fun _=>hd,Around.frames_deeper e0.frames,.inr ⟨rfl,rfl⟩,fun b z=>absurd z (noA b),e0.bs,e0.bsz,fun b _ _=>noA b,fun b z=>absurd z (noA b),e0.funs,e0.frf⟩,
  rfl,e0.bare,Un.kept hk,⟨_,x.toInCall.ns,fun i y v h1 h2 h3=>?_⟩,fun y c h=>⟨_,x.cell y c h⟩,e0.hok.fresh (Nat.le_refl _),fun y c h=>?_,fun p hp=>absurd (show p ∈ ([]:List (Addr × Obj)) from hp) (by simp),e0.hok.kept hk,?_⟩
 ·exact name_of_addr x.apart (PySem.mem_of_lookup h1) (PySem.mem_of_lookup h2)
 ·have hy:scope.names.lookup y=some .cell\/scope.names.lookup y=some .free:=hy
  rcases hy with hy | hy
  ·exact qI hy
  ·exact absurd rfl (S.nofree _ (PySem.mem_of_lookup hy))
 ·exact Nat.le_of_lt (x.above y c (PySem.mem_of_lookup h))
 ·have hi:i < vs.length:=by
   unfold start at h2
   by_cases hi:i < vs.length
   ·exact hi
   ·rw [List.getElem?_append_right (by simpa using hi)] at h2
    rw [List.getElem?_replicate] at h2
    split at h2 <;> cases h2
  have ha:vs[i]?=some v:=by
   unfold start at h2
   rw [List.getElem?_append_left (by simpa using hi),List.getElem?_map] at h2
   cases e:vs[i]? with
   | none=>rw [e] at h2;cases h2
   | some a=>rw [e] at h2;cases h2;rfl
  obtain ⟨u,hu,rv⟩:=r.get ha
  have hp:ps[i]?=some y:=by
   rw [← S.pre,List.getElem?_take_of_lt (by omega)];exact h1
  have ndP:ps.Nodup:=by rw [← S.pre];exact S.nd.sublist (List.take_sublist _ _)
  refine ⟨u,rv,?_⟩
  rcases S.par y (List.mem_of_getElem? hp) with k | k
  ·exact .inl ⟨k,oz ndP hp hu k⟩
  ·obtain ⟨c,e⟩:=qI (n:=s.heap.objs.size+1) k
   refine .inr ⟨.inl k,c,e,?_⟩
   have q:=x.cell y c e
   rw [oA ndP hp hu (by show scope.names.lookup y ≠ _;rw [k];decide)] at q
   exact q
 ·exact e0.hok.fresh (Nat.le_of_lt (x.above y c (PySem.mem_of_lookup h)))
 ·unfold start
  show _=N.length
  rw [List.length_append,List.length_map,List.length_replicate]
  omega
theorem xt {CX:CXT} {P:Program} {w:World} {K:PySem.W.Frag} {mg:Str->Option Value} {base:Heap} {k:Nat} {f:Addr} {name qual:Str} {params:Arguments} {body:List Stmt} {scope:Scope} {dV kV doc pm cdv ct oc:Value} {an od:Option Addr}
  {osl:Array (Option Value)} {N ps:List Str} {sp:Sp} (lk:K.lookup f=some ⟨oc,od,.func (PySem.W.fnOf name qual params body scope dV kV doc pm an cdv ct),osl⟩) (hcd:PySem.W.codeIn K cdv qual=true) (S:ax N ps scope)
  (len:∀ vs H Q E,sp vs H Q E->vs.length=ps.length)
  (qJ:∀ (A:Around) (outer:List Env) (s:Shared) (H:Hp) (vs:List V) (Q:VK) (E:XK),bZ k (A.deeper (envOfC qual scope s.heap.objs.size f cdv))->sp vs H Q E ->
   ∃ t,PSs (jw CX P w K mg base N qual scope f cdv A outer s H E) body t/\t { nx:=fun _ H'=>Q .non H',rt:=Q } (start N vs) H) :
  aR P w K mg base CX (k+1) f (PySem.W.fnOf name qual params body scope dV kV doc pm an cdv ct) ps sp:=by
 refine ⟨len,fun A outer s H args us vs Q E hr e0 hb r hsp=>?_⟩
 have hl:=len _ _ _ _ hsp
 have KX:K.In s.heap:=e0.mod.kin.keeps fun b o e=>(e0.bs b o e).1
 have lim:s.heap.NoLimit:=e0.mod.nolimit.keeps fun b o e=>(e0.bs b o e).1
 have AL:∀ y ∈ ps.zip us,scope.names.lookup y.1=some .local\/(scope.names.lookup y.1=some .cell/\((cellsFrom (s.heap.objs.size+1) scope.names []).lookup y.1).isSome=true):=fun ⟨n,v⟩ hy=>by
  rcases S.par n (List.of_mem_zip hy).1 with q | q
  ·exact .inl q
  ·exact .inr ⟨q,PySem.W.cellsFrom_some _ _ _ (.inl q)⟩
 refine codeAny_call_function hr.depth (KX _ _ lk) rfl S.co S.gen rfl (PySem.W.codeRec_of KX hcd) (hb _ _ _ _ ?_)
 refine wpAny_newFunctionEnv_cells S.kind AL fun env he s1 x=>?_
 subst he
 refine ⟨lim.keeps x.toInCall.keep,codeAny_func ?_⟩
 obtain ⟨t,ht,hq⟩:=qJ A outer s H vs Q E (hr.deeper _) hsp
 have I:Inv (jw CX P w K mg base N qual scope f cdv A outer s H E) [] (start N vs) H s1:=tG S hr.hd e0 hl r x
 refine wpAny_mono (ht [] s1 (start N vs) H _ I hq) (fun fl s' hs=>?_) fun e s' hs=>hs
 have fin:∀ {σ' : St} {H' : Hp} {v:V} {u:Value},Inv (jw CX P w K mg base N qual scope f cdv A outer s H E) [] σ' H' s'->RelV v u->Q v H'->CE outer P w H s Q u s' :=
  fun {σ' H' v u} J rv q=>⟨v,H',J.os,J.bare,J.base,J.hok,rv,q⟩
 cases fl with
 | ret u =>
  obtain ⟨v,σ',H',J,rv,q⟩:=hs
  exact fin J rv q
 | next =>
  obtain ⟨σ',H',J,q⟩:=hs
  exact fin (v:=V.non) (u:=Value.none) J rfl q
 | brk =>
  obtain ⟨_,_,_,q⟩:=hs
  exact False.elim q
 | cont =>
  obtain ⟨_,_,_,q⟩:=hs
  exact False.elim q
end L2
namespace L2
open PySem PySem.Spec PyProof.Rows
section
variable {X:Cx} {x:Str} {p pos:Pos} {e:Expr} {es:List Expr} {t:TA} {id T:String} {r:List V->Hp->VK->Prop}
def tCB (r:List V->Hp->VK->Prop) (t:TA):TE:=fun σ H Q=>t σ H fun vs H1=>r vs H1 Q
theorem aw (hc:de X (.builtin id) r) (hg:Gl X x) (hm:X.mg x=none) (hv:bootBuiltins x=some (.builtin id)) (ha:PA X (e :: es) t) (hn:x ≠ "__name__" := by decide) (hdb:(x == ("__debug__" : Str))=false:=by decide)
  (he:starEach (e :: es) X.env=(false,eval e X.env) :: starEach es X.env:=by rfl) (hpl:(backTo pos (starEach es X.env)).any (·.1)=false:=by rfl):PE X (.Call (.Name x p) (e :: es) [] pos) (tCB r t):=by
 intro pins s σ H Q I h
 refine wpAny_Call_Name_kw (fw I hg hm hv ?_ hn hdb)
 exact PyProof.Rows.callWith_builtin1 (thn (ha pos pins s σ H _ I h) fun us s1 ⟨vs,H1,I1,r1,q1⟩=>hc pins s1 σ H1 vs us Q I1 r1 q1) he hpl
theorem bN (hc:de X (.type T) r) (hg:Gl X x) (hm:X.mg x=none) (hv:bootBuiltins x=some (.type T)) (ha:PA X (e :: es) t) (hn:x ≠ "__name__" := by decide) (hdb:(x == ("__debug__" : Str))=false:=by decide)
  (he:starEach (e :: es) X.env=(false,eval e X.env) :: starEach es X.env:=by rfl) (hpl:(backTo pos (starEach es X.env)).any (·.1)=false:=by rfl):PE X (.Call (.Name x p) (e :: es) [] pos) (tCB r t):=by
 intro pins s σ H Q I h
 refine wpAny_Call_Name_kw (fw I hg hm hv ?_ hn hdb)
 exact PyProof.Rows.callWith_type1 (thn (ha pos pins s σ H _ I h) fun us s1 ⟨vs,H1,I1,r1,q1⟩=>hc pins s1 σ H1 vs us Q I1 r1 q1) he hpl
end
end L2
namespace HT
open PySem PyProof.Rows
def lexLt:List Int->List Int->Bool
 | [],[]=>false
 | [],_ :: _=>true
 | _ :: _,[]=>false
 | x :: xs,y :: ys=>if x=y then lexLt xs ys else decide (x < y)
section
open PySem.SeqAt
open PySem.AutoSeq1 (wpAny_loadPart')
open PySem.MeetsSeq PySem.MeetsSeq2 PySem.MeetsSeq3
end
section
variable {prog:Program} {w:World} {A:Around} {E:Value->Shared->Prop} {s:Shared}
def sIx (n d:Nat):Option Int->Nat
 | none=>d
 | some v=>if v < 0 then (v+(n:Int)).toNat else min v.toNat n
end
end HT
namespace L2
open PySem PySem.Spec PyProof.Rows
abbrev TO:=St->Hp->(Option Int->Hp->Prop)->Prop
def PO (X:Cx) (e:Option Expr) (t:TO):Prop :=
 ∀ (pins:List (Addr × Obj)) (s:Shared) (σ:St) (H:Hp) (Q:Option Int->Hp->Prop),Inv X pins σ H s->t σ H Q ->
  wpAny (model X.prog X.w) X.A (evalPart e X.env) (fun u s'=>∃ o H',Inv X pins σ H' s'/\IsPart u o/\Q o H') X.xe s
def wx:TO:=fun _ H Q=>Q none H
def AM (t:TE):TO:=fun σ H Q=>t σ H fun x H1=>∃ i,x=.int i/\Q (some i) H1
section
variable {X:Cx} {e:Expr} {te:TE} {lo hi:Option Expr} {tl th:TO} {pos p2:Pos}
theorem cg:PO X none wx:=by
 intro pins s σ H Q I h
 rw [evalPart_none]
 exact wpAny_pure ⟨none,H,I,.none,h⟩
theorem cj (h:PE X e te):PO X (some e) (AM te):=by
 intro pins s σ H Q I hw
 rw [evalPart_some]
 refine thn (h pins s σ H _ I hw) fun u s1 ⟨x,H1,I1,r1,q1⟩=>?_
 obtain ⟨i,rfl,q⟩:=q1
 obtain ⟨t,rfl⟩:=r1
 exact ⟨some i,H1,I1,.int i t,q⟩
def SlR (X:Cx) (r:V->Option Int->Option Int->Hp->VK->Prop):Prop :=
 ∀ (pins:List (Addr × Obj)) (s:Shared) (σ:St) (H:Hp) (x:V) (v vl vu:Value) (lo hi:Option Int) (sl:Addr) (Q:VK),Inv X pins σ H s->RelV x v->s.heap.IsSliceOf sl vl vu .none->IsPart vl lo->IsPart vu hi->r x lo hi H Q ->
  ∃ T id,typeLookup (.type T) "__getitem__" = pure (some (.builtin id))/\s.TypeIs v T/\wpAny (model X.prog X.w) X.A (getItem v (.ref sl)) (EP X pins σ Q) X.xe s
def tSl (r:V->Option Int->Option Int->Hp->VK->Prop) (te:TE) (tl th:TO):TE:=fun σ H Q=>te σ H fun x H1=>tl σ H1 fun l H2=>th σ H2 fun u H3=>r x l u H3 Q
theorem bQ {r:V->Option Int->Option Int->Hp->VK->Prop} (hr:SlR X r) (he:PE X e te) (hl:PO X lo tl) (hu:PO X hi th):PE X (.Subscript e (.Slice lo hi none p2) pos) (tSl r te tl th):=by
 intro pins s σ H Q I h
 refine Subscript_ (thn (he pins s σ H _ I h) fun v s1 ⟨x,H1,I1,r1,q1⟩=>?_)
 refine wpAny_Slice (thn (hl pins s1 σ H1 _ I1 q1) fun vl s2 ⟨l,H2,I2,pl,q2⟩=>thn (hu pins s2 σ H2 _ I2 q2) fun vu s3 ⟨u,H3,I3,pu,q3⟩=>?_)
 rw [evalPart_none]
 refine wpAny_pure ?_
 have I4:Inv X pins σ H3 { s3 with heap:=s3.heap.push { cls:=.type "slice",data:=.fields #[vl,vu,.none] } }:=I3.kept (t':=s3.toks) fun b ob q=>Heap.get?_push_of_some _ q
 obtain ⟨T,id,hT,ht,hg⟩:=hr pins { s3 with heap:=s3.heap.push { cls:=.type "slice",data:=.fields #[vl,vu,.none] } } σ H3 x v vl vu l u s3.heap.objs.size Q I4 r1 (Heap.IsSliceOf.new ..) pl pu q3
 show wpAny (model X.prog X.w) X.A (subscriptTail e (.Slice lo hi none p2) v (.ref s3.heap.objs.size)) (EP X pins σ Q) X.xe { s3 with heap:=s3.heap.push { cls:=.type "slice",data:=.fields #[vl,vu,.none] } }
 exact tail_any (ops:=[.ref s3.heap.objs.size,v]) ht hT hg (by with_unfolding_all rfl)
def mD (xs:List V) (lo hi:Option Int):List V:=(xs.drop (HT.sIx xs.length 0 lo)).take (HT.sIx xs.length xs.length hi - HT.sIx xs.length 0 lo)
theorem qK (xs:List V) (lo hi:Option Int):(mD xs lo hi).length<=xs.length:=by
 unfold mD
 rw [List.length_take,List.length_drop]
 omega
def QB (K:PySem.W.Frag):V->Option Int->Option Int->Hp->VK->Prop:=fun x lo hi H Q=>∃ a xs,x=.ref a/\SqT K H a xs /\
 ¬ (HT.sIx xs.length 0 lo=0/\HT.sIx xs.length xs.length hi=xs.length)/\∀ p,H p=none->Q (.ref p) (upd H p (.tup (mD xs lo hi)))
def QC (K:PySem.W.Frag):R2:=fun x y H Q=>∃ a b ns ms,x=.ref a/\y=.ref b/\SqT K H a (ns.map V.int)/\SqT K H b (ms.map V.int)/\Q (.bl (HT.lexLt ns ms)) H
def Qa (K:PySem.W.Frag):R2:=fun x y H Q=>∃ a b xs ys,x=.ref a/\y=.ref b/\SqT K H a xs/\SqT K H b ys/\xs ≠ []/\xs.length+ys.length<=sizeLine /\
 (ys=[]->Q (.ref a) H)/\(ys ≠ []->∀ p,H p=none->Q (.ref p) (upd H p (.tup (xs ++ ys))))
end
end L2
namespace L2
open PySem PySem.Spec PyProof.Rows
def ixN (n:Nat) (i:Int):Option Nat:=if 0<=i then (if i < n then some i.toNat else none) else if -(n:Int)<=i then some (i+n).toNat else none
def atI {α:Type} (xs:List α) (i:Int):Option α:=(ixN xs.length i).bind fun j=>xs[j]?
theorem sN {n:Nat} {i:Int} {j:Nat} (h:ixN n i=some j):seqIndex? i n=some j/\j < n/\-(n:Int)<=i/\i < n:=by
 unfold ixN at h
 by_cases h0:0<=i
 ·rw [if_pos h0] at h
  by_cases h1:i < n
  ·rw [if_pos h1] at h
   have e:i.toNat=j:=Option.some.inj h
   exact ⟨by rw [seqIndex_of h0 h1,e],by omega,by omega,h1⟩
  ·rw [if_neg h1] at h;cases h
 ·rw [if_neg h0] at h
  by_cases h1 : -(n:Int)<=i
  ·rw [if_pos h1] at h
   have e:(i+n).toNat=j:=Option.some.inj h
   exact ⟨by rw [seqIndex_neg (by omega) h1,e],by omega,h1,by omega⟩
  ·rw [if_neg h1] at h;cases h
theorem pf {α:Type} {xs:List α} {i:Int} {v:α} (h:atI xs i=some v):∃ j,seqIndex? i xs.length=some j/\xs[j]?=some v/\j < xs.length/\-(xs.length:Int)<=i/\i < xs.length:=by
 unfold atI at h
 cases e:ixN xs.length i with
 | none=>rw [e] at h;cases h
 | some j =>
  rw [e] at h
  obtain ⟨h1,h2,h3,h4⟩:=sN e
  exact ⟨j,h1,h,h2,h3,h4⟩
theorem bS {α:Type} {xs:List α} {j:Nat} {v:α} (h:xs[j]?=some v):atI xs (j:Int)=some v:=by
 have hj:j < xs.length:=(List.getElem?_eq_some_iff.mp h).1
 have e:ixN xs.length (j:Int)=some j:=by
  unfold ixN
  rw [if_pos (by omega),if_pos (by omega)];simp
 unfold atI;rw [e];exact h
theorem mE {α:Type} (xs:List α) (v:α):atI (xs ++ [v]) (-1)=some v:=by
 have hl:(xs ++ [v]).length=xs.length+1:=by simp
 have e:ixN (xs ++ [v]).length (-1)=some xs.length:=by
  unfold ixN
  rw [hl,if_neg (by decide),if_pos (by omega)]
  congr 1
  omega
 unfold atI
 rw [e]
 show (xs ++ [v])[xs.length]?=some v
 simp
def wz (b:Expr):Prop:=∀ o i,subscripted b false o i=operate [o,i] (getItem o i)
def IxR (X:Cx) (r:R2):Prop :=
 ∀ (value slice:Expr) (pins:List (Addr × Obj)) (s:Shared) (σ:St) (H:Hp) (x y:V) (v u:Value) (Q:VK),Inv X pins σ H s->RelV x v->RelV y u->r x y H Q ->
  subscripted slice false v u=operate [v,u] (getItem v u)->wpAny (model X.prog X.w) X.A (subscriptTail value slice v u) (EP X pins σ Q) X.xe s
def MtR (X:Cx) (id:String) (r:V->List V->Hp->VK->Prop):Prop :=
 ∀ (pins:List (Addr × Obj)) (s:Shared) (σ:St) (H:Hp) (x:V) (xs:List V) (v:Value) (us:List Value) (Q:VK),Inv X pins σ H s->RelV x v->Vals xs us->r x xs H Q ->
  wpAny (model X.prog X.w) X.A (call (.builtin id) (v :: us)) (EP X pins σ Q) X.xe s
section
variable {X:Cx} {a b:Expr} {ta tb:TE} {pos:Pos}
theorem aO {r:R2} (hr:IxR X r) (ha:PE X a ta) (hb:PE X b tb) (hs:wz b):PE X (.Subscript a b pos) (tOp r ta tb):=by
 intro pins s σ H Q I h
 exact Subscript_ (yf ha hb I h fun v u s2 x y H2 I2 rx ry q=>hr a b pins s2 σ H2 x y v u Q I2 rx ry q (hs _ _))
def yo (K:PySem.W.Frag):R2:=fun x y H Q=>∃ p xs i v,x=.ref p/\y=.int i/\SqL K H p xs/\atI xs i=some v/\Q v H
def yp (K:PySem.W.Frag):R2:=fun x y H Q=>∃ p xs i v,x=.ref p/\y=.int i/\SqT K H p xs/\atI xs i=some v/\Q v H
def AN:R2:=fun x y H Q=>∃ z i c,x=.str z/\y=.int i/\z.length<=sizeLine/\atI z.cps.toList i=some c/\Q (.str ⟨#[c]⟩) H
theorem aS:IxR X (yo X.K):=by
 intro value slice pins s σ H x y v u Q I rx ry h hs
 obtain ⟨p,xs,i,z,rfl,rfl,hq,he,q⟩:=h
 cases rx
 obtain ⟨t,rfl⟩:=ry
 obtain ⟨its,r,pl,hz⟩:=I.list hq
 obtain ⟨j,h1,h2,h3,h4,h5⟩:=pf he
 obtain ⟨w,ew,rw'⟩:=r.get h2
 have hl:=r.length
 have hn:=iy
 have fin:EP X pins σ Q w s:=⟨z,H,I,rw',q⟩
 by_cases h0:0<=i
 ·have hj:i.toNat=j:=by
   rw [seqIndex_of h0 h5] at h1
   exact Option.some.inj h1
  exact item_listR pl.isList h0 (by omega) (by rw [hj];simpa using ew) fin hs
 ·have hj:(i+(its.toArray.size:Int)).toNat=j:=by
   rw [seqIndex_neg (by omega) h4] at h1
   rw [List.size_toArray,← hl]
   exact Option.some.inj h1
  exact subscriptTail_builtinR (x:=w) pl.isList.typeIs slot_list_getitem.lookup
   (wpAny_getItem_list_neg (Q:=fun r s'=>r=w/\EP X pins σ Q r s') pl.isList (by omega) (by rw [List.size_toArray] <;> omega) (by omega) (by rw [hj];simpa using ew) ⟨rfl,fin⟩) hs
theorem bI:IxR X (yp X.K):=by
 intro value slice pins s σ H x y v u Q I rx ry h hs
 obtain ⟨p,xs,i,z,rfl,rfl,hq,he,q⟩:=h
 cases rx
 obtain ⟨t,rfl⟩:=ry
 obtain ⟨its,r,pl,hz⟩:=I.tuple hq
 obtain ⟨j,h1,h2,h3,h4,h5⟩:=pf he
 obtain ⟨w,ew,rw'⟩:=r.get h2
 have hl:=r.length
 have hn:=iy
 have fin:EP X pins σ Q w s:=⟨z,H,I,rw',q⟩
 exact subscriptTail_builtinR (x:=w) pl.typeIs slot_tuple_getitem.lookup
  (getItem_tuple (j:=j) (Q:=fun r s'=>r=w/\EP X pins σ Q r s') pl (by omega) (by omega) (by rw [List.size_toArray,← hl];exact h1) (by simpa using ew) ⟨rfl,fin⟩) hs
theorem ph:IxR X AN:=by
 intro value slice pins s σ H x y v u Q I rx ry h hs
 obtain ⟨z,i,c,rfl,rfl,hz,he,q⟩:=h
 obtain ⟨t,rfl⟩:=rx
 obtain ⟨t',rfl⟩:=ry
 obtain ⟨j,h1,h2,h3,h4,h5⟩:=pf he
 have hl:z.cps.toList.length=z.length:=by simp [Str.length]
 rw [hl] at h1 h4 h5
 have hn:=iy
 exact tail_any (typeIs_str s z t) slot_str_getitem.lookup (getItem_str (c:=c) (by
  have e1:decide (i < -(2 ^ 63:Int))=false:=decide_eq_false (by omega)
  have e2:decide (i ≥ 2 ^ 63)=false:=decide_eq_false (by omega)
  rw [e1,e2,Bool.or_false]) (by rw [h1];simpa using h2) ⟨.str ⟨#[c]⟩,H,I.tok _,⟨_,rfl⟩,q⟩) hs
def rIx (K:PySem.W.Frag):R2:=fun x y H Q=>yo K x y H Q\/yp K x y H Q\/AN x y H Q
theorem rF (its:List Value) (n j:Nat) (u:Value):Obj.mapSeq (·.setIfInBounds j u) { cls:=.type "list",data:=.seq its.toArray n } = { cls:=.type "list",data:=.seq (its.set j u).toArray n }:=by
 simp [Obj.mapSeq]
theorem Inv.lst {pins:List (Addr × Obj)} {σ:St} {H:Hp} {s:Shared} {p:Addr} {xs:List V} (I:Inv X pins σ H s) (h:H p=some (.lst xs)) :
  ∃ (its:List Value) (n:Nat),Vals xs its/\s.heap.get? p=some { cls:=.type "list",data:=.seq its.toArray n }/\xs.length<=sizeLine:=by
 obtain ⟨z,its,n,r,e⟩:=I.hok p _ h
 exact ⟨its,n,r,e,z⟩
theorem Inv.lstUpd {pins:List (Addr × Obj)} {σ:St} {H:Hp} {s:Shared} {p:Addr} {xs ys:List V} {its its' : List Value} {n n' : Nat} {f:Obj->Obj} (I:Inv X pins σ H s) (h:H p=some (.lst xs))
  (ho:s.heap.get? p=some { cls:=.type "list",data:=.seq its.toArray n }) (hf:f { cls:=.type "list",data:=.seq its.toArray n } = { cls:=.type "list",data:=.seq its'.toArray n' }) (r:Vals ys its') (hz:ys.length<=sizeLine) (t:Nat) :
  Inv X pins σ (upd H p (.lst ys)) { s with heap:=s.heap.update p f,toks:=t }:=by
 have e:(s.heap.update p f).get? p=some { cls:=.type "list",data:=.seq its'.toArray n' }:=by
  rw [Heap.get?_update_self f ho (by rw [hf] <;> rfl),hf]
 refine I.write (x:=p) (e:=p) (by rw [h];trivial) (.inl rfl) (fun b u hb q=>(Heap.get?_update_other _ _ (Ne.symm hb)).trans q) ⟨_,e⟩ ?_
 exact ⟨hz,its',n',r,e⟩
def AO:V->V->V->Hp->(Hp->Prop)->Prop:=fun o i v H Q=>∃ p xs k j,o=.ref p/\i=.int k/\H p=some (.lst xs)/\ixN xs.length k=some j/\Q (upd H p (.lst (xs.set j v)))
theorem set_list:AA X AO:=by
 intro pins s σ H o i v ov iv u Q I ro ri rv h
 obtain ⟨p,xs,k,j,rfl,rfl,hp,hj,q⟩:=h
 cases ro
 obtain ⟨t,rfl⟩:=ri
 obtain ⟨its,n,r,ho,hz⟩:=I.lst hp
 obtain ⟨h1,h2,h3,h4⟩:=sN hj
 have hl:=r.length
 have hn:=iy
 have I' : Inv X pins σ (upd H p (.lst (xs.set j v))) { s with heap:=s.heap.update p (Obj.mapSeq (·.setIfInBounds j u)) } :=
  I.lstUpd hp ho (rF its n j u) (r.set rv j) (by rw [List.length_set];exact hz) s.toks
 by_cases h0:0<=k
 ·have hk:k.toNat=j:=by
   rw [seqIndex_of h0 h4] at h1
   exact Option.some.inj h1
  exact PySem.W.ki_setAt ho h0 (by omega) (by rw [List.size_toArray,← hl];exact h4) (by rw [hk];exact ⟨_,I',q⟩)
 ·have hk:(k+(its.toArray.size:Int)).toNat=j:=by
   rw [seqIndex_neg (by omega) h3] at h1
   rw [List.size_toArray,← hl]
   exact Option.some.inj h1
  exact PySem.W.ki_setBack ho (by omega) (by rw [List.size_toArray,← hl];exact h3) (by omega) (by rw [hk];exact ⟨_,I',q⟩)
theorem pj (lo hi:Option Int) (n:Nat):(sliceBounds lo hi none n).1=((HT.sIx n 0 lo:Nat):Int)/\(sliceBounds lo hi none n).2.1=((HT.sIx n n hi:Nat):Int)/\(sliceBounds lo hi none n).2.2=1:=by
 refine ⟨?_,?_,rfl⟩
 ·cases lo with
  | none=>simp [sliceBounds,HT.sIx]
  | some i =>
   simp only [sliceBounds,HT.sIx,Option.getD_none,show (1:Int) > 0 by decide,if_true]
   by_cases h:i < 0
   ·simp only [h,if_true] <;> omega
   ·simp only [h,if_false] <;> omega
 ·cases hi with
  | none=>simp [sliceBounds,HT.sIx]
  | some i =>
   simp only [sliceBounds,HT.sIx,Option.getD_none,show (1:Int) > 0 by decide,if_true]
   by_cases h:i < 0
   ·simp only [h,if_true] <;> omega
   ·simp only [h,if_false] <;> omega
theorem nW (its:List Value) (lo hi:Option Int):slicePick its.toArray lo hi none=((its.drop (HT.sIx its.length 0 lo)).take (HT.sIx its.length its.length hi - HT.sIx its.length 0 lo)).toArray:=by
 obtain ⟨h1,h2,h3⟩:=pj lo hi its.toArray.size
 unfold slicePick
 rw [h1,h2,h3]
 simp only [sliceRange_one,pick_run,List.size_toArray] <;> rfl
def AQ (K:PySem.W.Frag):V->Option Int->Option Int->Hp->VK->Prop:=fun x lo hi H Q=>∃ a xs,x=.ref a/\SqL K H a xs/\∀ p,H p=none->Q (.ref p) (upd H p (.lst (mD xs lo hi)))
theorem ck:SlR X (AQ X.K):=by
 intro pins s σ H x v vl vu lo hi sl Q I rx hs pl pu h
 obtain ⟨a,xs,rfl,hx,q⟩:=h
 cases rx
 obtain ⟨its,r,ht,hz⟩:=I.list hx
 have hlen:=r.length
 refine ⟨"list",_,slot_list_getitem.lookup,ht.isList.typeIs,?_⟩
 refine wpAny_getItem_list_slice ht.isList hs pl pu .none (by simp) ?_ (by rw [List.size_toArray] <;> omega)
 rw [nW,← hlen]
 refine ⟨.ref s.heap.objs.size,_,I.laid (t':=s.toks) (o:=.lst (mD xs lo hi)) (fun b ob q=>Heap.get?_push_of_some _ q) (Nat.le_refl _) ?_,rfl,q _ (I.hok.fresh (Nat.le_refl _))⟩
 exact ⟨Nat.le_trans (qK xs lo hi) hz,_,0,(r.drop (HT.sIx xs.length 0 lo)).take (HT.sIx xs.length xs.length hi - HT.sIx xs.length 0 lo),Heap.get?_push_size _ rfl⟩
def dg:V->Bool
 | .non=>true
 | .bl _=>true
 | .int _=>true
 | .str _=>true
 | _=>false
def eqV:V->V->Bool
 | .non,.non=>true
 | .bl a,.bl b=>a == b
 | .bl a,.int b=>(if a then 1 else 0) == b
 | .int a,.bl b=>a == (if b then 1 else 0)
 | .int a,.int b=>a == b
 | .str a,.str b=>a == b
 | _,_=>false
theorem rG {A:Around} {s:Shared} {y x:V} {u v:Value} (ry:RelV y u) (rx:RelV x v) (fy:dg y=true) (fx:dg x=true):SeqAt.EqAt A s u v (eqV y x):=by
 cases y with
 | non =>
  cases ry
  cases x with
  | non=>cases rx;exact SeqAt.EqAt.same _
  | bl b=>cases rx;exact SeqAt.EqAt.none_bool b
  | int b=>obtain ⟨t,rfl⟩:=rx;exact SeqAt.EqAt.none_int b t
  | str b=>obtain ⟨t,rfl⟩:=rx;exact SeqAt.EqAt.none_str b t
  | _=>exact absurd (show false=true from fx) Bool.false_ne_true
 | bl a =>
  cases ry
  cases x with
  | non=>cases rx;exact SeqAt.EqAt.bool_none a
  | bl b=>cases rx;exact SeqAt.EqAt.bool_bool a b
  | int b=>obtain ⟨t,rfl⟩:=rx;exact SeqAt.EqAt.bool_int a b t
  | str b=>obtain ⟨t,rfl⟩:=rx;exact SeqAt.EqAt.bool_str a b t
  | _=>exact absurd (show false=true from fx) Bool.false_ne_true
 | int a =>
  obtain ⟨t',rfl⟩:=ry
  cases x with
  | non=>cases rx;exact SeqAt.EqAt.int_none a t'
  | bl b=>cases rx;exact SeqAt.EqAt.int_bool a t' b
  | int b=>obtain ⟨t,rfl⟩:=rx;exact SeqAt.EqAt.int_int a t' b t
  | str b=>obtain ⟨t,rfl⟩:=rx;exact SeqAt.EqAt.int_str a t' b t
  | _=>exact absurd (show false=true from fx) Bool.false_ne_true
 | str a =>
  obtain ⟨t',rfl⟩:=ry
  cases x with
  | non=>cases rx;exact SeqAt.EqAt.str_none a t'
  | bl b=>cases rx;exact SeqAt.EqAt.str_bool a t' b
  | int b=>obtain ⟨t,rfl⟩:=rx;exact SeqAt.EqAt.str_int a t' b t
  | str b=>obtain ⟨t,rfl⟩:=rx;exact SeqAt.EqAt.str_str a t' b t
  | _=>exact absurd (show false=true from fx) Bool.false_ne_true
 | _=>exact absurd (show false=true from fy) Bool.false_ne_true
def eqU (x:V) (u:Value):Bool:=match u with
 | .none=>eqV .non x
 | .bool b=>eqV (.bl b) x
 | .int i _=>eqV (.int i) x
 | .str z _=>eqV (.str z) x
 | _=>false
def inV (x:V) (xs:List V):Bool:=xs.any fun y=>eqV y x
def rIn (K:PySem.W.Frag) (neg:Bool):R2:=fun x y H Q=>∃ p xs,y=.ref p/\(SqL K H p xs\/SqT K H p xs)/\dg x=true/\xs.all dg=true/\Q (.bl (if neg then !inV x xs else inV x xs)) H
theorem aE:de X (.builtin "len") (fun xs H Q=>∃ p ys,xs=[.ref p]/\(SqL X.K H p ys\/SqT X.K H p ys)/\Q (.int ys.length) H):=by
 intro pins s σ H xs us Q I r h
 obtain ⟨p,ys,rfl,hq,q⟩:=h
 obtain ⟨u,rfl,rx⟩:=vals1 r
 cases rx
 have hn:=iy
 rcases hq with hq | hq
 ·obtain ⟨its,r',pl,hz⟩:=I.list hq
  have hlen:=r'.length
  exact Calls.call_len_list pl.isList (by simp only [List.size_toArray] <;> omega) ⟨.int ys.length,H,I.tok _,⟨s.toks+1,by rw [List.size_toArray,hlen]⟩,q⟩
 ·obtain ⟨its,r',pl,hz⟩:=I.tuple hq
  have hlen:=r'.length
  exact len_tuple pl (by simp only [List.size_toArray] <;> omega) ⟨.int ys.length,H,I.tok _,⟨s.toks+1,by rw [List.size_toArray,hlen]⟩,q⟩
theorem pk:de X (.builtin "len") (fun xs H Q=>∃ z,xs=[.str z]/\z.length<=sizeLine/\Q (.int z.length) H):=by
 intro pins s σ H xs us Q I r h
 obtain ⟨z,rfl,hz,q⟩:=h
 obtain ⟨u,rfl,t,rfl⟩:=vals1 r
 have hn:=iy
 exact len_str (by omega) ⟨.int z.length,H,I.tok _,⟨_,rfl⟩,q⟩
theorem cB:de X (.type "list") (fun xs H Q=>∃ p ys,xs=[.ref p]/\(SqL X.K H p ys\/SqT X.K H p ys)/\∀ l,H l=none->Q (.ref l) (upd H l (.lst ys))):=by
 intro pins s σ H xs us Q I r h
 obtain ⟨p,ys,rfl,hq,q⟩:=h
 obtain ⟨u,rfl,rx⟩:=vals1 r
 cases rx
 have fin:∀ (its:List Value),Vals ys its->ys.length<=sizeLine->∀ (h' : Heap) (c' : Nat),(∀ b o',s.heap.get? b=some o'->h'.get? b=some o') ->
   h'.get? s.heap.objs.size=some { cls:=.type "list",dict:=none,data:=.seq its.toArray c',slots:=#[] }->EP X pins σ Q (.ref s.heap.objs.size) { s with heap:=h' }:=fun its r' hz h' c' kp e =>
  ⟨.ref s.heap.objs.size,_,I.laid (t':=s.toks) kp (Nat.le_refl _) (show cL X.prog X.w _ h' _ (.lst ys) from ⟨hz,its,c',r',e⟩),rfl,q _ (I.hok.fresh (Nat.le_refl _))⟩
 rcases hq with hq | hq
 ·obtain ⟨its,r',pl,hz⟩:=I.list hq
  have hlen:=r'.length
  obtain ⟨o,ho,hc,n,hd⟩:=pl.isList
  exact call_list_seq p (.inl rfl) ho hc hd (fun h' c' kp e=>fin its r' hz h' c' kp e) (by simp only [List.size_toArray] <;> omega)
 ·obtain ⟨its,r',pl,hz⟩:=I.tuple hq
  have hlen:=r'.length
  obtain ⟨o,ho,hc,n,hd⟩:=pl
  exact call_list_seq p (.inr rfl) ho hc hd (fun h' c' kp e=>fin its r' hz h' c' kp e) (by simp only [List.size_toArray] <;> omega)
def tyV (K:PySem.W.Frag) (T:String) (x:V) (H:Hp):Prop:=match x with
 | .str _=>T = "str"
 | .int _=>T = "int"
 | .ref p=>(T = "list" /\ ∃ xs,SqL K H p xs)\/(T = "tuple" /\ ∃ o,K.lookup p=some o/\o.cls=.type "tuple" /\ o.dict=none) \/
   (T = "dict" /\ ((∃ kvs,H p=some (.dK kvs))\/∃ kvs,H p=some (.dT kvs)))\/(T = "set" /\ ∃ S n,H p=some (.set S n))
 | _=>False
theorem yq {pins:List (Addr × Obj)} {σ:St} {H:Hp} {s:Shared} {T:String} {x:V} {v:Value} (I:Inv X pins σ H s) (r:RelV x v) (ty:tyV X.K T x H) :
  s.TypeIs v T/\∀ a,v=.ref a->∃ ob,s.heap.get? a=some ob/\ob.dict=none:=by
 cases x with
 | str z =>
  obtain ⟨t,rfl⟩:=r
  cases (show T = "str" from ty)
  exact ⟨typeIs_str s z t,fun _ e=>nomatch e⟩
 | int i =>
  obtain ⟨t,rfl⟩:=r
  cases (show T = "int" from ty)
  exact ⟨typeIs_int s i t,fun _ e=>nomatch e⟩
 | ref p =>
  cases r
  rcases ty with ⟨rfl,xs,hq⟩ | ⟨rfl,o,hk,hc,hd⟩ | ⟨rfl,hk⟩ | ⟨rfl,S,n,hk⟩
  ·obtain ⟨its,_,pl,_⟩:=I.list hq
   refine ⟨pl.isList.typeIs,fun a e=>?_⟩
   cases e
   obtain ⟨o,n,e,c,hd,_⟩:=pl
   exact ⟨o,e,hd⟩
  ·refine ⟨⟨o,I.kIn p o hk,hc⟩,fun a e=>?_⟩
   cases e
   exact ⟨o,I.kIn _ o hk,hd⟩
  ·have z:∃ o,s.heap.get? p=some o/\o.ExactDict:=by
    rcases hk with ⟨kvs,hk⟩ | ⟨kvs,hk⟩
    ·obtain ⟨_,_,_,_,o,_,_,e,ex,_⟩:=I.hok p _ hk
     exact ⟨o,e,ex⟩
    ·obtain ⟨_,_,_,_,o,_,_,e,ex,_⟩:=I.hok p _ hk
     exact ⟨o,e,ex⟩
   obtain ⟨o,e,ex⟩:=z
   refine ⟨⟨o,e,ex.1⟩,fun a e2=>?_⟩
   cases e2
   exact ⟨o,e,ex.2.1⟩
  ·obtain ⟨o,_,_,_,e,ex,_⟩:=I.hok p _ hk
   refine ⟨⟨o,e,ex.1⟩,fun a e2=>?_⟩
   cases e2
   exact ⟨o,e,ex.2.1⟩
 | _=>exact False.elim ty
def QD (K:PySem.W.Frag) (T:String) (r:V->List V->Hp->VK->Prop) (to:TE):TE:=fun σ H Q=>to σ H fun x H1=>tyV K T x H1/\r x [] H1 Q
def tBM (K:PySem.W.Frag) (T:String) (r:V->List V->Hp->VK->Prop) (to:TE) (t:TA):TE:=fun σ H Q=>to σ H fun x H1=>tyV K T x H1/\t σ H1 fun xs H2=>r x xs H2 Q
variable {o e:Expr} {es:List Expr} {to:TE} {t:TA} {name:Str} {apos iz:Pos} {T id:String} {r:V->List V->Hp->VK->Prop}
theorem mF (pa:PlainAttrs T) (slot:Slot T name id) (hty:typeOf (.builtin id)=pure (.type "method_descriptor")) (hm:MtR X id r) (ho:PE X o to) (ha:PA X (e :: es) t)
  (AR:attributeBase o name X.env (eval o X.env)=eval o X.env:=by rfl)
  (DF:((backTo iz (starEach (e :: es) X.env)).all (fun x=>!x.1) && (backToKw iz (keywordEach [] X.env)).all (fun x=>x.1.isSome)
   && decide ((e :: es).length+([]:List Keyword).length+(if ([]:List Keyword).isEmpty then 0 else 1) < 30))=true:=by rfl)
  (AS:(apos.endLine == iz.line)=true:=by rfl) (hs:starEach (e :: es) X.env=(false,eval e X.env) :: starEach es X.env:=by rfl) (yr:(backTo iz (starEach es X.env)).any (·.1)=false:=by rfl) :
  PE X (.Call (.Attribute o name apos) (e :: es) [] iz) (tBM X.K T r to t):=by
 intro pins s σ H Q I h
 refine wpAny_Call_method_late AR DF AS rfl (thn (ho pins s σ H _ I h) fun v s1 ⟨x,H1,I1,r1,ty,q1⟩=>?_)
 obtain ⟨h1,h2⟩:=yq I1 r1 ty
 refine ⟨T,id,pa,slot,hty,h1,h2,?_⟩
 have hA:=ha iz pins s1 σ H1 _ I1 q1
 rw [hs] at hA ⊢
 refine Calls.callWith_builtin (by show (false || (backTo iz (starEach es X.env)).any (·.1))=false;rw [yr] <;> rfl) (Calls.evalArgs_plain ?_)
 exact thn hA fun us s2 ⟨vs,H2,I2,r2,q2⟩=>hm pins s2 σ H2 x vs v us Q I2 r1 r2 q2
end
end L2
namespace L2
open PySem PySem.Spec PyProof.Rows
def MtM (X:Cx) (id:String) (r:V->List V->Hp->VK->Prop):Prop :=
 ∀ (pins:List (Addr × Obj)) (s:Shared) (σ:St) (H:Hp) (x:V) (xs:List V) (v:Value) (us:List Value) (Q:VK),Inv X pins σ H s->RelV x v->Vals xs us->r x xs H Q ->
  wpAny (model X.prog X.w) X.A (call (.builtin id) (v :: us)) (EP X pins σ Q) X.xe s
theorem Vals.one:∀ {x:V} {us:List Value},Vals [x] us->∃ u,us=[u]/\RelV x u
 | _,_,.cons r .nil=>⟨_,rfl,r⟩
theorem Vals.two:∀ {x y:V} {us:List Value},Vals [x,y] us->∃ u v,us=[u,v]/\RelV x u/\RelV y v
 | _,_,_,.cons r (.cons q .nil)=>⟨_,_,rfl,r,q⟩
theorem Vals.rep {xs:List V} {us:List Value} (h:Vals xs us):∀ k:Nat,Vals (List.replicate k xs).flatten (List.replicate k us).flatten
 | 0=>.nil
 | k+1=>by
  rw [List.replicate_succ,List.replicate_succ,List.flatten_cons,List.flatten_cons]
  exact Vals.append h (Vals.rep h k)
theorem foldl_rep (its:List Value):∀ (k:Nat) (acc:List Value),
  List.foldl (fun x1 x2=>x1 ++ x2) acc.toArray (List.replicate k its.toArray)=(acc ++ (List.replicate k its).flatten).toArray
 | 0,acc=>by simp
 | k+1,acc=>by
  have e:acc.toArray ++ its.toArray=(acc ++ its).toArray:=by simp
  have e2:(acc ++ its) ++ (List.replicate k its).flatten=acc ++ (List.replicate (k+1) its).flatten:=by
   rw [List.replicate_succ,List.flatten_cons,List.append_assoc]
  rw [← e2,← foldl_rep its k (acc ++ its),← e,List.replicate_succ,List.foldl_cons]
section
variable {X:Cx} {pins:List (Addr × Obj)} {σ:St} {H:Hp} {s:Shared} {l b:Addr} {xs ys zs:List V}
theorem Inv.lset {its its' : List Value} {n:Nat} {f:Array Value->Array Value} {t' : Nat} (I:Inv X pins σ H s) (hH:H l=some (.lst xs))
  (e:s.heap.get? l=some { cls:=.type "list",data:=.seq its.toArray n }) (hf:f its.toArray=its'.toArray) (hv:Vals ys its') (hz:ys.length<=sizeLine) :
  Inv X pins σ (upd H l (.lst ys)) { s with heap:=s.heap.update l (Obj.mapSeq f),toks:=t' }:=by
 have q:=PySem.IsL.update e f
 rw [hf] at q
 refine I.write (x:=l) (e:=l) (by rw [hH];exact trivial) (.inl rfl) (fun b' u hb hu=>(Heap.get?_update_other s.heap (Obj.mapSeq f) (Ne.symm hb)).trans hu) ⟨_,q⟩ ?_
 exact ⟨hz,its',_,hv,q⟩
theorem Inv.lnew {its:List Value} {t' : Nat} (I:Inv X pins σ H s) (hv:Vals ys its) (hz:ys.length<=sizeLine) :
  Inv X pins σ (upd H s.heap.objs.size (.lst ys)) { s with heap:=s.heap.push { cls:=.type "list",data:=.seq its.toArray },toks:=t' } :=
 I.laid (fun _ _ q=>Heap.get?_push_of_some _ q) (Nat.le_refl _) ⟨hz,its,0,hv,Heap.get?_push_size _ rfl⟩
theorem Inv.fresh (I:Inv X pins σ H s):H s.heap.objs.size=none:=I.hok.fresh (Nat.le_refl _)
theorem Inv.lstM (I:Inv X pins σ H s) (hH:H l=some (.lst xs)):xs.length<=sizeLine/\∃ (its:List Value) (n:Nat),Vals xs its/\xs.length=its.length/\s.heap.get? l=some { cls:=.type "list",data:=.seq its.toArray n }:=by
 obtain ⟨z,its,n,r,e⟩:=I.hok l _ hH
 exact ⟨z,its,n,r,r.length,e⟩
theorem uF {n:Nat} (h:n<=sizeLine):Builtin.List.listTooLong n=false:=by
 unfold Builtin.List.listTooLong
 exact decide_eq_false (by omega)
end
section
variable {X:Cx}
def wA:V->List V->Hp->VK->Prop:=fun x vs H Q=>∃ l xs y,x=.ref l/\vs=[y]/\H l=some (.lst xs)/\xs.length < sizeLine/\Q .non (upd H l (.lst (xs ++ [y])))
theorem cb:MtM X "list.append" wA:=by
 intro pins s σ H x vs v us Q I rx rv h
 obtain ⟨l,xs,y,rfl,rfl,hH,hz,q⟩:=h
 cases rx
 obtain ⟨u,rfl,ru⟩:=rv.one
 obtain ⟨z,its,n,r,hl,e⟩:=I.lstM hH
 refine call_meets F.slot_list_append ⟨_,e,rfl⟩ F.entry_list_append (F.args_list_append_2 _ _) (PySem.list_append l its.toArray n u (by rw [List.size_toArray];omega)) ⟨e,?_⟩
 refine ⟨.non,_,I.lset (its':=its ++ [u]) hH e (by simp) (r.append (.cons ru .nil)) ?_,rfl,q⟩
 rw [List.length_append,List.length_singleton]
 omega
def C9:V->List V->Hp->VK->Prop:=fun x vs H Q=>∃ l b xs zs,x=.ref l/\vs=[.ref b]/\H l=some (.lst xs)/\H b=some (.lst zs)/\xs.length+zs.length<=sizeLine/\Q .non (upd H l (.lst (xs ++ zs)))
def QE:V->List V->Hp->VK->Prop:=fun x vs H Q=>∃ l xs y,x=.ref l/\vs=[]/\H l=some (.lst xs)/\xs[xs.length - 1]?=some y/\Q y (upd H l (.lst xs.dropLast))
def DG:V->List V->Hp->VK->Prop:=fun x vs H Q=>∃ l xs i k y,x=.ref l/\vs=[.int i]/\H l=some (.lst xs)/\-(2 ^ 63)<=i/\i < 2 ^ 63/\seqIndex? i xs.length=some k/\xs[k]?=some y/\Q y (upd H l (.lst (xs.eraseIdx k)))
def AU:V->List V->Hp->VK->Prop:=fun x vs H Q=>∃ l xs,x=.ref l/\vs=[]/\H l=some (.lst xs)/\Q .non (upd H l (.lst xs.reverse))
def DH:V->List V->Hp->VK->Prop:=fun x vs H Q=>∃ l xs,x=.ref l/\vs=[]/\H l=some (.lst xs)/\Q .non (upd H l (.lst []))
def DI:R2:=fun x y H Q=>∃ l b xs zs,x=.ref l/\y=.ref b/\H l=some (.lst xs)/\H b=some (.lst zs)/\xs.length+zs.length<=sizeLine/\∀ p,H p=none->Q (.ref p) (upd H p (.lst (xs ++ zs)))
theorem dA:OpR X (binaryOp .Add) DI:=by
 intro pins s σ H x y v u Q I rx ry h
 obtain ⟨l,b,xs,zs,rfl,rfl,hH,hB,hz,q⟩:=h
 cases rx
 cases ry
 obtain ⟨z,its,n,r,hl,e⟩:=I.lstM hH
 obtain ⟨z2,AV,n2,r2,hl2,e2⟩:=I.lstM hB
 refine PySem.P.add_list e e2 ?_ (by rw [List.size_toArray,List.size_toArray];omega)
 have ea:its.toArray ++ AV.toArray=(its ++ AV).toArray:=by simp
 rw [ea]
 exact ⟨.ref _,_,I.lnew (t':=s.toks) (r.append r2) (by rw [List.length_append];omega),rfl,q _ I.fresh⟩
def DJ:R2:=fun x y H Q=>∃ l k xs,x=.ref l/\y=.int k/\H l=some (.lst xs)/\-(2 ^ 63)<=k/\k < 2 ^ 63/\xs.length * k.toNat<=sizeLine /\
 ∀ p,H p=none->Q (.ref p) (upd H p (.lst (List.replicate k.toNat xs).flatten))
theorem len_rep {α:Type} (xs:List α) (k:Nat):(List.replicate k xs).flatten.length=k * xs.length:=by
 induction k with
 | zero=>simp
 | succ k ih=>rw [List.replicate_succ,List.flatten_cons,List.length_append,ih,Nat.succ_mul,Nat.add_comm]
theorem yt:OpR X (binaryOp .Mult) DJ:=by
 intro pins s σ H x y v u Q I rx ry h
 obtain ⟨l,k,xs,rfl,rfl,hH,h1,h2,hz,q⟩:=h
 cases rx
 obtain ⟨t,rfl⟩:=ry
 obtain ⟨z,its,n,r,hl,e⟩:=I.lstM hH
 have hlen:its.toArray.size * k.toNat<=sizeLine:=by rw [List.size_toArray,← hl];exact hz
 have DK:¬ its.toArray.size * k.toNat > (2 ^ 63 - 1) / 8:=by
  have:(sizeLine:Nat)<=(2 ^ 63 - 1) / 8:=by decide
  omega
 have DM:¬ (!Builtin.List.listFitsIndex k)=true:=by
  rw [fitsIndex_both h1 h2]
  exact Bool.false_ne_true
 have AW:¬ Builtin.List.listTooLong (its.toArray.size * k.toNat)=true:=by
  rw [uF hlen]
  exact Bool.false_ne_true
 have DN:List.foldl (fun x1 x2=>x1 ++ x2) #[] (List.replicate (if its.toArray.isEmpty=true then 0 else k.toNat) its.toArray)=(List.replicate k.toNat its).flatten.toArray:=by
  have f0:∀ m:Nat,List.foldl (fun x1 x2=>x1 ++ x2) #[] (List.replicate m its.toArray)=(List.replicate m its).flatten.toArray:=fun m=>by
   have:=foldl_rep its m []
   rw [List.nil_append] at this
   exact this
  rw [f0]
  cases its with
  | nil=>simp
  | cons a r'=>rw [if_neg (by simp)]
 refine wpAny_binaryOp_repeat_ref (T := "list") (U := "int") (by decide) ⟨_,e,rfl⟩ (fun s'=>typeIs_int s' k t) noFill_list_mul F.fills_int_mul F.slot_int_rmul repeat_list F.slot_int_index.lookup
  (call_meets F.slot_int_rmul (typeIs_int s k t) F.entry_int_rmul (F.args_int_rmul_2 _ _) (int___rmul___int_list k t l its.toArray n)
   ⟨e,rfl,⟨_,e,rfl⟩,call_meets F.slot_list_mul ⟨_,e,rfl⟩ F.entry_list_mul (F.args_list_mul_2 _ _) (AutoListH.list___mul___list_int_3 l its.toArray n k t DM DK AW) ⟨e,?_⟩⟩)
 rw [DN]
 exact ⟨.ref _,_,I.lnew (t':=s.toks) (r.rep k.toNat) (by rw [len_rep,Nat.mul_comm];exact hz),rfl,q _ I.fresh⟩
end
section
variable {prog:Program} {w:World} {A:Around} {E:Value->Shared->Prop} {s:Shared}
end
section
variable {X:Cx}
end
end L2
namespace Att
open PySem PySem.W PySem.Calls PyProof.Rows
theorem lH {P:Params} {h:Heap} : ∀ (ns:List Int) (vs:List Value),WellAll P h vs (ns.map WData.int)->IntsAre vs ns:=by
 intro ns
 induction ns with
 | nil =>
  intro vs w
  rw [List.map_nil] at w
  cases w
  exact .nil
 | cons n ns ih =>
  intro vs w
  rw [List.map_cons] at w
  cases w with
  | cons a b =>
   cases a
   exact .cons _ _ (ih _ b)
theorem tH {l:OpenLaw} {n:Nat} (hn:l.most=some n) {P:Params} {h:Heap} {args:List WData} {vals:List Value}
  (wB:l.row.toRowW.claim.pre args=true) (hwl:WellAll P h vals args) :
  ∃ a vs ns,vals=[Value.ref a]/\args=[WData.list (ns.map WData.int)]/\h.get? a=some { cls:=.type "list",data:=.seq vs.toArray }/\IntsAre vs ns/\ns.length<=n:=by
 have hsh:WShape.hasAll [] args [.list .int]=true:=(pre_splitW wB).1
 have hc:l.pre.holds [] { args:=args } = true:=(pre_splitW wB).2
 obtain ⟨d,r,rfl,h1,h2⟩:=hasAllW_cons hsh
 obtain rfl:=hasAllW_nil h2
 obtain ⟨xs,rfl,h3⟩:=hasW_list h1
 obtain ⟨ns,rfl⟩:=items_int h3
 have hlen:ns.length<=n:=by
  unfold OpenLaw.pre at hc
  have h4:(WTm.not (.lt (.lit (.int (n:Int))) (.len (.arg 0)))).holds [] { args:=[.list (ns.map .int)] } = true:=by
   have h4:=(holds_andW hc).1
   rw [hn] at h4
   exact h4
  have h5:=condW_of h4 (w_not (w_lt w_lit (w_len_list (w_arg rfl))))
  rw [List.length_map] at h5
  refine Nat.le_of_not_lt fun q=>?_
  have q' : (n:Int) < ((ns.length:Nat):Int):=by omega
  first
   | (rw [decide_eq_true q'] at h5;exact absurd h5 (by decide))
   | (simp at h5;omega)
 cases hwl with
 | cons w1 w2 =>
  cases w2
  cases w1 with
  | list ho gO=>exact ⟨_,_,ns,rfl,rfl,ho,lH ns _ gO,hlen⟩
theorem tI (l:OpenLaw) (args:List WData):l.row.toRowW.claim.post args (.bool true) args=true :=
 postW_of (r:=l.row.toRowW) (X:=(true == true))
  (show WShape.has [] (.bool true) .bool=true by first | rfl | decide | simp [WShape.has,WShape.arms,WShape.armsAll])
  (show (WTm.eq .res (.lit (.bool true))).value [] { args:=args,res:=some (.bool true),after:=args } = some (.bool (true == true)) from w_eq_bool (w_res rfl) w_lit) rfl
theorem attach_call {l:OpenLaw} {n:Nat} {q:Program} {loose:List Str} {XP:(Str->Option Value)->Heap->Prop} {YP:World->Heap->Prop} {d:DefRec}
  (hn:l.most=some n) (hdf:d.params.defaults=[])
  (call:∀ (w:World) (s₀ s₁:Shared) (mg mb:Str->Option Value) (fa:Addr) (o:Obj) (pm cd doc:Value) (a:Addr) (vs:List Value) (ns:List Int),
   Ground q loose [] XP w s₀ mg mb s₁.heap->YP w s₁.heap ->
   s₁.heap.get? fa=some o->o.data=.func (docDef d.name d.params d.body d.scope pm cd doc)->s₁.heap.CodeRec cd d.name->mg d.name=some (.ref fa) ->
   s₁.heap.get? a=some { cls:=.type "list",data:=.seq vs.toArray }->IntsAre vs ns->ns.length<=n->s₁.gens = #[] ->
   codeAny (model l.prog w) callerA (.call (.ref fa) ⟨[.ref a],[]⟩) (fun r s'=>r=.ok (.ret (.bool true))/\OldK s₁.heap s'.heap/\s'.os=s₁.os/\AllBare s'.gens) s₁) :
  WalkO q loose XP YP l.row.toRowW d [] (fun f vs=>PySem.call f vs):=by
 intro w s₀ s₁ mg mb G Y fa o pm cd doc dV kV ho hd hcd hD hmg hg args vals as wB QF hrd hwl hlo
 obtain rfl:dV=.none:=Dflts.none hD hdf
 obtain rfl:kV=.none:=Dflts.noKw hD
 obtain ⟨a,vs,ns,rfl,rfl,yu,hints,hlen⟩:=tH hn wB hwl
 refine enter_call (codeAny_mono (call w s₀ s₁ mg mb fa o pm cd doc a vs ns G Y ho (fd_plain hd) hcd hmg yu hints hlen hg) fun r s' hq=>?_)
 obtain ⟨rfl,h2,h3,h4⟩:=hq
 exact ⟨.inl ⟨.bool true,.bool true,[],rfl,fun _=>rfl,.bool true,tI l _,fun _=>⟨List.Pairwise.nil,fun _ hm=>(nomatch hm)⟩⟩,h2,h3,h4⟩
section
variable {prog:Program} {w:World} {A:Around} {E:Value->Shared->Prop} {s:Shared} {K:Frag}
def DO (h:Heap):Heap:={ h with objs:=#[] }
def ledger (h:Heap) (L d:Addr):List (Addr × Obj):=(List.range h.objs.size).filterMap fun a=>if a=L\/a=d then none else (h.get? a).map fun o=>(a,o)
end
end Att
namespace L2
open PySem PySem.Spec PyProof.Rows
theorem oB:∀ {vs:List Value} {ns:List Int},IntsAre vs ns->Vals (ns.map V.int) vs
 | _,_,.nil=>.nil
 | _,_,.cons n t h=>.cons ⟨t,rfl⟩ (oB h)
def yv (H:Hp):Prop:=∀ b,H b=none\/∃ o xs,H b=some (.frz o (.lst xs))
theorem uG {P:Program} {w:World} {K:PySem.W.Frag} {mg mb:Str->Option Value} {CX:CXT} {k:Nat} {fa a:Addr} {fd:FuncData} {x:Str} {sp:Sp} {s₁:Shared} {vs:List Value} {ns:List Int}
  (KX:K.In s₁.heap) (hns:s₁.heap.Ns mainGlobals mg) (hb:s₁.heap.Ns builtinsNs mb) (hbb:∀ x:Str,x ≠ "__name__" -> mb x=bootBuiltins x) (DP:s₁.heap.NoLimit) (hg:s₁.gens = #[])
  (ha:s₁.heap.get? a=some { cls:=.type "list",data:=.seq vs.toArray }) (hi:IntsAre vs ns) (hl:ns.length<=sizeLine) (hr:bZ k callerA)
  (F:∀ base:Heap,K.In base->base.Ns mainGlobals mg->aR P w K mg base CX k fa fd [x] sp) (AX:∀ (s:Shared) (u:Value),BindsTo s fd ⟨[u],[]⟩ [(x,u)])
  (hsp:∀ H:Hp,yv H->SqL K H a (ns.map V.int)->sp [.ref a] H (fun v _=>v=.bl true) fun _ _ _=>False)
  (hCX:∀ H e s',CX [] H s₁ (fun _ _ _=>False) e s'->False) :
  codeAny (model P w) callerA (.call (.ref fa) ⟨[.ref a],[]⟩) (fun r s'=>r=.ok (.ret (.bool true))/\OldK s₁.heap s'.heap/\s'.os=s₁.os/\AllBare s'.gens) s₁:=by
 have rv:=oB hi
 have DQ:=hi.length
 have core:∀ H:Hp,yv H->SqL K H a (ns.map V.int)->HOk P w H s₁.heap->(∀ b,H b ≠ none->b=a)->(H a ≠ none->K.lookup a=none) ->
   codeAny (model P w) callerA (.call (.ref fa) ⟨[.ref a],[]⟩) (fun r s'=>r=.ok (.ret (.bool true))/\OldK s₁.heap s'.heap/\s'.os=s₁.os/\AllBare s'.gens) s₁:=by
  intro H hO hS hok hA hK
  have sO:∀ {b:Addr} {o:Obj},s₁.heap.get? b=some o->H b=none->(oZ s₁.heap H).get? b=some o:=fun e n=>uu e n
  have noA:∀ {b:Addr} {o:Obj} {es:Array DictEntry} {ep:Nat},s₁.heap.get? b=some o->o.data=.dict es ep->H b=none:=fun {b o es ep} e d=>by
   cases q:H b with
   | none=>rfl
   | some u =>
    have e' : b=a:=hA b (by rw [q];simp)
    subst e'
    rw [ha] at e;cases e
    have d' : Data.seq vs.toArray _=Data.dict es ep:=d
    cases d'
  have nsK:∀ {b:Addr} {m:Str->Option Value},s₁.heap.Ns b m->(oZ s₁.heap H).Ns b m:=fun {b m} ⟨o,es,ep,e,d,r⟩=>⟨o,es,ep,sO e (noA e d),d,r⟩
  have hKb:K.In (oZ s₁.heap H):=fun b o e=>sO (KX b o e) (by
   cases q:H b with
   | none=>rfl
   | some u =>
    have e' : b=a:=hA b (by rw [q];simp)
    subst e'
    rw [hK (by rw [q];simp)] at e;cases e)
  have hM:Mod K mg (oZ s₁.heap H):=⟨hKb,nsK hns,⟨mb,nsK hb,hbb⟩,let ⟨mc,h1,h2⟩:=DP;⟨mc,nsK h1,h2⟩⟩
  have e0:rE P w K mg (oZ s₁.heap H) callerA [] s₁ H:=⟨rfl,hM,fun b o e=>wj e,Nat.le_of_eq (tu _ _),trivial,fun b hb=>absurd (show b ∈ ([]:List Addr) from hb) (by simp),hok,.of_eq hg⟩
  refine codeAny_mono ((F _ hKb (nsK hns)).run callerA [] s₁ H ⟨[.ref a],[]⟩ [.ref a] [.ref a] _ _ hr e0 (AX s₁ (.ref a)) (.cons rfl .nil) (hsp H hO hS)) fun r s' h=>?_
  cases r with
  | error e=>exact (hCX H e s' h).elim
  | ok fl =>
   cases fl with
   | next=>exact False.elim h
   | brk=>exact False.elim h
   | cont=>exact False.elim h
   | ret u =>
    obtain ⟨v,H',os,bare,un,DR,r',q⟩:=h
    have q' : v=.bl true:=q
    subst q'
    obtain rfl:u=Value.bool true:=r'
    refine ⟨rfl,OldK.of_keep fun b o e=>?_,os,bare⟩
    cases q:H b with
    | none=>exact un.keep b o e q (by intro z;exact absurd (show b ∈ ([]:List Addr) from z) (by simp)) (by simp)
    | some u =>
     rcases hO b with z | ⟨ob,xs,z⟩
     ·rw [q] at z;cases z
     ·have z2:=un.frzs b ob _ z
      obtain ⟨e1,_⟩:=hok b _ z
      obtain ⟨e2,_⟩:=DR b _ z2
      rw [e] at e1;cases e1
      exact e2
 cases hk:K.lookup a with
 | some o =>
  have e:=KX a o hk
  rw [ha] at e
  cases e
  refine core (fun _=>none) (fun _=>.inl rfl) (.inr ⟨_,vs.toArray,_,hk,rfl,rfl,rfl,by rw [List.size_toArray,DQ];exact hl,by simpa using rv⟩) (fun b u z=>by have z' : (none:Option HO)=some u:=z;cases z') (fun b z=>absurd rfl z) fun z=>absurd rfl z
 | none =>
  refine core (fun b=>if b=a then some (.frz { cls:=.type "list",data:=.seq vs.toArray } (.lst (ns.map V.int))) else none) (fun b=>?_) (.inl (.inr ⟨{ cls:=.type "list",data:=.seq vs.toArray },if_pos rfl⟩)) (fun b u z=>?_) (fun b z=>?_) fun _=>hk
  ·by_cases hb:b=a
   ·exact .inr ⟨_,_,if_pos hb⟩
   ·exact .inl (if_neg hb)
  ·by_cases hb:b=a
   ·have z':=(if_pos hb).symm.trans z
    cases z'
    subst hb
    exact ⟨ha,by rw [List.length_map];exact hl,vs,_,rv,ha⟩
   ·have z':=(if_neg hb).symm.trans z
    cases z'
  ·by_cases hb:b=a
   ·exact hb
   ·exact absurd (if_neg hb) z
end L2
namespace L2
open PySem PySem.Spec PyProof.Rows
abbrev KOf {K:PySem.W.Frag} {h:Heap} (_:K.In h):PySem.W.Frag:=K
theorem walk_of {l:PySem.W.OpenLaw} {n k:Nat} {q:Program} {loose:List Str} {XP:(Str->Option Value)->Heap->Prop} {YP:World->Heap->Prop} {d:DefRec} {K:Params->PySem.W.Frag} {CX:World->CXT} {sp:World->Sp} {x:Str}
  (hn:l.most=some n) (hn2:n<=sizeLine) (hdf:d.params.defaults=[]) (hr:bZ k callerA)
  (hY:∀ (w:World) (h:Heap),YP w h->(K w.params).In h)
  (F:∀ (w:World) (mg:Str->Option Value) (fa:Addr) (h:Heap),(K w.params).In h->h.Ns mainGlobals mg->mg d.name=some (.ref fa) ->
   ∃ fd:FuncData,(∀ (s:Shared) (u:Value),BindsTo s fd ⟨[u],[]⟩ [(x,u)]) /\
    ∀ base:Heap,(K w.params).In base->base.Ns mainGlobals mg->aR l.prog w (K w.params) mg base (CX w) k fa fd [x] (sp w))
  (hsp:∀ (w:World) (H:Hp) (a:Addr) (ns:List Int),ns.length<=n->yv H->SqL (K w.params) H a (ns.map V.int)->sp w [.ref a] H (fun v _=>v=.bl true) fun _ _ _=>False)
  (hCX:∀ (w:World) (H:Hp) (s:Shared) (e:Value) (s' : Shared),CX w [] H s (fun _ _ _=>False) e s'->False) :
  PySem.W.WalkO q loose XP YP l.row.toRowW d [] (fun f vs=>PySem.call f vs):=by
 refine Att.attach_call hn hdf fun w s₀ s₁ mg mb fa o pm cd doc a vs ns G Y ho hd hcd hmg yu hints hlen hg=>?_
 have KX:=hY w _ Y
 obtain ⟨fd,hb,hF⟩:=F w mg fa _ KX G.T.g hmg
 exact uG KX G.T.g G.T.b G.T.builtins G.T.nolimit hg yu hints (Nat.le_trans hlen hn2) hr hF hb (fun H hO hS=>hsp w H a ns hlen hO hS) fun H e s'=>hCX w H s₁ e s'
end L2
namespace L2
open PySem PySem.Spec PyProof.Rows
def inClass (s:Stmt) (j:Nat):Stmt:=match s with
 | .ClassDef _ _ _ body _ _ _ _ _ _ _=>body.getD j (.Pass ⟨0,0,0,0⟩)
 | _=>.Pass ⟨0,0,0,0⟩
def au (s:Stmt):Arguments:=match s with
 | .FunctionDef _ a _ _ _ _ _ _ _ _=>a
 | _=>{ posonlyargs:=[],args:=[],vararg:=none,kwonlyargs:=[],kw_defaults:=[],kwarg:=none,defaults:=[] }
def aq (s:Stmt):List Stmt:=match s with
 | .FunctionDef _ _ b _ _ _ _ _ _ _=>b
 | _=>[]
def ag (s:Stmt):Scope:=match s with
 | .FunctionDef _ _ _ _ _ _ sc _ _ _=>sc
 | _=>{ kind:=.function,names:=[],isGenerator:=false,isCoroutine:=false }
abbrev CX0:CXT:=fun _ _ _ _ _ _=>False
abbrev E0:XK:=fun _ _ _=>False
theorem bK {X:Cx} : Passes CX0 X E0:=fun _ _ _ _ _ _ _ h=>h.elim
structure Fun (K:PySem.W.Frag) (x qual:Str) (st:Stmt) (f:Addr) (fd:FuncData):Prop where
 ex:∃ (oc:Value) (od:Option Addr) (kV doc pm:Value) (an:Option Addr) (cdv ct:Value) (osl:Array (Option Value)),
  fd=PySem.W.fnOf x qual (au st) (aq st) (ag st) .none kV doc pm an cdv ct/\K.lookup f=some ⟨oc,od,.func fd,osl⟩/\PySem.W.codeIn K cdv qual=true
 kp:PySem.W.keepIn K (.ref f)=true
section
variable {P:Program} {w:World} {K:PySem.W.Frag} {mg:Str->Option Value} {base:Heap}
theorem Fun.ok {x qual:Str} {st:Stmt} {f:Addr} {fd:FuncData} {N ps:List Str} {k:Nat} {sp:Sp} (F:Fun K x qual st f fd) (S:ax N ps (ag st)) (len:∀ vs H Q E,sp vs H Q E->vs.length=ps.length)
  (qJ:∀ (cdv:Value) (A:Around) (outer:List Env) (s:Shared) (H:Hp) (vs:List V) (Q:VK) (E:XK),bZ k (A.deeper (envOfC qual (ag st) s.heap.objs.size f cdv))->sp vs H Q E ->
   ∃ t,PSs (jw CX0 P w K mg base N qual (ag st) f cdv A outer s H E).nox (aq st) t/\t { nx:=fun _ H'=>Q .non H',rt:=Q } (start N vs) H):aR P w K mg base CX0 (k+1) f fd ps sp:=by
 obtain ⟨oc,od,kV,doc,pm,an,cdv,ct,osl,rfl,lk,hcd⟩:=F.ex
 refine xt lk hcd S len fun A outer s H vs Q E hr hsp=>?_
 obtain ⟨t,h,q⟩:=qJ cdv A outer s H vs Q E hr hsp
 exact ⟨t,h.nox,q⟩
theorem Fun.binds {x qual:Str} {st:Stmt} {f:Addr} {fd:FuncData} {ps:List Str} (F:Fun K x qual st f fd)
  (h:∀ (kV doc pm:Value) (an:Option Addr) (cdv ct:Value) (us:List Value),us.length=ps.length->bindArgs (PySem.W.fnOf x qual (au st) (aq st) (ag st) .none kV doc pm an cdv ct) ⟨us,[]⟩=pure (ps.zip us)):Binds K fd ps []:=by
 obtain ⟨oc,od,kV,doc,pm,an,cdv,ct,osl,rfl,lk,hcd⟩:=F.ex
 exact .all (h kV doc pm an cdv ct)
theorem aF {x qual:Str} {st:Stmt} {f:Addr} {oc:Value} {od an:Option Addr} {osl:Array (Option Value)} {kV doc pm cdv ct:Value} (l:K.lookup f=some ⟨oc,od,.func (PySem.W.fnOf x qual (au st) (aq st) (ag st) .none kV doc pm an cdv ct),osl⟩)
  (c:PySem.W.codeIn K cdv qual=true) (k:PySem.W.keepIn K (.ref f)=true):Fun K x qual st f (PySem.W.fnOf x qual (au st) (aq st) (ag st) .none kV doc pm an cdv ct):=⟨⟨oc,od,kV,doc,pm,an,cdv,ct,osl,rfl,l,c⟩,k⟩
end
theorem aH {n:Nat} (h:n<=1000):n < sizeLine:=Nat.lt_of_le_of_lt h (by decide)
section
variable {X:Cx}
theorem pv (i:Nat) {x:Str} {pos:Pos} (hN:X.N[i]?=some x:=by rfl) (hv:Vis X.env.scope x:=by first | exact Or.inl rfl | exact Or.inr (Or.inl rfl) | exact Or.inr (Or.inr rfl)) (hd:(x == ("__debug__" : Str))=false:=by decide)
  (hcd:(x == ("__classdict__" : Str))=false:=by decide):PE X (.Name x pos) (Av i):=yc hN hv hd hcd
end
theorem bf {A B:Prop} (h:B):if false=true then A else B:=by
 rw [if_neg Bool.false_ne_true]
 exact h
theorem bR {A B:Prop} (h:A):if true=true then A else B:=by
 rw [if_pos rfl]
 exact h
theorem cc {c A B:Prop} [Decidable c] (h1:c->A) (h2:¬ c->B):if c then A else B:=by
 by_cases h:c
 ·rw [if_pos h]
  exact h1 h
 ·rw [if_neg h]
  exact h2 h
theorem fS {c A B:Prop} [Decidable c] (hc:c) (h:B):if (!decide c)=true then A else B:=by
 rw [decide_eq_true hc]
 exact bf h
def av (H H' : Hp):Prop:=∀ b o,H b=some o->H' b=some o
theorem av.refl (H:Hp):av H H:=fun _ _ h=>h
theorem av.trans {H H1 H2:Hp} (a:av H H1) (b:av H1 H2):av H H2:=fun c o h=>b c o (a c o h)
theorem av.free {H H' : Hp} (e:av H H') {l:Addr} (h:H' l=Option.none):H l=Option.none:=by
 cases q:H l with
 | none=>rfl
 | some o =>
  rw [e l o q] at h
  cases h
theorem av.seq {K:PySem.W.Frag} {H H' : Hp} {a:Addr} {xs:List V} (e:av H H') (h:SqL K H a xs):SqL K H' a xs:=by
 rcases h with (h | ⟨o,h⟩) | h
 ·exact .inl (.inl (e _ _ h))
 ·exact .inl (.inr ⟨o,e _ _ h⟩)
 ·exact .inr h
end L2
set_option maxHeartbeats 4000000
namespace L2
abbrev Pr:=Int × Int
def inR (n:Int) (p:Pr):Bool:=decide (p.1<=n) && decide (n<=p.2)
def inP (ps:List Pr) (n:Int):Bool:=ps.any (inR n)
structure Apart (R:List Pr):Prop where
 le:∀ p ∈ R,p.1<=p.2
 gap:R.Pairwise fun p q=>p.2+2<=q.1
structure QG (R qs:List Pr):Prop where
 ap:Apart R
 mem:∀ n,inP R n=inP qs n
 cov:∀ p ∈ qs,p.1<=p.2->∃ r ∈ R,r.1<=p.1/\p.2<=r.2
 low:∀ r ∈ R,∃ q ∈ qs,r.1=q.1
end L2
namespace L2
open PySem PySem.Spec PyProof.Rows
def Callee (P:Program) (w:World) (K:PySem.W.Frag) (mg:Str->Option Value) (base:Heap) (k:Nat) (x:Str) (ps:List Str) (sp:Sp):Prop :=
 ∃ f fd,aR P w K mg base CX0 k f fd ps sp/\Binds K fd ps []/\PySem.W.keepIn K (.ref f)=true/\mg x=some (.ref f)
theorem Callee.mono {P:Program} {w:World} {K:PySem.W.Frag} {mg:Str->Option Value} {base:Heap} {j k:Nat} {x:Str} {ps:List Str} {sp:Sp} (C:Callee P w K mg base j x ps sp) (h:j<=k):Callee P w K mg base k x ps sp :=
 let ⟨f,fd,F,r⟩:=C
 ⟨f,fd,F.mono h,r⟩
section
variable {X:Cx} {k:Nat} {x:Str} {ps:List Str} {sp:Sp} {e:Expr} {es:List Expr} {t:TA} {p pos:Pos}
def tFn (sp:Sp) (t:TA):TE:=fun σ H Q=>t σ H fun vs H1=>sp vs H1 Q E0
theorem aT (C:Callee X.prog X.w X.K X.mg X.base k x ps sp) (hr:bZ k X.A) (hg:Gl X x) (ha:PA X (e :: es) t) (hdb:(x == ("__debug__" : Str))=false:=by decide)
  (he:starEach (e :: es) X.env=(false,eval e X.env) :: starEach es X.env:=by rfl) (hpl:(backTo pos (starEach es X.env)).any (·.1)=false:=by rfl):PE X (.Call (.Name x p) (e :: es) [] pos) (tFn sp t):=by
 obtain ⟨f,fd,F,b,kk,m⟩:=C
 have h:=wu (E:=E0) (dvs:=[]) (ds:=[]) (p:=p) F hr hg m kk b .nil bK ha hdb he hpl
 intro pins s σ H Q I q
 refine h pins s σ H Q I ?_
 have q' : t σ H fun vs H1=>sp vs H1 Q E0:=q
 have e1:(fun (vs:List V) (H1:Hp)=>sp (vs ++ []) H1 Q E0)=fun vs H1=>sp vs H1 Q E0:=by
  funext vs H1
  rw [List.append_nil]
 show t σ H fun vs H1=>sp (vs ++ []) H1 Q E0
 rw [e1]
 exact q'
end
def DT (t u:TS):TS:=fun D σ H=>∃ M:St->Hp->Prop,t { D with nx:=M } σ H/\∀ σ' H',M σ' H'->u D σ' H'
theorem aL {X:Cx} {st:Stmt} {rest:List Stmt} {t u:TS} (h1:PS X st t) (h2:PSs X rest u):PSs X (st :: rest) (DT t u):=by
 intro pins s σ H D I ⟨M,a,b⟩
 refine wpAny_execs_cons (thn (h1 pins s σ H { D with nx:=M } I a) fun fl s1 q=>?_)
 cases fl with
 | next=>obtain ⟨σ',H',I',q⟩:=q;exact h2 pins s1 σ' H' D I' (b σ' H' q)
 | ret v=>exact q
 | brk=>exact q
 | cont=>exact q
section
variable {X:Cx}
end
inductive EqI (K:PySem.W.Frag) (H:Hp):V->V->Bool->Prop where
 | flat {x y:V} (fx:dg x=true) (fy:dg y=true):EqI K H x y (eqV x y)
 | same (a:Addr):EqI K H (.ref a) (.ref a) true
 | tup {a b:Addr} {xs ys:List V} (ha:SqT K H a xs) (hb:SqT K H b ys) (fx:xs.all dg=true) (fy:ys.all dg=true):EqI K H (.ref a) (.ref b) (decide (xs.length=ys.length) && (List.zipWith eqV xs ys).all id)
theorem mG:∀ {x:V},dg x=true->eqV x x=true
 | .non,_=>rfl
 | .bl b,_=>by simp [eqV]
 | .int i,_=>by simp [eqV]
 | .str z,_=>by simp [eqV]
theorem mH:∀ {xs:List V},xs.all dg=true->(List.zipWith eqV xs xs).all id=true
 | [],_=>rfl
 | x :: xs,h=>by
  rw [List.all_cons,Bool.and_eq_true] at h
  rw [List.zipWith_cons_cons,List.all_cons,mH h.2,Bool.and_true]
  exact mG h.1
theorem ib {f:Nat->Bool} : ∀ {xs ys:List V},(∀ j x y,xs[j]?=some x->ys[j]?=some y->f j=eqV x y)->(List.range (min xs.length ys.length)).all f=(List.zipWith eqV xs ys).all id
 | [],ys,_=>by simp
 | x :: xs,[],_=>by simp
 | x :: xs,y :: ys,h=>by
  have ih:=ib (f:=fun j=>f (j+1)) (xs:=xs) (ys:=ys) fun j a b e1 e2=>h (j+1) a b (by simpa using e1) (by simpa using e2)
  have e0:=h 0 x y rfl rfl
  have em:min (x :: xs).length (y :: ys).length=min xs.length ys.length+1:=by simp only [List.length_cons];omega
  rw [em,List.range_succ_eq_map,List.all_cons,List.zipWith_cons_cons,List.all_cons,List.all_map,e0]
  show (eqV x y && (List.range (min xs.length ys.length)).all (fun j=>f (j+1)))=_
  rw [ih]
  rfl
section
variable {X:Cx} {pins:List (Addr × Obj)} {σ:St} {H:Hp} {s:Shared}
theorem EqI.at {A:Around} {x y:V} {u v:Value} {b:Bool} (e:EqI X.K H x y b) (I:Inv X pins σ H s) (hu:A.units+1 < cLine) (rx:RelV x u) (ry:RelV y v):SeqAt.EqAt A s u v b:=by
 cases e with
 | flat fx fy=>exact rG rx ry fx fy
 | same a =>
  cases (show u=Value.ref a from rx)
  cases (show v=Value.ref a from ry)
  exact SeqAt.EqAt.same _
 | @tup a b xs ys ha hb fx fy =>
  cases (show u=Value.ref a from rx)
  cases (show v=Value.ref b from ry)
  by_cases z:a=b
  ·subst z
   have e:=I.tuple_inj ha hb
   subst e
   rw [mH fx,decide_eq_true rfl]
   exact SeqAt.EqAt.same _
  ·obtain ⟨its,r,p,_⟩:=I.tuple ha
   obtain ⟨its',r',p',_⟩:=I.tuple hb
   have l1:=r.length
   have l2:=r'.length
   have h0:=SeqAt.RcAt.tuples (A:=A) (e:=fun j=>match its[j]?,xs[j]?,ys[j]? with | _,some x,some y=>eqV x y | _,_,_=>false) (show s.heap.IsTuple a its.toArray from p) (show s.heap.IsTuple b its'.toArray from p') (by omega) (fun j h1 h2=>by
    have j1:j < its.length:=by simpa using h1
    have j2:j < its'.length:=by simpa using h2
    have x1:xs[j]?=some xs[j]:=List.getElem?_eq_getElem (by omega)
    have y1:ys[j]?=some ys[j]:=List.getElem?_eq_getElem (by omega)
    obtain ⟨u1,q1,r1⟩:=r.get x1
    obtain ⟨u2,q2,r2⟩:=r'.get y1
    have eu:its.toArray[j]=u1:=by
     have:=List.getElem?_eq_getElem j1
     rw [this] at q1;simpa using Option.some.inj q1
    have ev:its'.toArray[j]=u2:=by
     have:=List.getElem?_eq_getElem j2
     rw [this] at q2;simpa using Option.some.inj q2
    rw [eu,ev]
    rw [x1,y1]
    have f1:dg xs[j]=true:=List.all_eq_true.mp fx _ (List.getElem_mem _)
    have f2:dg ys[j]=true:=List.all_eq_true.mp fy _ (List.getElem_mem _)
    exact rG r1 r2 f1 f2)
   have h1:=SeqAt.EqAt.of_refs z h0
   have e1:((List.range (min its.toArray.size its'.toArray.size)).all fun j=>match its[j]?,xs[j]?,ys[j]? with | _,some x,some y=>eqV x y | _,_,_=>false)=(List.zipWith eqV xs ys).all id:=by
    have es:min its.toArray.size its'.toArray.size=min xs.length ys.length:=by simp only [List.size_toArray];omega
    rw [es]
    exact ib fun j x y q1 q2=>by rw [q1,q2]
   rw [e1] at h1
   have e2:(its.toArray.size == its'.toArray.size)=decide (xs.length=ys.length):=by
    simp only [List.size_toArray,← l1,← l2]
    exact Bool.beq_eq_decide_eq _ _
   rw [e2,Bool.and_comm] at h1
   exact h1
end
def tJ (K:PySem.W.Frag) (neg:Bool):R2:=fun x y H Q=>∃ a b xs ys,x=.ref a/\y=.ref b/\SqL K H a xs/\SqL K H b ys /\
 ((xs.length ≠ ys.length/\Q (.bl neg) H)\/(xs.length=ys.length/\∃ f:Nat->Bool,(∀ j x y,xs[j]?=some x->ys[j]?=some y->EqI K H x y (f j))/\Q (.bl (if neg then !(List.range xs.length).all f else (List.range xs.length).all f)) H))
section
variable {X:Cx}
theorem rH {pins:List (Addr × Obj)} {σ:St} {H:Hp} {s:Shared} {A:Around} {xs ys:List V} {its its' : List Value} {f:Nat->Bool} (I:Inv X pins σ H s) (hu:A.units+1 < cLine) (r:Vals xs its) (r' : Vals ys its')
  (hf:∀ j x y,xs[j]?=some x->ys[j]?=some y->EqI X.K H x y (f j)):∀ j (h1:j < its.toArray.size) (h2:j < its'.toArray.size),SeqAt.EqAt A s its.toArray[j] its'.toArray[j] (f j):=fun j h1 h2=>by
 have j1:j < its.length:=by simpa using h1
 have j2:j < its'.length:=by simpa using h2
 have l1:=r.length
 have l2:=r'.length
 have x1:xs[j]?=some xs[j]:=List.getElem?_eq_getElem (by omega)
 have y1:ys[j]?=some ys[j]:=List.getElem?_eq_getElem (by omega)
 obtain ⟨u1,q1,r1⟩:=r.get x1
 obtain ⟨u2,q2,r2⟩:=r'.get y1
 have eu:its.toArray[j]=u1:=by
  have:=List.getElem?_eq_getElem j1
  rw [this] at q1;simpa using Option.some.inj q1
 have ev:its'.toArray[j]=u2:=by
  have:=List.getElem?_eq_getElem j2
  rw [this] at q2;simpa using Option.some.inj q2
 rw [eu,ev]
 exact (hf j _ _ x1 y1).at I hu r1 r2
theorem pq {k:Nat} (hr:bZ k X.A):OpR X (compareOp .Eq) (tJ X.K false):=by
 intro pins s σ H x y v u Q I rx ry h
 obtain ⟨a,b,xs,ys,rfl,rfl,ha,hb,h⟩:=h
 cases (show v=Value.ref a from rx)
 cases (show u=Value.ref b from ry)
 obtain ⟨its,r,p,_⟩:=I.list ha
 obtain ⟨its',r',p',_⟩:=I.list hb
 have l1:=r.length
 have l2:=r'.length
 have hu:=hr.units
 rcases h with ⟨hn,q⟩ | ⟨hl,f,hf,q⟩
 ·refine SeqAt.eq_list_lengthsAt p.isList p'.isList (by simp only [List.size_toArray,bne_iff_ne,ne_eq];omega) (by omega) ⟨.bl false,H,I,rfl,q⟩
 ·refine SeqAt.eq_listAt (e:=f) p.isList p'.isList (by simp only [List.size_toArray];omega) (by omega) (rH I (by show X.A.units+1+1 < cLine;omega) r r' hf) ⟨.bl _,H,I,rfl,?_⟩
  rw [show its.toArray.size=xs.length by simp only [List.size_toArray];omega]
  exact q
theorem uH {k:Nat} (hr:bZ k X.A):OpR X (compareOp .NotEq) (tJ X.K true):=by
 intro pins s σ H x y v u Q I rx ry h
 obtain ⟨a,b,xs,ys,rfl,rfl,ha,hb,h⟩:=h
 cases (show v=Value.ref a from rx)
 cases (show u=Value.ref b from ry)
 obtain ⟨its,r,p,_⟩:=I.list ha
 obtain ⟨its',r',p',_⟩:=I.list hb
 have l1:=r.length
 have l2:=r'.length
 have hu:=hr.units
 rcases h with ⟨hn,q⟩ | ⟨hl,f,hf,q⟩
 ·refine SeqAt.RcNeAt.lists_lengths p.isList p'.isList (by simp only [List.size_toArray,bne_iff_ne,ne_eq];omega) (by omega) X.prog X.w X.xe _ ⟨.bl true,H,I,rfl,q⟩
 ·refine SeqAt.RcNeAt.lists (e:=f) p.isList p'.isList (by simp only [List.size_toArray];omega) (by omega) (rH I (by show X.A.units+1+1 < cLine;omega) r r' hf) X.prog X.w X.xe _ ⟨.bl _,H,I,rfl,?_⟩
  rw [show its.toArray.size=xs.length by simp only [List.size_toArray];omega]
  exact q
theorem tK {K:PySem.W.Frag} {H:Hp} {Q:VK} {a b:Addr} {xs:List V} (ha:SqL K H a xs) (hb:SqL K H b xs) (fl:∀ x ∈ xs,dg x=true\/∃ r,x=.ref r) (q:Q (.bl false) H):tJ K true (.ref a) (.ref b) H Q:=by
 refine ⟨a,b,xs,xs,rfl,rfl,ha,hb,.inr ⟨rfl,fun _=>true,fun j x y e1 e2=>?_,?_⟩⟩
 ·rw [e1] at e2;cases e2
  rcases fl x (List.mem_of_getElem? e1) with z | ⟨r,rfl⟩
  ·have:=EqI.flat (K:=K) (H:=H) z z
   rw [mG z] at this
   exact this
  ·exact .same r
 ·have:(List.range xs.length).all (fun _=>true)=true:=by simp
  rw [this]
  exact q
end
def fT (H H' : Hp):Prop:=∀ b xs,H b=some (.tup xs)->H' b=some (.tup xs)
theorem av.tups {H H' : Hp} (h:av H H'):fT H H':=fun b xs e=>h b _ e
theorem fT.trans {H H1 H2:Hp} (a:fT H H1) (b:fT H1 H2):fT H H2:=fun c xs e=>b c xs (a c xs e)
theorem oC {H:Hp} {p:Addr} {o:HO} (h:H p=none):fT H (upd H p o):=fun b xs e=>by rw [aC (ba e h)];exact e
theorem dq {H:Hp} {p:Addr} {o:HO} {ys:List V} (h:H p=some (.lst ys)):fT H (upd H p o):=fun b xs e=>by rw [aC (dO e h (by intro z;cases z))];exact e
theorem ah {H:Hp} {p:Addr} (h:H p=none) (o:HO):av H (upd H p o):=fun b u q=>by rw [aC (ba q h)];exact q
theorem av.upd {H H' : Hp} {p:Addr} {o:HO} (s:av H H') (h:H p=none):av H (upd H' p o):=fun b u q=>by rw [aC (ba q h)];exact s b u q
def PL (H:Hp):List V->List (Int × Int)->Prop:=Paired fun x p=>∃ r,x=.ref r/\H r=some (.tup [.int p.1,.int p.2])
theorem PL.mono {H H' : Hp} {xs:List V} {ps:List (Int × Int)} (h:PL H xs ps) (s:fT H H'):PL H' xs ps:=Paired.mapP h fun _ _ ⟨r,e,z⟩=>⟨r,e,s r _ z⟩
theorem PL.get {H:Hp} : ∀ {xs:List V} {ps:List (Int × Int)} {i:Nat} {x:V},PL H xs ps->xs[i]?=some x->∃ p r,ps[i]?=some p/\x=.ref r/\H r=some (.tup [.int p.1,.int p.2])
 | _,_,_,_,.nil,e=>by simp at e
 | _,_,0,_,.cons (b:=b) ⟨r,e1,z⟩ _,e=>by simp at e;subst e;exact ⟨b,r,rfl,e1,z⟩
 | _,_,i+1,x,.cons _ t,e=>by
  obtain ⟨p,r,q⟩:=PL.get (i:=i) (x:=x) t (by simpa using e)
  exact ⟨p,r,by simpa using q.1,q.2⟩
theorem PL.length {H:Hp} {xs:List V} {ps:List (Int × Int)} (h:PL H xs ps):xs.length=ps.length:=Paired.length h
theorem PL.snoc {H:Hp} {xs:List V} {ps:List (Int × Int)} {r:Addr} {a b:Int} (h:PL H xs ps) (e:H r=some (.tup [.int a,.int b])):PL H (xs ++ [.ref r]) (ps ++ [(a,b)]):=Paired.snoc h ⟨r,rfl,e⟩
theorem PL.last {H:Hp} {xs:List V} {ps:List (Int × Int)} (h:PL H xs ps) (hn:xs ≠ []):∃ xs' r ps' p,xs=xs' ++ [.ref r]/\ps=ps' ++ [p]/\PL H xs' ps'/\H r=some (.tup [.int p.1,.int p.2]):=by
 induction h with
 | nil=>exact absurd rfl hn
 | @cons a b l1 l2 hd tl ih =>
  cases tl with
  | nil =>
   obtain ⟨r,e,z⟩:=hd
   exact ⟨[],r,[],b,by rw [e];rfl,rfl,.nil,z⟩
  | @cons a2 b2 l3 l4 hd2 tl2 =>
   obtain ⟨xs',r,ps',p,e1,e2,h3,h4⟩:=ih (by simp)
   exact ⟨a :: xs',r,b :: ps',p,by rw [e1];rfl,by rw [e2];rfl,.cons hd h3,h4⟩
abbrev Tr:=Int × Int × Int
def TL (H:Hp):List V->List Tr->Prop:=Paired fun x t=>∃ r,x=.ref r/\H r=some (.tup [.int t.1,.int t.2.1,.int t.2.2])
theorem ie {ps:List (Int × Int)} {i:Nat} {p:Int × Int} {f:Int × Int->Bool} (e:ps[i]?=some p) (h:(ps.take i).any f=false) (hf:f p=false):(ps.take (i+1)).any f=false:=by
 rw [List.take_add_one,e,List.any_append,h]
 simp [hf]
theorem rJ {ps:List (Int × Int)} {i:Nat} {p:Int × Int} {f:Int × Int->Bool} (e:ps[i]?=some p) (hf:f p=true):ps.any f=true:=List.any_eq_true.mpr ⟨p,List.mem_of_getElem? e,hf⟩
theorem lA {p:Prop} [Decidable p] (h:decide p=true):p:=of_decide_eq_true h
theorem oE {p:Prop} [Decidable p] (h:¬ decide p=true):¬ p:=fun e=>h (decide_eq_true e)
end L2
namespace L2
open PySem PySem.Spec PyProof.Rows
theorem dr {X:Cx} {K:PySem.W.Frag} (h:X.K=K):IxR X (yo K):=h ▸ aS
theorem pw {X:Cx} {K:PySem.W.Frag} (h:X.K=K):IxR X (yp K):=h ▸ bI
def br (X:Cx) (N:List Str) (scope:Scope) (cl:List (Str × Addr)) (fp:List Addr) (C:Addr) (s2:Shared) (H2:Hp):Cx :=
 { prog:=X.prog,w:=X.w,K:=X.K,mg:=X.mg,base:=X.base,A:=X.A,N:=N,s₀:=s2,H₀:=H2,env:=compEnvC scope cl C X.env,outer:=X.stack,stack:=X.stack,ex:=fp,fn:=fun _=>false,calm:=X.calm,pn:=[],xe:=fun _ _=>False }
def PIf (X:Cx) (ifs:List Expr) (t:TT):Prop :=
 ∀ (pins:List (Addr × Obj)) (s:Shared) (σ:St) (H:Hp) (Q:Bool->Hp->Prop),Inv X pins σ H s->t σ H Q ->
  wpAny (model X.prog X.w) X.A (forIn ifs true fun c r=>if r=true then do let ok ← isTrue c X.env (eval c X.env);pure (ForInStep.yield ok) else pure (ForInStep.yield r)) (TP X pins σ Q) X.xe s
def DU:TT:=fun _ H Q=>Q true H
theorem bX {X:Cx} : PIf X [] DU:=fun _ _ _ H _ I h=>wpAny_tests_nil ⟨H,I,h⟩
theorem pA {X:Cx} {c:Expr} {t:TT} (h:PT X c t):PIf X [c] t:=fun pins s σ H Q I q=>wpAny_tests_one (h pins s σ H Q I q)
structure qL (X:Cx) (N:List Str) (fr:List Nat) (scope:Scope) (cl:List (Str × Addr)) (x:Str):Prop where
 clos:closureFor scope X.env=pure cl
 kind:scope.kind=.function
 nocell:∀ y ∈ scope.names,y.2 ≠ .cell
 names:∀ y ∈ scope.names,y.2=.local->scope.names.lookup y.1=some .local
 hx:scope.names.lookup x=some .local
 nd:N.Nodup
 n0:N[0]?=some x
 len:N.length=fr.length+1
 sub:∀ (i:Nat) (y:Str),N[i+1]?=some y->∃ j,fr[i]?=some j/\X.N[j]?=some y/\(X.env.kindOf y=some .cell\/X.env.kindOf y=some .free)/\((relabel scope X.env).names.lookup y=some .cell\/(relabel scope X.env).names.lookup y=some .free)
 cells:∀ y c,cl.lookup y=some c->X.env.cells.lookup y=some c
 has:∀ y,((relabel scope X.env).names.lookup y=some .cell\/(relabel scope X.env).names.lookup y=some .free)->∃ c,cl.lookup y=some c
theorem lB {X:Cx} {scope:Scope} {x:Str} (kind:scope.kind=.function) (nofree:∀ y ∈ scope.names,y.2 ≠ .free) (nocell:∀ y ∈ scope.names,y.2 ≠ .cell)
  (names:∀ y ∈ scope.names,y.2=.local->scope.names.lookup y.1=some .local) (hx:scope.names.lookup x=some .local):qL X [x] [] scope [] x:=by
 have er:(relabel scope X.env).names=scope.names:=map_eq_self fun y hy=>by
  have z:(y.2 == NameKind.free)=false:=by simpa using nofree y hy
  simp [z]
 have no:∀ y,¬ ((relabel scope X.env).names.lookup y=some .cell\/(relabel scope X.env).names.lookup y=some .free):=fun y h=>by
  rw [er] at h
  rcases h with h | h
  ·exact nocell _ (PySem.mem_of_lookup h) rfl
  ·exact nofree _ (PySem.mem_of_lookup h) rfl
 exact ⟨closureFor_none nofree,kind,nocell,names,hx,by simp,rfl,rfl,fun i y e=>by simp at e,(fun y c e=>by cases e),fun y h=>absurd h (no y)⟩
theorem cY {X:Cx} {N:List Str} {fr:List Nat} {scope:Scope} {cl:List (Str × Addr)} {x:Str} (clos:closureFor scope X.env=pure cl) (kind:scope.kind=.function) (nocell:∀ y ∈ scope.names,y.2 ≠ .cell)
  (names:∀ y ∈ scope.names,y.2=.local->scope.names.lookup y.1=some .local) (hx:scope.names.lookup x=some .local) (nd:N.Nodup) (n0:N[0]?=some x) (len:N.length=fr.length+1)
  (sub:((List.range fr.length).all fun i=>match N[i+1]?,fr[i]? with | some y,some j=>(X.N[j]? == some y) && ((X.env.kindOf y == some .cell) && ((relabel scope X.env).names.lookup y == some .cell)) | _,_=>false)=true)
  (cells:∀ p ∈ cl,X.env.cells.lookup p.1=some p.2) (has:((relabel scope X.env).names.all fun p=>(p.2 != .cell && p.2 != .free) || (cl.lookup p.1).isSome)=true):qL X N fr scope cl x:=by
 refine ⟨clos,kind,nocell,names,hx,nd,n0,len,fun i y e=>?_,fun y c e=>cells _ (PySem.mem_of_lookup e),fun y h=>?_⟩
 ·have hi:i < fr.length:=by have:=(List.getElem?_eq_some_iff.mp e).1;omega
  have z:=List.all_eq_true.mp sub i (List.mem_range.mpr hi)
  rw [e,List.getElem?_eq_getElem hi] at z
  simp only [Bool.and_eq_true,beq_iff_eq] at z
  exact ⟨_,List.getElem?_eq_getElem hi,z.1,.inl z.2.1,.inl z.2.2⟩
 ·have look:∀ k,(relabel scope X.env).names.lookup y=some k->(k=.cell\/k=.free)->∃ c,cl.lookup y=some c:=fun k e hk=>by
   have z:=List.all_eq_true.mp has _ (PySem.mem_of_lookup e)
   rcases hk with rfl | rfl
   ·exact Option.isSome_iff_exists.mp (by simpa using z)
   ·exact Option.isSome_iff_exists.mp (by simpa using z)
  rcases h with h | h
  ·exact look _ h (.inl rfl)
  ·exact look _ h (.inr rfl)
def eW (σ:St) (fr:List Nat) (x:Option V):St:=x :: fr.map fun j=>(σ[j]?).join
def pB (J:It) (fr:List Nat) (tt:TT) (te:TE) (σ:St) (Q:VK) (H1:Hp):Prop:=∀ D,H1 D=none->∃ W:Nat->Nat->Hp->Prop,(∃ m,W 0 m (upd H1 D (.lst [])))/\∀ i m H,W i m H ->
 (J.stop i H/\Q (.ref D) H)\/(J.go i H/\∀ x H',J.yld i H x H'->tt (eW σ fr (some x)) H' fun b H2=>if b=true then te (eW σ fr (some x)) H2 fun y H3=>∃ ys,H3 D=some (.lst ys)/\ys.length < sizeLine/\∃ m',m' < m/\W (i+1) m' (upd H3 D (.lst (ys ++ [y])))
  else ∃ m',m' < m/\W (i+1) m' H2)
def xu (wi:TI) (fr:List Nat) (tt:TT) (te:TE):TE:=fun σ H Q=>wi σ H fun J H1=>pB J fr tt te σ Q H1
section
variable {prog:Program} {w:World} {A:Around} {R:Result->Shared->Prop} {s:Shared}
theorem iA {elt target iter:Expr} {ifs:List Expr} {scope:Scope} {pos:Pos} {it acc:Value} {env:Env} (J:Nat->Shared->Prop)
  (turn:∀ n s,J n s->wpAny (model prog w) A (pyNext it) (fun r s1=>match r with
   | none=>R (.ok .next) s1
   | some v=>wpAny (model prog w) A (letOwnedTupleGo target it v) (fun _ s2=>wpAny (model prog w) A (assign target env v) (fun _ s3 =>
     wpAny (model prog w) A (forIn ifs true fun c r=>if r=true then do let ok ← isTrue c env (eval c env);pure (ForInStep.yield ok) else pure (ForInStep.yield r)) (fun ok s4 =>
      if ok=true then wpAny (model prog w) A (eval elt env) (fun y s5=>wpAny (model prog w) A (call (.builtin "list.append") [acc,y]) (fun _ s6=>∃ m,m < n/\J m s6) (fun _ _=>False) s5) (fun _ _=>False) s4
      else ∃ m,m < n/\J m s4) (fun _ _=>False) s3) (fun _ _=>False) s2) (fun _ _=>False) s1) (fun _ _=>False) s)
  (n:Nat) (h:J n s):codeAny (model prog w) A (.compLoop (.ListComp elt [⟨target,iter,ifs,0⟩] scope pos) 0 it acc env) R s:=by
 refine codeAny_loop rfl J (fun n s hJ=>?_) n h
 show wpAny _ A ((compTurn (.ListComp elt [⟨target,iter,ifs,0⟩] scope pos) 0 it acc env).onRaise (fun x=>do noteFrame x env;theTreesLotGoes x)) _ _ s
 refine wpAny_noted ?_
 rw [compTurn_list]
 refine wpAny_bind (wpAny_standAt (wpAny_bind (wpAny_mono (turn n s hJ) (fun r s1 h1=>?_) fun _ _ z=>z.elim)))
 cases r with
 | none=>exact wpAny_pure h1
 | some v =>
  refine wpAny_bind (wpAny_mono h1 (fun _ s2 h2=>?_) fun _ _ z=>z.elim)
  refine wpAny_bind (wpAny_mono h2 (fun _ s3 h3=>wpAny_bind (wpAny_mono h3 (fun ok s4 h4=>?_) fun _ _ z=>z.elim)) fun _ _ z=>z.elim)
  cases ok with
  | false=>exact wpAny_pure ⟨rfl,h4⟩
  | true=>exact wpAny_bind (wpAny_bind (wpAny_mono h4 (fun y s5 h5=>wpAny_bind (wpAny_mono h5 (fun _ s6 h6=>wpAny_pure (wpAny_pure ⟨rfl,h6⟩)) fun _ _ z=>z.elim)) fun _ _ z=>z.elim))
end
section
variable {X:Cx} {elt iter:Expr} {ifs:List Expr} {x:Str} {px pos:Pos} {scope:Scope} {cl:List (Str × Addr)} {N:List Str} {fr:List Nat} {tt:TT} {te:TE}
theorem oF {pins:List (Addr × Obj)} {σ:St} {s2:Shared} {H2:Hp} {it:Addr} {fp:List Addr} {tn:Nat->Heap->Prop} {J:It} {Q:VK} {E:Value->Shared->Prop} {RR:Value->Addr->Result->Shared->Prop}
  (O:qL X N fr scope cl x) (hc:X.calm=true) (I2:Inv X pins σ H2 s2) (T:Turn X.prog X.w X.K (.Name x px) J fp it tn) (st2:tn 0 s2.heap) (f2:∀ b ∈ fp,iu X pins H2 b)
  (ht:∀ fp C s H,PIf (br X N scope cl fp C s H) ifs tt) (he:∀ fp C s H,PE (br X N scope cl fp C s H) elt te)
  (hW:pB J fr tt te σ Q H2)
  (fin:∀ D C s' H',s2.heap.objs.size<=C->H' C=none->(∃ m,s'.heap.Ns C m)->Inv X pins σ H' s'->Q (.ref D) H'->RR (.ref D) C (.ok .next) s') :
  wpAny (model X.prog X.w) X.A (newList []) (fun acc s3=>wpAny (model X.prog X.w) X.A (newFunctionEnv scope X.env.globals cl [] X.env.qual none .none (some X.env)) (fun qM s4 =>
   codeAny (model X.prog X.w) X.A (.compStart (.ListComp elt [⟨.Name x px,iter,ifs,0⟩] scope pos) 0 (.ref it) acc { qM with scope:=relabel scope X.env }) (RR acc qM.locals) s4) E s3) E s2:=by
 refine wpAny_newObj_type (wpAny_newFunctionEnv O.nocell (by intro y hy;simp at hy) (fun h1 hns hsb=>?_) O.kind)
 dsimp only at hns hsb ⊢
 generalize hG:s2.heap.push { cls:=.type "list",dict:=none,data:=.seq ([]:List Value).toArray } = G at hns hsb ⊢
 have hC:G.objs.size=s2.heap.objs.size+1:=by rw [← hG,Heap.size_push]
 have old:∀ b o,s2.heap.get? b=some o->h1.get? b=some o:=fun b o e=>hsb.extBut b o (Nat.ne_of_lt (by rw [hC];exact Nat.lt_succ_of_lt (Heap.lt_size e))) (Heap.get?_push_of_some _ (hG ▸ Heap.get?_push_of_some _ e))
 have pC:h1.get? s2.heap.objs.size=some { cls:=.type "list",data:=.seq ([]:List Value).toArray 0 }:=hsb.extBut _ _ (Nat.ne_of_lt (by rw [hC];exact Nat.lt_succ_self _)) (Heap.get?_push_of_some _ (hG ▸ Heap.get?_push_size _ rfl))
 have hD:H2 s2.heap.objs.size=none:=I2.fresh
 have okX:(br X N scope cl fp G.objs.size s2 H2).Ok:=by
  refine ⟨I2.ok.mod,O.kind,I2.ok.glob,I2.ok.blt,by show s2.heap.objs.size<=G.objs.size;rw [hC];exact Nat.le_succ _,fun y z c e1 e2=>I2.ok.inj y z c (O.cells y c e1) (O.cells z c e2),fun y hy=>O.has y hy,fun y c z=>absurd (show false=true from z) Bool.false_ne_true,I2.ok.hd,I2.ok.frames,.inl rfl,
   fun b hb=>⟨?_,fun y c e=>(f2 b hb).2.2.2.2.1 y c (O.cells y c e)⟩,I2.bs,Nat.le_trans I2.ok.bsz I2.sz,fun b o e hb=>?_,fun b hb z=>?_,I2.stack,I2.stkFree⟩
  ·obtain ⟨o,e,_⟩:=T.obj _ _ st2 b hb
   show b ≠ G.objs.size
   exact Nat.ne_of_lt (by rw [hC];exact Nat.lt_succ_of_lt (Heap.lt_size e))
  ·rcases (f2 b hb).2.2.2.1 with z | z
   ·exact I2.ok.noex b o e z
   ·exact absurd (Nat.lt_of_lt_of_le (Heap.lt_size e) (Nat.le_trans I2.ok.bsz z)) (Nat.lt_irrefl _)
  ·rcases List.mem_cons.mp (I2.stkSub b z) with z | z
   ·exact (f2 b hb).2.1 z
   ·exact (f2 b hb).2.2.1 z
 have fU:∀ {H' : Hp},(∀ b ∈ fp,H' b=none)->∀ b ∈ fp,iu (br X N scope cl fp G.objs.size s2 H2) [] H' b:=fun hn b hb =>
  ⟨hn b hb,(okX.exf b hb).1,okX.exfs b hb,.inl hb,(okX.exf b hb).2,fun p hp=>absurd (show p ∈ ([]:List (Addr × Obj)) from hp) (by simp)⟩
 have I' : Inv (br X N scope cl fp G.objs.size s2 H2) [] (eW σ fr none) (upd H2 s2.heap.objs.size (.lst [])) { s2 with heap:=h1,toks:=s2.toks+([]:List (Str × Value)).length }:=by
  refine ⟨okX,rfl,I2.bare,Un.laid old (Nat.le_refl _) hD,⟨_,hns,fun i y v e1 e2 e3=>?_⟩,fun y c e=>?_,?_,fun y c e=>?_,fun p hp=>absurd (show p ∈ ([]:List (Addr × Obj)) from hp) (by simp),I2.hok.laid old (Nat.le_refl _) ⟨Nat.zero_le _,[],0,.nil,pC⟩,?_⟩
  ·cases i with
   | zero=>cases e2
   | succ i =>
    obtain ⟨j,q1,q2,q3,q4⟩:=O.sub i y e1
    have e2' : (σ[j]?).join=some v:=by
     have:(fr.map fun j=>(σ[j]?).join)[i]?=some (some v):=e2
     rw [List.getElem?_map,q1] at this
     exact Option.some.inj this
    have e4:σ[j]?=some (some v):=by
     cases z:σ[j]? with
     | none=>rw [z] at e2';cases e2'
     | some t=>rw [z] at e2';exact congrArg some e2'
    obtain ⟨m,_,hl⟩:=I2.loc
    have vis:Vis X.env.scope y:=.inr q3
    obtain ⟨u,r,l⟩:=hl j y v q2 e4 vis
    refine ⟨u,r,.inr ⟨q4,?_⟩⟩
    obtain ⟨c',hc'⟩:=O.has y q4
    rcases l with ⟨k,_⟩ | ⟨_,c,ec,ic⟩
    ·rcases q3 with z | z
     ·rw [z] at k;cases k
     ·rw [z] at k;cases k
    ·have:=O.cells y c' hc'
     have e' : c=c':=Option.some.inj (ec.symm.trans this)
     obtain ⟨o,ho,hd⟩:=ic
     rw [e'] at ho
     exact ⟨c',hc',o,old c' o ho,hd⟩
  ·obtain ⟨v,o,ho,hd⟩:=I2.cell y c (O.cells y c e)
   exact ⟨v,o,old c o ho,hd⟩
  ·show upd H2 s2.heap.objs.size (.lst []) G.objs.size=none
   rw [aC (Nat.ne_of_gt (by rw [hC];exact Nat.lt_succ_self _))]
   exact I2.hok.fresh (by rw [hC];exact Nat.le_succ _)
  ·obtain ⟨v,o,ho,hd⟩:=I2.cell y c (O.cells y c e)
   rw [aC (Nat.ne_of_lt (Heap.lt_size ho))]
   exact I2.freeC y c (O.cells y c e)
  ·show (eW σ fr none).length=N.length
   rw [O.len];simp [eW]
 have st1:tn 0 h1:=T.keep _ _ _ st2 fun b hb o e=>old b o e
 have loop:∀ s3:Shared,s3 = { s2 with heap:=h1,toks:=s2.toks+([]:List (Str × Value)).length } ->
   codeAny (model X.prog X.w) X.A (.compLoop (.ListComp elt [⟨.Name x px,iter,ifs,0⟩] scope pos) 0 (.ref it) (.ref s2.heap.objs.size) (compEnvC scope cl G.objs.size X.env)) (RR (.ref s2.heap.objs.size) G.objs.size) s3:=by
  rintro s3 rfl
  obtain ⟨W,⟨m0,w0⟩,turn⟩:=hW _ hD
  refine iA (fun n s'=>∃ i t H',Inv (br X N scope cl fp G.objs.size s2 H2) [] (eW σ fr t) H' s'/\tn i s'.heap/\(∀ b ∈ fp,H' b=none)/\W i n H') ?_ m0
   ⟨0,none,_,I',st1,fun b hb=>by
    rw [aC (by obtain ⟨o,e,_⟩:=T.obj _ _ st2 b hb;exact Nat.ne_of_lt (Heap.lt_size e))]
    exact (f2 b hb).1,w0⟩
  rintro n s' ⟨i,t,H',I3,st3,fr3,w3⟩
  rcases turn i n H' w3 with ⟨stop,qn⟩ | ⟨go,step⟩
  ·refine thn (T.done (br X N scope cl fp G.objs.size s2 H2) rfl rfl rfl hc i [] s' _ H' _ I3 (fU fr3) st3 stop) fun r s4 ⟨hr,I4⟩=>?_
   subst hr
   obtain ⟨m,hm,_⟩:=I4.loc
   refine fin _ _ s4 H' (by rw [hC];exact Nat.le_succ _) I4.free ⟨m,hm⟩ (I2.call' (ch:=fp) I4.os I4.base I4.hok I4.bare fun b hb=>?_) qn
   exact ⟨(f2 b hb).2.2.2.1,(f2 b hb).2.1,(f2 b hb).2.2.2.2.1,(f2 b hb).2.2.2.2.2⟩
  ·refine thn (T.item (br X N scope cl fp G.objs.size s2 H2) rfl rfl rfl hc i [] s' _ H' _ I3 (fU fr3) st3 go) fun r s4 ⟨u,hr,h4⟩=>?_
   subst hr
   refine thn h4 fun _ s5 ⟨y,H5,I5,r5,y5,st5,fr5⟩=>?_
   have I5':=I5.pinned (fU fr5) (T.obj _ _ st5)
   have lx:(br X N scope cl fp G.objs.size s2 H2).env.scope.names.lookup x=some .local:=lookup_relabel_local O.hx
   refine thn (aK (X:=br X N scope cl fp G.objs.size s2 H2) (i:=0) O.nd O.n0 (.inl lx) (.inr lx) _ s5 _ H5 y u (fun σ' H'=>σ'=eW σ fr (some y)/\H'=H5) I5' r5 ⟨rfl,rfl⟩) fun _ s6 ⟨σ6,H6,I6,e6,e6'⟩=>?_
   subst e6;subst e6'
   have again:∀ {σ7:St} {H7:Hp} {s7:Shared} {m' : Nat},σ7=eW σ fr (some y)->Inv (br X N scope cl fp G.objs.size s2 H2) ([] ++ iw fp s5.heap) σ7 H7 s7->m' < n->W (i+1) m' H7 ->
     ∃ m,m < n/\∃ i t H',Inv (br X N scope cl fp G.objs.size s2 H2) [] (eW σ fr t) H' s7/\tn i s7.heap/\(∀ b ∈ fp,H' b=none)/\W i m H':=fun {σ7 H7 s7 m'} e7 I7 hm w7=>by
    subst e7
    refine ⟨m',hm,i+1,some y,H7,I7.unpinned,T.keep _ _ _ st5 fun b hb o e=>(I7.pin (b,o) (List.mem_append_right _ (List.mem_append_right _ (cx hb e)))).1,fun b hb=>?_,w7⟩
    obtain ⟨o,e,d⟩:=T.obj _ _ st5 b hb
    exact (I7.pin (b,o) (List.mem_append_right _ (List.mem_append_right _ (cx hb e)))).2.1
   refine thn (ht fp G.objs.size s2 H2 _ s6 _ H6 _ I6 (step y H6 y5)) fun ok s7 ⟨H7,I7,q7⟩=>?_
   cases ok with
   | false =>
    rw [if_neg Bool.false_ne_true] at q7 ⊢
    obtain ⟨m',hm,w7⟩:=q7
    exact again rfl I7 hm w7
   | true =>
    rw [if_pos rfl] at q7 ⊢
    refine thn (he fp G.objs.size s2 H2 _ s7 _ H7 _ I7 q7) fun u8 s8 ⟨v8,H8,I8,r8,ys,hys,hlen,m',hm,w8⟩=>?_
    refine thn (cb (X:=br X N scope cl fp G.objs.size s2 H2) _ s8 _ H8 (.ref s2.heap.objs.size) [v8] _ [u8] (fun _ H9=>W (i+1) m' H9) I8 rfl (.cons r8 .nil) ⟨_,ys,v8,rfl,rfl,hys,hlen,w8⟩) fun _ s9 ⟨_,H9,I9,_,w9⟩=>?_
    exact again rfl I9 hm w9
 exact codeAny_compStart_list (loop _ rfl) (T.self _ 0 _ _ _ st1 (loop _ rfl))
theorem Inv.left {pins:List (Addr × Obj)} {σ σ2:St} {s2 s' : Shared} {H2 H' : Hp} {C:Addr} {h' : Heap} (I2:Inv X pins σ2 H2 s2) (I' : Inv X pins σ H' s') (hC:s2.heap.objs.size<=C) (hn:H' C=none) (hs:Heap.SameBut C s'.heap h'):Inv X pins σ H' { s' with heap:=h' }:=by
 refine I'.turned (t':=s'.toks) (it:=C) (fun b o hb e=>(hs.2 b hb).trans e) hn (Nat.ne_of_gt (Nat.lt_of_lt_of_le I2.lt hC)) (.inr (Nat.le_trans I2.sz hC)) (fun y c e=>?_) fun p hp=>?_
 ·obtain ⟨v,o,ho,_⟩:=I2.cell y c e
  exact Nat.ne_of_lt (Nat.lt_of_lt_of_le (Heap.lt_size ho) hC)
 ·exact Nat.ne_of_lt (Nat.lt_of_lt_of_le (Heap.lt_size (I2.pin p hp).1) hC)
theorem pD {wi:TI} (hi:PI X (.Name x px) iter wi) (O:qL X N fr scope cl x) (hc:X.calm=true) (ht:∀ fp C s H,PIf (br X N scope cl fp C s H) ifs tt) (he:∀ fp C s H,PE (br X N scope cl fp C s H) elt te)
  (hs:∀ v,foldedSetIterable iter X.env v=pure v:=by intro _;rfl):PE X (.ListComp elt [⟨.Name x px,iter,ifs,0⟩] scope pos) (xu wi fr tt te):=by
 intro pins s σ H Q I h
 rw [eval_ListComp]
 refine wpAny_comprehension_free (use:=none) rfl hs O.clos O.kind O.names (thn (hi pins s σ H _ I h) fun v s1 h1=>thn h1 fun itv s2 h2=>?_)
 obtain ⟨it,fp,tn,J,H2,e,I2,T,st2,f2,hW⟩:=h2
 subst e
 refine oF (RR:=fun acc C=>compPost (model X.prog X.w) X.A X.xe none (EP X pins σ Q) acc C) O hc I2 T st2 f2 ht he hW fun D C s' H' hC hn ⟨m,hm⟩ I' q=>?_
 exact ⟨m,hm,fun h' hs'=>⟨.ref D,H',I2.left I' hC hn hs',rfl,q⟩⟩
theorem gC {wi:TI} {i:Nat} {y:Str} {py qN:Pos} (hN:X.N.Nodup) (hy:X.N[i]?=some y) (hl:Loc X.env.scope y) (hi:PI X (.Name x px) iter wi) (O:qL X N fr scope cl x) (hc:X.calm=true)
  (ht:∀ fp C s H,PIf (br X N scope cl fp C s H) ifs tt) (he:∀ fp C s H,PE (br X N scope cl fp C s H) elt te) (hs:∀ v,foldedSetIterable iter X.env v=pure v:=by intro _;rfl)
  (hsw:swapsWith (.ListComp elt [⟨.Name x px,iter,ifs,0⟩] scope pos) (some (.Name y py)) qN.line X.env=pure true:=by rfl) (hf:X.fn y=true\/X.env.scope.names.lookup y=some .local:=by first | exact .inl rfl | exact .inr rfl | assumption) :
  PS X (.Assign [.Name y py] (.ListComp elt [⟨.Name x px,iter,ifs,0⟩] scope pos) qN) (uw (xu wi fr tt te) (lu i)):=by
 intro pins s σ H D0 I h
 rw [exec_Assign_Name_used _ _ _ _ hsw]
 refine wpAny_bind (wpAny_standAt (wpAny_bind ?_))
 show wpAny _ X.A (do let _ ← comprehension (.ListComp elt [⟨.Name x px,iter,ifs,0⟩] scope pos) scope X.env _ (newList []) false (eval iter X.env) (some (assign (.Name y py) X.env))) _ _ s
 refine wpAny_bind (wpAny_mono (wpAny_comprehension_free (use:=some (assign (.Name y py) X.env)) (Q:=fun _ s'=>SP X pins D0 .next s') rfl hs O.clos O.kind O.names (thn (hi pins s σ H _ I h) fun v s1 h1=>thn h1 fun itv s2 h2=>?_)) (fun _ s' hq=>wpAny_pure (wpAny_pure hq)) fun _ _ z=>z)
 obtain ⟨it,fp,tn,J,H2,e,I2,T,st2,f2,hW⟩:=h2
 subst e
 refine oF (Q:=fun v H1=>lu i v σ H1 D0.nx) (RR:=fun acc C=>compPost (model X.prog X.w) X.A X.xe (some (assign (.Name y py) X.env)) (fun _ s'=>SP X pins D0 .next s') acc C) O hc I2 T st2 f2 ht he hW fun D C s' H' hC hn ⟨m,hm⟩ I' q=>?_
 show wpAny _ X.A (assign (.Name y py) X.env (.ref D)) _ _ s'
 refine wpAny_assign_Name (gB I' hN hy hl (v:=.ref D) rfl (fun s3 I3 ⟨a,hsa,ha⟩=>?_) hf)
 have hCa:C ≠ a:=by
  rcases ha with z | z
  ·rw [z];exact Nat.ne_of_gt (Nat.lt_of_lt_of_le I2.lt hC)
  ·obtain ⟨v,o,ho,_⟩:=I2.cell y a z
   exact Nat.ne_of_gt (Nat.lt_of_lt_of_le (Heap.lt_size ho) hC)
 exact ⟨m,hm.sameBut hsa hCa,fun h' hs'=>⟨_,H',I2.left I3 hC hn hs',q⟩⟩
def fV (Pv:Addr->Nat->List V->Hp->Prop) (D:Addr) (i n:Nat) (H2:Hp):Prop:=∃ m',m' < n - i/\m'=n - (i+1)/\i+1<=n/\∃ zs,Pv D (i+1) zs H2
def dB (Pv:Addr->Nat->List V->Hp->Prop) (D:Addr) (i n:Nat):VK:=fun y H3=>∃ ys,H3 D=some (.lst ys)/\ys.length < sizeLine/\fV Pv D i n (upd H3 D (.lst (ys ++ [y])))
theorem fV.mk {Pv:Addr->Nat->List V->Hp->Prop} {D:Addr} {i n:Nat} {H2:Hp} {zs:List V} (hi:i < n) (h:Pv D (i+1) zs H2):fV Pv D i n H2:=⟨n - (i+1),by omega,rfl,hi,zs,h⟩
theorem dB.mk {Pv:Addr->Nat->List V->Hp->Prop} {D:Addr} {i n:Nat} {H3:Hp} {ys:List V} {y:V} (hi:i < n) (e:H3 D=some (.lst ys)) (hl:ys.length < sizeLine) (h:Pv D (i+1) (ys ++ [y]) (upd H3 D (.lst (ys ++ [y])))):dB Pv D i n y H3:=⟨ys,e,hl,.mk hi h⟩
theorem eX {K:PySem.W.Frag} {a:Addr} {xs:List V} {σ:St} {H1:Hp} {Q:VK} (Pv:Addr->Nat->List V->Hp->Prop) (h0:∀ D,H1 D=none->Pv D 0 [] (upd H1 D (.lst [])))
  (hk:∀ D i ys H,H1 D=none->i<=xs.length->Pv D i ys H->SqL K H a xs)
  (hs:∀ D i x ys H,H1 D=none->xs[i]?=some x->Pv D i ys H->tt (eW σ fr (some x)) H fun b H2=>if b=true then te (eW σ fr (some x)) H2 (dB Pv D i xs.length) else fV Pv D i xs.length H2)
  (hd:∀ D ys H,H1 D=none->Pv D xs.length ys H->Q (.ref D) H):pB (Itl K a) fr tt te σ Q H1:=by
 intro D hD
 refine ⟨fun i m H=>m=xs.length - i/\i<=xs.length/\∃ ys,Pv D i ys H,⟨_,rfl,Nat.zero_le _,[],h0 D hD⟩,?_⟩
 rintro i m H ⟨rfl,hi,ys,p⟩
 have q:=hk D i ys H hD hi p
 by_cases hlt:i < xs.length
 ·refine .inr ⟨⟨xs,xs[i],q,by simp [hlt]⟩,fun x H' y=>?_⟩
  obtain ⟨e,y⟩:=y
  subst e
  exact hs D i x ys _ hD (y xs q) p
 ·have e:i=xs.length:=by omega
  subst e
  exact .inl ⟨⟨xs,q,Nat.le_refl _⟩,hd D ys H hD p⟩
theorem fB {lo:Int} {n:Nat} {σ:St} {H1:Hp} {Q:VK} (Pv:Addr->Nat->List V->Hp->Prop) (h0:∀ D,H1 D=none->Pv D 0 [] (upd H1 D (.lst [])))
  (hs:∀ D i ys H,H1 D=none->i < n->Pv D i ys H->tt (eW σ fr (some (.int (lo+i)))) H fun b H2=>if b=true then te (eW σ fr (some (.int (lo+i)))) H2 (dB Pv D i n) else fV Pv D i n H2)
  (hd:∀ D ys H,H1 D=none->Pv D n ys H->Q (.ref D) H):pB (Itr lo n) fr tt te σ Q H1:=by
 intro D hD
 refine ⟨fun i m H=>m=n - i/\i<=n/\∃ ys,Pv D i ys H,⟨_,rfl,Nat.zero_le _,[],h0 D hD⟩,?_⟩
 rintro i m H ⟨rfl,hi,ys,p⟩
 by_cases hlt:i < n
 ·refine .inr ⟨hlt,fun x H' y=>?_⟩
  obtain ⟨e,y⟩:=y
  subst e;subst y
  exact hs D i ys _ hD hlt p
 ·have e:i=n:=by omega
  subst e
  exact .inl ⟨Nat.le_refl _,hd D ys H hD p⟩
end
end L2
namespace L2
open PySem PySem.Spec PyProof.Rows
structure mI (X:Cx) (N:List Str) (k:Nat) (fr:List Nat) (scope:Scope) (cl:List (Str × Addr)):Prop where
 clos:closureFor scope X.env=pure cl
 kind:scope.kind=.function
 nocell:∀ y ∈ scope.names,y.2 ≠ .cell
 names:∀ y ∈ scope.names,y.2=.local->scope.names.lookup y.1=some .local
 len:N.length=k+fr.length
 sub:∀ (i:Nat) (y:Str),N[k+i]?=some y->∃ j,fr[i]?=some j/\X.N[j]?=some y/\(X.env.kindOf y=some .cell\/X.env.kindOf y=some .free)/\((relabel scope X.env).names.lookup y=some .cell\/(relabel scope X.env).names.lookup y=some .free)
 cells:∀ y c,cl.lookup y=some c->X.env.cells.lookup y=some c
 has:∀ y,((relabel scope X.env).names.lookup y=some .cell\/(relabel scope X.env).names.lookup y=some .free)->∃ c,cl.lookup y=some c
theorem dh {X:Cx} {N:List Str} {k:Nat} {scope:Scope} (len:N.length=k) (kind:scope.kind=.function) (nofree:∀ y ∈ scope.names,y.2 ≠ .free) (nocell:∀ y ∈ scope.names,y.2 ≠ .cell)
  (names:∀ y ∈ scope.names,y.2=.local->scope.names.lookup y.1=some .local):mI X N k [] scope []:=by
 have er:(relabel scope X.env).names=scope.names:=map_eq_self fun y hy=>by
  have z:(y.2 == NameKind.free)=false:=by simpa using nofree y hy
  simp [z]
 have no:∀ y,¬ ((relabel scope X.env).names.lookup y=some .cell\/(relabel scope X.env).names.lookup y=some .free):=fun y h=>by
  rw [er] at h
  rcases h with h | h
  ·exact nocell _ (PySem.mem_of_lookup h) rfl
  ·exact nofree _ (PySem.mem_of_lookup h) rfl
 refine ⟨closureFor_none nofree,kind,nocell,names,by rw [len];rfl,fun i y e=>?_,(fun y c e=>by cases e),fun y h=>absurd h (no y)⟩
 have:=(List.getElem?_eq_some_iff.mp e).1
 omega
def bW (σ:St) (fr:List Nat) (ts:St):St:=ts ++ fr.map fun j=>(σ[j]?).join
def gD (J:It) (gt:TG) (k:Nat) (fr:List Nat) (tt:TT) (te:TE) (σ:St) (Q:VK) (H1:Hp):Prop:=∀ D,H1 D=none->∃ W:Nat->Nat->Hp->Prop,(∃ m,W 0 m (upd H1 D (.lst [])))/\∀ i m H,W i m H ->
 (J.stop i H/\Q (.ref D) H)\/(J.go i H/\∀ x H',J.yld i H x H'->∀ ts:St,ts.length=k->gt x (bW σ fr ts) H' fun σ2 H2=>(∃ ts2:St,ts2.length=k/\σ2=bW σ fr ts2)/\tt σ2 H2 fun b H3=>if b=true then te σ2 H3 fun y H4=>∃ ys,H4 D=some (.lst ys)/\ys.length < sizeLine/\∃ m',m' < m/\W (i+1) m' (upd H4 D (.lst (ys ++ [y])))
  else ∃ m',m' < m/\W (i+1) m' H3)
def rK (wi:TI) (gt:TG) (k:Nat) (fr:List Nat) (tt:TT) (te:TE):TE:=fun σ H Q=>wi σ H fun J H1=>gD J gt k fr tt te σ Q H1
section
variable {X:Cx} {elt iter tg:Expr} {ifs:List Expr} {pos:Pos} {scope:Scope} {cl:List (Str × Addr)} {N:List Str} {k:Nat} {fr:List Nat} {gt:TG} {tt:TT} {te:TE}
theorem mJ {pins:List (Addr × Obj)} {σ:St} {s2:Shared} {H2:Hp} {it:Addr} {fp:List Addr} {tn:Nat->Heap->Prop} {J:It} {Q:VK} {E:Value->Shared->Prop} {RR:Value->Addr->Result->Shared->Prop}
  (O:mI X N k fr scope cl) (hc:X.calm=true) (I2:Inv X pins σ H2 s2) (T:Turn X.prog X.w X.K tg J fp it tn) (st2:tn 0 s2.heap) (f2:∀ b ∈ fp,iu X pins H2 b)
  (ht:∀ fp C s H,PIf (br X N scope cl fp C s H) ifs tt) (he:∀ fp C s H,PE (br X N scope cl fp C s H) elt te)
  (hg:∀ fp C s H,PG (br X N scope cl fp C s H) tg gt) (hW:gD J gt k fr tt te σ Q H2)
  (fin:∀ D C s' H',s2.heap.objs.size<=C->H' C=none->(∃ m,s'.heap.Ns C m)->Inv X pins σ H' s'->Q (.ref D) H'->RR (.ref D) C (.ok .next) s') :
  wpAny (model X.prog X.w) X.A (newList []) (fun acc s3=>wpAny (model X.prog X.w) X.A (newFunctionEnv scope X.env.globals cl [] X.env.qual none .none (some X.env)) (fun qM s4 =>
   codeAny (model X.prog X.w) X.A (.compStart (.ListComp elt [⟨tg,iter,ifs,0⟩] scope pos) 0 (.ref it) acc { qM with scope:=relabel scope X.env }) (RR acc qM.locals) s4) E s3) E s2:=by
 refine wpAny_newObj_type (wpAny_newFunctionEnv O.nocell (by intro y hy;simp at hy) (fun h1 hns hsb=>?_) O.kind)
 dsimp only at hns hsb ⊢
 generalize hG:s2.heap.push { cls:=.type "list",dict:=none,data:=.seq ([]:List Value).toArray } = G at hns hsb ⊢
 have hC:G.objs.size=s2.heap.objs.size+1:=by rw [← hG,Heap.size_push]
 have old:∀ b o,s2.heap.get? b=some o->h1.get? b=some o:=fun b o e=>hsb.extBut b o (Nat.ne_of_lt (by rw [hC];exact Nat.lt_succ_of_lt (Heap.lt_size e))) (Heap.get?_push_of_some _ (hG ▸ Heap.get?_push_of_some _ e))
 have pC:h1.get? s2.heap.objs.size=some { cls:=.type "list",data:=.seq ([]:List Value).toArray 0 }:=hsb.extBut _ _ (Nat.ne_of_lt (by rw [hC];exact Nat.lt_succ_self _)) (Heap.get?_push_of_some _ (hG ▸ Heap.get?_push_size _ rfl))
 have hD:H2 s2.heap.objs.size=none:=I2.fresh
 have okX:(br X N scope cl fp G.objs.size s2 H2).Ok:=by
  refine ⟨I2.ok.mod,O.kind,I2.ok.glob,I2.ok.blt,by show s2.heap.objs.size<=G.objs.size;rw [hC];exact Nat.le_succ _,fun y z c e1 e2=>I2.ok.inj y z c (O.cells y c e1) (O.cells z c e2),fun y hy=>O.has y hy,fun y c z=>absurd (show false=true from z) Bool.false_ne_true,I2.ok.hd,I2.ok.frames,.inl rfl,
   fun b hb=>⟨?_,fun y c e=>(f2 b hb).2.2.2.2.1 y c (O.cells y c e)⟩,I2.bs,Nat.le_trans I2.ok.bsz I2.sz,fun b o e hb=>?_,fun b hb z=>?_,I2.stack,I2.stkFree⟩
  ·obtain ⟨o,e,_⟩:=T.obj _ _ st2 b hb
   show b ≠ G.objs.size
   exact Nat.ne_of_lt (by rw [hC];exact Nat.lt_succ_of_lt (Heap.lt_size e))
  ·rcases (f2 b hb).2.2.2.1 with z | z
   ·exact I2.ok.noex b o e z
   ·exact absurd (Nat.lt_of_lt_of_le (Heap.lt_size e) (Nat.le_trans I2.ok.bsz z)) (Nat.lt_irrefl _)
  ·rcases List.mem_cons.mp (I2.stkSub b z) with z | z
   ·exact (f2 b hb).2.1 z
   ·exact (f2 b hb).2.2.1 z
 have fU:∀ {H' : Hp},(∀ b ∈ fp,H' b=none)->∀ b ∈ fp,iu (br X N scope cl fp G.objs.size s2 H2) [] H' b:=fun hn b hb =>
  ⟨hn b hb,(okX.exf b hb).1,okX.exfs b hb,.inl hb,(okX.exf b hb).2,fun p hp=>absurd (show p ∈ ([]:List (Addr × Obj)) from hp) (by simp)⟩
 have I' : Inv (br X N scope cl fp G.objs.size s2 H2) [] (bW σ fr (List.replicate k none)) (upd H2 s2.heap.objs.size (.lst [])) { s2 with heap:=h1,toks:=s2.toks+([]:List (Str × Value)).length }:=by
  refine ⟨okX,rfl,I2.bare,Un.laid old (Nat.le_refl _) hD,⟨_,hns,fun i y v e1 e2 e3=>?_⟩,fun y c e=>?_,?_,fun y c e=>?_,fun p hp=>absurd (show p ∈ ([]:List (Addr × Obj)) from hp) (by simp),I2.hok.laid old (Nat.le_refl _) ⟨Nat.zero_le _,[],0,.nil,pC⟩,?_⟩
  ·by_cases hik:i < k
   ·have e2' : (List.replicate k none ++ fr.map fun j=>(σ[j]?).join)[i]?=some (some v):=e2
    rw [List.getElem?_append_left (by rw [List.length_replicate];exact hik),List.getElem?_replicate,if_pos hik] at e2'
    cases e2'
   ·obtain ⟨j,q1,q2,q3,q4⟩:=O.sub (i - k) y (by rw [show k+(i - k)=i by omega];exact e1)
    have e2' : (σ[j]?).join=some v:=by
     have:(List.replicate k none ++ fr.map fun j=>(σ[j]?).join)[i]?=some (some v):=e2
     rw [List.getElem?_append_right (by rw [List.length_replicate];omega),List.length_replicate,List.getElem?_map,q1] at this
     exact Option.some.inj this
    have e4:σ[j]?=some (some v):=by
     cases z:σ[j]? with
     | none=>rw [z] at e2';cases e2'
     | some t=>rw [z] at e2';exact congrArg some e2'
    obtain ⟨m,_,hl⟩:=I2.loc
    have vis:Vis X.env.scope y:=.inr q3
    obtain ⟨u,r,l⟩:=hl j y v q2 e4 vis
    refine ⟨u,r,.inr ⟨q4,?_⟩⟩
    obtain ⟨c',hc'⟩:=O.has y q4
    rcases l with ⟨k,_⟩ | ⟨_,c,ec,ic⟩
    ·rcases q3 with z | z
     ·rw [z] at k;cases k
     ·rw [z] at k;cases k
    ·have:=O.cells y c' hc'
     have e' : c=c':=Option.some.inj (ec.symm.trans this)
     obtain ⟨o,ho,hd⟩:=ic
     rw [e'] at ho
     exact ⟨c',hc',o,old c' o ho,hd⟩
  ·obtain ⟨v,o,ho,hd⟩:=I2.cell y c (O.cells y c e)
   exact ⟨v,o,old c o ho,hd⟩
  ·show upd H2 s2.heap.objs.size (.lst []) G.objs.size=none
   rw [aC (Nat.ne_of_gt (by rw [hC];exact Nat.lt_succ_self _))]
   exact I2.hok.fresh (by rw [hC];exact Nat.le_succ _)
  ·obtain ⟨v,o,ho,hd⟩:=I2.cell y c (O.cells y c e)
   rw [aC (Nat.ne_of_lt (Heap.lt_size ho))]
   exact I2.freeC y c (O.cells y c e)
  ·show (bW σ fr (List.replicate k none)).length=N.length
   rw [O.len];simp [bW]
 have st1:tn 0 h1:=T.keep _ _ _ st2 fun b hb o e=>old b o e
 have loop:∀ s3:Shared,s3 = { s2 with heap:=h1,toks:=s2.toks+([]:List (Str × Value)).length } ->
   codeAny (model X.prog X.w) X.A (.compLoop (.ListComp elt [⟨tg,iter,ifs,0⟩] scope pos) 0 (.ref it) (.ref s2.heap.objs.size) (compEnvC scope cl G.objs.size X.env)) (RR (.ref s2.heap.objs.size) G.objs.size) s3:=by
  rintro s3 rfl
  obtain ⟨W,⟨m0,w0⟩,turn⟩:=hW _ hD
  refine iA (fun n s'=>∃ i ts H',ts.length=k/\Inv (br X N scope cl fp G.objs.size s2 H2) [] (bW σ fr ts) H' s'/\tn i s'.heap/\(∀ b ∈ fp,H' b=none)/\W i n H') ?_ m0
   ⟨0,List.replicate k none,_,List.length_replicate,I',st1,fun b hb=>by
    rw [aC (by obtain ⟨o,e,_⟩:=T.obj _ _ st2 b hb;exact Nat.ne_of_lt (Heap.lt_size e))]
    exact (f2 b hb).1,w0⟩
  rintro n s' ⟨i,ts,H',hts,I3,st3,fr3,w3⟩
  rcases turn i n H' w3 with ⟨stop,qn⟩ | ⟨go,step⟩
  ·refine thn (T.done (br X N scope cl fp G.objs.size s2 H2) rfl rfl rfl hc i [] s' _ H' _ I3 (fU fr3) st3 stop) fun r s4 ⟨hr,I4⟩=>?_
   subst hr
   obtain ⟨m,hm,_⟩:=I4.loc
   refine fin _ _ s4 H' (by rw [hC];exact Nat.le_succ _) I4.free ⟨m,hm⟩ (I2.call' (ch:=fp) I4.os I4.base I4.hok I4.bare fun b hb=>?_) qn
   exact ⟨(f2 b hb).2.2.2.1,(f2 b hb).2.1,(f2 b hb).2.2.2.2.1,(f2 b hb).2.2.2.2.2⟩
  ·refine thn (T.item (br X N scope cl fp G.objs.size s2 H2) rfl rfl rfl hc i [] s' _ H' _ I3 (fU fr3) st3 go) fun r s4 ⟨u,hr,h4⟩=>?_
   subst hr
   refine thn h4 fun _ s5 ⟨y,H5,I5,r5,y5,st5,fr5⟩=>?_
   have I5':=I5.pinned (fU fr5) (T.obj _ _ st5)
   refine thn (hg fp G.objs.size s2 H2 _ s5 _ H5 y u _ I5' r5 (step y H5 y5 ts hts)) fun _ s6 ⟨σ6,H6,I6,⟨ts6,yw,e6⟩,q6⟩=>?_
   subst e6
   have again:∀ {σ7:St} {H7:Hp} {s7:Shared} {m' : Nat},σ7=bW σ fr ts6->Inv (br X N scope cl fp G.objs.size s2 H2) ([] ++ iw fp s5.heap) σ7 H7 s7->m' < n->W (i+1) m' H7 ->
     ∃ m,m < n/\∃ i ts H',ts.length=k/\Inv (br X N scope cl fp G.objs.size s2 H2) [] (bW σ fr ts) H' s7/\tn i s7.heap/\(∀ b ∈ fp,H' b=none)/\W i m H':=fun {σ7 H7 s7 m'} e7 I7 hm w7=>by
    subst e7
    refine ⟨m',hm,i+1,ts6,H7,yw,I7.unpinned,T.keep _ _ _ st5 fun b hb o e=>(I7.pin (b,o) (List.mem_append_right _ (List.mem_append_right _ (cx hb e)))).1,fun b hb=>?_,w7⟩
    obtain ⟨o,e,d⟩:=T.obj _ _ st5 b hb
    exact (I7.pin (b,o) (List.mem_append_right _ (List.mem_append_right _ (cx hb e)))).2.1
   refine thn (ht fp G.objs.size s2 H2 _ s6 _ H6 _ I6 q6) fun ok s7 ⟨H7,I7,q7⟩=>?_
   cases ok with
   | false =>
    rw [if_neg Bool.false_ne_true] at q7 ⊢
    obtain ⟨m',hm,w7⟩:=q7
    exact again rfl I7 hm w7
   | true =>
    rw [if_pos rfl] at q7 ⊢
    refine thn (he fp G.objs.size s2 H2 _ s7 _ H7 _ I7 q7) fun u8 s8 ⟨v8,H8,I8,r8,ys,hys,hlen,m',hm,w8⟩=>?_
    refine thn (cb (X:=br X N scope cl fp G.objs.size s2 H2) _ s8 _ H8 (.ref s2.heap.objs.size) [v8] _ [u8] (fun _ H9=>W (i+1) m' H9) I8 rfl (.cons r8 .nil) ⟨_,ys,v8,rfl,rfl,hys,hlen,w8⟩) fun _ s9 ⟨_,H9,I9,_,w9⟩=>?_
    exact again rfl I9 hm w9
 exact codeAny_compStart_list (loop _ rfl) (T.self _ 0 _ _ _ st1 (loop _ rfl))
theorem fW {wi:TI} (hi:PI X tg iter wi) (O:mI X N k fr scope cl) (hc:X.calm=true) (hg:∀ fp C s H,PG (br X N scope cl fp C s H) tg gt) (ht:∀ fp C s H,PIf (br X N scope cl fp C s H) ifs tt) (he:∀ fp C s H,PE (br X N scope cl fp C s H) elt te)
  (hs:∀ v,foldedSetIterable iter X.env v=pure v:=by intro _;rfl):PE X (.ListComp elt [⟨tg,iter,ifs,0⟩] scope pos) (rK wi gt k fr tt te):=by
 intro pins s σ H Q I h
 rw [eval_ListComp]
 refine wpAny_comprehension_free (use:=none) rfl hs O.clos O.kind O.names (thn (hi pins s σ H _ I h) fun v s1 h1=>thn h1 fun itv s2 h2=>?_)
 obtain ⟨it,fp,tn,J,H2,e,I2,T,st2,f2,hW⟩:=h2
 subst e
 refine mJ (RR:=fun acc C=>compPost (model X.prog X.w) X.A X.xe none (EP X pins σ Q) acc C) O hc I2 T st2 f2 ht he hg hW fun D C s' H' hC hn ⟨m,hm⟩ I' q=>?_
 exact ⟨m,hm,fun h' hs'=>⟨.ref D,H',I2.left I' hC hn hs',rfl,q⟩⟩
theorem dS {K:PySem.W.Frag} {a:Addr} {xs:List V} {σ:St} {H1:Hp} {Q:VK} (Pv:Addr->Nat->List V->Hp->Prop) (h0:∀ D,H1 D=none->Pv D 0 [] (upd H1 D (.lst [])))
  (hk:∀ D i ys H,H1 D=none->i<=xs.length->Pv D i ys H->SqL K H a xs)
  (hs:∀ D i x ys H,H1 D=none->xs[i]?=some x->Pv D i ys H->∀ ts:St,ts.length=k->gt x (bW σ fr ts) H fun σ2 H2=>(∃ ts2:St,ts2.length=k/\σ2=bW σ fr ts2)/\tt σ2 H2 fun b H3=>if b=true then te σ2 H3 (dB Pv D i xs.length) else fV Pv D i xs.length H3)
  (hd:∀ D ys H,H1 D=none->Pv D xs.length ys H->Q (.ref D) H):gD (Itl K a) gt k fr tt te σ Q H1:=by
 intro D hD
 refine ⟨fun i m H=>m=xs.length - i/\i<=xs.length/\∃ ys,Pv D i ys H,⟨_,rfl,Nat.zero_le _,[],h0 D hD⟩,?_⟩
 rintro i m H ⟨rfl,hi,ys,p⟩
 have q:=hk D i ys H hD hi p
 by_cases hlt:i < xs.length
 ·refine .inr ⟨⟨xs,xs[i],q,by simp [hlt]⟩,fun x H' y=>?_⟩
  obtain ⟨e,y⟩:=y
  subst e
  exact hs D i x ys _ hD (y xs q) p
 ·have e:i=xs.length:=by omega
  subst e
  exact .inl ⟨⟨xs,q,Nat.le_refl _⟩,hd D ys H hD p⟩
end
theorem lC {X:Cx} {K:PySem.W.Frag} {es:List Expr} {k:Nat} {t:TGs} {n:Nat} {pos:Pos} (hK:X.K=K) (hc:X.calm=true) (h:PGs X es t) (hn:(assignEach es X.env).length=n:=by rfl) (hst:(assignEach es X.env).findIdx? (·.1)=none:=by rfl):PG X (.Tuple es k pos) (AD K n t):=hK ▸ dz hc h hn hst
end L2
namespace Srt
open PySem PySem.W PyProof.Rows
def Ok (n:Nat) (lt:Nat->Nat->Bool) {α:Type} : KasT α->(α->Prop)->Prop
 | .ret a,Q=>Q a
 | .ask i j k,Q=>i < n/\j < n/\Ok n lt (k (lt i j)) Q
section
variable {n:Nat} {lt:Nat->Nat->Bool}
abbrev g (p:Array Nat) (i:Nat):Nat:=p.getD i 0
def Bd (n:Nat) (p:Array Nat):Prop:=0 < n/\∀ i,g p i < n
def Up (lt:Nat->Nat->Bool) (p:Array Nat) (k:Nat):Prop:=∀ i j,i<=j->j < k->lt (g p j) (g p i)=false
def Dn (lt:Nat->Nat->Bool) (p:Array Nat) (k:Nat):Prop:=∀ i j,i<=j->j < k->lt (g p i) (g p j)=false
structure Ord (lt:Nat->Nat->Bool):Prop where
 tr:∀ a b c,lt b a=false->lt c b=false->lt c a=false
 as:∀ a b,lt a b=true->lt b a=false
def Eqs (lt:Nat->Nat->Bool) (p:Array Nat) (a b:Nat):Prop:=∀ i j,a<=i->i < b->a<=j->j < b->lt (g p i) (g p j)=false
end
end Srt
namespace L2
open PySem PySem.Spec PySem.W PyProof.Rows
def ltP (p q:Int × Int):Bool:=decide (p.1 < q.1) || (decide (p.1=q.1) && decide (p.2 < q.2))
section
variable {prog:Program} {w:World} {A:Around} {E:Value->Shared->Prop} {s:Shared}
end
section
variable {X:Cx}
end
end L2
namespace L2
structure Qb (S A B A0 B0:List Pr):Prop where
 ap:Apart S
 aA:Apart A
 aB:Apart B
 mem:∀ n,(inP A0 n && inP B0 n)=(inP S n || (inP A n && inP B n))
 gap:∀ s ∈ S,(∀ p ∈ A,s.2+2<=p.1)\/(∀ p ∈ B,s.2+2<=p.1)
structure QH (F T:List Pr) (lo hi st:Int):Prop where
 ap:Apart F
 lt:∀ s ∈ F,s.2+2<=st
 rng:∀ s ∈ F,lo<=s.1/\s.2<=hi
 tk:∀ p ∈ T,p.2 < st
 fr:st=lo\/∃ p ∈ T,st=p.2+1
 ge:lo<=st
 mem:∀ n,lo<=n->n<=hi->n < st->inP F n = !inP T n
end L2
namespace L2
structure Walk (ts:List (Int × Int × Int)):Prop where
 le:∀ t ∈ ts,t.1<=t.2.1
 nx:∀ (i:Nat) a b,ts[i]?=some a->ts[i+1]?=some b->b.1=a.2.1+1
def pcs (msk:Int->Bool) (ts:List (Int × Int × Int)) (n:Int):Bool:=ts.any fun t=>inR n (t.1,t.2.1) && msk t.2.2
structure QI (R:List Pr) (ts:List (Int × Int × Int)) (msk:Int->Bool) (i:Nat) (at_:Int):Prop where
 ap:Apart R
 mem:∀ n,inP R n=pcs msk (ts.take i) n
 lt:∀ r ∈ R,r.2 < at_
 few:2 * R.length<=i\/(2 * R.length<=i+1/\∃ R' l,R=R' ++ [l]/\l.2=at_ - 1)
section
variable {R:List Pr} {ts:List (Int × Int × Int)} {msk:Int->Bool} {i:Nat} {at_:Int} {t:Int × Int × Int}
end
end L2
namespace L2
def ends (R:List Pr):List Int:=R.flatMap fun p=>[p.1,p.2+1]
end L2
namespace L2
open PySem PySem.Spec PyProof.Rows
theorem lD (ns:List Int):∀ k,k<=ns.length->preSum (fun i=>ns.getD i 0) k=(ns.take k).sum
 | 0,_=>rfl
 | k+1,h=>by
  have ih:=lD ns k (by omega)
  show preSum (fun i=>ns.getD i 0) k+ns.getD k 0=_
  have e:ns[k]?=some ns[k]:=List.getElem?_eq_getElem (by omega)
  rw [ih,List.take_add_one,e,List.sum_append,List.getD_eq_getElem?_getD,e]
  simp
section
variable {X:Cx}
theorem eL (hc:X.calm=true):de X (.builtin "sum") (fun us H Q=>∃ (a:Addr) (ns:List Int),us=[.ref a]/\SqL X.K H a (ns.map V.int)/\Q (.int ns.sum) H):=by
 intro pins s σ H us vs Q I r h
 obtain ⟨a,ns,rfl,hq,q⟩:=h
 obtain ⟨u,rfl,rx⟩:=r.one
 cases (show u=Value.ref a from rx)
 obtain ⟨its,rv,pl,hz⟩:=I.list hq
 have l1:=rv.length
 rw [List.length_map] at l1
 obtain ⟨oa,ea,_⟩:=id pl.isList
 have hax:a < s.heap.objs.size:=Heap.lt_size ea
 refine call_sum_walkG (wpAny_pyIter_list pl.isList ?_)
 refine ⟨s.heap.objs.size,[s.heap.objs.size,a],[s.heap.objs.size],_,_,_,fun i=>ns.getD i 0,rfl,Walks.list (A:=X.A.in1) (I.ok.hd hc) _ a (Nat.ne_of_lt hax) its.toArray,⟨⟨_,Heap.get?_push_size _ rfl,rfl,rfl⟩,pl.isList.at fun o e=>Heap.get?_push_of_some _ e⟩,fun b hb=>?_,fun i v e=>?_,fun h' tk t' hk=>?_⟩
 ·show b < (s.heap.push _).objs.size
  rw [Heap.size_push]
  rcases List.mem_cons.mp hb with z | z
  ·rw [z];exact Nat.lt_succ_self _
  ·have z2:b=a:=by simpa using z
   rw [z2];exact Nat.lt_succ_of_lt hax
 ·have e' : its[i]?=some v:=by simpa using e
  have hi:i < ns.length:=by rw [l1];exact (List.getElem?_eq_some_iff.mp e').1
  have ex:(ns.map V.int)[i]?=some (.int ns[i]):=by rw [List.getElem?_map,List.getElem?_eq_getElem hi];rfl
  obtain ⟨u,q1,ru⟩:=rv.get ex
  rw [e'] at q1;cases q1
  obtain ⟨t,rfl⟩:=ru
  exact ⟨t,by show Value.int ns[i] t=Value.int (ns.getD i 0) t;rw [List.getD_eq_getElem?_getD,List.getElem?_eq_getElem hi];rfl⟩
 ·refine ⟨.int ns.sum,H,I.kept (t':=tk) fun b o e=>hk b o (fun z=>?_) (Heap.get?_push_of_some _ e),⟨t',?_⟩,q⟩
  ·have z2:b=s.heap.objs.size:=by simpa using z
   exact absurd (Heap.lt_size e) (by rw [z2];exact Nat.lt_irrefl _)
  ·rw [List.size_toArray,← l1,lD ns _ (Nat.le_refl _),List.take_length]
end
section
variable {prog:Program} {w:World} {A:Around} {E:Value->Shared->Prop} {s:Shared}
end
section
variable {X:Cx}
end
end L2
namespace L2
open PySem PySem.Spec PyProof.Rows
def Its (z:Str):It:=⟨fun i _=>i < z.cps.size,fun i H x H'=>H'=H/\∃ c,z.cps[i]?=some c/\x=.str ⟨#[c]⟩,fun i _=>z.cps.size<=i⟩
theorem rL {P:Program} {w:World} {K:PySem.W.Frag} {tg:Expr} (z:Str) (t:Tok) (it:Addr):Turn P w K tg (Its z) [it] it (fun i h=>h.IsStrIter it "str_ascii_iterator" z t i) where
 mem:=by simp
 obj:=fun i h st b hb=>by
  obtain ⟨o,e,c,d⟩:=st
  rw [show b=it by simpa using hb]
  exact ⟨o,e,fun v q=>by rw [d] at q;cases q⟩
 keep:=fun i h h' ⟨o,e,r⟩ k=>⟨o,k it (by simp) o e,r⟩
 item:=by
  intro X hP hw hK hc i pins s σ H E I hf st hg
  subst hP hw hK
  have hlt:i < z.cps.size:=hg
  have hi:z.cps[i]?=some z.cps[i]:=Array.getElem?_eq_getElem hlt
  obtain ⟨f0,f1,f2,f3,f4,f5⟩:=hf it (by simp)
  refine wpAny_pyNext_ascii_item st hi fun h' st' sb=>?_
  have I1:Inv X pins σ H { s with heap:=h',toks:=s.toks+1 }:=I.turned (t':=s.toks+1) (fun b o hb e=>(sb.2 b hb).trans e) f0 f1 f3 f4 f5
  obtain ⟨o,e,c,d⟩:=id st'
  exact ⟨_,rfl,sH (s:={ s with heap:=h',toks:=s.toks+1 }) e c d (by decide) ⟨.str ⟨#[z.cps[i]]⟩,H,I1,⟨_,rfl⟩,⟨rfl,_,hi,rfl⟩,st',fun b hb=>(hf b hb).1⟩⟩
 done:=by
  intro X hP hw hK hc i pins s σ H E I hf st hg
  subst hP hw hK
  obtain ⟨f0,f1,f2,f3,f4,f5⟩:=hf it (by simp)
  exact wpAny_pyNext_ascii_end (I.ok.hd hc) st (by simpa using (show z.cps.size<=i from hg)) fun h' eb=>⟨rfl,I.turned (t':=s.toks) (fun b o hb e=>eb b o hb e) f0 f1 f3 f4 f5⟩
 self:=fun _ _ _ _ _ st h=>wpAny_pyIter_striter_ascii st h
theorem tL {P:Program} {w:World} {K:PySem.W.Frag} {tg:Expr} (z:Str) (t:Tok) (it:Addr):Turn P w K tg (Its z) [it] it (fun i h=>h.IsStrIter it "str_iterator" z t i) where
 mem:=by simp
 obj:=fun i h st b hb=>by
  obtain ⟨o,e,c,d⟩:=st
  rw [show b=it by simpa using hb]
  exact ⟨o,e,fun v q=>by rw [d] at q;cases q⟩
 keep:=fun i h h' ⟨o,e,r⟩ k=>⟨o,k it (by simp) o e,r⟩
 item:=by
  intro X hP hw hK hc i pins s σ H E I hf st hg
  subst hP hw hK
  have hlt:i < z.cps.size:=hg
  have hi:z.cps[i]?=some z.cps[i]:=Array.getElem?_eq_getElem hlt
  obtain ⟨f0,f1,f2,f3,f4,f5⟩:=hf it (by simp)
  refine wpAny_pyNext_wide_item st hi fun h' st' sb=>?_
  have I1:Inv X pins σ H { s with heap:=h',toks:=s.toks+1 }:=I.turned (t':=s.toks+1) (fun b o hb e=>(sb.2 b hb).trans e) f0 f1 f3 f4 f5
  obtain ⟨o,e,c,d⟩:=id st'
  exact ⟨_,rfl,sH (s:={ s with heap:=h',toks:=s.toks+1 }) e c d (by decide) ⟨.str ⟨#[z.cps[i]]⟩,H,I1,⟨_,rfl⟩,⟨rfl,_,hi,rfl⟩,st',fun b hb=>(hf b hb).1⟩⟩
 done:=by
  intro X hP hw hK hc i pins s σ H E I hf st hg
  subst hP hw hK
  obtain ⟨f0,f1,f2,f3,f4,f5⟩:=hf it (by simp)
  exact wpAny_pyNext_wide_end (I.ok.hd hc) st (by simpa using (show z.cps.size<=i from hg)) fun h' eb=>⟨rfl,I.turned (t':=s.toks) (fun b o hb e=>eb b o hb e) f0 f1 f3 f4 f5⟩
 self:=fun _ _ _ _ _ st h=>wpAny_pyIter_striter_wide st h
section
variable {X:Cx} {tg:Expr}
def DW (tl:TE):PySem.W.Frag->St->Hp->(It->Hp->Prop)->Prop:=fun _ σ H R=>tl σ H fun x H1=>∃ z,x=.str z/\R (Its z) H1
theorem yx {l:Expr} {tl:TE} (hl:PE X l tl):PI X tg l (DW tl X.K):=by
 intro pins s σ H R I h
 refine thn (hl pins s σ H _ I h) fun v s1 ⟨x,H1,I1,r1,q1⟩=>?_
 obtain ⟨z,e,q⟩:=q1
 subst e
 obtain ⟨t,rfl⟩:=r1
 have fpo:∀ b ∈ [s1.heap.objs.size],iu X pins H1 b:=fun b hb=>by
  rw [show b=s1.heap.objs.size by simpa using hb]
  exact I1.fpOk (Nat.le_refl _) (I1.hok.fresh (Nat.le_refl _))
 cases ha:z.cps.all (· < 128) with
 | true=>exact wpAny_pyIter_ascii ha ⟨s1.heap.objs.size,[s1.heap.objs.size],_,_,H1,rfl,I1.kept (t':=s1.toks) fun b o e=>Heap.get?_push_of_some _ e,rL z t _,⟨_,Heap.get?_push_size _ rfl,rfl,rfl⟩,fpo,q⟩
 | false=>exact wpAny_pyIter_wide ha ⟨s1.heap.objs.size,[s1.heap.objs.size],_,_,H1,rfl,I1.kept (t':=s1.toks) fun b o e=>Heap.get?_push_of_some _ e,tL z t _,⟨_,Heap.get?_push_size _ rfl,rfl,rfl⟩,fpo,q⟩
end
theorem wC {z:Str} {g:TG} {tb:TS} {D:Ends} {σ:St} {H:Hp} (Pv:Nat->St->Hp->Prop) (h0:Pv 0 σ H)
  (hs:∀ i c σ H,z.cps.toList[i]?=some c->Pv i σ H->g (.str ⟨#[c]⟩) σ H fun σ2 H2=>tb { D with nx:=Pv (i+1),ct:=Pv (i+1),bk:=D.nx } σ2 H2) (hd:∀ σ H,Pv z.cps.size σ H->D.nx σ H) :
  ∃ W:Nat->Nat->St->Hp->Prop,(∃ m,W 0 m σ H)/\∀ i m σ H,W i m σ H ->
   ((Its z).stop i H/\D.nx σ H)\/((Its z).go i H/\∃ N:St->Hp->Prop,(∀ σ' H',N σ' H'->∃ m',m' < m/\W (i+1) m' σ' H')/\∀ x H',(Its z).yld i H x H'->g x σ H' fun σ2 H2=>tb { D with nx:=N,ct:=N,bk:=D.nx } σ2 H2):=by
 refine ⟨fun i m σ H=>m=z.cps.size - i/\i<=z.cps.size/\Pv i σ H,⟨_,rfl,Nat.zero_le _,h0⟩,?_⟩
 rintro i m σ H ⟨rfl,hi,p⟩
 by_cases hlt:i < z.cps.size
 ·refine .inr ⟨hlt,Pv (i+1),fun σ' H' p'=>⟨z.cps.size - (i+1),by omega,rfl,hlt,p'⟩,fun x H' y=>?_⟩
  obtain ⟨e,c,y1,y2⟩:=y
  subst e;subst y2
  exact hs i c σ _ (by simpa using y1) p
 ·have e:i=z.cps.size:=by omega
  subst e
  exact .inl ⟨Nat.le_refl _,hd σ H p⟩
section
variable {X:Cx}
def rJoin (K:PySem.W.Frag):V->List V->Hp->VK->Prop:=fun x vs H Q=>∃ (z:Str) (a:Addr) (ys:List Str),x=.str z/\vs=[.ref a]/\SqL K H a (ys.map V.str)/\z.length<=64/\(ys.map (·.length)).sum+ys.length * 64<=16777216/\Q (.str (Txt.join z ys)) H
theorem qO {x:Str} {v:V} {pos:Pos} (hg:Gl X x) (h:∃ u,X.mg x=some u/\RelV v u) (hd:(x == ("__debug__" : Str))=false:=by decide):PE X (.Name x pos) (tC v) :=
 let ⟨_,m,r⟩:=h
 bz hg m r hd
end
def sg (g:Str) (c:Nat):Bool:=!(Builtin.Str.occurrences g ⟨#[c]⟩ 0 g.length 1).isEmpty
def jx (z g:Str):Bool:=z.cps.toList.all (sg g)
end L2
namespace L2
open PySem PySem.Spec PyProof.Rows PySem.NumText
section
variable {X:Cx}
def QJ:V->Option Int->Option Int->Hp->VK->Prop:=fun x lo hi H Q=>∃ z,x=.str z/\z.length<=sizeLine/\Q (.str (Txt.slice z lo hi)) H
def Dc:V->List V->Hp->VK->Prop:=fun x vs H Q=>∃ z y:Str,x=.str z/\vs=[.str y]/\Q (.bl (Txt.startswith z y)) H
end
structure QK (cs:List Nat):Prop where
 all:AllDigits cs
 one:cs.length=1\/∃ c r,cs=c :: r/\49<=c
def Qc (n:Int) (cs:List Nat):List Nat:=if n < 0 then 45 :: cs else cs
end L2
namespace L2
open PySem PySem.Spec PyProof.Rows PySem.W
theorem sP {X:Cx} : OpR X (binaryOp .Mult) (rI IntMulOk fun i j=>.int (i * j)):=opI fun _ _ _ _ _ _ _ hc q=>mul_int q hc
end L2
namespace L2
open PySem PySem.Spec PyProof.Rows
def tM (h:Heap) (e T:Addr) (cls a0:Value):Prop :=
 ∃ oe vs oT ts,h.get? e=some oe/\(oe.cls=cls/\vs[0]?=some a0)/\oe.data=.fields vs/\vs[1]?=some (.ref T)/\T ≠ e/\h.get? T=some oT/\oT.data=.fields ts/\ts[3]?=some .none
structure Stp (F X:List Addr) (h h' : Heap):Prop where
 keep:∀ b o,b ∉ F->b ∉ X->h.get? b=some o->h'.get? b=some o
 slot:∀ b o,b ∈ F->h.get? b=some o->∃ sl,h'.get? b=some { o with slots:=sl }
section
variable {M:Model} {A:Around} {E:Value->Shared->Prop} {s:Shared} {base:Heap} {env:Env} {outer:List Env} {L e T:Addr} {oe:Obj} {vs:Array Value} {a0 cls:Value} {Q:Unit->Shared->Prop}
theorem fC {base h:Heap} {l:List Env} (xs:List Addr) (ff:h.FunFrames base l):h.FunFrames (PySem.W.hideAll h (xs ++ frs l)) l :=
 PySem.W.funFrames_hide ff fun v hv a ha=>List.mem_append_right _ (List.mem_filterMap.mpr ⟨v,hv,ha⟩)
theorem jy {base h h' : Heap} {l:List Env} {xs:List Addr} (ff:h.FunFrames base l) (hT:(PySem.W.hideAll h (xs ++ frs l)).get? T=none) (sl:∀ b o,b ∈ frs l->h.get? b=some o->∃ sl,h'.get? b=some { o with slots:=sl })
  {oT:Obj} {ts:Array Value} (h1:h'.get? T=some oT) (h2:oT.data=.fields ts):h.get? T=none\/T ∈ xs:=by
 cases q:h.get? T with
 | none=>exact .inl rfl
 | some o =>
  by_cases hx:T ∈ xs
  ·exact .inr hx
  ·by_cases hF:T ∈ frs l
   ·obtain ⟨_,o2,q2,nf⟩:=ff.mem hF
    obtain ⟨sl',q3⟩:=sl T o2 hF q2
    rw [h1] at q3
    have q4:=Option.some.inj q3
    exact absurd (by rw [q4] at h2;exact h2) (nf ts)
   ·have z:=PySem.W.hideAll_get (xs ++ frs l) q (by simp [hx,hF])
    rw [hT] at z;cases z
theorem land {E2:Value->Shared->Prop} (hf:A.frames=some (env :: outer)) (ff:s.heap.FunFrames base (env :: outer)) (hL:env.frame=some L) (x:tM s.heap e T cls a0)
  (h:∀ h' T',Stp (frs (env :: outer)) [e,T] s.heap h'->tM h' e T' cls a0->(s.heap.get? T'=none\/T'=T)->Q () { s with heap:=h' }):wpAny M A (noteFrame (.ref e) env) (fun _ s2=>wpAny M A (setFlight (.ref e) none) Q E s2) E2 s:=by
 obtain ⟨oe,vs,oT,ts,x1,x2,x3,x4,x5,x6,x7,x8⟩:=x
 refine wpAny_noteFrame_onW (base:=PySem.W.hideAll s.heap ([e,T] ++ frs (env :: outer))) hf (fC _ ff) hL ⟨oe,vs,T,oT,ts,x1,x2,x3,x4,PySem.W.hideAll_none _ (by simp),x5,x6,x7,x8⟩ (fun b o q=>PySem.W.of_hideAll _ q) (PySem.W.hideAll_none _ (by simp)) fun h1 lw=>?_
 obtain ⟨st1,ff1,tr1,up1⟩:=lw
 refine wpAny_setFlight_noneW (s:={ s with heap:=h1 }) st1 ff1 tr1 fun h' st ff2 tr up=>?_
 obtain ⟨oe',vs',T',oT',ts',t1,t2,t3,t4,t5,t6,t7,t8,t9⟩:=tr
 have fX:∀ b o,b ∈ frs (env :: outer)->s.heap.get? b=some o->∃ sl,h'.get? b=some { o with slots:=sl }:=fun b o hb q=>by
  obtain ⟨_,o2,q2,nf⟩:=ff.mem hb
  rw [q] at q2;cases q2
  obtain ⟨sl,q3⟩:=up1 b o q nf
  exact ⟨sl,up b _ q3 nf⟩
 refine h h' T' ⟨fun b o hb hx q=>st b o (PySem.W.hideAll_get _ q (by simp only [List.mem_append];exact fun z=>z.elim hx hb)),fX⟩ ⟨oe',vs',oT',ts',t1,t2,t3,t4,t6,t7,t8,t9⟩ ?_
 rcases jy ff t5 fX t7 t8 with z | z
 ·exact .inl z
 ·rcases List.mem_cons.mp z with z | z
  ·exact absurd z t6
  ·exact .inr (by simpa using z)
theorem yy {l:List Env} (ff:s.heap.FunFrames base l) (x:tM s.heap e T cls a0)
  (h:∀ h' T',Stp (frs l) [e,T] s.heap h'->tM h' e T' cls a0->(s.heap.get? T'=none\/T'=T)->Q () { s with heap:=h' }):wpAny M A (setFlight (.ref e) none) Q E s:=by
 obtain ⟨oe,vs,oT,ts,x1,x2,x3,x4,x5,x6,x7,x8⟩:=x
 refine wpAny_setFlight_noneW (base:=PySem.W.hideAll s.heap ([e,T] ++ frs l)) (fun b o q=>PySem.W.of_hideAll _ q) (fC _ ff) ⟨oe,vs,T,oT,ts,x1,x2,x3,x4,PySem.W.hideAll_none _ (by simp),x5,x6,x7,x8⟩ fun h' st ff2 tr up=>?_
 obtain ⟨oe',vs',T',oT',ts',t1,t2,t3,t4,t5,t6,t7,t8,t9⟩:=tr
 have fX:∀ b o,b ∈ frs l->s.heap.get? b=some o->∃ sl,h'.get? b=some { o with slots:=sl }:=fun b o hb q=>by
  obtain ⟨_,o2,q2,nf⟩:=ff.mem hb
  rw [q] at q2;cases q2
  exact ⟨o.slots,up b _ q nf⟩
 refine h h' T' ⟨fun b o hb hx q=>st b o (PySem.W.hideAll_get _ q (by simp only [List.mem_append];exact fun z=>z.elim hx hb)),fX⟩ ⟨oe',vs',oT',ts',t1,t2,t3,t4,t6,t7,t8,t9⟩ ?_
 rcases jy ff t5 fX t7 t8 with z | z
 ·exact .inl z
 ·rcases List.mem_cons.mp z with z | z
  ·exact absurd z t6
  ·exact .inr (by simpa using z)
end
end L2
namespace L2
open PySem PySem.Spec PyProof.Rows
section
variable {P:Program} {w:World} {H H' : Hp} {h h' : Heap} {a:Addr} {o:HO} {F Y fs:List Addr}
theorem cL.there (x:cL P w H h a o):∃ ob,h.get? a=some ob:=by
 cases o with
 | lst xs=>obtain ⟨_,_,_,_,e⟩:=x;exact ⟨_,e⟩
 | tup xs=>obtain ⟨_,_,_,ob,e,_⟩:=x;exact ⟨_,e⟩
 | dK kvs=>obtain ⟨_,_,_,_,o,_,_,e,_⟩:=x;exact ⟨_,e⟩
 | dT kvs=>obtain ⟨_,_,_,_,o,_,_,e,_⟩:=x;exact ⟨_,e⟩
 | set S n=>obtain ⟨o,_,_,_,e,_⟩:=x;exact ⟨_,e⟩
 | ins C dx fs=>obtain ⟨_,_,_,e,_⟩:=x;exact ⟨_,e⟩
 | own y=>obtain ⟨_,e⟩:=x;exact ⟨_,e⟩
 | xd fs=>obtain ⟨_,⟨_,_,_,e,_⟩,_⟩:=x;exact ⟨_,e⟩
 | rng lo hi=>obtain ⟨_,_,_,e⟩:=x;exact ⟨_,e⟩
 | frz ob u=>obtain ⟨e,_⟩:=x;exact ⟨_,e⟩
 | tbl ps=>exact ⟨_,(show h.get? a=some _ from x)⟩
 | met f y=>exact ⟨_,(show h.get? a=some _ from x)⟩
 | ext φ=>obtain ⟨_,⟨_,e⟩,_⟩:=x;exact ⟨_,e⟩
theorem HOk.none_of (x:HOk P w H h) (e:h.get? a=none):H a=none:=by
 cases q:H a with
 | none=>rfl
 | some u =>
  obtain ⟨ob,z⟩:=(x a u q).there
  rw [e] at z;cases z
theorem HOk.stp (x:HOk P w H h) (st:Stp F Y h h') (hF:∀ b ∈ F,H b=none) (hY:∀ b ∈ Y,H b=none):HOk P w H h':=fun a o e =>
 (x a o e).stay (fun b u hb q=>by
  have hn:H b ≠ none:=by
   rcases hb with rfl | hb
   ·rw [e];simp
   ·rw [hb];simp
  exact st.keep b u (fun z=>hn (hF b z)) (fun z=>hn (hY b z)) q) (fun _ q=>q) fun _ _ q=>q
theorem Un.stp {H0:Hp} {h0:Heap} (u:Un fs [] H0 H h0 h) (st:Stp F Y h h') (h1:∀ b o,h0.get? b=some o->b ∈ F->b ∈ fs) (h2:∀ b ∈ fs,b ∈ F) (hY:∀ b ∈ Y,h0.get? b=none):Un fs [] H0 H h0 h':=by
 have nY:∀ b o,h0.get? b=some o->b ∉ Y:=fun b o q z=>by rw [hY b z] at q;cases q
 refine ⟨fun b o q n hb hx=>st.keep b o (fun z=>hb (h1 b o q z)) (nY b o q) (u.keep b o q n hb hx),fun b o q n hb hx=>?_,u.free,fun b o q hx=>?_,u.tups,u.frzs,u.tbls⟩
 ·obtain ⟨sl,q1⟩:=u.slot b o q n hb hx
  obtain ⟨sl2,q2⟩:=st.slot b _ (h2 b hb) q1
  exact ⟨sl2,q2⟩
 ·obtain ⟨o1,q1⟩:=u.there b o q hx
  by_cases hF:b ∈ F
  ·obtain ⟨sl2,q2⟩:=st.slot b _ hF q1
   exact ⟨_,q2⟩
  ·exact ⟨_,st.keep b o1 hF (nY b o q) q1⟩
end
def CX1 (P:Program) (w:World):CXT:=fun outer H s E ev s'=>∃ (e T C:Addr) (a0:Value) (H' : Hp),ev=.ref e/\s'.os=s.os/\AllBare s'.gens/\Un (frs outer) [] H H' s.heap s'.heap/\HOk P w H' s'.heap /\
 tM s'.heap e T (.ref C) a0/\s.heap.get? e=none/\s.heap.get? T=none/\H' e=none/\H' T=none/\E (.ref C) none H'
structure eF (X:Cx) (pins:List (Addr × Obj)) (H:Hp) (b:Addr):Prop where
 ent:X.s₀.heap.get? b=none
 unt:H b=none
 loc:b ≠ X.env.locals
 cel:∀ x c,X.env.cells.lookup x=some c->c ≠ b
 pin:∀ p ∈ X.pn ++ pins,p.1 ≠ b
section
variable {X:Cx} {pins:List (Addr × Obj)} {σ:St} {H:Hp} {s:Shared} {h' : Heap} {e T:Addr}
theorem Inv.newAt (I:Inv X pins σ H s) (hx:X.ex=[]) {b:Addr} (hb:s.heap.get? b=none):eF X pins H b:=by
 refine ⟨?_,I.hok.none_of hb,?_,?_,?_⟩
 ·cases q:X.s₀.heap.get? b with
  | none=>rfl
  | some o =>
   obtain ⟨o',q'⟩:=I.base.there b o q (by rw [hx];simp)
   rw [hb] at q';cases q'
 ·rintro rfl
  obtain ⟨m,⟨o,_,_,q,_⟩,_⟩:=I.loc
  rw [hb] at q;cases q
 ·rintro x c hc rfl
  obtain ⟨v,o,q,_⟩:=I.cell x c hc
  rw [hb] at q;cases q
 ·rintro p hp rfl
  obtain ⟨q,_⟩:=I.pin p hp
  rw [hb] at q;cases q
theorem Inv.excStep (I:Inv X pins σ H s) (hx:X.ex=[]) (st:Stp (frs X.stack) [e,T] s.heap h') (ne:eF X pins H e) (nT:eF X pins H T):Inv X pins σ H { s with heap:=h' }:=by
 have nY:∀ b ∈ [e,T],eF X pins H b:=fun b hb=>by
  rcases List.mem_cons.mp hb with rfl | hb
  ·exact ne
  ·rw [show b=T by simpa using hb];exact nT
 have uI:∀ b,b ≠ X.env.locals->b ∉ X.fs->b ∉ frs X.stack:=fun b h1 h2 z=>(List.mem_cons.mp (I.stkSub b z)).elim h1 h2
 have rM:∀ b o,X.s₀.heap.get? b=some o->b ∉ [e,T]:=fun b o q z=>by rw [(nY b z).ent] at q;cases q
 have neL:∀ b o,X.s₀.heap.get? b=some o->b ≠ X.env.locals:=fun b o q=>Nat.ne_of_lt (Nat.lt_of_lt_of_le (Heap.lt_size q) I.ok.above)
 have any:∀ b o,b ∉ [e,T]->s.heap.get? b=some o->∃ sl,h'.get? b=some { o with slots:=sl }:=fun b o hy q=>by
  by_cases hF:b ∈ frs X.stack
  ·exact st.slot b o hF q
  ·exact ⟨o.slots,st.keep b o hF hy q⟩
 have cellK:∀ x c,X.env.cells.lookup x=some c->∀ v,s.heap.IsCell c v->h'.IsCell c v:=fun x c ec v ⟨o,ho,hd⟩=>by
  obtain ⟨sl,q⟩:=any c o (fun z=>(nY c z).cel x c ec rfl) ho
  exact ⟨_,q,hd⟩
 refine ⟨I.ok,I.os,I.bare,⟨fun b o q n hb hxx=>?_,fun b o q n hb hxx=>?_,I.base.free,fun b o q hxx=>?_,I.base.tups,I.base.frzs,I.base.tbls⟩,?_,fun x c ec=>?_,I.free,I.freeC,fun p hp=>?_,I.hok.stp st I.stkFree (fun b hb=>(nY b hb).unt),I.len⟩
 ·exact st.keep b o (uI b (neL b o q) hb) (rM b o q) (I.base.keep b o q n hb hxx)
 ·obtain ⟨sl,q1⟩:=I.base.slot b o q n hb hxx
  obtain ⟨sl2,q2⟩:=any b _ (rM b o q) q1
  exact ⟨sl2,q2⟩
 ·obtain ⟨o1,q1⟩:=I.base.there b o q hxx
  obtain ⟨sl2,q2⟩:=any b _ (rM b o q) q1
  exact ⟨_,q2⟩
 ·obtain ⟨m,⟨oL,es,ep,hoL,r⟩,hl⟩:=I.loc
  obtain ⟨sl,q⟩:=any X.env.locals oL (fun z=>(nY _ z).loc rfl) hoL
  refine ⟨m,⟨_,es,ep,q,r⟩,fun i x v e1 e2 e3=>?_⟩
  obtain ⟨u,ru,l⟩:=hl i x v e1 e2 e3
  refine ⟨u,ru,?_⟩
  rcases l with l | ⟨k,c,ec,z⟩
  ·exact .inl l
  ·exact .inr ⟨k,c,ec,cellK x c ec _ z⟩
 ·obtain ⟨v,z⟩:=I.cell x c ec
  exact ⟨v,cellK x c ec v z⟩
 ·obtain ⟨q,n,nL,nf,d⟩:=I.pin p hp
  exact ⟨st.keep p.1 p.2 (uI p.1 nL nf) (fun z=>(nY _ z).pin p hp rfl) q,n,nL,nf,d⟩
end
structure cZ (K:PySem.W.Frag) (C:Addr):Prop where
 ex:∃ (bmB bmN:List Value) (newId B Bn nid uJ inN:String),PySem.W.excIn K C bmB newId=true/\ExcBaseFacts Bn newId inN bmN/\bmB.contains (Value.type Bn)=true/\ExcBaseFacts B nid uJ bmB
theorem cZ.value {K:PySem.W.Frag} {C:Addr} (h:PySem.W.excIn K C [.type "ValueError",.type "Exception",.type "BaseException",.type "object"] "ValueError.__new__" = true):cZ K C :=
 ⟨_,_,_,_,_,_,_,_,h,PySem.F.excBase_ValueError,by decide,PySem.F.excBase_ValueError⟩
theorem cZ.obj {K:PySem.W.Frag} {C:Addr} {h:Heap} {bmB:List Value} {newId:String} (KI:K.In h) (e:PySem.W.excIn K C bmB newId=true):∃ bm N nm q bs hdct sn sub ab col dd k0 k1 k2 k3 k5 mN,
   h.get? C=some (excClassObj nm q C N bs bm hdct sn sub ab col dd k0 k1 k2 k3 k5 newId)/\h.Ns N mN/\mN "__init__" = none/\OwnTail h bmB bm:=by
 unfold PySem.W.excIn at e
 split at e
 ·rename_i dd cd sl lk
  split at e
  ·rename_i C' bm k0 k1 k2 k3 n k5 em es
   simp only [Bool.and_eq_true,beq_iff_eq,Bool.not_eq_true'] at e
   obtain ⟨⟨⟨⟨⟨rfl,rfl⟩,hd⟩,ht⟩,hn⟩,hi⟩:=e
   obtain ⟨nm,bs,mro,ns,q,hdct,sn,sub,ab,col,QL⟩:=cd
   dsimp only at em hd ht hn hi
   subst em hd
   have hsl:sl = #[k0,k1,k2,k3,some (Value.builtin n),k5]:=by
    apply Array.toList_inj.mp
    rw [es]
   subst hsl
   exact ⟨bm,ns,nm,q,bs,hdct,sn,sub,ab,col,dd,k0,k1,k2,k3,k5,_,KI _ _ lk,Heap.Ns.of_isNs (PySem.W.isNs_of_in KI hn),PySem.W.nsMap_none_of_in KI hn hi,PySem.W.tail_of_in KI ht⟩
  ·cases e
 ·cases e
section
variable {P:Program} {w:World} {K:PySem.W.Frag} {mg:Str->Option Value} {base:Heap} {N:List Str} {qual:Str} {scope:Scope} {f:Addr} {cd:Value} {A:Around} {outer:List Env} {s0:Shared} {H0:Hp} {E:XK}
def yz (C:Addr) (E:XK) (t:TA):TS:=fun _ σ H=>t σ H fun vs H1=>vs.length<=sizeLine/\E (.ref C) none H1
end
end L2
namespace L2
open PySem PySem.Spec PyProof.Rows
def XP (X:Cx) (pins:List (Addr × Obj)) (σ:St) (EX:Addr->Hp->Prop) (ev:Value) (s' : Shared):Prop :=
 ∃ (e T C:Addr) (a0:Value) (H' : Hp),ev=.ref e/\Inv X pins σ H' s'/\tM s'.heap e T (.ref C) a0/\eF X pins H' e/\eF X pins H' T/\EX C H'
abbrev TX:=St->Hp->VK->(Addr->Hp->Prop)->Prop
def PEX (X:Cx) (e:Expr) (t:TX):Prop :=
 ∀ (pins:List (Addr × Obj)) (s:Shared) (σ:St) (H:Hp) (Q:VK) (EX:Addr->Hp->Prop),Inv X pins σ H s->t σ H Q EX->wpAny (model X.prog X.w) X.A (eval e X.env) (EP X pins σ Q) (XP X pins σ EX) s
def aZ (P:Program) (w:World) (K:PySem.W.Frag) (mg:Str->Option Value) (base:Heap) (k:Nat) (x:Str) (ps:List Str) (sp:Sp):Prop :=
 ∃ f fd,aR P w K mg base (CX1 P w) k f fd ps sp/\Binds K fd ps []/\PySem.W.keepIn K (.ref f)=true/\mg x=some (.ref f)
theorem aZ.mono {P:Program} {w:World} {K:PySem.W.Frag} {mg:Str->Option Value} {base:Heap} {j k:Nat} {x:Str} {ps:List Str} {sp:Sp} (C:aZ P w K mg base j x ps sp) (h:j<=k):aZ P w K mg base k x ps sp :=
 let ⟨f,fd,F,r⟩:=C
 ⟨f,fd,F.mono h,r⟩
section
variable {X:Cx} {pins:List (Addr × Obj)} {σ:St} {H:Hp} {s s' : Shared}
theorem Inv.afterX {E:XK} {EX:Addr->Hp->Prop} {ev:Value} (I:Inv X pins σ H s) (hx:X.ex=[]) (hE:∀ C H',E (.ref C) none H'->EX C H') (h:CX1 X.prog X.w X.stack H s E ev s'):XP X pins σ EX ev s':=by
 obtain ⟨e,T,C,a0,H',rfl,os,bare,un,hok,x,ne,nT,he,hT,q⟩:=h
 have I' : Inv X pins σ H' s':=I.call' (ch:=[]) os un hok bare fun b z=>absurd z (by simp)
 have a:=I.newAt hx ne
 have b:=I.newAt hx nT
 exact ⟨e,T,C,a0,H',rfl,I',x,⟨a.ent,he,a.loc,a.cel,a.pin⟩,⟨b.ent,hT,b.loc,b.cel,b.pin⟩,hE _ _ q⟩
end
section
variable {X:Cx} {k:Nat} {x:Str} {ps:List Str} {sp:Sp} {e:Expr} {es:List Expr} {t:TA} {p pos:Pos}
def DY (sp:Sp) (t:TA):TX:=fun σ H Q EX=>t σ H fun vs H1=>sp vs H1 Q fun cv _ H2=>∃ C,cv=.ref C/\EX C H2
theorem yB (C:aZ X.prog X.w X.K X.mg X.base k x ps sp) (hr:bZ k X.A) (hx:X.ex=[]) (hg:Gl X x) (ha:PA X.nox (e :: es) t) (hdb:(x == ("__debug__" : Str))=false:=by decide)
  (he:starEach (e :: es) X.env=(false,eval e X.env) :: starEach es X.env:=by rfl) (hpl:(backTo pos (starEach es X.env)).any (·.1)=false:=by rfl):PEX X (.Call (.Name x p) (e :: es) [] pos) (DY sp t):=by
 obtain ⟨f,fd,F,b,kk,m⟩:=C
 intro pins s σ H Q EX I h
 refine wpAny_Call_Name_kw (dF I hg m ?_ hdb)
 refine PySem.W.callWith_K (h₀:=X.base) I.ok.mod.kin kk (wpAny_mono (ha pos pins s σ H _ (I.wish _) h) (fun us s1 ⟨vs,H1,I1,r,q⟩=>⟨I1.kIn,?_⟩) fun _ _ z=>False.elim z) he hpl
 have J:Inv X pins σ H1 s1:=I1.unwish
 have hl:us.length=ps.length:=by rw [← r.length];exact F.len _ _ _ _ q
 have bt:BindsTo s1 fd ⟨us,[]⟩ (ps.zip us):=by
  have z:=b s1 us J.kIn (by rw [List.append_nil];exact hl)
  rw [List.append_nil] at z
  exact z
 refine wpAny_call (codeAny_mono (F.run X.A X.stack s1 H1 ⟨us,[]⟩ us vs Q _ hr J.env0 bt r q) fun r s' hq=>?_)
 cases r with
 | error ev=>exact J.afterX (E:=fun cv _ H2=>∃ C,cv=.ref C/\EX C H2) hx (fun C H' z=>by obtain ⟨C',e1,z⟩:=z;cases e1;exact z) hq
 | ok fl =>
  cases fl with
  | ret u=>exact J.after hq
  | next=>exact False.elim hq
  | brk=>exact False.elim hq
  | cont=>exact False.elim hq
abbrev TSX:=Ends->St->Hp->(Addr->Hp->Prop)->Prop
def PSX (X:Cx) (st:Stmt) (t:TSX):Prop :=
 ∀ (pins:List (Addr × Obj)) (s:Shared) (σ:St) (H:Hp) (D:Ends) (EX:Addr->Hp->Prop),Inv X pins σ H s->t D σ H EX->wpAny (model X.prog X.w) X.A (exec st X.env) (SP X pins D) (XP X pins σ EX) s
def AY (i:Nat) (te:TX):TSX:=fun D σ H EX=>te σ H (fun v H1=>D.nx (σ.set i (some v)) H1) EX
theorem wD {i:Nat} {y:Str} {e:Expr} {te:TX} {pos' : Pos} (hN:X.N.Nodup) (hi:X.N[i]?=some y) (hx:Loc X.env.scope y) (he:PEX X e te) (hs:swapsWith e (some (.Name y pos')) pos.line X.env=pure false:=by rfl) (hf:X.fn y=true\/X.env.scope.names.lookup y=some .local:=by first | exact .inl rfl | exact .inr rfl | assumption) :
  PSX X (.Assign [.Name y pos'] e pos) (AY i te):=by
 intro pins s σ H D EX I h
 refine wpAny_Assign_Name (thn (he pins s σ H _ EX I h) fun v s1 ⟨y,H1,I1,r1,q1⟩=>?_) hs
 exact fP I1 hN hi hx r1 (fun s2 I2=>⟨_,H1,I2,q1⟩) hf
def DZ (te:TX):TSX:=fun D σ H EX=>te σ H (fun _ H1=>D.nx σ H1) EX
end
def sfx (X:Cx) (e:Addr) (oe:Obj):Cx:={ X with A:=X.A.mark (some (.ref e)),calm:=false,pn:=(e,oe) :: X.pn,xe:=fun _ _=>False }
section
variable {X:Cx} {pins:List (Addr × Obj)} {σ:St} {H:Hp} {s s' : Shared} {e:Addr} {oe:Obj}
theorem Inv.suite (I:Inv X pins σ H s) (he:s.heap.get? e=some oe) (hn:eF X pins H e) (hd:∀ v,oe.data ≠ .cell v) (hf:e ∉ X.fs):Inv (sfx X e oe) pins σ H s:=by
 refine ⟨⟨I.ok.mod,I.ok.kind,I.ok.glob,I.ok.blt,I.ok.above,I.ok.inj,I.ok.has,I.ok.cab,fun z=>absurd z Bool.false_ne_true,I.ok.frames,I.ok.stk,I.ok.exf,I.ok.bs,I.ok.bsz,I.ok.noex,I.ok.exfs,I.ok.funs,I.ok.frf⟩,I.os,I.bare,I.base,I.loc,I.cell,I.free,I.freeC,fun p hp=>?_,I.hok,I.len⟩
 rcases List.mem_cons.mp (show p ∈ (e,oe) :: (X.pn ++ pins) from hp) with rfl | hp
 ·exact ⟨he,hn.unt,hn.loc,hf,hd⟩
 ·exact I.pin p hp
theorem Inv.unsuite (ok:X.Ok) (I:Inv (sfx X e oe) pins σ H s):Inv X pins σ H s :=
 ⟨ok,I.os,I.bare,I.base,I.loc,I.cell,I.free,I.freeC,fun p hp=>I.pin p (List.mem_cons_of_mem (e,oe) hp),I.hok,I.len⟩
theorem Inv.excObj (I:Inv (sfx X e oe) pins σ H s):s.heap.get? e=some oe:=(I.pin (e,oe) (List.mem_append_left _ List.mem_cons_self)).1
theorem Inv.unbound {i:Nat} {x:Str} {m:Str->Option Value} {u:Option Value} {h' : Heap} (I:Inv X pins σ H s) (hi:X.N[i]?=some x) (hN:X.N.Nodup) (hm:s.heap.Ns X.env.locals m) (ns:h'.Ns X.env.locals fun y=>if y=x then u else m y) (hs:Heap.SameBut X.env.locals s.heap h') :
  Inv X pins (σ.set i none) H { s with heap:=h' }:=by
 have cne:=I.cne
 obtain ⟨oL,_,_,hoL,_⟩:=id hm
 refine ⟨I.ok,I.os,I.bare,⟨fun b o e n hb hx=>?_,fun b o e n hb hx=>?_,I.base.free,fun b o e hx=>?_,I.base.tups,I.base.frzs,I.base.tbls⟩,⟨_,ns,fun j y v' e1 e2 e3=>?_⟩,fun y c e=>?_,I.free,I.freeC,fun p hp=>?_,?_,by simpa using I.len⟩
 ·exact (hs.2 b (Nat.ne_of_lt (Nat.lt_of_lt_of_le (Heap.lt_size e) I.ok.above))).trans (I.base.keep b o e n hb hx)
 ·obtain ⟨sl,e1⟩:=I.base.slot b o e n hb hx
  exact ⟨sl,(hs.2 b (Nat.ne_of_lt (Nat.lt_of_lt_of_le (Heap.lt_size e) I.ok.above))).trans e1⟩
 ·obtain ⟨o',e1⟩:=I.base.there b o e hx
  exact ⟨o',(hs.2 b (Nat.ne_of_lt (Nat.lt_of_lt_of_le (Heap.lt_size e) I.ok.above))).trans e1⟩
 ·by_cases hj:j=i
  ·subst hj
   by_cases hlt:j < σ.length
   ·rw [List.getElem?_set_self hlt] at e2;cases e2
   ·rw [List.getElem?_eq_none (by simpa using hlt)] at e2;cases e2
  ·rw [List.getElem?_set_ne (Ne.symm hj)] at e2
   obtain ⟨m2,hm2,hl⟩:=I.loc
   obtain ⟨u',r',q⟩:=hl j y v' e1 e2 e3
   have em:m2=m:=by rw [hm2.eq_nsMap,hm.eq_nsMap]
   subst em
   refine ⟨u',r',?_⟩
   rcases q with ⟨k,e⟩ | ⟨k,c,e,z⟩
   ·refine .inl ⟨k,?_⟩
    have:y ≠ x:=fun e=>hj (jt hN e1 (e ▸ hi))
    simp [this,e]
   ·exact .inr ⟨k,c,e,z.sameBut hs (cne y c e)⟩
 ·obtain ⟨w',z⟩:=I.cell y c e
  exact ⟨w',z.sameBut hs (cne y c e)⟩
 ·obtain ⟨e,n,ne,nf,d⟩:=I.pin p hp
  exact ⟨(hs.2 p.1 ne).trans e,n,ne,nf,d⟩
 ·intro b ob e
  refine (I.hok b ob e).stay (fun c w' hc q=>(hs.2 c ?_).trans q) (fun _ q=>q) fun _ _ q=>q
  rintro rfl
  rcases hc with rfl | hc
  ·rw [I.free] at e;cases e
  ·rw [I.free] at hc;cases hc
end
section
variable {X:Cx} {pins:List (Addr × Obj)} {σ:St} {H:Hp} {s:Shared}
theorem gE {M:Model} {A:Around} {E:Value->Shared->Prop} {i:Nat} {x:Str} {pos:Pos} {Q:Unit->Shared->Prop} (I:Inv X pins σ H s) (hN:X.N.Nodup) (hi:X.N[i]?=some x) (hk:X.env.scope.names.lookup x=some .local)
  (h:∀ s',Inv X pins (σ.set i none) H s'->Q () s'):wpAny M A (do bindName X.env x Value.none;unbindBehindTheSuite X.env x pos) Q E s:=by
 refine wpAny_bind (wpAny_bindName (fP I hN hi (.inl hk) (v:=.non) (u:=Value.none) rfl (fun s1 I1=>?_) (.inr hk)))
 refine wpAny_onRaise ?_
 obtain ⟨m,hm,hl⟩:=I1.loc
 have hiσ:i < σ.length:=by rw [I.len];exact (List.getElem?_eq_some_iff.mp hi).1
 obtain ⟨u,ru,l⟩:=hl i x .non hi (by rw [List.getElem?_set_self hiσ]) (.inl hk)
 have yb:(X.env.scope.kind == .class || (X.env.scope.kind == .module && X.env.locals != X.env.globals))=false:=by rw [I.ok.kind];rfl
 rcases l with ⟨k,em⟩ | ⟨k,_⟩
 ·refine wpAny_unbindName_local hk hm em yb fun h' v ns sb=>?_
  have J:=I1.unbound hi hN hm ns sb
  rw [List.set_set] at J
  exact h _ J
 ·exfalso
  have hk' : X.env.kindOf x=some .local:=hk
  rcases k with k | k
  ·rw [hk'] at k;cases k
  ·rw [hk'] at k;cases k
end
def D1 (i:Nat) (B:Addr) (K:PySem.W.Frag) (G:Addr->Prop) (tb:TSX) (ts:Addr->Addr->TS):TS:=fun D σ H=>tb D σ H fun C H1=>PySem.W.exmOne K (.ref C) (.ref B)=some true/\G C /\
 ∀ e,ts C e { nx:=fun σ' H'=>D.nx (σ'.set i none) H',rt:=D.rt,bk:=fun σ' H'=>D.bk (σ'.set i none) H',ct:=fun σ' H'=>D.ct (σ'.set i none) H' } (σ.set i (some (.ref e))) H1
section
variable {X:Cx} {st b₀:Stmt} {su:List Stmt} {tb:TSX} {ts:Addr->Addr->TS} {Tn n:Str} {B:Addr} {i:Nat} {np D3 pos:Pos}
theorem yC {G:Addr->Prop} (hb:PSX X st tb) (hx:X.ex=[]) (hst:X.stack=X.env :: X.outer) (hfr:X.env.frame=some X.env.locals) (hg:Gl X Tn) (hm:X.mg Tn=some (.ref B)) (hN:X.N.Nodup) (hi:X.N[i]?=some n) (hk:X.env.scope.names.lookup n=some .local)
  (hs:∀ (C e:Addr) (oe:Obj),G C->oe.cls=.ref C->PSs (sfx X e oe) (b₀ :: su) (ts C e)) (hdb:(Tn == ("__debug__" : Str))=false:=by decide) :
  PS X (.Try [st] [.ExceptHandler (some (.Name Tn np)) (some n) (b₀ :: su) D3] [] [] pos) (D1 i B X.K G tb ts):=by
 intro pins s σ H D I h
 refine wpAny_Try_except ?_
 refine wpAny_execs_cons (wpAny_mono (hb pins s σ H D _ I h) (fun f s1 q=>?_) fun ev s1 q=>?_)
 ·cases f with
  | next=>exact wpAny_execs_nil (wpAny_execs_nil q)
  | ret v=>exact q
  | brk=>exact q
  | cont=>exact q
 obtain ⟨e,T,C,a0,H1,rfl,I1,x,ne,nT,hex,hG,q⟩:=q
 have fr1:X.A.frames=some (X.env :: X.outer):=by rw [← hst];exact I1.ok.frames
 have ff1:s1.heap.FunFrames X.base (X.env :: X.outer):=by rw [← hst];exact I1.stack
 refine land fr1 ff1 hfr x fun h2 T2 st2 x2 hT2=>?_
 rw [← hst] at st2
 have I2:=I1.excStep hx st2 ne nT
 have nT2:eF X pins H1 T2:=by
  rcases hT2 with z | z
  ·exact I1.newAt hx z
  ·rw [z];exact nT
 have xv:∀ {b:Addr} {o:Obj} {vs:Array Value} {hh:Heap},hh.FunFrames X.base X.stack->hh.get? b=some o->o.data=.fields vs->b ∉ X.fs:=fun {b o vs hh} ff g d z=>by
  have z' : b ∈ frs X.stack:=by rw [hst];unfold frs;rw [List.filterMap_cons,hfr];exact List.mem_cons_of_mem _ z
  obtain ⟨_,o2,g2,nf⟩:=ff.mem z'
  rw [g] at g2;cases g2
  exact nf vs d
 have I2':=I2
 obtain ⟨oe,vs,oT,ts2,y1,⟨y2,y2'⟩,y3,y4,y5,y6,y7,y8⟩:=id x2
 have S2:Inv (sfx X e oe) pins σ H1 { s1 with heap:=h2 }:=I2.suite y1 ne (fun v z=>by rw [y3] at z;cases z) (xv I2.stack y1 y3)
 refine wpAny_handleBy_cons ?_ (by intro z;cases z)
 refine codeAny_handlers_test (dF (X:=sfx X e oe) S2 hg hm ?_ hdb)
 refine PySem.W.exm_one (h:=h2) S2.kIn (fun A' Q' E' s' k r=>by
  have z:=wpAny_typeOf_ref (M:=model X.prog X.w) (A:=A') (E:=E') (Q:=Q') (k _ _ y1)
  rw [y2] at z
  exact z r) hex _ _ _ _ (fun b o g=>g) ?_
 rw [if_pos rfl]
 refine codeAny_handlers_suite_as ?_
 refine yy (s:={ s1 with heap:=h2 }) (l:=X.stack) I2.stack x2 fun h3 T3 st3 x3 hT3=>?_
 have I3:=I2.excStep hx st3 ne nT2
 obtain ⟨oe3,vs3,oT3,ts3,z1,⟨z2,z2'⟩,z3,z4,z5,z6,z7,z8⟩:=id x3
 have S3:Inv (sfx X e oe3) pins σ H1 { s1 with heap:=h3 }:=I3.suite z1 ne (fun v z=>by rw [z3] at z;cases z) (xv I3.stack z1 z3)
 refine fP (X:=sfx X e oe3) S3 hN hi (.inl hk) (v:=.ref e) (u:=.ref e) rfl (fun s4 S4=>?_) (.inr hk)
 refine wpAny_mono (hs C e oe3 hG z2 pins s4 _ H1 _ S4 (q e)) (fun fl s5 q5=>?_) fun _ _ z=>False.elim z
 cases fl with
 | next =>
  obtain ⟨σ5,H5,S5,q5⟩:=q5
  exact gE (S5.unsuite I.ok) hN hi hk fun s6 I6=>⟨_,H5,I6,q5⟩
 | brk =>
  obtain ⟨σ5,H5,S5,q5⟩:=q5
  exact gE (S5.unsuite I.ok) hN hi hk fun s6 I6=>⟨_,H5,I6,q5⟩
 | cont =>
  obtain ⟨σ5,H5,S5,q5⟩:=q5
  exact gE (S5.unsuite I.ok) hN hi hk fun s6 I6=>⟨_,H5,I6,q5⟩
 | ret u =>
  obtain ⟨v,σ5,H5,S5,r5,q5⟩:=q5
  exact gE (S5.unsuite I.ok) hN hi hk fun s6 I6=>⟨v,_,H5,I6,r5,q5⟩
end
end L2
namespace L2
open PySem PySem.Spec PyProof.Rows
structure dH (K:PySem.W.Frag) (C:Addr):Prop where
 ga:PySem.W.findIn K (.ref C) "__getattribute__" = some (some (.builtin "BaseException.__getattribute__"))
 hk:PySem.W.findIn K (.ref C) "__getattr__" = some none
 cl:PySem.W.findIn K (.ref C) "__class__" = some (some (.builtin "object.__class__"))
 gt:PySem.W.specialIn K (.builtin "object.__class__") "__get__" = some (some (.builtin "getset_descriptor.__get__"))
 tk:PySem.W.takesIn K (.builtin "object.__class__")=some true
 ob:PySem.W.mroIn K C (.type "object")=some true
 be:PySem.W.mroIn K C (.type "BaseException")=some true
 me:PySem.W.kitCls K (.ref C) (.ref C)=some true
section
variable {prog:Program} {w:World} {A:Around} {E:Value->Shared->Prop} {s:Shared} {K:PySem.W.Frag} {e C:Addr} {oe:Obj}
theorem fD {hh:Heap} (g:hh.get? e=some oe) (c:oe.cls=.ref C) {M:Model} : PySem.W.Looks M hh (typeOf (.ref e)) (.ref C):=fun A' Q' E' s' k r=>by
 have z:=wpAny_typeOf_ref (M:=M) (A:=A') (E:=E') (Q:=Q') (k _ _ g)
 rw [c] at z
 exact z r
theorem nX {R:Result->Shared->Prop} {tp:Value} (KI:K.In s.heap) (g:s.heap.get? e=some oe) (c:oe.cls=.ref C) (hm:PySem.W.mroIn K C (.type "object")=some true) (h:R (.ok (.ret (.ref C))) s) :
  codeAny (model prog w) A (.call (.builtin "getset_descriptor.__get__") ⟨[.builtin "object.__class__",.ref e,tp],[]⟩) R s:=by
 have L0:∀ {M:Model},PySem.W.Looks M s.heap (typeOf (.ref e)) (.ref C):=fD g c
 have L1:∀ {M:Model},PySem.W.Looks M s.heap (isSubtype (.ref C) (.type "object")) true:=PySem.W.looks_mroIn KI hm
 refine codeAny_call_builtin PySem.W.KF.slot_gs.plain PySem.W.KF.entry_gs (PySem.W.KF.slot_gs.check _ _ _ _ _ _ _ _ PySem.W.KF.type_class (PySem.W.KF.args_gs _ _ tp) ?_)
 show wpAny _ _ (do let __x ← Builtin.Getset_descriptor.descrGetArgs ⟨[.builtin "object.__class__",.ref e,tp],[]⟩;match __x with | (d,obj,snd)=>Builtin.Getset_descriptor.descrGetter d obj) _ _ s
 rw [PySem.W.dga_obj]
 refine wpAny_bind (wpAny_pure ?_)
 show wpAny _ _ (do Builtin.Getset_descriptor.descrCheckInstance (.builtin "object.__class__") (.ref e);again (Code.builtin "object.__class__" ⟨[.ref e],[]⟩)) _ _ s
 have dn:Builtin.Getset_descriptor.descrNameAndClass (.builtin "object.__class__")=pure (Str.ofString "__class__",Value.type "object"):=by
  show pure (Str.ofString (Builtin.Getset_descriptor.descrOwnerAndName "object.__class__").2,Value.type (Builtin.Getset_descriptor.descrOwnerAndName "object.__class__").1)=_
  rw [PySem.W.KF.owner_class]
 unfold Builtin.Getset_descriptor.descrCheckInstance
 rw [dn]
 refine wpAny_bind (wpAny_bind (wpAny_pure ?_))
 refine wpAny_bind (wpAny_bind (L0 _ _ _ _ (fun _ _ q=>q) (L1 _ _ _ _ (fun _ _ q=>q) ?_)))
 refine wpAny_ite_false rfl (wpAny_pure ?_)
 refine wpAny_pure ⟨Code.quiet_builtin _ (by decide +kernel),codeAny_builtin PySem.W.KF.entry_class ?_⟩
 refine wpAny_bind (wpAny_bind (L0 _ _ _ _ (fun _ _ q=>q) ?_))
 refine wpAny_ite_false rfl (wpAny_pure (wpAny_pure h))
theorem tN {M:Model} {xw:Value} {Q:Unit->Shared->Prop} (KI:K.In s.heap) (g:s.heap.get? e=some oe) (c:oe.cls=.ref C) (hm:PySem.W.mroIn K C (.type "BaseException")=some true) (h:Q () s) :
  wpAny M A (checkBuiltinCall "BaseException.__getattribute__" ⟨[.ref e,xw],[]⟩) Q E s:=by
 have hk:builtinKind "BaseException.__getattribute__" = some .slot:=by decide +kernel
 have hsp:splitId "BaseException.__getattribute__" = some ("BaseException", "__getattribute__"):=by decide +kernel
 have ha:=PySem.F.args_bexc_ga (.ref e) xw
 unfold checkBuiltinCall
 rw [hk,hsp]
 refine wpAny_bind (wpAny_bind (fD g c _ _ _ _ (fun _ _ q=>q) (PySem.W.looks_mroIn KI hm _ _ _ _ (fun _ _ q=>q) ?_)))
 refine wpAny_ite_false rfl ?_
 unfold argsOk at ha
 generalize Manifest.signature? "BaseException.__getattribute__" = sg at ha ⊢
 cases sg with
 | none=>exact wpAny_pure h
 | some sig=>exact wpAny_of_eq ha h
theorem tO {Q:Option Value->Shared->Prop} (KI:K.In s.heap) (X:dH K C) (g:s.heap.get? e=some oe) (c:oe.cls=.ref C) (h:Q (some (.ref C)) { s with toks:=s.toks+1 }):wpAny (model prog w) A (getAttr? (.ref e) "__class__") Q E s:=by
 have L0:∀ {M:Model},PySem.W.Looks M s.heap (typeOf (.ref e)) (.ref C):=fD g c
 refine wpAny_bind (wpAny_mkText (wpAny_bind (wpAny_attempt (wpAny_holding (wpAny_bind (L0 _ _ _ _ (fun _ _ q=>q) (wpAny_bind (PySem.W.looks_findIn KI X.ga _ _ _ _ (fun _ _ q=>q) ?_))))))))
 refine wpAny_ite_false rfl ?_
 refine wpAny_bind ?_
 show wpAny _ _ (if onTheHeap (.ref C)=true then typeLookup (.ref C) "__getattr__" else pure none) _ _ _
 refine wpAny_ite_true rfl (PySem.W.looks_findIn KI X.hk _ _ _ _ (fun _ _ q=>q) ?_)
 refine wpAny_bind (wpAny_attempt (wpAny_holding ?_))
 show wpAny _ _ (if (false && onTheHeap (.builtin "BaseException.__getattribute__"))=true then _ else boundAndCalled (.builtin "BaseException.__getattribute__") (.ref e) (Value.str (Str.ofString "__class__") s.toks)) _ _ _
 refine wpAny_ite_false rfl (wpAny_bind (wpAny_of_eq (PySem.F.attr_ValueError.ga.bind (.ref e)) (wpAny_call ?_)))
 refine codeAny_call_builtin PySem.F.attr_ValueError.ga.plain PySem.F.entry_bexc_ga (tN (s:={ s with toks:=s.toks+1 }) KI g c X.be ?_)
 refine wpAny_bind (wpAny_of_eq (show slotArgs "__getattribute__" 1 ⟨[.ref e,Value.str (Str.ofString "__class__") s.toks],[]⟩=pure (Value.ref e,[Value.str (Str.ofString "__class__") s.toks]) from rfl) ?_)
 refine wpAny_bind (wpAny_of_eq (show Builtin.ObjectAttr.attrName (Value.str (Str.ofString "__class__") s.toks)=pure (Str.ofString "__class__") from rfl) ?_)
 refine wpAny_bind (L0 _ _ _ _ (fun _ _ q=>q) ?_)
 refine wpAny_bind ?_
 unfold Builtin.ObjectAttr.find
 refine wpAny_bind (PySem.W.looks_findIn KI X.cl _ _ _ _ (fun _ _ q=>q) ?_)
 refine wpAny_bind (PySem.W.looks_specialIn KI X.gt _ _ _ _ (fun _ _ q=>q) ?_)
 refine wpAny_bind (wpAny_bind (PySem.W.looks_takesIn KI X.tk _ _ _ _ (fun _ _ q=>q) (wpAny_ite_true rfl (wpAny_pure ?_))))
 refine wpAny_bind (wpAny_rule (wpAny_pure ?_))
 refine wpAny_bind (wpAny_holding (wpAny_call (nX (s:={ s with toks:=s.toks+1 }) KI g c X.ob ?_)))
 exact wpAny_pure (PySem.W.handed_on rfl (wpAny_pure h))
theorem mK (X:dH K C) (c:oe.cls=.ref C):PySem.W.KitX K (.ref e) (.ref C) fun h=>h.get? e=some oe where
 ty:=fun M h KI g=>fD g c
 it:=fun M h KI g=>(PySem.W.kit_cls KI X.me).2.1
 ne:=fun h tp dd its n sl KI g=>by
  refine Bool.eq_false_iff.mpr fun z=>?_
  have z':=Value.ref.inj (beq_iff_eq.mp z)
  subst z'
  have m:=X.be
  unfold PySem.W.mroIn PySem.W.clsIn at m
  cases q:List.lookup C K with
  | none=>rw [q] at m;cases m
  | some o =>
   have k:=KI C o q
   rw [g] at k
   have k':=Option.some.inj k
   rw [q,← k'] at m
   cases m
 ca:=fun {prog w A E Q s} KI g h=>tO KI X g c h
end
section
variable {X:Cx} {e C:Addr} {oe:Obj}
theorem oH:∀ {cs:List Addr} {us:List Value},Vals (cs.map V.ref) us->us=cs.map Value.ref
 | [],_,.nil=>rfl
 | c :: cs,_,.cons r t=>by rw [oH t];exact congrArg (· :: cs.map Value.ref) r
theorem eY (c:oe.cls=.ref C) (L:dH X.K C):de (sfx X e oe) (.builtin "isinstance") (fun xs H Q=>∃ y b,xs=[.ref e,y]/\((∃ B,y=.ref B/\PySem.W.kitOne X.K (.ref C) (.ref B)=some b)\/(∃ T,y=.ty T/\PySem.W.kitOne X.K (.ref C) (.type T)=some b) \/
  (∃ (tp:Addr) (cs:List Addr),y=.ref tp/\H tp=some (.tup (cs.map V.ref))/\PySem.W.kitAny X.K (.ref C) (cs.map Value.ref)=some b))/\Q (.bl b) H):=by
 intro pins s σ H xs us Q I r h
 obtain ⟨y,b,rfl,hy,q⟩:=h
 have g:=I.excObj
 have KI:X.K.In s.heap:=I.kIn
 cases r with
 | cons rx r2 =>
  cases r2 with
  | cons ry r3 =>
   cases r3
   cases (show _=Value.ref e from rx)
   have fin:∀ tk,EP (sfx X e oe) pins σ Q (Value.bool b) { s with toks:=tk }:=fun tk=>⟨.bl b,H,I.tok tk,rfl,q⟩
   rcases hy with ⟨B,rfl,k⟩ | ⟨T,rfl,k⟩ | ⟨tp,cs,rfl,ht,k⟩
   ·cases (show _=Value.ref B from ry)
    exact PySem.W.kia_one (mK L c) KI g k (fun z=>nomatch z) fin
   ·cases (show _=Value.type T from ry)
    exact PySem.W.kia_one (mK L c) KI g k (fun z=>nomatch z) fin
   ·cases (show _=Value.ref tp from ry)
    obtain ⟨_,its,rv,⟨cl,dd,dt,sl⟩,g2,g3,n,g4⟩:=I.hok tp _ ht
    have ei:=oH rv
    subst ei
    dsimp only at g3 g4
    subst g3 g4
    exact PySem.W.kia_tup (mK L c) KI g g2 k (fun z=>nomatch z) fin
end
end L2
namespace L2
open PySem PySem.Spec PyProof.Rows
section
variable {X:Cx}
def tFr (c:Str) (ta:TE):TE:=fun σ H Q=>ta σ H fun x H1=>∃ z:Str,x=.str z/\z.length<=1000/\(∀ n ∈ z.cps.toList,n < 16 ^ 8)/\c.length<=1000/\∀ z2:Str,Q (.str z2) H1
theorem len_app (x y:Str):(x ++ y).length=x.length+y.length:=by
 show (Str.append x y).cps.size=x.cps.size+y.cps.size
 unfold Str.append
 simp
theorem xx {a:Expr} {ta:TE} {c:Str} {k:Nat} {p1 p2 pos:Pos} (ha:PE X a ta):PE X (.JoinedStr [.FormattedValue a 114 none p1,.Constant (.str c) k p2] pos) (tFr c ta):=by
 intro pins s σ H Q I h
 refine wpAny_JoinedStr (Joins_cons (wpAny_FormattedValue_repr (thn (ha pins s σ H _ I h) fun v s1 ⟨x,H1,I1,r1,z,ez,hz,hc,hl,q⟩=>?_)))
 subst ez
 obtain ⟨t,rfl⟩:=r1
 have hr:=StrLaws.reprText_len z hc
 have hb:∀ n,n<=20000->n<=sizeLine:=fun n hn=>Nat.le_trans hn (by decide)
 refine pyReprObj_str (formatField_str (fun t' tk=>?_) (hb _ (by omega))) (hb _ (by omega))
 have e0:∀ y:Str,(Str.empty ++ y).length=y.length:=fun y=>by rw [len_app];show 0+_=_;omega
 refine ⟨_,_,rfl,hb _ (by rw [e0];omega),Joins_cons ?_⟩
 have J:Inv X pins σ H1 { s1 with toks:=tk }:=I1.tok tk
 refine thn (aI (X:=X) (x:=c) (j:=k) (pos:=p2) pins { s1 with toks:=tk } σ H1 (fun v H'=>v=.str c/\H'=H1) J ⟨rfl,rfl⟩) fun v s2 ⟨y,H2,I2,r2,e1,e2⟩=>?_
 subst e1 e2
 obtain ⟨t2,rfl⟩:=r2
 refine ⟨_,_,rfl,hb _ (by rw [len_app,e0];omega),Joins_nil ⟨hb _ (by rw [len_app,e0];omega),?_⟩⟩
 exact ⟨.str _,H2,I2.tok _,⟨_,rfl⟩,q _⟩
def Qd:V->List V->Hp->VK->Prop:=fun x vs H Q=>∃ z y:Str,x=.str z/\vs=[.str y]/\Q (.int (Txt.find z y)) H
theorem mL:OpR X (binaryOp .Mult) (fun x y H Q=>∃ z n,x=.str z/\y=.int n/\MulOk z n/\Q (.str (Txt.mul z n)) H):=by
 intro pins s σ H x y v u Q I rx ry h
 obtain ⟨z,n,rfl,rfl,hk,q⟩:=h
 obtain ⟨t,rfl⟩:=rx
 obtain ⟨t',rfl⟩:=ry
 exact PySem.SB.mul hk fun t' k=>⟨.str _,H,I.tok _,⟨_,rfl⟩,q⟩
end
end L2
namespace L2
open PySem PySem.Spec PyProof.Rows
theorem ig {P:Program} {w:World} {X:Cx} : Passes (CX1 P w) X E0:=fun _ _ _ _ _ _ _ h=>by
 obtain ⟨_,_,_,_,_,_,_,_,_,_,_,_,_,_,_,q⟩:=h
 exact q.elim
def aV (CX:CXT) (P:Program) (w:World) (K:PySem.W.Frag) (mg:Str->Option Value) (base:Heap) (k:Nat) (C:Addr) (m:Str) (ps:List Str) (sp:Sp):Prop :=
 ∃ f fd,Meth K C m f/\aR P w K mg base CX k f fd ps sp/\Binds K fd ps []
def aP (CX:CXT) (P:Program) (w:World) (K:PySem.W.Frag) (mg:Str->Option Value) (base:Heap) (k:Nat) (x:Str) (C:Addr) (ps:List Str) (sp:Sp):Prop :=
 ∃ f fd,Mk K C f/\aR P w K mg base CX k f fd ps sp/\Binds K fd ps []/\mg x=some (.ref C)
structure AZ (K:PySem.W.Frag) (B:Addr) (m:Str) (f:Addr):Prop where
 sp:PySem.W.specialIn K (.ref B) "__getattribute__" = some (some (.builtin "type.__getattribute__"))
 rd:PySem.W.readsIn K B (.type "type")=true
 at_:PySem.W.findCls K (.ref B) (.type "type") m=some (.val (.ref f))
 kp:PySem.W.keepIn K (.ref f)=true
def bA (CX:CXT) (P:Program) (w:World) (K:PySem.W.Frag) (mg:Str->Option Value) (base:Heap) (k:Nat) (x:Str) (m:Str) (ps:List Str) (sp:Sp):Prop :=
 ∃ f fd B,AZ K B m f/\aR P w K mg base CX k f fd ps sp/\Binds K fd ps []/\mg x=some (.ref B)
section
variable {CX:CXT} {P:Program} {w:World} {K:PySem.W.Frag} {mg:Str->Option Value} {base:Heap} {j k:Nat} {C:Addr} {x m:Str} {ps:List Str} {sp:Sp}
theorem aV.mono (c:aV CX P w K mg base j C m ps sp) (h:j<=k):aV CX P w K mg base k C m ps sp :=
 let ⟨f,fd,M,F,b⟩:=c
 ⟨f,fd,M,F.mono h,b⟩
theorem aP.mono (c:aP CX P w K mg base j x C ps sp) (h:j<=k):aP CX P w K mg base k x C ps sp :=
 let ⟨f,fd,M,F,b⟩:=c
 ⟨f,fd,M,F.mono h,b⟩
theorem bA.mono (c:bA CX P w K mg base j x m ps sp) (h:j<=k):bA CX P w K mg base k x m ps sp :=
 let ⟨f,fd,B,M,F,b⟩:=c
 ⟨f,fd,B,M,F.mono h,b⟩
end
def tMt (C:Addr) (m:Str) (sp:Sp) (ta:TE) (t:TA):TE:=fun σ H Q=>ta σ H fun x H1=>∃ a dx fs,x=.ref a/\H1 a=some (.ins C dx fs)/\fs.lookup m=none/\t σ H1 fun vs H2=>sp (x :: vs) H2 Q E0
def tMk (C:Addr) (sp:Sp) (t:TA):TE:=fun σ H Q=>t σ H fun vs H1=>∀ x dx,H1 x=none->H1 dx=none->dx ≠ x ->
 sp (.ref x :: vs) (upd (upd H1 dx (.own x)) x (.ins C dx [])) (fun v H2=>v=.non/\Q (.ref x) H2) E0
def QM (C:Addr) (m:Str) (sp:Sp) (ta:TE) (t:TA):TX:=fun σ H Q EX=>ta σ H fun x H1=>∃ a dx fs,x=.ref a/\H1 a=some (.ins C dx fs)/\fs.lookup m=none/\t σ H1 fun vs H2=>sp (x :: vs) H2 Q fun cv _ H3=>∃ C',cv=.ref C'/\EX C' H3
def QN (C:Addr) (sp:Sp) (t:TA):TX:=fun σ H Q EX=>t σ H fun vs H1=>∀ x dx,H1 x=none->H1 dx=none->dx ≠ x ->
 sp (.ref x :: vs) (upd (upd H1 dx (.own x)) x (.ins C dx [])) (fun v H2=>v=.non/\Q (.ref x) H2) fun cv _ H3=>∃ C',cv=.ref C'/\EX C' H3
section
variable {X:Cx} {CX:CXT} {k:Nat} {f C:Addr} {fd:FuncData} {ps:List Str} {sp:Sp} {x m:Str} {p np pos apos:Pos} {e o:Expr} {es:List Expr} {ta:TE} {t:TA}
theorem wF {pins:List (Addr × Obj)} {σ:St} {H:Hp} {s:Shared} {Q:VK} {us:List Value} {vs:List V} {E:XK} (F:aR X.prog X.w X.K X.mg X.base CX k f fd ps sp) (hr:bZ k X.A) (hb:Binds X.K fd ps []) (hx:Passes CX X E)
  (I:Inv X pins σ H s) (r:Vals vs us) (h:sp vs H Q E):wpAny (model X.prog X.w) X.A (call (.ref f) us) (EP X pins σ Q) X.xe s :=
 uD (dvs:=[]) (ds:=[]) F hr hb .nil hx I r (by rw [List.append_nil];exact h)
theorem oI {pl:Sem Bool} (M:aV CX X.prog X.w X.K X.mg X.base k C m ps sp) (hx:Passes CX X E0) (c:Cls X.K C) (hr:bZ k X.A) (he:PE X o ta) (ha:PA X (e :: es) t)
  (hst:starEach (e :: es) X.env=(false,eval e X.env) :: starEach es X.env:=by rfl) (hpl:(backTo pos (starEach es X.env)).any (·.1)=false:=by rfl)
  (ht:eval (.Call (.Attribute o m apos) (e :: es) [] pos) X.env=(do
   let ov ← eval o X.env
   standAt apos.atName
   let (f,first) ← holding [ov] (getMethod ov m pl)
   callWith pos f first (backTo pos (starEach (e :: es) X.env)) (backToKw pos (keywordEach [] X.env))):=by rfl) :
  PE X (.Call (.Attribute o m apos) (e :: es) [] pos) (tMt C m sp ta t):=by
 obtain ⟨f,fd,hm,F,hb⟩:=M
 intro pins s σ H Q I h
 refine PySem.W.methodCall_KW (pl:=pl) (thn (he pins s σ H _ I h) fun u s1 ⟨x,H1,I1,rx,a,dx,fs,ex,ea,l,q⟩=>?_) ht
 subst ex
 obtain rfl:u=Value.ref a:=rx
 refine mC I1 ea c hm l ?_
 refine PySem.W.callWith_K (first:=[.ref a]) (h₀:=X.base) I.ok.mod.kin hm.kp (thn (ha pos pins s1 σ H1 _ I1 q) fun us s2 ⟨vs,H2,I2,r,q2⟩=>⟨I2.kIn,?_⟩) hst hpl
 exact wF (us:=.ref a :: us) (vs:=.ref a :: vs) F hr hb hx I2 (.cons rfl r) q2
theorem eG {pl:Sem Bool} (M:bA CX X.prog X.w X.K X.mg X.base k x m ps sp) (hx:Passes CX X E0) (hr:bZ k X.A) (hg:Gl X x) (ha:PA X (e :: es) t) (hdb:(x == ("__debug__" : Str))=false:=by decide)
  (hst:starEach (e :: es) X.env=(false,eval e X.env) :: starEach es X.env:=by rfl) (hpl:(backTo pos (starEach es X.env)).any (·.1)=false:=by rfl)
  (ht:eval (.Call (.Attribute (.Name x np) m apos) (e :: es) [] pos) X.env=(do
   let ov ← eval (.Name x np) X.env
   standAt apos.atName
   let (f,first) ← holding [ov] (getMethod ov m pl)
   callWith pos f first (backTo pos (starEach (e :: es) X.env)) (backToKw pos (keywordEach [] X.env))):=by rfl) :
  PE X (.Call (.Attribute (.Name x np) m apos) (e :: es) [] pos) (tFn sp t):=by
 obtain ⟨f,fd,B,hB,F,hb,hm⟩:=M
 intro pins s σ H Q I h
 refine PySem.W.methodCall_KW (pl:=pl) (dF I hg hm ?_ hdb) ht
 refine PySem.W.method_cls I.kIn hB.sp (PySem.W.cls_value (mc:=.type "type") I.kIn hB.rd hB.at_ (ot (v:=.ref f) rfl) ?_)
 refine PySem.W.callWith_K (first:=[]) (h₀:=X.base) I.ok.mod.kin hB.kp (thn (ha pos pins _ σ H _ (I.tok _) h) fun us s2 ⟨vs,H2,I2,r,q2⟩=>⟨I2.kIn,?_⟩) hst hpl
 exact wF (us:=us) (vs:=vs) F hr hb hx I2 r q2
theorem dU (M:aP CX X.prog X.w X.K X.mg X.base k x C ps sp) (hx:Passes CX X E0) (hr:bZ (k+1) X.A) (hg:Gl X x) (ha:PA X (e :: es) t) (hdb:(x == ("__debug__" : Str))=false:=by decide)
  (he:starEach (e :: es) X.env=(false,eval e X.env) :: starEach es X.env:=by rfl) (hpl:(backTo pos (starEach es X.env)).any (·.1)=false:=by rfl) :
  PE X (.Call (.Name x p) (e :: es) [] pos) (tMk C sp t):=by
 obtain ⟨f,fd,M,F,hb,hm⟩:=M
 have h:=sM (E:=E0) (dvs:=[]) (ds:=[]) (p:=p) M F hr hg hm hb .nil hx ha hdb he hpl
 intro pins s σ H Q I q
 refine h pins s σ H Q I ?_
 have q' : t σ H fun vs H1=>∀ x dx,H1 x=none->H1 dx=none->dx ≠ x->sp (.ref x :: vs) (upd (upd H1 dx (.own x)) x (.ins C dx [])) (fun v H2=>v=.non/\Q (.ref x) H2) E0:=q
 show t σ H fun vs H1=>∀ x dx,H1 x=none->H1 dx=none->dx ≠ x->sp (.ref x :: (vs ++ [])) (upd (upd H1 dx (.own x)) x (.ins C dx [])) (fun v H2=>v=.non/\Q (.ref x) H2) E0
 have e1:(fun (vs:List V) (H1:Hp)=>∀ x dx,H1 x=none->H1 dx=none->dx ≠ x->sp (.ref x :: (vs ++ [])) (upd (upd H1 dx (.own x)) x (.ins C dx [])) (fun v H2=>v=.non/\Q (.ref x) H2) E0)=fun vs H1=>∀ x dx,H1 x=none->H1 dx=none->dx ≠ x->sp (.ref x :: vs) (upd (upd H1 dx (.own x)) x (.ins C dx [])) (fun v H2=>v=.non/\Q (.ref x) H2) E0:=by
  funext vs H1
  rw [List.append_nil]
 rw [e1]
 exact q'
end
inductive Shw:V->Prop where
 | non:Shw .non
 | bl (b:Bool):Shw (.bl b)
 | int {i:Int} (h:i.natAbs < 10 ^ 60):Shw (.int i)
 | str {z:Str} (h:z.length<=1000) (k:∀ n ∈ z.cps.toList,n < 16 ^ 8):Shw (.str z)
theorem yD {n:Int} (h:n.natAbs < 10 ^ 60):n.natAbs.log2 < 1920:=by
 by_cases z:n.natAbs=0
 ·rw [z];decide
 ·have:=(Nat.log2_lt (k:=200) z).mpr (Nat.lt_trans h (by decide))
  omega
section
variable {X:Cx}
def D4 (c:Str) (ta:TE):TE:=fun σ H Q=>ta σ H fun x H1=>Shw x/\c.length<=1000/\∀ z2:Str,Q (.str z2) H1
theorem yE {a:Expr} {ta:TE} {c:Str} {k:Nat} {p1 p2 pos:Pos} (ha:PE X a ta):PE X (.JoinedStr [.FormattedValue a 114 none p1,.Constant (.str c) k p2] pos) (D4 c ta):=by
 intro pins s σ H Q I h
 have hb:∀ n,n<=20000->n<=sizeLine:=fun n hn=>Nat.le_trans hn (by decide)
 refine wpAny_JoinedStr (Joins_cons (wpAny_FormattedValue_repr (thn (ha pins s σ H _ I h) fun v s1 ⟨x,H1,I1,r1,sh,hl,q⟩=>?_)))
 have e0:∀ y:Str,(Str.empty ++ y).length=y.length:=fun y=>by rw [len_app];show 0+_=_;omega
 cases sh with
 | non =>
  cases (show v=Value.none from r1)
  refine pyReprObj_none (formatField_str (fun t' tk=>?_) (by decide))
  refine ⟨_,_,rfl,(by decide),Joins_cons ?_⟩
  have J:Inv X pins σ H1 { s1 with toks:=tk }:=I1.tok tk
  refine thn (aI (X:=X) (x:=c) (j:=k) (pos:=p2) pins { s1 with toks:=tk } σ H1 (fun v H'=>v=.str c/\H'=H1) J ⟨rfl,rfl⟩) fun v s2 ⟨y,H2,I2,r2,e1,e2⟩=>?_
  subst e1 e2
  obtain ⟨t2,rfl⟩:=r2
  have e5:(Str.empty ++ Str.ofString "None").length=4:=by decide
  refine ⟨_,_,rfl,hb _ (by rw [len_app,e5];omega),Joins_nil ⟨hb _ (by rw [len_app,e5];omega),?_⟩⟩
  exact ⟨.str _,H2,I2.tok _,⟨_,rfl⟩,q _⟩
 | bl b =>
  cases (show v=Value.bool b from r1)
  have hy:(if b then (Str.ofString "True") else Str.ofString "False").length<=5:=by cases b <;> decide
  refine pyReprObj_bool (formatField_str (fun t' tk=>?_) (hb _ (by omega)))
  refine ⟨_,_,rfl,hb _ (by rw [e0];omega),Joins_cons ?_⟩
  have J:Inv X pins σ H1 { s1 with toks:=tk }:=I1.tok tk
  refine thn (aI (X:=X) (x:=c) (j:=k) (pos:=p2) pins { s1 with toks:=tk } σ H1 (fun v H'=>v=.str c/\H'=H1) J ⟨rfl,rfl⟩) fun v s2 ⟨y,H2,I2,r2,e1,e2⟩=>?_
  subst e1 e2
  obtain ⟨t2,rfl⟩:=r2
  refine ⟨_,_,rfl,hb _ (by rw [len_app,e0];omega),Joins_nil ⟨hb _ (by rw [len_app,e0];omega),?_⟩⟩
  exact ⟨.str _,H2,I2.tok _,⟨_,rfl⟩,q _⟩
 | @int i hi =>
  obtain ⟨t,rfl⟩:=(show ∃ t,v=Value.int i t from r1)
  have hy:(Str.ofString (toString i)).length<=61:=by
   have e:(Str.ofString (toString i)).length=(toString i).length:=by
    rw [Str.ofString_eq_toList]
    show (List.map Char.toNat (toString i).toList).toArray.size=_
    rw [List.size_toArray,List.length_map]
    exact String.length_toList
   rw [e]
   exact int_text_length_le10 (by decide) hi
  refine pyReprObj_int (yD hi) (formatField_str (fun t' tk=>?_) (hb _ (by omega)))
  refine ⟨_,_,rfl,hb _ (by rw [e0];omega),Joins_cons ?_⟩
  have J:Inv X pins σ H1 { s1 with toks:=tk }:=I1.tok tk
  refine thn (aI (X:=X) (x:=c) (j:=k) (pos:=p2) pins { s1 with toks:=tk } σ H1 (fun v H'=>v=.str c/\H'=H1) J ⟨rfl,rfl⟩) fun v s2 ⟨y,H2,I2,r2,e1,e2⟩=>?_
  subst e1 e2
  obtain ⟨t2,rfl⟩:=r2
  refine ⟨_,_,rfl,hb _ (by rw [len_app,e0];omega),Joins_nil ⟨hb _ (by rw [len_app,e0];omega),?_⟩⟩
  exact ⟨.str _,H2,I2.tok _,⟨_,rfl⟩,q _⟩
 | @str z hz hc =>
  obtain ⟨t,rfl⟩:=(show ∃ t,v=Value.str z t from r1)
  have hr:=StrLaws.reprText_len z hc
  refine pyReprObj_str (formatField_str (fun t' tk=>?_) (hb _ (by omega))) (hb _ (by omega))
  refine ⟨_,_,rfl,hb _ (by rw [e0];omega),Joins_cons ?_⟩
  have J:Inv X pins σ H1 { s1 with toks:=tk }:=I1.tok tk
  refine thn (aI (X:=X) (x:=c) (j:=k) (pos:=p2) pins { s1 with toks:=tk } σ H1 (fun v H'=>v=.str c/\H'=H1) J ⟨rfl,rfl⟩) fun v s2 ⟨y,H2,I2,r2,e1,e2⟩=>?_
  subst e1 e2
  obtain ⟨t2,rfl⟩:=r2
  refine ⟨_,_,rfl,hb _ (by rw [len_app,e0];omega),Joins_nil ⟨hb _ (by rw [len_app,e0];omega),?_⟩⟩
  exact ⟨.str _,H2,I2.tok _,⟨_,rfl⟩,q _⟩
end
def A1 (K:PySem.W.Frag) (neg:Bool):R2:=fun x y H Q=>∃ a b xs ys,x=.ref a/\y=.ref b/\SqT K H a xs/\SqT K H b ys /\
 ∃ f:Nat->Bool,(∀ j x y,xs[j]?=some x->ys[j]?=some y->EqI K H x y (f j))/\Q (.bl (if neg then !((List.range (min xs.length ys.length)).all f && xs.length == ys.length) else (List.range (min xs.length ys.length)).all f && xs.length == ys.length)) H
section
variable {X:Cx}
theorem yF {k:Nat} (hr:bZ k X.A):OpR X (compareOp .Eq) (A1 X.K false):=by
 intro pins s σ H x y v u Q I rx ry h
 obtain ⟨a,b,xs,ys,rfl,rfl,ha,hb,f,hf,q⟩:=h
 cases (show v=Value.ref a from rx)
 cases (show u=Value.ref b from ry)
 obtain ⟨its,r,p,_⟩:=I.tuple ha
 obtain ⟨its',r',p',_⟩:=I.tuple hb
 have l1:=r.length
 have l2:=r'.length
 have hu:=hr.units
 refine SeqAt.eq_tupleAt (e:=f) (show s.heap.IsTuple a its.toArray from p) (show s.heap.IsTuple b its'.toArray from p') (by omega) (rH I (by show X.A.units+1+1 < cLine;omega) r r' hf) ⟨.bl _,H,I,rfl,?_⟩
 simp only [List.size_toArray]
 rw [← l1,← l2]
 exact q
theorem tP {K:PySem.W.Frag} {H:Hp} {Q:VK} {a b:Addr} {xs:List V} (ha:SqT K H a xs) (hb:SqT K H b xs) (fl:∀ x ∈ xs,dg x=true) (q:Q (.bl true) H):A1 K false (.ref a) (.ref b) H Q:=by
 refine ⟨a,b,xs,xs,rfl,rfl,ha,hb,fun _=>true,fun j x y e1 e2=>?_,?_⟩
 ·rw [e1] at e2;cases e2
  have z:=fl x (List.mem_of_getElem? e1)
  have:=EqI.flat (K:=K) (H:=H) z z
  rw [mG z] at this
  exact this
 ·have:(List.range (min xs.length xs.length)).all (fun _=>true)=true:=by simp
  show Q (.bl ((List.range (min xs.length xs.length)).all (fun _=>true) && xs.length == xs.length)) H
  rw [this,beq_self_eq_true,Bool.and_true]
  exact q
end
end L2
namespace L2
open PySem PySem.Spec PyProof.Rows
section
variable {X:Cx}
def Qe (K:PySem.W.Frag):R2:=fun x y H Q=>∃ l b xs zs,x=.ref l/\y=.ref b/\SqL K H l xs/\SqL K H b zs/\xs.length+zs.length<=sizeLine/\∀ p,H p=none->Q (.ref p) (upd H p (.lst (xs ++ zs)))
end
end L2
namespace L2
open PySem PySem.Spec PyProof.Rows
end L2
namespace L2
open PySem PySem.Spec PyProof.Rows
theorem sQ {X:Cx} {K:PySem.W.Frag} {e:Expr} {f:Str} {pos:Pos} {ta:TE} (h:X.K=K) (he:PE X e ta) (hb:attributeBase e f X.env (eval e X.env)=eval e X.env):PE X (.Attribute e f pos) (AI K ta f):=h ▸ ar he hb
end L2
namespace L2
open PySem
set_option maxRecDepth 100000
inductive DEq (K:PySem.W.Frag) (H:Hp):Nat->V->V->Bool->Prop where
 | flat {n:Nat} {x y:V} (fx:dg x=true) (fy:dg y=true):DEq K H n x y (eqV x y)
 | same {n:Nat} (a:Addr):DEq K H n (.ref a) (.ref a) true
 | lst {n:Nat} {a b:Addr} {xs ys:List V} {f:Nat->Bool} (ne:a ≠ b) (ha:SqL K H a xs) (hb:SqL K H b ys) (hl:xs.length=ys.length) (h:∀ (j:Nat) (x y:V),xs[j]?=some x->ys[j]?=some y->DEq K H n x y (f j)):DEq K H (n+1) (.ref a) (.ref b) ((List.range xs.length).all f)
 | lst_ne {n:Nat} {a b:Addr} {xs ys:List V} (ne:a ≠ b) (ha:SqL K H a xs) (hb:SqL K H b ys) (hl:xs.length ≠ ys.length):DEq K H (n+1) (.ref a) (.ref b) false
 | tup {n:Nat} {a b:Addr} {xs ys:List V} {f:Nat->Bool} (ne:a ≠ b) (ha:SqT K H a xs) (hb:SqT K H b ys) (h:∀ (j:Nat) (x y:V),xs[j]?=some x->ys[j]?=some y->DEq K H n x y (f j)):DEq K H (n+1) (.ref a) (.ref b) ((List.range (min xs.length ys.length)).all f && xs.length == ys.length)
theorem ki {xs:List V} {its:List Value} (r:Vals xs its) {j:Nat} (h:j < its.toArray.size):∃ x,xs[j]?=some x/\RelV x its.toArray[j]:=by
 have j1:j < its.length:=by simpa using h
 have l1:=r.length
 have x1:xs[j]?=some xs[j]:=List.getElem?_eq_getElem (by omega)
 obtain ⟨u1,q1,r1⟩:=r.get x1
 have eu:its.toArray[j]=u1:=by
  have:=List.getElem?_eq_getElem j1
  rw [this] at q1;simpa using Option.some.inj q1
 exact ⟨xs[j],x1,eu ▸ r1⟩
section
variable {X:Cx} {pins:List (Addr × Obj)} {σ:St} {H:Hp} {s:Shared}
theorem DEq.at {n:Nat} {x y:V} {b:Bool} (e:DEq X.K H n x y b) (I:Inv X pins σ H s):∀ {A:Around} {u v:Value},A.units+n < cLine->RelV x u->RelV y v->SeqAt.EqAt A s u v b:=by
 induction e with
 | flat fx fy=>intro A u v hu rx ry;exact rG rx ry fx fy
 | same a =>
  intro A u v hu rx ry
  cases (show u=Value.ref a from rx)
  cases (show v=Value.ref a from ry)
  exact SeqAt.EqAt.same _
 | @lst n a b xs ys f ne ha hb hl h ih =>
  intro A u v hu rx ry
  cases (show u=Value.ref a from rx)
  cases (show v=Value.ref b from ry)
  obtain ⟨its,r,p,_⟩:=I.list ha
  obtain ⟨its',r',p',_⟩:=I.list hb
  have l1:=r.length
  have l2:=r'.length
  have h0:=SeqAt.RcAt.lists (A:=A) (e:=f) p.isList p'.isList (by simp only [List.size_toArray];omega) (by omega) (fun j h1 h2=>by
   obtain ⟨x,e1,q1⟩:=ki r h1
   obtain ⟨y,e2,q2⟩:=ki r' h2
   exact ih j x y e1 e2 (by show A.units+1+n < cLine;omega) q1 q2)
  rw [show its.toArray.size=xs.length by simp only [List.size_toArray];omega] at h0
  exact SeqAt.EqAt.of_refs ne h0
 | @lst_ne n a b xs ys ne ha hb hl =>
  intro A u v hu rx ry
  cases (show u=Value.ref a from rx)
  cases (show v=Value.ref b from ry)
  obtain ⟨its,r,p,_⟩:=I.list ha
  obtain ⟨its',r',p',_⟩:=I.list hb
  have l1:=r.length
  have l2:=r'.length
  exact SeqAt.EqAt.of_refs ne (SeqAt.RcAt.lists_lengths p.isList p'.isList (by simp only [List.size_toArray,bne_iff_ne,ne_eq];omega) (by omega))
 | @tup n a b xs ys f ne ha hb h ih =>
  intro A u v hu rx ry
  cases (show u=Value.ref a from rx)
  cases (show v=Value.ref b from ry)
  obtain ⟨its,r,p,_⟩:=I.tuple ha
  obtain ⟨its',r',p',_⟩:=I.tuple hb
  have l1:=r.length
  have l2:=r'.length
  have h0:=SeqAt.RcAt.tuples (A:=A) (e:=f) (show s.heap.IsTuple a its.toArray from p) (show s.heap.IsTuple b its'.toArray from p') (by omega) (fun j h1 h2=>by
   obtain ⟨x,e1,q1⟩:=ki r h1
   obtain ⟨y,e2,q2⟩:=ki r' h2
   exact ih j x y e1 e2 (by show A.units+1+n < cLine;omega) q1 q2)
  rw [show its.toArray.size=xs.length by simp only [List.size_toArray];omega,show its'.toArray.size=ys.length by simp only [List.size_toArray];omega] at h0
  exact SeqAt.EqAt.of_refs ne h0
end
def xy (K:PySem.W.Frag) (neg:Bool):R2:=fun x y H Q=>∃ a b xs ys,x=.ref a/\y=.ref b/\SqL K H a xs/\SqL K H b ys /\
 ((xs.length ≠ ys.length/\Q (.bl neg) H)\/(xs.length=ys.length/\∃ f:Nat->Bool,(∀ (j:Nat) (x y:V),xs[j]?=some x->ys[j]?=some y->DEq K H 60 x y (f j))/\Q (.bl (if neg then !(List.range xs.length).all f else (List.range xs.length).all f)) H))
def Qf (K:PySem.W.Frag) (neg:Bool):R2:=fun x y H Q=>∃ a b xs ys,x=.ref a/\y=.ref b/\SqT K H a xs/\SqT K H b ys /\
 ∃ f:Nat->Bool,(∀ (j:Nat) (x y:V),xs[j]?=some x->ys[j]?=some y->DEq K H 60 x y (f j))/\Q (.bl (if neg then !((List.range (min xs.length ys.length)).all f && xs.length == ys.length) else (List.range (min xs.length ys.length)).all f && xs.length == ys.length)) H
section
variable {X:Cx}
theorem wG {pins:List (Addr × Obj)} {σ:St} {H:Hp} {s:Shared} {A:Around} {xs ys:List V} {its its' : List Value} {f:Nat->Bool} (I:Inv X pins σ H s) (hu:A.units+60 < cLine) (r:Vals xs its) (r' : Vals ys its')
  (hf:∀ (j:Nat) (x y:V),xs[j]?=some x->ys[j]?=some y->DEq X.K H 60 x y (f j)):∀ j (h1:j < its.toArray.size) (h2:j < its'.toArray.size),SeqAt.EqAt A s its.toArray[j] its'.toArray[j] (f j):=fun j h1 h2=>by
 obtain ⟨x,e1,q1⟩:=ki r h1
 obtain ⟨y,e2,q2⟩:=ki r' h2
 exact (hf j x y e1 e2).at I hu q1 q2
theorem pE {k:Nat} (hr:bZ k X.A):OpR X (compareOp .NotEq) (xy X.K true):=by
 intro pins s σ H x y v u Q I rx ry h
 obtain ⟨a,b,xs,ys,rfl,rfl,ha,hb,h⟩:=h
 cases (show v=Value.ref a from rx)
 cases (show u=Value.ref b from ry)
 obtain ⟨its,r,p,_⟩:=I.list ha
 obtain ⟨its',r',p',_⟩:=I.list hb
 have l1:=r.length
 have l2:=r'.length
 have hu:=hr.units
 rcases h with ⟨hn,q⟩ | ⟨hl,f,hf,q⟩
 ·refine SeqAt.RcNeAt.lists_lengths p.isList p'.isList (by simp only [List.size_toArray,bne_iff_ne,ne_eq];omega) (by omega) X.prog X.w X.xe _ ⟨.bl true,H,I,rfl,q⟩
 ·refine SeqAt.RcNeAt.lists (e:=f) p.isList p'.isList (by simp only [List.size_toArray];omega) (by omega) (wG I (by show X.A.units+1+60 < cLine;omega) r r' hf) X.prog X.w X.xe _ ⟨.bl _,H,I,rfl,?_⟩
  rw [show its.toArray.size=xs.length by simp only [List.size_toArray];omega]
  exact q
end
end L2
namespace L2
open PySem PySem.Spec PyProof.Rows
section
variable {κ:Type} [DecidableEq κ]
def cntK (ks:List κ):Nat->Nat
 | 0=>0
 | i+1=>match ks[i]? with
  | some k=>if k ∈ ks.take i then cntK ks i else cntK ks i+1
  | none=>cntK ks i
theorem gF (ks:List κ):∀ i,cntK ks i<=i
 | 0=>Nat.le_refl _
 | i+1=>by
  have ih:=gF ks i
  unfold cntK
  split
  ·split <;> omega
  ·omega
theorem kj (ks:List κ):∀ i,i<=ks.length->(cntK ks i=i↔(ks.take i).Nodup)
 | 0,_=>by simp [cntK]
 | i+1,h=>by
  have ih:=kj ks i (by omega)
  have le:=gF ks i
  have e:ks[i]?=some ks[i]:=List.getElem?_eq_getElem (by omega)
  have et:ks.take (i+1)=ks.take i ++ [ks[i]]:=by rw [List.take_add_one,e];rfl
  unfold cntK
  rw [e,et,List.nodup_append]
  dsimp only
  by_cases m:ks[i] ∈ ks.take i
  ·rw [if_pos m]
   exact ⟨fun z=>absurd z (by omega),fun z=>absurd rfl (z.2.2 _ m _ (by simp))⟩
  ·rw [if_neg m]
   refine ⟨fun z=>⟨ih.mp (by omega),by simp,fun a ha b hb=>?_⟩,fun z=>by rw [ih.mpr z.1]⟩
   rw [show b=ks[i] by simpa using hb]
   exact fun q=>m (q ▸ ha)
variable {prog:Program} {w:World} {A:Around} {E:Value->Shared->Prop} {s:Shared} {knd:KeyKind prog w κ}
theorem fE {h h' : Heap} {a:Addr} {S:κ->Bool} {n:Nat} (x:h.SetOf knd a S n) (k:∀ o,h.get? a=some o->h'.get? a=some o):h'.SetOf knd a S n:=by
 obtain ⟨o,es,ep,t,ho,r⟩:=x
 exact ⟨o,es,ep,t,k o ho,r⟩
theorem mM {h:Heap} {a:Addr} {S S' : κ->Bool} {n n' : Nat} (x:h.SetOf knd a S n) (e1:S=S') (e2:n=n'):h.SetOf knd a S' n':=e1 ▸ e2 ▸ x
theorem tQ {R:Result->Shared->Prop} {I:Addr} {fp wr:List Addr} {G:Array GenState->Array GenState->Prop} {n:Nat} {P:Nat->Value->Prop} {St:Nat->Shared->Prop} (W:WalksS prog w A.in1 I fp wr G n P St) {a:Addr} (ha:a ∉ fp) {ks:List κ}
  (hv:∀ i v,P i v->∃ k,ks[i]?=some k/\knd.is k v=true/\v.scannable=true) (hb:n+1 < scanBound):∀ (d i:Nat) (s:Shared),n=i+d->St i s->s.heap.SetOf knd a (fun k=>decide (k ∈ ks.take i)) (cntK ks i) ->
   (∀ s',Moved (a :: wr) G s s'->s'.heap.SetOf knd a (fun k=>decide (k ∈ ks.take n)) (cntK ks n)->R (.ok (.ret .none)) s')->codeAny (model prog w) A (.builtin "set.update.loop" ⟨[.ref a,.ref I],[]⟩) R s:=by
 have hw:a ∉ wr:=fun z=>ha (W.sub a z)
 intro d
 induction d with
 | zero =>
  intro i s e st x fin
  rw [show n=i by omega] at W fin
  refine codeAny_builtin (R:=R) (A:=A) F.entry_set_update_loop ?_
  rw [Around.under_plainId (A:=A) F.plain_set_update_loop _]
  show wpAny (model prog w) A.in1 (pyNext (.ref I) >>= _) _ _ s
  exact wpAny_bind (W.done s _ _ st fun s' m=>wpAny_pure (fin s' (m.mono fun b hb=>List.mem_cons_of_mem a hb) (fE x fun o q=>m.heap a o hw q)))
 | succ d ih =>
  intro i s e st x fin
  refine codeAny_builtin (R:=R) (A:=A) F.entry_set_update_loop ?_
  rw [Around.under_plainId (A:=A) F.plain_set_update_loop _]
  show wpAny (model prog w) A.in1 (pyNext (.ref I) >>= _) _ _ s
  refine wpAny_bind (W.item i s _ _ (by omega) st fun v s1 p st1 m=>?_)
  obtain ⟨k,ek,ik,sc⟩:=hv i v p
  have x1:=fE x fun o q=>m.heap a o hw q
  show wpAny (model prog w) A.in1 (holding [v] (setAdd a v) >>= _) _ _ s1
  refine wpAny_bind (wpAny_holding (show wpAny (model prog w) A.in1 (setAdd a v) _ _ s1 from ?_))
  unfold setAdd
  refine wpAny_holding (wpAny_bind (knd.pyHash ik ?_))
  have le:=gF ks i
  refine wpAny_setAddHashed_of (knd:=knd) (s:={ s1 with toks:=s1.toks+1 }) ik sc x1 (by omega) fun h' sb x2=>?_
  have et:ks.take (i+1)=ks.take i ++ [k]:=by rw [List.take_add_one,ek];rfl
  have x3:h'.SetOf knd a (fun q=>decide (q ∈ ks.take (i+1))) (cntK ks (i+1)):=by
   refine mM x2 (funext fun q=>?_) ?_
   ·rw [et]
    by_cases z:q ∈ ks.take i <;> by_cases y:q=k <;> simp [z,y]
   ·show (if decide (k ∈ ks.take i)=true then cntK ks i else cntK ks i+1)=match ks[i]? with | some k=>if k ∈ ks.take i then cntK ks i else cntK ks i+1 | none=>cntK ks i
    rw [ek]
    by_cases z:k ∈ ks.take i <;> simp [z]
  refine wpAny_pure ⟨plainId_quiet F.plain_set_update_loop _,ih (i+1) { s1 with heap:=h',toks:=s1.toks+1 } (by omega) (W.frame (i+1) s1 h' (s1.toks+1) st1 (Nat.le_succ _) fun b hbf o q=>(sb.2 b fun z=>ha (z ▸ hbf)).trans q) x3 fun s2 m2 x4=>?_⟩
  refine fin s2 (Moved.trans W.gtrans ((m.mono fun b hb=>List.mem_cons_of_mem a hb).then_heap (Nat.le_succ _) fun b o hbn q=>?_) m2) x4
  exact (sb.2 b fun z=>hbn (z ▸ List.mem_cons_self)).trans q
abbrev iB (led:Bool):Obj:={ cls:=.type "set",dict:=none,data:=.set #[] 0 (.fresh 0 0 led) }
def Filled (knd:KeyKind prog w κ) (s:Shared) (ks:List κ) (h' : Heap):Prop :=
 h'.SetOf knd s.heap.objs.size (fun k=>decide (k ∈ ks)) (cntK ks ks.length)/\∀ b o,b < s.heap.objs.size->s.heap.get? b=some o->h'.get? b=some o
theorem uK {l:Addr} {items:Array Value} {ks:List κ} {led:Bool} (hh:A.handled=none) (hl:s.heap.IsList l items) (hk:∀ (i:Nat) (v:Value),items[i]?=some v->∃ k,ks[i]?=some k/\knd.is k v=true/\v.scannable=true) (hn:ks.length=items.size) (hb:items.size+1 < scanBound) :
  codeAny (model prog w) A (.call (.builtin "set.__init__") ⟨[.ref s.heap.objs.size,.ref l],[]⟩) (wants (fun r s2=>r=.none/\∃ h' tk,s2 = { s with heap:=h',toks:=tk }/\Filled knd s ks h') E) { s with heap:=s.heap.push (iB led) }:=by
 have g0:(s.heap.push (iB led)).get? s.heap.objs.size=some (iB led):=Heap.get?_push_size s.heap rfl
 have ty:Shared.TypeIs { s with heap:=s.heap.push (iB led) } (.ref s.heap.objs.size) "set" := ⟨iB led,g0,rfl⟩
 refine codeAny_call_builtin F.called_set.init.plain F.entry_set_init (check_set_init_1 ty ?_)
 obtain ⟨⟨c1,c2,c3,c4⟩,ho,hc,m,hd⟩:=hl
 dsimp only at hc hd
 subst hc hd
 have g1:(s.heap.push (iB led)).get? l=some { cls:=.type "list",dict:=c2,data:=.seq items m,slots:=c4 }:=Heap.get?_push_of_some _ ho
 have y1:=F.sub_list_set
 have y2:=F.sub_list_frozenset
 have y3:(Value.type "list" == Value.type "dict")=false:=by decide
 have l1:(s.heap.push (iB led)).IsList l items:=⟨_,g1,rfl,m,rfl⟩
 have lt:l < s.heap.objs.size:=Heap.lt_size ho
 unfold Builtin.«set.__init__» Builtin.Frozenset.updateFrom noKeywords
 generalize hI:pyIter=it
 wp_walk
 subst hI
 refine wpAny_pyIter_list l1 (wpAny_bind (wpAny_runValue ?_))
 have nl:l ≠ (s.heap.push (iB led)).objs.size:=by rw [Heap.size_push];exact Nat.ne_of_lt (Nat.lt_succ_of_lt lt)
 have nf:s.heap.objs.size ∉ [(s.heap.push (iB led)).objs.size,l]:=by
  rw [Heap.size_push]
  intro z
  rcases List.mem_cons.mp z with z | z
  ·exact absurd z (Nat.ne_of_lt (Nat.lt_succ_self _))
  ·exact absurd (by simpa using z) (Nat.ne_of_gt lt)
 refine tQ (knd:=knd) ((Walks.list (by simp [hh]) _ l nl items).toS) nf (ks:=ks) hk hb items.size 0 _ (Nat.zero_add _).symm ⟨⟨_,Heap.get?_push_size _ rfl,rfl,rfl⟩,l1.push _⟩ (mM ((setObjOf_fresh (knd:=knd) led).setOf (Heap.get?_push_of_some _ g0) (by unfold scanBound;omega)) (funext fun k=>by simp) rfl) fun s' mv x=>?_
 obtain ⟨h',g',d',t',o'⟩:=s'
 obtain rfl:g'=s.gens:=mv.gens
 obtain rfl:d'=s.drawn:=mv.drawn
 obtain rfl:o'=s.os:=mv.os
 refine wpAny_pure (show wpAny (model prog w) _ (ret Value.none) _ _ _ from wpAny_pure ⟨rfl,h',t',rfl,?_,fun b o hb' q=>?_⟩)
 ·rw [← hn] at x
  exact mM x (funext fun k=>by rw [List.take_length]) rfl
 ·refine mv.heap b o (fun z=>?_) (Heap.get?_push_of_some _ (Heap.get?_push_of_some _ q))
  rcases List.mem_cons.mp z with z | z
  ·exact absurd z (Nat.ne_of_lt hb')
  ·have z2:b=(s.heap.push (iB led)).objs.size:=by simpa using z
   rw [Heap.size_push] at z2
   exact absurd z2 (Nat.ne_of_lt (Nat.lt_succ_of_lt hb'))
set_option maxRecDepth 100000 in
theorem oJ {l:Addr} {items:Array Value} {ks:List κ} {Q:Value->Shared->Prop} (hh:A.handled=none) (hl:s.heap.IsList l items) (hk:∀ (i:Nat) (v:Value),items[i]?=some v->∃ k,ks[i]?=some k/\knd.is k v=true/\v.scannable=true) (hn:ks.length=items.size) (hb:items.size+1 < scanBound)
  (h:∀ h' tk,Filled knd s ks h'->Q (.ref s.heap.objs.size) { s with heap:=h',toks:=tk }):wpAny (model prog w) A (call (.type "set") [.ref l]) Q E s:=by
 obtain ⟨c,tl,mro⟩:=F.called_set.mro
 have a1:=F.called_set.made
 have a2:=F.called_set.sub
 have a3:=F.called_set.notType
 have a4:=F.called_set.canCreate
 have a5:=F.typeCall_set_1 (.ref l)
 refine wpAny_call (codeAny_of_tree (show wpAny (model prog w) _ (callAny (.type "set") _) _ _ _ from wpAny_pure ⟨Code.quiet_builtin _ (by decide +kernel),codeAny_builtin F.entry_type_call ?_⟩))
 rw [Around.under_plain (A:=A) (weight_type_call_type "set" [.ref l] []) rfl]
 repeat (any_goals (first | assumption | wp_step))
 refine codeAny_mono (code_set_new_1 (.ref l) (E:=E) (Q₁:=fun ob s1=>∃ led,ob=.ref s.heap.objs.size/\s1 = { s with heap:=s.heap.push (iB led) }) fun led=>⟨led,rfl,rfl⟩) fun r s1 hr=>?_
 cases r with
 | error e=>exact hr
 | ok fl =>
  cases fl with
  | ret ob =>
   obtain ⟨led,rfl,rfl⟩:=hr
   have g0:(s.heap.push (iB led)).get? s.heap.objs.size=some (iB led):=Heap.get?_push_size s.heap rfl
   have ty:Shared.TypeIs { s with heap:=s.heap.push (iB led) } (.ref s.heap.objs.size) "set" := ⟨iB led,g0,rfl⟩
   have b1:=F.called_set.init.lookup
   have b2:=F.called_set.init.bind (.ref s.heap.objs.size)
   repeat (any_goals (first | assumption | wp_step))
   refine codeAny_mono (uK (E:=E) (knd:=knd) (by simp [hh]) hl hk hn hb) fun r2 s2 hr2=>?_
   cases r2 with
   | error e=>exact hr2
   | ok f2 =>
    cases f2 with
    | ret r =>
     obtain ⟨rfl,h',tk,rfl,x⟩:=hr2
     repeat (any_goals (first | assumption | wp_step))
     exact h h' tk x
    | _=>exact hr2.elim
  | _=>exact hr.elim
end
def mO (P:Program) (w:World) (a:Addr) (zs:List Str):HO:=.ext fun h=>h.SetOf (strKind P w) a (fun z=>decide (z ∈ zs)) (cntK zs zs.length)
section
variable {X:Cx}
theorem oK:∀ {zs:List Str} {us:List Value},Vals (zs.map V.str) us->∀ (i:Nat) (v:Value),us[i]?=some v->∃ z t,zs[i]?=some z/\v=.str z t
 | [],_,.nil,i,v,h=>by simp at h
 | z :: zs,_,.cons ⟨t,e⟩ r,0,v,h=>by simp at h;exact ⟨z,t,rfl,by rw [← h,e]⟩
 | z :: zs,_,.cons _ r,i+1,v,h=>by
  obtain ⟨z',t,e1,e2⟩:=oK r i v (by simpa using h)
  exact ⟨z',t,by simpa using e1,e2⟩
theorem ij (hc:X.calm=true):de X (.type "set") (fun xs H Q=>∃ (p:Addr) (zs:List Str),xs=[.ref p]/\SqL X.K H p (zs.map V.str)/\zs.length<=1000/\∀ l,H l=none->Q (.ref l) (upd H l (mO X.prog X.w l zs))):=by
 intro pins s σ H xs us Q I r h
 obtain ⟨p,zs,rfl,hS,hz,q⟩:=h
 obtain ⟨u,rfl,ru⟩:=r.one
 obtain rfl:u=Value.ref p:=ru
 obtain ⟨its,rv,pl,_⟩:=I.list hS
 have hl:=rv.length
 rw [List.length_map] at hl
 refine oJ (knd:=strKind X.prog X.w) (ks:=zs) (I.ok.hd hc) pl.isList (fun i v e=>?_) (by simpa using hl) (by unfold scanBound;simp;omega) fun h' tk x=>?_
 ·obtain ⟨z,t,e1,rfl⟩:=oK rv i v (by simpa using e)
  exact ⟨z,e1,by show Value.isStrOf z (.str z t)=true;simp [Value.isStrOf],rfl⟩
 ·obtain ⟨x1,x2⟩:=x
  refine ⟨.ref s.heap.objs.size,_,I.laid (a:=s.heap.objs.size) (o:=mO X.prog X.w s.heap.objs.size zs) (h':=h') (t':=tk) (fun b o q=>x2 b o (Heap.lt_size q) q) (Nat.le_refl _) ?_,rfl,q _ I.fresh⟩
  refine ⟨x1,?_,fun h1 h2 y k=>fE y k⟩
  obtain ⟨o,_,_,_,g,_⟩:=x1
  exact ⟨o,g⟩
end
end L2
namespace L2
open PySem PySem.Spec PyProof.Rows
def uL (h:Heap) (e T:Addr) (cls a0 fl:Value):Prop :=
 ∃ oe vs oT ts,h.get? e=some oe/\(oe.cls=cls/\vs[0]?=some a0)/\oe.data=.fields vs/\vs[1]?=some (.ref T)/\T ≠ e/\h.get? T=some oT/\oT.data=.fields ts/\ts[3]?=some fl
inductive uM (h:Heap) (L e:Addr) (cls a0:Value):List Addr->Prop where
 | fresh {oe:Obj} {vs:Array Value} (he:h.get? e=some oe) (hc:oe.cls=cls) (hd:oe.data=.fields vs) (h1:vs[1]?=some Value.none) (h0:vs[0]?=some a0):uM h L e cls a0 []
 | fly {T:Addr} (x:uL h e T cls a0 .none):uM h L e cls a0 [T]
 | held {T:Addr} (x:uL h e T cls a0 (rawInt L)):uM h L e cls a0 [T]
section
variable {M:Model} {A:Around} {E:Value->Shared->Prop} {s:Shared} {base:Heap} {env:Env} {outer:List Env} {L e T:Addr} {a0 cls fl:Value} {Q:Unit->Shared->Prop} {Ts:List Addr}
theorem Stp.refl (F Y:List Addr) (h:Heap):Stp F Y h h:=⟨fun _ _ _ _ q=>q,fun _ o _ q=>⟨o.slots,q⟩⟩
theorem note (hf:A.frames=some (env :: outer)) (ff:s.heap.FunFrames base (env :: outer)) (hL:env.frame=some L) (x:uM s.heap L e cls a0 Ts)
  (h:∀ h' T',Stp (frs (env :: outer)) (e :: Ts) s.heap h'->uL h' e T' cls a0 (rawInt L)->(s.heap.get? T'=none\/T' ∈ Ts)->Q () { s with heap:=h' }):wpAny M A (noteFrame (.ref e) env) Q E s:=by
 cases x with
 | @fresh oe vs he hc hd h1 h0 =>
  unfold noteFrame
  simp only [hL]
  refine wpAny_bind (wpAny_field he hd h1 ?_)
  rw [if_neg (by decide)]
  refine wpAny_entryW (base:=PySem.W.hideAll s.heap ([e] ++ frs (env :: outer))) hf (fC _ ff) hL he (fun b o q=>PySem.W.of_hideAll _ q) (PySem.W.hideAll_none _ (by simp)) hd (Array.getElem?_eq_some_iff.mp h1).1 h0 fun h' lw=>?_
  obtain ⟨st,_,⟨oe',vs',T,oT,ts,t1,t2,t3,t4,t5,t6,t7,t8,t9⟩,up⟩:=lw
  have fX:∀ b o,b ∈ frs (env :: outer)->s.heap.get? b=some o->∃ sl,h'.get? b=some { o with slots:=sl }:=fun b o hb q=>by
   obtain ⟨_,o2,q2,nf⟩:=ff.mem hb
   rw [q] at q2;cases q2
   exact up b o q nf
  refine h h' T ⟨fun b o hb hx q=>st b o (PySem.W.hideAll_get _ q (by simp only [List.mem_append];exact fun z=>z.elim hx hb)),fX⟩ ⟨oe',vs',oT,ts,t1,⟨t2.1.trans hc,t2.2⟩,t3,t4,t6,t7,t8,t9⟩ ?_
  rcases jy ff t5 fX t7 t8 with z | z
  ·exact .inl z
  ·exact absurd (by simpa using z) t6
 | @fly T x =>
  obtain ⟨oe,vs,oT,ts,x1,x2,x3,x4,x5,x6,x7,x8⟩:=x
  refine wpAny_noteFrame_onW (base:=PySem.W.hideAll s.heap ([e,T] ++ frs (env :: outer))) hf (fC _ ff) hL ⟨oe,vs,T,oT,ts,x1,x2,x3,x4,PySem.W.hideAll_none _ (by simp),x5,x6,x7,x8⟩ (fun b o q=>PySem.W.of_hideAll _ q) (PySem.W.hideAll_none _ (by simp)) fun h' lw=>?_
  obtain ⟨st,_,⟨oe',vs',T',oT',ts',t1,t2,t3,t4,t5,t6,t7,t8,t9⟩,up⟩:=lw
  have fX:∀ b o,b ∈ frs (env :: outer)->s.heap.get? b=some o->∃ sl,h'.get? b=some { o with slots:=sl }:=fun b o hb q=>by
   obtain ⟨_,o2,q2,nf⟩:=ff.mem hb
   rw [q] at q2;cases q2
   exact up b o q nf
  refine h h' T' ⟨fun b o hb hx q=>st b o (PySem.W.hideAll_get _ q (by simp only [List.mem_append];exact fun z=>z.elim hx hb)),fX⟩ ⟨oe',vs',oT',ts',t1,t2,t3,t4,t6,t7,t8,t9⟩ ?_
  rcases jy ff t5 fX t7 t8 with z | z
  ·exact .inl z
  ·rcases List.mem_cons.mp z with z | z
   ·exact absurd z t6
   ·exact .inr z
 | @held T x =>
  obtain ⟨oe,vs,oT,ts,x1,x2,x3,x4,x5,x6,x7,x8⟩:=id x
  exact wpAny_noteFrame_againW (base:=PySem.W.hideAll s.heap [T]) hL ⟨oe,vs,T,oT,ts,x1,x2,x3,x4,PySem.W.hideAll_none _ (by simp),x5,x6,x7,x8⟩ (h s.heap T (Stp.refl _ _ _) x (.inr (by simp)))
theorem xA {fr:Option Addr} {l:List Env} (ff:s.heap.FunFrames base l) (x:uL s.heap e T cls a0 fl) (h:∀ h',Stp (frs l) [e,T] s.heap h'->uL h' e T cls a0 (fr.elim Value.none fun f=>rawInt f)->Q () { s with heap:=h' }):wpAny M A (setFlight (.ref e) fr) Q E s:=by
 obtain ⟨oe,vs,oT,ts,x1,x2,x3,x4,x5,x6,x7,x8⟩:=x
 have sz:3 < ts.size:=(Array.getElem?_eq_some_iff.mp x8).1
 have oth:∀ b,b ≠ T->(s.heap.update T (Obj.mapFields (·.setIfInBounds 3 (fr.elim Value.none fun f=>rawInt f)))).get? b=s.heap.get? b:=fun b hb=>Heap.get?_update_other _ _ (Ne.symm hb)
 unfold setFlight
 refine wpAny_bind (wpAny_field x1 x3 x4 ?_)
 rw [if_pos (show (Value.ref T != Value.none)=true by simp)]
 refine wpAny_setField x6 x7 sz (h _ ⟨fun b o hb hx q=>(oth b fun z=>hx (by simp [z])).trans q,fun b o hb q=>?_⟩ ⟨oe,vs,_,_,(oth e (Ne.symm x5)).trans x1,x2,x3,x4,x5,Heap.get?_update_self _ x6 (Obj.isFreed_of_fields (Obj.data_mapFields x7 _)),Obj.data_mapFields x7 _,by simp [sz]⟩)
 obtain ⟨_,o2,q2,nf⟩:=ff.mem hb
 rw [q] at q2;cases q2
 exact ⟨o.slots,(oth b fun z=>nf ts (by rw [z,x6] at q;cases q;exact x7)).trans q⟩
end
section
variable {X:Cx} {pins:List (Addr × Obj)} {σ:St} {H:Hp} {s:Shared} {h' : Heap} {Y:List Addr}
theorem Inv.excStepY (I:Inv X pins σ H s) (st:Stp (frs X.stack) Y s.heap h') (nY:∀ b ∈ Y,eF X pins H b):Inv X pins σ H { s with heap:=h' }:=by
 have uI:∀ b,b ≠ X.env.locals->b ∉ X.fs->b ∉ frs X.stack:=fun b h1 h2 z=>(List.mem_cons.mp (I.stkSub b z)).elim h1 h2
 have rM:∀ b o,X.s₀.heap.get? b=some o->b ∉ Y:=fun b o q z=>by rw [(nY b z).ent] at q;cases q
 have neL:∀ b o,X.s₀.heap.get? b=some o->b ≠ X.env.locals:=fun b o q=>Nat.ne_of_lt (Nat.lt_of_lt_of_le (Heap.lt_size q) I.ok.above)
 have any:∀ b o,b ∉ Y->s.heap.get? b=some o->∃ sl,h'.get? b=some { o with slots:=sl }:=fun b o hy q=>by
  by_cases hF:b ∈ frs X.stack
  ·exact st.slot b o hF q
  ·exact ⟨o.slots,st.keep b o hF hy q⟩
 have cellK:∀ x c,X.env.cells.lookup x=some c->∀ v,s.heap.IsCell c v->h'.IsCell c v:=fun x c ec v ⟨o,ho,hd⟩=>by
  obtain ⟨sl,q⟩:=any c o (fun z=>(nY c z).cel x c ec rfl) ho
  exact ⟨_,q,hd⟩
 refine ⟨I.ok,I.os,I.bare,⟨fun b o q n hb hxx=>?_,fun b o q n hb hxx=>?_,I.base.free,fun b o q hxx=>?_,I.base.tups,I.base.frzs,I.base.tbls⟩,?_,fun x c ec=>?_,I.free,I.freeC,fun p hp=>?_,I.hok.stp st I.stkFree (fun b hb=>(nY b hb).unt),I.len⟩
 ·exact st.keep b o (uI b (neL b o q) hb) (rM b o q) (I.base.keep b o q n hb hxx)
 ·obtain ⟨sl,q1⟩:=I.base.slot b o q n hb hxx
  obtain ⟨sl2,q2⟩:=any b _ (rM b o q) q1
  exact ⟨sl2,q2⟩
 ·obtain ⟨o1,q1⟩:=I.base.there b o q hxx
  obtain ⟨sl2,q2⟩:=any b _ (rM b o q) q1
  exact ⟨_,q2⟩
 ·obtain ⟨m,⟨oL,es,ep,hoL,r⟩,hl⟩:=I.loc
  obtain ⟨sl,q⟩:=any X.env.locals oL (fun z=>(nY _ z).loc rfl) hoL
  refine ⟨m,⟨_,es,ep,q,r⟩,fun i x v e1 e2 e3=>?_⟩
  obtain ⟨u,ru,l⟩:=hl i x v e1 e2 e3
  refine ⟨u,ru,?_⟩
  rcases l with l | ⟨k,c,ec,z⟩
  ·exact .inl l
  ·exact .inr ⟨k,c,ec,cellK x c ec _ z⟩
 ·obtain ⟨v,z⟩:=I.cell x c ec
  exact ⟨v,cellK x c ec v z⟩
 ·obtain ⟨q,n,nL,nf,d⟩:=I.pin p hp
  exact ⟨st.keep p.1 p.2 (uI p.1 nL nf) (fun z=>(nY _ z).pin p hp rfl) q,n,nL,nf,d⟩
end
def uN (X:Cx) (L:Addr) (E:XK):Value->Shared->Prop:=fun ev s'=>∃ (e C:Addr) (a0:Value) (Ts:List Addr) (pins:List (Addr × Obj)) (σ:St) (H' : Hp),ev=.ref e/\Inv X pins σ H' s'/\uM s'.heap L e (.ref C) a0 Ts/\(∀ b ∈ e :: Ts,eF X pins H' b)/\E (.ref C) none H'
theorem dM {X:Cx} {L:Addr} {E:XK} (hst:X.stack=X.env :: X.outer) (hfr:X.env.frame=some L) (hx:X.ex=[]):PassesOwn (model X.prog X.w) X.A X.env (uN X L E):=by
 rintro ev s1 ⟨e,C,a0,Ts,pins,σ,H,rfl,I,x,ny,q⟩
 have fr1:X.A.frames=some (X.env :: X.outer):=by rw [← hst];exact I.ok.frames
 have ff1:s1.heap.FunFrames X.base (X.env :: X.outer):=by rw [← hst];exact I.stack
 refine note fr1 ff1 hfr x fun h2 T st x2 hT=>?_
 rw [← hst] at st
 have I2:=I.excStepY st ny
 have nT:eF X pins H T:=by
  rcases hT with z | z
  ·exact I.newAt hx z
  ·exact ny T (List.mem_cons_of_mem e z)
 have n2:∀ b ∈ [e,T],eF X pins H b:=fun b hb=>by
  rcases List.mem_cons.mp hb with z | z
  ·rw [z];exact ny e List.mem_cons_self
  ·rw [show b=T by simpa using z];exact nT
 show wpAny (model X.prog X.w) X.A (do
  if (← field (.ref e) 1) == .none then unsupported "frame.own-activation:exception-without-traceback"
  setFlight (.ref e) X.env.frame) _ _ { s1 with heap:=h2 }
 obtain ⟨oe,vs,oT,ts,y1,y2,y3,y4,y5,y6,y7,y8⟩:=id x2
 refine wpAny_bind (wpAny_field (s:={ s1 with heap:=h2 }) y1 y3 y4 ?_)
 rw [if_neg (show ¬ (Value.ref T == Value.none)=true by simp)]
 show wpAny (model X.prog X.w) X.A (setFlight (.ref e) X.env.frame) _ _ _
 rw [hfr]
 refine xA (s:={ s1 with heap:=h2 }) (l:=X.stack) I2.stack x2 fun h3 st3 x3=>?_
 exact ⟨e,C,a0,[T],pins,σ,H,rfl,I2.excStepY st3 n2,.held x3,n2,q⟩
section
variable {P:Program} {w:World} {K:PySem.W.Frag} {mg:Str->Option Value} {base:Heap} {N:List Str} {qual:Str} {scope:Scope} {f:Addr} {cd:Value} {A:Around} {outer:List Env} {s0:Shared} {H0:Hp} {E:XK}
abbrev cxE (P:Program) (w:World) (K:PySem.W.Frag) (mg:Str->Option Value) (base:Heap) (N:List Str) (qual:Str) (scope:Scope) (f:Addr) (cd:Value) (A:Around) (outer:List Env) (s0:Shared) (H0:Hp) (E:XK):Cx :=
 (jw (CX1 P w) P w K mg base N qual scope f cd A outer s0 H0 E).wish (uN (jw (CX1 P w) P w K mg base N qual scope f cd A outer s0 H0 E) s0.heap.objs.size E)
theorem tR {ev:Value} {s:Shared} (h:uN (jw (CX1 P w) P w K mg base N qual scope f cd A outer s0 H0 E) s0.heap.objs.size E ev s):(jw (CX1 P w) P w K mg base N qual scope f cd A outer s0 H0 E).xe ev s:=by
 obtain ⟨e,C,a0,Ts,pins,σ,H,rfl,I,x,ny,q⟩:=h
 have fr1:(jw (CX1 P w) P w K mg base N qual scope f cd A outer s0 H0 E).A.frames=some (envOfC qual scope s0.heap.objs.size f cd :: outer):=I.ok.frames
 have hL:(envOfC qual scope s0.heap.objs.size f cd).frame=some s0.heap.objs.size:=rfl
 show wpAny (model P w) _ (leaving (envOfC qual scope s0.heap.objs.size f cd) (.ref e)) _ _ s
 unfold leaving
 refine wpAny_bind (note fr1 I.stack hL x fun h2 T st x2 hT=>?_)
 have I2:=I.excStepY st ny
 have nT:eF (jw (CX1 P w) P w K mg base N qual scope f cd A outer s0 H0 E) pins H T:=by
  rcases hT with z | z
  ·exact I.newAt rfl z
  ·exact ny T (List.mem_cons_of_mem e z)
 have ne:=ny e List.mem_cons_self
 have n2:∀ b ∈ [e,T],eF (jw (CX1 P w) P w K mg base N qual scope f cd A outer s0 H0 E) pins H b:=fun b hb=>by
  rcases List.mem_cons.mp hb with z | z
  ·rw [z];exact ne
  ·rw [show b=T by simpa using z];exact nT
 refine xA (s:={ s with heap:=h2 }) (l:=envOfC qual scope s0.heap.objs.size f cd :: outer) I2.stack x2 fun h3 st3 x3=>?_
 refine ⟨e,T,C,a0,H,rfl,I2.os,I2.bare,I2.base.stp st3 (fun b o q hb=>?_) (fun b hb=>?_) (fun b hb=>(n2 b hb).ent),I2.hok.stp st3 I2.stkFree (fun b hb=>(n2 b hb).unt),x3,ne.ent,nT.ent,ne.unt,nT.unt,q⟩
 ·rcases List.mem_cons.mp (I2.stkSub b hb) with z | z
  ·exact absurd (Nat.lt_of_lt_of_le (Heap.lt_size q) I2.ok.above) (by rw [z];exact Nat.lt_irrefl _)
  ·exact z
 ·show b ∈ frs (envOfC qual scope s0.heap.objs.size f cd :: outer)
  unfold frs
  rw [List.filterMap_cons]
  exact List.mem_cons_of_mem _ hb
theorem PSs.leaves {st:List Stmt} {t:TS} (h:PSs (cxE P w K mg base N qual scope f cd A outer s0 H0 E) st t):PSs (jw (CX1 P w) P w K mg base N qual scope f cd A outer s0 H0 E) st t:=fun pins s σ H D I hw =>
 wpAny_mono (h pins s σ H D (I.wish _) hw) (fun _ _ q=>q.unwish) fun _ _ z=>tR z
theorem Fun.okE {x:Str} {st:Stmt} {fd:FuncData} {ps:List Str} {k:Nat} {sp:Sp} (F:Fun K x qual st f fd) (S:ax N ps (ag st)) (len:∀ vs H Q E,sp vs H Q E->vs.length=ps.length)
  (qJ:∀ (cdv:Value) (A:Around) (outer:List Env) (s:Shared) (H:Hp) (vs:List V) (Q:VK) (E:XK),bZ k (A.deeper (envOfC qual (ag st) s.heap.objs.size f cdv))->sp vs H Q E ->
   ∃ t,PSs (cxE P w K mg base N qual (ag st) f cdv A outer s H E) (aq st) t/\t { nx:=fun _ H'=>Q .non H',rt:=Q } (start N vs) H):aR P w K mg base (CX1 P w) (k+1) f fd ps sp:=by
 obtain ⟨oc,od,kV,doc,pm,an,cdv,ct,osl,rfl,lk,hcd⟩:=F.ex
 refine xt lk hcd S len fun A outer s H vs Q E hr hsp=>?_
 obtain ⟨t,h,q⟩:=qJ cdv A outer s H vs Q E hr hsp
 exact ⟨t,h.leaves,q⟩
theorem bO {x:Str} {C:Addr} {np iz pos:Pos} {e₀:Expr} {es:List Expr} {t:TA} (X:cZ K C) (hd:A.handled=none) (hg:Gl (cxE P w K mg base N qual scope f cd A outer s0 H0 E) x) (hm:mg x=some (.ref C))
  (ha:PA (cxE P w K mg base N qual scope f cd A outer s0 H0 E) (e₀ :: es) t) (hdb:(x == ("__debug__" : Str))=false:=by decide)
  (he:starEach (e₀ :: es) (envOfC qual scope s0.heap.objs.size f cd)=(false,eval e₀ (envOfC qual scope s0.heap.objs.size f cd)) :: starEach es (envOfC qual scope s0.heap.objs.size f cd):=by rfl)
  (hpl:(backTo iz (starEach es (envOfC qual scope s0.heap.objs.size f cd))).any (·.1)=false:=by rfl) :
  PS (cxE P w K mg base N qual scope f cd A outer s0 H0 E) (.Raise (some (.Call (.Name x np) (e₀ :: es) [] iz)) none pos) (yz C E t):=by
 intro pins s σ H D I h
 obtain ⟨bmB,bmN,newId,B,Bn,nid,uJ,inN,hx,F1,F2,F3⟩:=X.ex
 obtain ⟨bm,N',nm,q,bs,hdct,sn,sub,ab,col,dd,k0,k1,k2,k3,k5,mN,o1,o2,o3,o4⟩:=cZ.obj I.ok.mod.kin hx
 refine wpAny_Raise_call_subU (C:=C) (nm:=nm) (q:=q) (N:=N') (bs:=bs) (bm:=bm) (hdct:=hdct) (sn:=sn) (sub:=sub) (ab:=ab) (col:=col) (dd:=dd) (k0:=k0) (k1:=k1) (k2:=k2) (k3:=k3) (k5:=k5) F1 F2 F3 (OwnTail.hasType o4 F3.hasBase) hd (by
  show (backTo iz (starEach (e₀ :: es) (envOfC qual scope s0.heap.objs.size f cd))).any (·.1)=false
  rw [he]
  show (false || (backTo iz (starEach es (envOfC qual scope s0.heap.objs.size f cd))).any (·.1))=false
  rw [hpl];rfl) (mN:=mN) o3 (dF I hg hm ⟨rfl,?_⟩ hdb)
 show wpAny _ _ (evalArgs (.ref C) true (backTo iz (starEach (e₀ :: es) (envOfC qual scope s0.heap.objs.size f cd))) []) _ _ s
 rw [he]
 refine Calls.evalArgs_plain ?_
 have z:wpAny (model P w) (cxE P w K mg base N qual scope f cd A outer s0 H0 E).A (spliced (backTo iz (starEach (e₀ :: es) (envOfC qual scope s0.heap.objs.size f cd)))) _ _ s:=ha iz pins s σ H _ I h
 rw [he] at z
 refine thn z fun us s2 ⟨vs,H2,I2,r,hl,q2⟩=>⟨rfl,by rw [← r.length];exact hl,?_⟩
 refine ⟨I2.bk C _ o1,?_,o4.keeps I2.bk,fun h' e m=>?_⟩
 ·obtain ⟨o,es',ep,g1,g2⟩:=o2
  exact ⟨o,es',ep,I2.bk _ _ g1,g2⟩
 ·have J:=I2.unwish
  obtain ⟨t',he',_,_⟩:=m.there
  refine ⟨e,C,.ref t',[],pins,σ,H2,rfl,J.kept (t':=s2.toks) m.keeps,.fresh he' rfl rfl rfl rfl,fun b hb=>?_,q2⟩
  rw [show b=e by simpa using hb]
  exact J.newAt rfl m.new
theorem jz:Passes (CX1 P w) (cxE P w K mg base N qual scope f cd A outer s0 H0 E) E:=fun pins σ H s ev s' I h=>by
 obtain ⟨e,T,C,a0,H',rfl,J,x,ne,nT,q⟩:=(I.unwish).afterX (EX:=fun C H'=>E (.ref C) none H') rfl (fun _ _ z=>z) h
 refine ⟨e,C,a0,[T],pins,σ,H',rfl,J,.fly x,fun b hb=>?_,q⟩
 rcases List.mem_cons.mp hb with z | z
 ·rw [z];exact ne
 ·rw [show b=T by simpa using z];exact nT
end
end L2
namespace L2
open PySem PySem.Spec PyProof.Rows
section
variable {X:Cx}
def D5 (K:PySem.W.Frag):V->List V->Hp->VK->Prop:=fun x vs H Q=>∃ (p:Addr) (xs:List V) (y z:V) (j:Nat),x=.ref p/\vs=[y]/\SqL K H p xs/\dg y=true/\xs.all dg=true/\xs[j]?=some z/\eqV z y=true/\(∀ (m:Nat) (u:V),m < j->xs[m]?=some u->eqV u y=false)/\Q (.int j) H
theorem ip:de X (.builtin "len") (fun xs H Q=>∃ (l:Addr) (zs:List Str),xs=[.ref l]/\H l=some (mO X.prog X.w l zs)/\zs.length<=1000/\Q (.int ((cntK zs zs.length:Nat):Int)) H):=by
 intro pins s σ H xs us Q I r h
 obtain ⟨l,zs,rfl,e,hz,q⟩:=h
 obtain ⟨u,rfl,ru⟩:=r.one
 obtain rfl:u=Value.ref l:=ru
 obtain ⟨⟨o,es,ep,t,g1,g2,g3,_,_,_,g4,g5⟩,_,_⟩:=I.hok l _ e
 have le:=gF zs zs.length
 refine call_len_set g1 g2 g3 g4 (by rw [g5];omega) ⟨.int _,H,I.tok _,⟨_,rfl⟩,?_⟩
 rw [g5];exact q
end
def D6 (sp:Sp) (E:XK) (t:TA):TE:=fun σ H Q=>t σ H fun vs H1=>sp vs H1 Q E
def QO (C:Addr) (m:Str) (sp:Sp) (E:XK) (ta:TE) (t:TA):TE:=fun σ H Q=>ta σ H fun x H1=>∃ a dx fs,x=.ref a/\H1 a=some (.ins C dx fs)/\fs.lookup m=none/\t σ H1 fun vs H2=>sp (x :: vs) H2 Q E
def D7 (C:Addr) (sp:Sp) (E:XK) (t:TA):TE:=fun σ H Q=>t σ H fun vs H1=>∀ x dx,H1 x=none->H1 dx=none->dx ≠ x ->
 sp (.ref x :: vs) (upd (upd H1 dx (.own x)) x (.ins C dx [])) (fun v H2=>v=.non/\Q (.ref x) H2) E
section
variable {X:Cx} {k:Nat} {f C:Addr} {fd:FuncData} {ps:List Str} {sp:Sp} {x m:Str} {p np pos apos:Pos} {e o:Expr} {es:List Expr} {ta:TE} {t:TA} {E:XK}
theorem eO (M:aZ X.prog X.w X.K X.mg X.base k x ps sp) (hx:Passes (CX1 X.prog X.w) X E) (hr:bZ k X.A) (hg:Gl X x) (ha:PA X (e :: es) t) (hdb:(x == ("__debug__" : Str))=false:=by decide)
  (he:starEach (e :: es) X.env=(false,eval e X.env) :: starEach es X.env:=by rfl) (hpl:(backTo pos (starEach es X.env)).any (·.1)=false:=by rfl):PE X (.Call (.Name x p) (e :: es) [] pos) (D6 sp E t):=by
 obtain ⟨f,fd,F,b,kk,hm⟩:=M
 intro pins s σ H Q I h
 refine wpAny_Call_Name_kw (dF I hg hm ?_ hdb)
 refine PySem.W.callWith_K (h₀:=X.base) I.ok.mod.kin kk (thn (ha pos pins s σ H _ I h) fun us s1 ⟨vs,H1,I1,r,q⟩=>⟨I1.kIn,wF F hr b hx I1 r q⟩) he hpl
theorem yL {CX:CXT} (M:aP CX X.prog X.w X.K X.mg X.base k x C ps sp) (hx:Passes CX X E) (hr:bZ (k+1) X.A) (hg:Gl X x) (ha:PA X (e :: es) t) (hdb:(x == ("__debug__" : Str))=false:=by decide)
  (he:starEach (e :: es) X.env=(false,eval e X.env) :: starEach es X.env:=by rfl) (hpl:(backTo pos (starEach es X.env)).any (·.1)=false:=by rfl) :
  PE X (.Call (.Name x p) (e :: es) [] pos) (D7 C sp E t):=by
 obtain ⟨f,fd,M,F,hb,hm⟩:=M
 have h:=sM (E:=E) (dvs:=[]) (ds:=[]) (p:=p) M F hr hg hm hb .nil hx ha hdb he hpl
 intro pins s σ H Q I q
 refine h pins s σ H Q I ?_
 have e1:(fun (vs:List V) (H1:Hp)=>∀ x dx,H1 x=none->H1 dx=none->dx ≠ x->sp (.ref x :: (vs ++ [])) (upd (upd H1 dx (.own x)) x (.ins C dx [])) (fun v H2=>v=.non/\Q (.ref x) H2) E)=fun vs H1=>∀ x dx,H1 x=none->H1 dx=none->dx ≠ x->sp (.ref x :: vs) (upd (upd H1 dx (.own x)) x (.ins C dx [])) (fun v H2=>v=.non/\Q (.ref x) H2) E:=by
  funext vs H1
  rw [List.append_nil]
 show t σ H fun vs H1=>∀ x dx,H1 x=none->H1 dx=none->dx ≠ x->sp (.ref x :: (vs ++ [])) (upd (upd H1 dx (.own x)) x (.ins C dx [])) (fun v H2=>v=.non/\Q (.ref x) H2) E
 rw [e1]
 exact q
end
end L2
namespace L2
open PySem PySem.Spec PyProof.Rows
section
variable {M:Model} {A:Around} {E:Value->Shared->Prop} {env:Env} {s:Shared}
end
section
variable {prog:Program} {w:World} {A:Around} {R:Result->Shared->Prop} {s:Shared}
end
def rN (X:Cx) (N:List Str) (scope:Scope) (cl:List (Str × Addr)) (fp:List Addr) (C:Addr) (s2:Shared) (H2:Hp) (pl:List (Addr × Obj)):Cx:={ br X N scope cl fp C s2 H2 with pn:=pl }
def D8 (X:Cx) (N:List Str) (scope:Scope) (cl:List (Str × Addr)) (L:Addr) (E:XK) (fp:List Addr) (C:Addr) (s2:Shared) (H2:Hp) (pl:List (Addr × Obj)):Cx:=(rN X N scope cl fp C s2 H2 pl).wish (uN (rN X N scope cl fp C s2 H2 pl) L E)
def QP (X:Cx) (N:List Str) (scope:Scope) (cl:List (Str × Addr)) (L:Addr) (E:XK) (fp:List Addr) (C:Addr) (s2:Shared) (H2:Hp):Value->Shared->Prop:=fun ev s'=>∃ pl,(∀ b ∈ fp,∃ o,(b,o) ∈ pl)/\uN (rN X N scope cl fp C s2 H2 pl) L E ev s'
section
variable {X:Cx} {N:List Str} {scope:Scope} {cl:List (Str × Addr)} {fp:List Addr} {C:Addr} {s2 s:Shared} {H2 H:Hp} {pl:List (Addr × Obj)} {σ:St}
end
section
variable {X:Cx} {pins:List (Addr × Obj)} {σ:St} {H:Hp} {s s' : Shared}
end
section
variable {X:Cx} {N:List Str} {scope:Scope} {cl:List (Str × Addr)} {fp:List Addr} {C:Addr} {s2:Shared} {H2:Hp} {pl:List (Addr × Obj)} {L:Addr} {E:XK}
end
section
variable {X:Cx} {elt iter tg:Expr} {ifs:List Expr} {pos:Pos} {scope:Scope} {cl:List (Str × Addr)} {N:List Str} {k:Nat} {fr:List Nat} {gt:TG} {tt:TT} {te:TE}
end
section
variable {P:Program} {w:World} {K:PySem.W.Frag} {mg:Str->Option Value} {base:Heap} {N:List Str} {qual:Str} {scope:Scope} {f:Addr} {cd:Value} {A:Around} {outer:List Env} {s0:Shared} {H0:Hp} {E:XK}
end
end L2
namespace L2
open PySem PySem.Spec PyProof.Rows
theorem iC:∀ {ns:List Int} {us:List Value},Vals (ns.map V.int) us->∃ xs:List (Int × Tok),us.toArray=intItems xs.toArray/\ns=xs.map (·.1)
 | [],_,.nil=>⟨[],by simp [intItems],rfl⟩
 | n :: ns,_,.cons ⟨t,e⟩ r=>by
  obtain ⟨xs,e1,e2⟩:=iC r
  refine ⟨(n,t) :: xs,?_,by rw [e2];rfl⟩
  subst e
  have e1':=congrArg Array.toList e1
  simp [intItems] at e1' ⊢
  exact e1'
section
variable {X:Cx}
theorem oM {xs:Array (Int × Tok)} {i:Nat} (h:i < xs.size):numAt xs i ∈ xs.toList.map (·.1):=by
 rw [numAt_eq];exact getD_mem (by rw [List.length_map,Array.length_toList];omega)
theorem eP (hc:X.calm=true):de X (.builtin "min") (fun us H Q=>∃ (a:Addr) (ns:List Int),us=[.ref a]/\SqL X.K H a (ns.map V.int)/\0 < ns.length/\∀ m,m ∈ ns->(∀ b ∈ ns,m<=b)->Q (.int m) H):=by
 intro pins s σ H us vs Q I r h
 obtain ⟨a,ns,rfl,hq,hne,q⟩:=h
 obtain ⟨u,rfl,rx⟩:=r.one
 cases (show u=Value.ref a from rx)
 obtain ⟨its,rv,pl,hz⟩:=I.list hq
 obtain ⟨xs,e1,e2⟩:=iC rv
 have hl:=pl.isList
 rw [e1] at hl
 have hsz:0 < xs.toArray.size:=by
  rw [e2,List.length_map] at hne;simpa using hne
 refine min_intList (I.ok.hd hc) hl hsz fun v h' tk hv hk=>?_
 obtain ⟨t,rfl⟩:=intItems_at hv
 obtain ⟨h1,h2⟩:=argBest_lt (numAt xs.toArray) (xs.toArray.size - 1)
 refine ⟨.int _,H,I.kept (t':=tk) fun b o e=>hk b o e,⟨t,rfl⟩,q _ ?_ fun b hb=>?_⟩
 ·rw [e2];exact oM (xs:=xs.toArray) (by omega)
 ·rw [e2] at hb
  obtain ⟨j,hj,rfl⟩:=mem_getD hb
  rw [List.length_map] at hj
  have z:=h2 j (by simp;omega)
  rw [numAt_eq] at z ⊢
  rw [numAt_eq] at z
  simpa using z
theorem eQ (hc:X.calm=true):de X (.builtin "max") (fun us H Q=>∃ (a:Addr) (ns:List Int),us=[.ref a]/\SqL X.K H a (ns.map V.int)/\0 < ns.length/\∀ m,m ∈ ns->(∀ b ∈ ns,b<=m)->Q (.int m) H):=by
 intro pins s σ H us vs Q I r h
 obtain ⟨a,ns,rfl,hq,hne,q⟩:=h
 obtain ⟨u,rfl,rx⟩:=r.one
 cases (show u=Value.ref a from rx)
 obtain ⟨its,rv,pl,hz⟩:=I.list hq
 obtain ⟨xs,e1,e2⟩:=iC rv
 have hl:=pl.isList
 rw [e1] at hl
 have hsz:0 < xs.toArray.size:=by
  rw [e2,List.length_map] at hne;simpa using hne
 refine max_intList (I.ok.hd hc) hl hsz fun v h' tk hv hk=>?_
 obtain ⟨t,rfl⟩:=intItems_at hv
 obtain ⟨h1,h2⟩:=argBest_gt (numAt xs.toArray) (xs.toArray.size - 1)
 refine ⟨.int _,H,I.kept (t':=tk) fun b o e=>hk b o e,⟨t,rfl⟩,q _ ?_ fun b hb=>?_⟩
 ·rw [e2];exact oM (xs:=xs.toArray) (by omega)
 ·rw [e2] at hb
  obtain ⟨j,hj,rfl⟩:=mem_getD hb
  rw [List.length_map] at hj
  have z:=h2 j (by simp;omega)
  rw [numAt_eq] at z ⊢
  rw [numAt_eq] at z
  simpa using z
end
def wH (P:Program) (w:World) (a:Addr) (ns:List Int):HO:=.ext fun h=>h.SetOf (intKind P w) a (fun z=>decide (z ∈ ns)) (cntK ns ns.length)
section
variable {X:Cx}
theorem mP:∀ {zs:List Int} {us:List Value},Vals (zs.map V.int) us->∀ (i:Nat) (v:Value),us[i]?=some v->∃ z t,zs[i]?=some z/\v=.int z t
 | [],_,.nil,i,v,h=>by simp at h
 | z :: zs,_,.cons ⟨t,e⟩ r,0,v,h=>by simp at h;exact ⟨z,t,rfl,by rw [← h,e]⟩
 | z :: zs,_,.cons _ r,i+1,v,h=>by
  obtain ⟨z',t,e1,e2⟩:=mP r i v (by simpa using h)
  exact ⟨z',t,by simpa using e1,e2⟩
theorem nZ (hc:X.calm=true):de X (.type "set") (fun xs H Q=>∃ (p:Addr) (zs:List Int),xs=[.ref p]/\SqL X.K H p (zs.map V.int)/\zs.length<=1000/\∀ l,H l=none->Q (.ref l) (upd H l (wH X.prog X.w l zs))):=by
 intro pins s σ H xs us Q I r h
 obtain ⟨p,zs,rfl,hS,hz,q⟩:=h
 obtain ⟨u,rfl,ru⟩:=r.one
 obtain rfl:u=Value.ref p:=ru
 obtain ⟨its,rv,pl,_⟩:=I.list hS
 have hl:=rv.length
 rw [List.length_map] at hl
 refine oJ (knd:=intKind X.prog X.w) (ks:=zs) (I.ok.hd hc) pl.isList (fun i v e=>?_) (by simpa using hl) (by unfold scanBound;simp;omega) fun h' tk x=>?_
 ·obtain ⟨z,t,e1,rfl⟩:=mP rv i v (by simpa using e)
  exact ⟨z,e1,by show Value.isInt z (.int z t)=true;simp [Value.isInt],rfl⟩
 ·obtain ⟨x1,x2⟩:=x
  refine ⟨.ref s.heap.objs.size,_,I.laid (a:=s.heap.objs.size) (o:=wH X.prog X.w s.heap.objs.size zs) (h':=h') (t':=tk) (fun b o q=>x2 b o (Heap.lt_size q) q) (Nat.le_refl _) ?_,rfl,q _ I.fresh⟩
  refine ⟨x1,?_,fun h1 h2 y k=>fE y k⟩
  obtain ⟨o,_,_,_,g,_⟩:=x1
  exact ⟨o,g⟩
theorem n6:de X (.builtin "len") (fun xs H Q=>∃ (l:Addr) (zs:List Int),xs=[.ref l]/\H l=some (wH X.prog X.w l zs)/\zs.length<=1000/\Q (.int ((cntK zs zs.length:Nat):Int)) H):=by
 intro pins s σ H xs us Q I r h
 obtain ⟨l,zs,rfl,e,hz,q⟩:=h
 obtain ⟨u,rfl,ru⟩:=r.one
 obtain rfl:u=Value.ref l:=ru
 obtain ⟨⟨o,es,ep,t,g1,g2,g3,_,_,_,g4,g5⟩,_,_⟩:=I.hok l _ e
 have le:=gF zs zs.length
 refine call_len_set g1 g2 g3 g4 (by rw [g5];omega) ⟨.int _,H,I.tok _,⟨_,rfl⟩,?_⟩
 rw [g5];exact q
end
theorem qP {κ:Type} [DecidableEq κ] {k:κ} {ks:List κ} : ∀ i,i<=ks.length->1<=cntK (k :: ks) (i+1)/\(cntK (k :: ks) (i+1)=1↔∀ x ∈ ks.take i,x=k)
 | 0,_=>by simp [cntK]
 | i+1,h=>by
  obtain ⟨h1,h2⟩:=qP (k:=k) (ks:=ks) i (by omega)
  have e:(k :: ks)[i+1]?=some ks[i]:=by simp
  have e' : ks[i]?=some ks[i]:=List.getElem?_eq_getElem (by omega)
  have et:ks.take (i+1)=ks.take i ++ [ks[i]]:=by rw [List.take_add_one,e'];rfl
  have e2:(k :: ks).take (i+1)=k :: ks.take i:=rfl
  rw [show cntK (k :: ks) (i+1+1)=match (k :: ks)[i+1]? with
   | some x=>if x ∈ (k :: ks).take (i+1) then cntK (k :: ks) (i+1) else cntK (k :: ks) (i+1)+1
   | none=>cntK (k :: ks) (i+1) from rfl,e,et,e2]
  dsimp only
  by_cases m:ks[i] ∈ k :: ks.take i
  ·rw [if_pos m]
   refine ⟨h1,h2.trans ⟨fun z x hx=>?_,fun z x hx=>z x (List.mem_append_left _ hx)⟩⟩
   rcases List.mem_append.mp hx with hx | hx
   ·exact z x hx
   ·have:x=ks[i]:=by simpa using hx
    rw [this]
    rcases List.mem_cons.mp m with m | m
    ·exact m
    ·exact z _ m
  ·rw [if_neg m]
   refine ⟨by omega,⟨fun z=>absurd z (by omega),fun z=>?_⟩⟩
   exact absurd (z ks[i] (List.mem_append_right _ (by simp))) fun q=>m (by rw [q];exact List.mem_cons_self)
theorem oN {κ:Type} [DecidableEq κ] {k:κ} {ks:List κ} : cntK (k :: ks) (k :: ks).length=1↔∀ x ∈ ks,x=k:=by
 have:=(qP (k:=k) (ks:=ks) ks.length (Nat.le_refl _)).2
 rw [List.take_length] at this
 exact this
end L2
namespace L2
open PySem PySem.Spec PyProof.Rows
section
variable {X:Cx}
def D9:V->List V->Hp->VK->Prop:=fun x vs H Q=>∃ z:Str,x=.str z/\vs=[]/\z.length<=1000/\Q (.str (Txt.upper z)) H
end
end L2
namespace L2
open PySem PySem.Spec PyProof.Rows
def TyG (K:PySem.W.Frag) (H:Hp) (x:V) (t:Value):Prop:=kh K H x t\/∃ a ys,x=.ref a/\SqT K H a ys/\t=.type "tuple"
inductive ClV:V->Value->Prop where
 | ty (T:String):ClV (.ty T) (.type T)
 | ref (C:Addr):ClV (.ref C) (.ref C)
section
variable {X:Cx}
theorem bH:de X (.builtin "isinstance") (fun xs H Q=>∃ x c cv t b,xs=[x,c]/\ClV c cv/\TyG X.K H x t/\PySem.W.kitOne X.K t cv=some b/\Q (.bl b) H):=by
 intro pins s σ H xs us Q I r h
 obtain ⟨x,c,cv,t,b,rfl,rc,ty,e,q⟩:=h
 cases r with
 | cons rx r2 =>
  cases r2 with
  | @cons _ cu _ _ ry r3 =>
   cases r3
   have ec:cu=cv:=by cases rc <;> exact ry
   subst ec
   rcases ty with ty | ⟨a,ys,rfl,hS,rfl⟩
   ·exact tF I rx ty e fun tk=>⟨.bl b,H,I.tok tk,rfl,q⟩
   ·cases (show _=Value.ref a from rx)
    obtain ⟨its,r,⟨o,h1,h2,_⟩,_⟩:=I.tuple hS
    exact PySem.W.kia_one PySem.W.kitx_tuple I.kIn ⟨o,h1,h2⟩ e (fun z=>nomatch z) fun tk=>⟨.bl b,H,I.tok tk,rfl,q⟩
end
structure mQ (K:PySem.W.Frag) (C:Addr):Prop where
 cl:Cls K C
 ha:PySem.W.findIn K (.ref C) "__class__" = some (some (.builtin "object.__class__"))
 hn:PySem.W.specialIn K (.builtin "object.__class__") "__get__" = some (some (.builtin "getset_descriptor.__get__"))
 tk:PySem.W.takesIn K (.builtin "object.__class__")=some true
 hm:PySem.W.mroIn K C (.type "object")=some true
theorem mQ.ty {K:PySem.W.Frag} {C:Addr} (h:mQ K C) {H:Hp} {a dx:Addr} {fs:List (Str × V)} (e:H a=some (.ins C dx fs)):TyG K H (.ref a) (.ref C):=.inl (.ins e h.cl h.ha h.hn h.tk h.hm)
def wI (CX:CXT) (P:Program) (w:World) (K:PySem.W.Frag) (mg:Str->Option Value) (base:Heap) (k:Nat) (m:Str) (ps:List Str) (cs:List (Addr × Sp)):Prop :=
 ∀ p ∈ cs,aV CX P w K mg base k p.1 m ps p.2/\Cls K p.1
section
variable {CX:CXT} {P:Program} {w:World} {K:PySem.W.Frag} {mg:Str->Option Value} {base:Heap} {k:Nat} {C:Addr} {m:Str} {ps:List Str} {sp:Sp} {cs:List (Addr × Sp)}
theorem A2:wI CX P w K mg base k m ps []:=fun _ h=>nomatch h
theorem qQ (M:aV CX P w K mg base k C m ps sp) (c:Cls K C) (r:wI CX P w K mg base k m ps cs):wI CX P w K mg base k m ps ((C,sp) :: cs):=fun p h=>by
 rcases List.mem_cons.mp h with rfl | h
 ·exact ⟨M,c⟩
 ·exact r p h
end
def Ea (cs:List (Addr × Sp)) (m:Str) (ta:TE) (t:TA):TE:=fun σ H Q=>ta σ H fun x H1=>∃ a p dx fs,x=.ref a/\p ∈ cs/\H1 a=some (.ins p.1 dx fs)/\fs.lookup m=none/\t σ H1 fun vs H2=>p.2 (x :: vs) H2 Q E0
section
variable {X:Cx} {CX:CXT} {k:Nat} {f C:Addr} {fd:FuncData} {ps:List Str} {sp:Sp} {x m:Str} {p np pos apos:Pos} {e o:Expr} {es:List Expr} {ta:TE} {t:TA} {cs:List (Addr × Sp)}
theorem uO {pl:Sem Bool} (M:wI CX X.prog X.w X.K X.mg X.base k m ps cs) (hx:Passes CX X E0) (hr:bZ k X.A) (he:PE X o ta) (ha:PA X (e :: es) t)
  (hst:starEach (e :: es) X.env=(false,eval e X.env) :: starEach es X.env:=by rfl) (hpl:(backTo pos (starEach es X.env)).any (·.1)=false:=by rfl)
  (ht:eval (.Call (.Attribute o m apos) (e :: es) [] pos) X.env=(do
   let ov ← eval o X.env
   standAt apos.atName
   let (f,first) ← holding [ov] (getMethod ov m pl)
   callWith pos f first (backTo pos (starEach (e :: es) X.env)) (backToKw pos (keywordEach [] X.env))):=by rfl) :
  PE X (.Call (.Attribute o m apos) (e :: es) [] pos) (Ea cs m ta t):=by
 intro pins s σ H Q I h
 refine PySem.W.methodCall_KW (pl:=pl) (thn (he pins s σ H _ I h) fun u s1 ⟨x,H1,I1,rx,a,p,dx,fs,ex,hp,ea,l,q⟩=>?_) ht
 obtain ⟨⟨f,fd,hm,F,hb⟩,c⟩:=M p hp
 subst ex
 obtain rfl:u=Value.ref a:=rx
 refine mC I1 ea c hm l ?_
 refine PySem.W.callWith_K (first:=[.ref a]) (h₀:=X.base) I.ok.mod.kin hm.kp (thn (ha pos pins s1 σ H1 _ I1 q) fun us s2 ⟨vs,H2,I2,r,q2⟩=>⟨I2.kIn,?_⟩) hst hpl
 exact wF (us:=.ref a :: us) (vs:=.ref a :: vs) F hr hb hx I2 (.cons rfl r) q2
theorem km (M:aP CX X.prog X.w X.K X.mg X.base k x C ps sp) (hx:Passes CX X E0) (hr:bZ (k+1) X.A) (hg:Gl X x) (hdb:(x == ("__debug__" : Str))=false:=by decide) :
  PE X (.Call (.Name x p) [] [] pos) (tMk C sp yn):=by
 obtain ⟨f,fd,M,F,hb,hm⟩:=M
 have h:=uE (E:=E0) (dvs:=[]) (ds:=[]) (p:=p) (pos:=pos) M F hr hg hm hb .nil hx hdb
 intro pins s σ H Q I q
 exact h pins s σ H Q I q
end
def ModT (K:PySem.W.Frag) (a:Addr) (xs:List V):Prop:=∃ (o:Obj) (its:Array Value) (n:Nat),K.lookup a=some o/\o.cls=.type "tuple" /\ o.data=.seq its n/\its.size<=sizeLine/\Vals xs its.toList
theorem ModT.sq {K:PySem.W.Frag} {a:Addr} {xs:List V} (h:ModT K a xs) (H:Hp):SqT K H a xs:=.inr h
theorem ModT.mk {K:PySem.W.Frag} {a:Addr} {xs:List V} {od:Option Addr} {its:Array Value} {n:Nat} {sl:Array (Option Value)} (h:K.lookup a=some ⟨.type "tuple",od,.seq its n,sl⟩) (hs:its.size<=sizeLine) (hv:Vals xs its.toList):ModT K a xs :=
 ⟨_,its,n,h,rfl,rfl,hs,hv⟩
end L2
namespace L2
open PySem PySem.Spec PyProof.Rows
theorem av.seqT {K:PySem.W.Frag} {H H' : Hp} {a:Addr} {xs:List V} (e:av H H') (h:SqT K H a xs):SqT K H' a xs:=by
 rcases h with (h | ⟨o,h⟩) | h
 ·exact .inl (.inl (e _ _ h))
 ·exact .inl (.inr ⟨o,e _ _ h⟩)
 ·exact .inr h
theorem dD {c A B:Prop} [Decidable c] (hc:c) (h:A):if decide c=true then A else B:=by rw [if_pos (decide_eq_true hc)];exact h
theorem bL {c A B:Prop} [Decidable c] (hc:¬ c) (h:B):if decide c=true then A else B:=by rw [if_neg (by rw [decide_eq_false hc];decide)];exact h
end L2
namespace L2
open PySem PySem.Spec PyProof.Rows
def Qg (cs:List (Addr × Sp)) (m:Str) (E:XK) (ta:TE) (t:TA):TE:=fun σ H Q=>ta σ H fun x H1=>∃ a p dx fs,x=.ref a/\p ∈ cs/\H1 a=some (.ins p.1 dx fs)/\fs.lookup m=none/\t σ H1 fun vs H2=>p.2 (x :: vs) H2 Q E
section
variable {X:Cx} {CX:CXT} {k:Nat} {ps:List Str} {m:Str} {pos apos:Pos} {e o:Expr} {es:List Expr} {ta:TE} {t:TA} {cs:List (Addr × Sp)} {E:XK}
end
end L2
namespace L2
open PySem PySem.Spec PyProof.Rows
section
variable {X:Cx} {pins:List (Addr × Obj)} {σ:St} {H:Hp} {s:Shared} {h' : Heap}
theorem Inv.turnedPair {ch:List Addr} {T:Addr} {x y:V} {u v:Value} (I:Inv X pins σ H s) (hf:∀ b ∈ ch,iu X pins H b) (k:∀ b o,b ∉ ch->s.heap.get? b=some o->h'.get? b=some o)
  (nT:s.heap.get? T=none) (hT:H T=none) (gT:IsPair h' T u v) (rx:RelV x u) (ry:RelV y v):Inv X pins σ (upd H T (.tup [x,y])) { s with heap:=h' }:=by
 have out:∀ b u,H b=some u->b ∉ ch:=fun b u e z=>by
  have f:=(hf b z).1
  rw [f] at e
  cases e
 have neT:∀ {b o},s.heap.get? b=some o->b ≠ T:=fun e z=>by rw [z,nT] at e;cases e
 have neH:∀ {b u},H b=some u->b ≠ T:=fun e z=>by rw [z,hT] at e;cases e
 have J:=Inv.step (H':=upd H T (.tup [x,y])) (h':=h') (g':=s.gens) (d':=s.drawn) (t':=s.toks) (ch:=ch) I
  (fun b hb=>by obtain ⟨_,f1,_,f3,f4,f5⟩:=hf b hb;exact ⟨f3,f1,f4,f5⟩)
  (fun b o _ _ hc e _=>k b o hc e)
  (fun b o _ _ hc e _=>⟨o.slots,k b o hc e⟩)
  (fun b o _ e n=>by rw [aC (neT e)];exact n)
  (fun b o hc e=>⟨o,k b o hc e⟩)
  (fun b xs e=>by rw [aC (neH e)];exact e)
  (fun b o w e=>by rw [aC (neH e)];exact e)
  (fun b ps e=>⟨#[],by rw [aC (neH e),e];simp⟩)
  (fun m hm=>by
   obtain ⟨o,es,ep,ho,r⟩:=hm
   refine ⟨o,es,ep,k _ o (fun z=>?_) ho,r⟩
   obtain ⟨_,f1,_⟩:=hf _ z
   exact f1 rfl)
  (fun b w e=>by
   by_cases hb:b=T
   ·subst hb
    rw [ae] at e
    cases e
    exact ⟨by show 2<=sizeLine;decide,[u,v],.cons rx (.cons ry .nil),_,gT,rfl,_,rfl⟩
   ·rw [aC hb] at e
    refine (I.hok b w e).stay (fun c z hc q=>k c z ?_ q) (fun c q=>?_) fun c xs q=>?_
    ·rcases hc with z | z
     ·rw [z];exact out b w e
     ·exact out c _ z
    ·rw [aC (neH q)];exact q
    ·rw [aC (neH q)];exact q)
  I.bare
 exact J
theorem Inv.turnedL {ch:List Addr} (I:Inv X pins σ H s) (hf:∀ b ∈ ch,iu X pins H b) (k:∀ b o,b ∉ ch->s.heap.get? b=some o->h'.get? b=some o):Inv X pins σ H { s with heap:=h' }:=by
 have out:∀ b u,H b=some u->b ∉ ch:=fun b u e z=>by
  have f:=(hf b z).1
  rw [f] at e
  cases e
 have J:=Inv.step (H':=H) (h':=h') (g':=s.gens) (d':=s.drawn) (t':=s.toks) (ch:=ch) I
  (fun b hb=>by obtain ⟨_,f1,_,f3,f4,f5⟩:=hf b hb;exact ⟨f3,f1,f4,f5⟩)
  (fun b o _ _ hc e _=>k b o hc e)
  (fun b o _ _ hc e _=>⟨o.slots,k b o hc e⟩)
  (fun b o _ _ n=>n)
  (fun b o hc e=>⟨o,k b o hc e⟩)
  (fun b xs e=>e) (fun b o w e=>e) (fun b ps e=>⟨#[],by rw [e];simp⟩)
  (fun m hm=>by
   obtain ⟨o,es,ep,ho,r⟩:=hm
   refine ⟨o,es,ep,k _ o (fun z=>?_) ho,r⟩
   obtain ⟨_,f1,_⟩:=hf _ z
   exact f1 rfl)
  (fun b w e=>by
   refine (I.hok b w e).stay (fun c z hc q=>k c z ?_ q) (fun c q=>q) fun c xs q=>q
   rcases hc with z | z
   ·rw [z];exact out b w e
   ·exact out c _ z)
  I.bare
 exact J
end
def Itz (K:PySem.W.Frag) (a b:Addr):It :=
 ⟨fun i H=>∃ xs ys x y,SqL K H a xs/\SqL K H b ys/\xs[i]?=some x/\ys[i]?=some y,
 fun i H v H'=>∃ T,H T=none/\v=.ref T/\∀ xs ys x y,SqL K H a xs->SqL K H b ys->xs[i]?=some x->ys[i]?=some y->H'=upd H T (.tup [x,y]),
 fun i H=>∃ xs ys,SqL K H a xs/\SqL K H b ys/\(xs.length<=i\/ys.length<=i)⟩
def xB (z TI TO i1 i2 a b:Addr) (i:Nat) (h:Heap):Prop:=IsZip h z TI TO .none/\IsPair h TI (.ref i1) (.ref i2)/\(∃ p q,IsPair h TO p q)/\h.IsListIter i1 a i/\h.IsListIter i2 b i
theorem uP {P:Program} {w:World} {K:PySem.W.Frag} {elts:List Expr} {x1} {tp:Pos} {z TI TO i1 i2 a b:Addr} (D:ZipApart z TI TO i1 i2 a b) :
  Turn P w K (.Tuple elts x1 tp) (Itz K a b) [z,TI,TO,i1,i2] z (xB z TI TO i1 i2 a b) where
 mem:=by simp
 obj:=fun i h st c hc=>by
  obtain ⟨g1,g2,⟨p,q,g3⟩,⟨o4,g4,_,d4⟩,⟨o5,g5,_,d5⟩⟩:=st
  simp only [List.mem_cons,List.not_mem_nil,or_false] at hc
  rcases hc with rfl | rfl | rfl | rfl | rfl
  ·exact ⟨_,g1,fun v q=>nomatch q⟩
  ·exact ⟨_,g2,fun v q=>nomatch q⟩
  ·exact ⟨_,g3,fun v q=>nomatch q⟩
  ·exact ⟨_,g4,fun v q=>by rw [d4] at q;cases q⟩
  ·exact ⟨_,g5,fun v q=>by rw [d5] at q;cases q⟩
 keep:=fun i h h' st k=>by
  obtain ⟨g1,g2,⟨p,q,g3⟩,g4,g5⟩:=st
  exact ⟨k z (by simp) _ g1,k TI (by simp) _ g2,⟨p,q,k TO (by simp) _ g3⟩,g4.at fun o e=>k i1 (by simp) o e,g5.at fun o e=>k i2 (by simp) o e⟩
 item:=by
  intro X hP hw hK hc i pins s σ H E I hf st hg
  subst hP hw hK
  obtain ⟨xs,ys,x,y,qa,qb,ex,ey⟩:=hg
  obtain ⟨g1,g2,⟨p,q,g3⟩,g4,g5⟩:=st
  obtain ⟨us,ru,pu,_⟩:=I.list qa
  obtain ⟨vs,rv,pv,_⟩:=I.list qb
  obtain ⟨u,eu,r1⟩:=ru.get ex
  obtain ⟨v,ev,r2⟩:=rv.get ey
  refine wpAny_pyNext_zip_item D g1 g2 g3 g4 g5 pu.isList pv.isList (x:=u) (y:=v) (by simpa using eu) (by simpa using ev) fun h1 a1 a2 a3 a4 a5 a6 a7=>?_
  refine ⟨_,rfl,wpAny_letOwnedTupleGo_zip (s:={ s with heap:=h1 }) a1 fun h2 b1 b2=>?_⟩
  have nT:s.heap.get? s.heap.objs.size=none:=by
   cases q:s.heap.get? s.heap.objs.size with
   | none=>rfl
   | some o=>exact absurd (Heap.lt_size q) (Nat.lt_irrefl _)
  have hT:H s.heap.objs.size=none:=I.hok.fresh (Nat.le_refl _)
  have nz:s.heap.objs.size ≠ z:=Nat.ne_of_gt (Heap.lt_size g1)
  have kk:∀ c o,c ∉ [z,TO,i1,i2]->s.heap.get? c=some o->h2.get? c=some o:=fun c o hc e=>by
   simp only [List.mem_cons,List.not_mem_nil,or_false,not_or] at hc
   exact b2.extBut _ _ hc.1 (a7 c o hc.1 hc.2.1 hc.2.2.1 hc.2.2.2 e)
  have J:=I.turnedPair (h':=h2) (ch:=[z,TO,i1,i2]) (T:=s.heap.objs.size) (x:=x) (y:=y) (u:=u) (v:=v) (fun c hc=>hf c (by simp at hc ⊢;rcases hc with e | e | e | e <;> simp [e])) kk nT hT (b2.extBut _ _ nz a5) r1 r2
  refine ⟨.ref s.heap.objs.size,upd H s.heap.objs.size (.tup [x,y]),J,rfl,⟨_,hT,rfl,fun xs' ys' x' y' q1 q2 e1 e2=>?_⟩,⟨b1,b2.extBut _ _ D.TIz (a7 TI _ D.TIz D.TITO D.TIi1 D.TIi2 g2),⟨_,_,b2.extBut _ _ D.TOz a2⟩,a3.extBut b2.extBut D.i1z,a4.extBut b2.extBut D.i2z⟩,fun c hc=>?_⟩
  ·rw [I.list_inj q1 qa] at e1
   rw [I.list_inj q2 qb] at e2
   rw [ex] at e1;rw [ey] at e2
   cases e1;cases e2
   rfl
  ·have h0:=(hf c hc).1
   have:c ≠ s.heap.objs.size:=by
    obtain ⟨o4,g4',_⟩:=g4
    obtain ⟨o5,g5',_⟩:=g5
    simp only [List.mem_cons,List.not_mem_nil,or_false] at hc
    rcases hc with rfl | rfl | rfl | rfl | rfl
    ·exact nz.symm
    ·exact Nat.ne_of_lt (Heap.lt_size g2)
    ·exact Nat.ne_of_lt (Heap.lt_size g3)
    ·exact Nat.ne_of_lt (Heap.lt_size g4')
    ·exact Nat.ne_of_lt (Heap.lt_size g5')
   rw [aC this];exact h0
 done:=by
  intro X hP hw hK hc i pins s σ H E I hf st hg
  subst hP hw hK
  obtain ⟨xs,ys,qa,qb,hl⟩:=hg
  obtain ⟨g1,g2,⟨p,q,g3⟩,g4,g5⟩:=st
  obtain ⟨us,ru,pu,_⟩:=I.list qa
  obtain ⟨vs,rv,pv,_⟩:=I.list qb
  have l1:=ru.length
  have l2:=rv.length
  refine wpAny_pyNext_zip_end (I.ok.hd hc) D g1 g2 g3 g4 g5 pu.isList pv.isList ?_ fun h2 k=>⟨rfl,I.turnedL (ch:=[z,TO,i1,i2]) (fun c hc=>hf c (by simp at hc ⊢;rcases hc with e | e | e | e <;> simp [e])) fun c o hc e=>?_⟩
  ·rcases hl with hl | hl
   ·exact .inl (by simp;omega)
   ·exact .inr (by simp;omega)
  ·simp only [List.mem_cons,List.not_mem_nil,or_false,not_or] at hc
   exact k c o hc.1 hc.2.1 hc.2.2.1 hc.2.2.2 e
 self:=fun _ _ _ _ _ st h=>wpAny_pyIter_zip st.1 h
def Eb (K:PySem.W.Frag) (ta:TA):TI:=fun σ H R=>ta σ H fun vs H1=>∃ a b,vs=[.ref a,.ref b]/\(∃ xs,SqL K H1 a xs)/\(∃ ys,SqL K H1 b ys)/\R (Itz K a b) H1
section
variable {X:Cx}
theorem iD {e1 e2:Expr} {ta:TA} {p pos:Pos} {elts:List Expr} {x1} {tp:Pos} (hg:Gl X "zip") (hm:X.mg "zip" = none) (ha:PA X [e1,e2] ta)
  (hs:starEach [e1,e2] X.env=[(false,eval e1 X.env),(false,eval e2 X.env)]:=by rfl) (hs2:starEach [e2] X.env=[(false,eval e2 X.env)]:=by rfl) :
  PI X (.Tuple elts x1 tp) (.Call (.Name "zip" p) [e1,e2] [] pos) (Eb X.K ta):=by
 intro pins s σ H R I h
 refine Call_ (fw I hg hm PyProof.Rows.boot_zip (PyProof.Rows.callWith_type1 (thn (ha pos pins s σ H _ I h) fun us s1 ⟨vs,H1,I1,r1,q1⟩=>?_) (by rw [hs,hs2]) (by rw [hs2];rfl)))
 obtain ⟨a,b,rfl,⟨xs,qa⟩,⟨ys,qb⟩,q⟩:=q1
 obtain ⟨u,v,rfl,ru,rv⟩:=r1.two
 cases (show u=Value.ref a from ru)
 cases (show v=Value.ref b from rv)
 obtain ⟨us,_,pu,_⟩:=I1.list qa
 obtain ⟨vs,_,pv,_⟩:=I1.list qb
 obtain ⟨oa,ea,_⟩:=id pu.isList
 obtain ⟨ob,eb,_⟩:=id pv.isList
 have la:a < s1.heap.objs.size:=Heap.lt_size ea
 have lb:b < s1.heap.objs.size:=Heap.lt_size eb
 refine call_zip_2 pu.isList pv.isList fun h' z1 z2 z3 z4 z5 z6 z7=>?_
 refine wpAny_pyIter_zip (s:={ s1 with heap:=h' }) z1 ?_
 refine ⟨s1.heap.objs.size+4,[s1.heap.objs.size+4,s1.heap.objs.size+2,s1.heap.objs.size+3,s1.heap.objs.size,s1.heap.objs.size+1],xB (s1.heap.objs.size+4) (s1.heap.objs.size+2) (s1.heap.objs.size+3) s1.heap.objs.size (s1.heap.objs.size+1) a b,Itz X.K a b,H1,rfl,I1.kept (t':=s1.toks) z7,uP ?_,⟨z1,z2,⟨_,_,z3⟩,z4,z5⟩,fun c hc=>?_,q⟩
 ·refine ⟨?_,?_,?_,?_,?_,?_,?_,?_,?_,?_,?_,?_,?_,?_,?_,?_,?_,?_⟩ <;> first | exact Nat.ne_of_lt (by omega) | exact Nat.ne_of_gt (by omega) | exact Nat.ne_of_lt la | exact Nat.ne_of_lt lb | exact Nat.ne_of_lt (Nat.lt_of_lt_of_le la (Nat.le_add_right _ _)) | exact Nat.ne_of_lt (Nat.lt_of_lt_of_le lb (Nat.le_add_right _ _))
 ·have hc' : s1.heap.objs.size<=c:=by
   simp only [List.mem_cons,List.not_mem_nil,or_false] at hc
   rcases hc with rfl | rfl | rfl | rfl | rfl <;> omega
  exact I1.fpOk hc' (I1.hok.fresh hc')
end
theorem lQ {K:PySem.W.Frag} {a b:Addr} {xs ys:List V} {g:TG} {tb:TS} {D:Ends} {σ:St} {H:Hp} (Pv:Nat->St->Hp->Prop) (h0:Pv 0 σ H) (hl:∀ i σ H,Pv i σ H->SqL K H a xs/\SqL K H b ys)
  (hs:∀ i x y σ H T,xs[i]?=some x->ys[i]?=some y->Pv i σ H->H T=none->g (.ref T) σ (upd H T (.tup [x,y])) fun σ2 H2=>tb { D with nx:=Pv (i+1),ct:=Pv (i+1),bk:=D.nx } σ2 H2)
  (hd:∀ σ H,Pv (min xs.length ys.length) σ H->D.nx σ H) :
  ∃ W:Nat->Nat->St->Hp->Prop,(∃ m,W 0 m σ H)/\∀ i m σ H,W i m σ H ->
   ((Itz K a b).stop i H/\D.nx σ H)\/((Itz K a b).go i H/\∃ N:St->Hp->Prop,(∀ σ' H',N σ' H'->∃ m',m' < m/\W (i+1) m' σ' H')/\∀ x H',(Itz K a b).yld i H x H'->g x σ H' fun σ2 H2=>tb { D with nx:=N,ct:=N,bk:=D.nx } σ2 H2):=by
 refine ⟨fun i m σ H=>m=min xs.length ys.length - i/\i<=min xs.length ys.length/\Pv i σ H,⟨min xs.length ys.length,by simp,Nat.zero_le _,h0⟩,?_⟩
 rintro i m σ H ⟨rfl,hi,p⟩
 obtain ⟨q1,q2⟩:=hl i σ H p
 by_cases lt:i < min xs.length ys.length
 ·have e1:xs[i]?=some xs[i]:=List.getElem?_eq_getElem (by omega)
  have e2:ys[i]?=some ys[i]:=List.getElem?_eq_getElem (by omega)
  refine .inr ⟨⟨xs,ys,_,_,q1,q2,e1,e2⟩,Pv (i+1),fun σ' H' p'=>⟨_,?_,rfl,lt,p'⟩,fun v H' yl=>?_⟩
  ·omega
  ·obtain ⟨T,hT,rfl,e⟩:=yl
   rw [e xs ys _ _ q1 q2 e1 e2]
   exact hs i _ _ σ H T e1 e2 p hT
 ·have e:i=min xs.length ys.length:=by omega
  subst e
  exact .inl ⟨⟨xs,ys,q1,q2,by omega⟩,hd σ H p⟩
end L2
namespace L2
open PySem PySem.Spec PyProof.Rows
section
variable {X:Cx}
end
theorem qR {a b:Int} {m n:Nat} (ha:a.natAbs < 2 ^ m) (hb:b.natAbs < 2 ^ n) (hm:m<=2 ^ 20) (hn:n<=2 ^ 20):IntMulOk a b :=
 .of_bits (Nat.le_trans (PyProof.Rows.intBits_le ha) hm) (Nat.le_trans (PyProof.Rows.intBits_le hb) hn)
end L2
namespace L2
open PySem PySem.Spec PyProof.Rows
theorem n8 {X:Cx} {K:PySem.W.Frag} (h:X.K=K):de X (.type "list") (fun xs H Q=>∃ p ys,xs=[.ref p]/\(SqL K H p ys\/SqT K H p ys)/\∀ l,H l=none->Q (.ref l) (upd H l (.lst ys))):=h ▸ cB
end L2
namespace L2
open PySem PySem.Spec PyProof.Rows
def Ite (K:PySem.W.Frag) (a:Addr):It :=
 ⟨fun i H=>∃ xs x,SqL K H a xs/\xs[i]?=some x,
 fun i H v H'=>∃ T,H T=none/\v=.ref T/\∀ xs x,SqL K H a xs->xs[i]?=some x->H'=upd H T (.tup [.int i,x]),
 fun i H=>∃ xs,SqL K H a xs/\xs.length<=i⟩
def uQ (e it a:Addr) (i:Nat) (h:Heap):Prop:=(∃ old,IsEnum h e it i old)/\h.IsListIter it a i
theorem tS {P:Program} {w:World} {K:PySem.W.Frag} {elts:List Expr} {x1} {tp:Pos} {e it a:Addr} (hne:e ≠ it) :
  Turn P w K (.Tuple elts x1 tp) (Ite K a) [e,it] e (uQ e it a) where
 mem:=by simp
 obj:=fun i h st c hc=>by
  obtain ⟨⟨old,g1⟩,⟨o2,g2,_,d2⟩⟩:=st
  simp only [List.mem_cons,List.not_mem_nil,or_false] at hc
  rcases hc with rfl | rfl
  ·exact ⟨_,g1,fun v q=>nomatch q⟩
  ·exact ⟨_,g2,fun v q=>by rw [d2] at q;cases q⟩
 keep:=fun i h h' st k=>by
  obtain ⟨⟨old,g1⟩,g2⟩:=st
  exact ⟨⟨old,k e (by simp) _ g1⟩,g2.at fun o q=>k it (by simp) o q⟩
 item:=by
  intro X hP hw hK hc i pins s σ H E I hf st hg
  subst hP hw hK
  obtain ⟨xs,x,qa,ex⟩:=hg
  obtain ⟨⟨old,g1⟩,g2⟩:=st
  obtain ⟨us,ru,pu,_⟩:=I.list qa
  obtain ⟨u,eu,r1⟩:=ru.get ex
  refine wpAny_pyNext_enum_item g1 g2 pu.isList (x:=u) (by simpa using eu) hne fun h1 a1 a2 a3 a4 a5=>?_
  refine ⟨_,rfl,wpAny_letOwnedTupleGo_enum (s:={ s with heap:=h1,toks:=s.toks+1 }) a1 fun h2 b1 b2=>?_⟩
  have nT:s.heap.get? s.heap.objs.size=none:=by
   cases q:s.heap.get? s.heap.objs.size with
   | none=>rfl
   | some o=>exact absurd (Heap.lt_size q) (Nat.lt_irrefl _)
  have hT:H s.heap.objs.size=none:=I.hok.fresh (Nat.le_refl _)
  have nz:s.heap.objs.size ≠ e:=Nat.ne_of_gt (Heap.lt_size g1)
  have kk:∀ c o,c ∉ [e,it]->s.heap.get? c=some o->h2.get? c=some o:=fun c o hc q=>by
   simp only [List.mem_cons,List.not_mem_nil,or_false,not_or] at hc
   exact b2.extBut _ _ hc.1 (a5 c o hc.1 hc.2 q)
  have J:=I.turnedPair (h':=h2) (ch:=[e,it]) (T:=s.heap.objs.size) (x:=.int i) (y:=x) (u:=.int i s.toks) (v:=u) (fun c hc=>hf c (by simp at hc ⊢;rcases hc with q | q <;> simp [q])) kk nT hT (b2.extBut _ _ nz a3) ⟨_,rfl⟩ r1
  refine ⟨.ref s.heap.objs.size,upd H s.heap.objs.size (.tup [.int i,x]),J.tok _,rfl,⟨_,hT,rfl,fun xs' x' q1 e1=>?_⟩,⟨⟨_,b1⟩,a2.extBut b2.extBut hne.symm⟩,fun c hc=>?_⟩
  ·rw [I.list_inj q1 qa,ex] at e1
   cases e1
   rfl
  ·have h0:=(hf c hc).1
   have:c ≠ s.heap.objs.size:=by
    obtain ⟨o2,g2',_⟩:=g2
    simp only [List.mem_cons,List.not_mem_nil,or_false] at hc
    rcases hc with rfl | rfl
    ·exact nz.symm
    ·exact Nat.ne_of_lt (Heap.lt_size g2')
   rw [aC this];exact h0
 done:=by
  intro X hP hw hK hc i pins s σ H E I hf st hg
  subst hP hw hK
  obtain ⟨xs,qa,hl⟩:=hg
  obtain ⟨⟨old,g1⟩,g2⟩:=st
  obtain ⟨us,ru,pu,_⟩:=I.list qa
  have l1:=ru.length
  refine wpAny_pyNext_enum_end (I.ok.hd hc) g1 g2 pu.isList (by simp;omega) fun h2 k=>⟨rfl,I.turnedL (ch:=[e,it]) (fun c hc=>hf c (by simp at hc ⊢;rcases hc with q | q <;> simp [q])) fun c o hc q=>?_⟩
  simp only [List.mem_cons,List.not_mem_nil,or_false,not_or] at hc
  exact k c o hc.2 q
 self:=fun _ _ _ _ _ st h=>let ⟨⟨_,g⟩,_⟩:=st;wpAny_pyIter_enum g h
def A3 (K:PySem.W.Frag) (ta:TA):TI:=fun σ H R=>ta σ H fun vs H1=>∃ a,vs=[.ref a]/\(∃ xs,SqL K H1 a xs)/\R (Ite K a) H1
section
variable {X:Cx}
theorem lR {e1:Expr} {ta:TA} {p pos:Pos} {elts:List Expr} {x1} {tp:Pos} (hg:Gl X "enumerate") (hm:X.mg "enumerate" = none) (ha:PA X [e1] ta)
  (hs:starEach [e1] X.env=[(false,eval e1 X.env)]:=by rfl) :
  PI X (.Tuple elts x1 tp) (.Call (.Name "enumerate" p) [e1] [] pos) (A3 X.K ta):=by
 intro pins s σ H R I h
 refine Call_ (fw I hg hm PyProof.Rows.boot_enumerate (PyProof.Rows.callWith_type1 (thn (ha pos pins s σ H _ I h) fun us s1 ⟨vs,H1,I1,r1,q1⟩=>?_) (by rw [hs];rfl) rfl))
 obtain ⟨a,rfl,⟨xs,qa⟩,q⟩:=q1
 obtain ⟨u,rfl,ru⟩:=r1.one
 cases (show u=Value.ref a from ru)
 obtain ⟨us,_,pu,_⟩:=I1.list qa
 refine call_enumerate_list pu.isList fun h' z1 z2 z3 z4=>?_
 refine wpAny_pyIter_enum (s:={ s1 with heap:=h' }) z1 ?_
 refine ⟨s1.heap.objs.size+1,[s1.heap.objs.size+1,s1.heap.objs.size],uQ (s1.heap.objs.size+1) s1.heap.objs.size a,Ite X.K a,H1,rfl,I1.kept (t':=s1.toks) z4,tS (Nat.ne_of_gt (Nat.lt_succ_self _)),⟨⟨_,z1⟩,z2⟩,fun c hc=>?_,q⟩
 have hc' : s1.heap.objs.size<=c:=by
  simp only [List.mem_cons,List.not_mem_nil,or_false] at hc
  rcases hc with rfl | rfl
  ·exact Nat.le_succ _
  ·exact Nat.le_refl _
 exact I1.fpOk hc' (I1.hok.fresh hc')
end
section
variable {gt:TG} {k:Nat} {fr:List Nat} {tt:TT} {te:TE}
theorem rO {K:PySem.W.Frag} {a:Addr} {xs:List V} {σ:St} {H1:Hp} {Q:VK} (Pv:Addr->Nat->List V->Hp->Prop) (h0:∀ D,H1 D=none->Pv D 0 [] (upd H1 D (.lst [])))
  (hk:∀ D i ys H,H1 D=none->i<=xs.length->Pv D i ys H->SqL K H a xs)
  (hs:∀ D i x ys H T,H1 D=none->xs[i]?=some x->Pv D i ys H->H T=none->∀ ts:St,ts.length=k->gt (.ref T) (bW σ fr ts) (upd H T (.tup [.int i,x])) fun σ2 H2=>(∃ ts2:St,ts2.length=k/\σ2=bW σ fr ts2)/\tt σ2 H2 fun b H3=>if b=true then te σ2 H3 (dB Pv D i xs.length) else fV Pv D i xs.length H3)
  (hd:∀ D ys H,H1 D=none->Pv D xs.length ys H->Q (.ref D) H):gD (Ite K a) gt k fr tt te σ Q H1:=by
 intro D hD
 refine ⟨fun i m H=>m=xs.length - i/\i<=xs.length/\∃ ys,Pv D i ys H,⟨_,rfl,Nat.zero_le _,[],h0 D hD⟩,?_⟩
 rintro i m H ⟨rfl,hi,ys,p⟩
 have q:=hk D i ys H hD hi p
 by_cases hlt:i < xs.length
 ·have ex:xs[i]?=some xs[i]:=List.getElem?_eq_getElem hlt
  refine .inr ⟨⟨xs,xs[i],q,ex⟩,fun x H' y=>?_⟩
  obtain ⟨T,hT,rfl,e⟩:=y
  rw [e xs _ q ex]
  exact hs D i _ ys _ T hD ex p hT
 ·have e:i=xs.length:=by omega
  subst e
  exact .inl ⟨⟨xs,q,Nat.le_refl _⟩,hd D ys H hD p⟩
theorem kn {K:PySem.W.Frag} {a b:Addr} {xs ys:List V} {σ:St} {H1:Hp} {Q:VK} (Pv:Addr->Nat->List V->Hp->Prop) (h0:∀ D,H1 D=none->Pv D 0 [] (upd H1 D (.lst [])))
  (hk:∀ D i zs H,H1 D=none->i<=min xs.length ys.length->Pv D i zs H->SqL K H a xs/\SqL K H b ys)
  (hs:∀ D i x y zs H T,H1 D=none->xs[i]?=some x->ys[i]?=some y->Pv D i zs H->H T=none->∀ ts:St,ts.length=k->gt (.ref T) (bW σ fr ts) (upd H T (.tup [x,y])) fun σ2 H2=>(∃ ts2:St,ts2.length=k/\σ2=bW σ fr ts2)/\tt σ2 H2 fun b H3=>if b=true then te σ2 H3 (dB Pv D i (min xs.length ys.length)) else fV Pv D i (min xs.length ys.length) H3)
  (hd:∀ D zs H,H1 D=none->Pv D (min xs.length ys.length) zs H->Q (.ref D) H):gD (Itz K a b) gt k fr tt te σ Q H1:=by
 intro D hD
 refine ⟨fun i m H=>m=min xs.length ys.length - i/\i<=min xs.length ys.length/\∃ zs,Pv D i zs H,⟨_,rfl,Nat.zero_le _,[],h0 D hD⟩,?_⟩
 rintro i m H ⟨rfl,hi,zs,p⟩
 obtain ⟨q1,q2⟩:=hk D i zs H hD hi p
 by_cases hlt:i < min xs.length ys.length
 ·have ex:xs[i]?=some xs[i]:=List.getElem?_eq_getElem (by omega)
  have ey:ys[i]?=some ys[i]:=List.getElem?_eq_getElem (by omega)
  refine .inr ⟨⟨xs,ys,xs[i],ys[i],q1,q2,ex,ey⟩,fun x H' y=>?_⟩
  obtain ⟨T,hT,rfl,e⟩:=y
  rw [e xs ys _ _ q1 q2 ex ey]
  exact hs D i _ _ zs _ T hD ex ey p hT
 ·have e:i=min xs.length ys.length:=by omega
  subst e
  exact .inl ⟨⟨xs,ys,q1,q2,by omega⟩,hd D zs H hD p⟩
end
theorem fY {X:Cx} {N:List Str} {k:Nat} {fr:List Nat} {scope:Scope} {cl:List (Str × Addr)} (clos:closureFor scope X.env=pure cl) (kind:scope.kind=.function) (nocell:∀ y ∈ scope.names,y.2 ≠ .cell)
  (names:∀ y ∈ scope.names,y.2=.local->scope.names.lookup y.1=some .local) (len:N.length=k+fr.length)
  (sub:((List.range fr.length).all fun i=>match N[k+i]?,fr[i]? with | some y,some j=>(X.N[j]? == some y) && ((X.env.kindOf y == some .cell) && ((relabel scope X.env).names.lookup y == some .cell)) | _,_=>false)=true)
  (cells:∀ p ∈ cl,X.env.cells.lookup p.1=some p.2) (has:((relabel scope X.env).names.all fun p=>(p.2 != .cell && p.2 != .free) || (cl.lookup p.1).isSome)=true):mI X N k fr scope cl:=by
 refine ⟨clos,kind,nocell,names,len,fun i y e=>?_,fun y c e=>cells _ (PySem.mem_of_lookup e),fun y h=>?_⟩
 ·have hi:i < fr.length:=by have:=(List.getElem?_eq_some_iff.mp e).1;omega
  have z:=List.all_eq_true.mp sub i (List.mem_range.mpr hi)
  rw [e,List.getElem?_eq_getElem hi] at z
  simp only [Bool.and_eq_true,beq_iff_eq] at z
  exact ⟨_,List.getElem?_eq_getElem hi,z.1,.inl z.2.1,.inl z.2.2⟩
 ·have look:∀ k,(relabel scope X.env).names.lookup y=some k->(k=.cell\/k=.free)->∃ c,cl.lookup y=some c:=fun k e hk=>by
   have z:=List.all_eq_true.mp has _ (PySem.mem_of_lookup e)
   rcases hk with rfl | rfl
   ·exact Option.isSome_iff_exists.mp (by simpa using z)
   ·exact Option.isSome_iff_exists.mp (by simpa using z)
  rcases h with h | h
  ·exact look _ h (.inl rfl)
  ·exact look _ h (.inr rfl)
theorem uR (bs:List Bool):(List.range bs.length).all (fun i=>bs.getD i true)=bs.all id:=by
 rw [Bool.eq_iff_iff,List.all_eq_true,List.all_eq_true]
 constructor
 ·intro h b hb
  obtain ⟨i,hi,rfl⟩:=List.getElem_of_mem hb
  have:=h i (List.mem_range.mpr hi)
  simpa [List.getD_eq_getElem?_getD,hi] using this
 ·intro h i hi
  have hi':=List.mem_range.mp hi
  have:=h bs[i] (List.getElem_mem hi')
  simpa [List.getD_eq_getElem?_getD,hi'] using this
section
variable {X:Cx}
theorem tT {K:PySem.W.Frag} (hK:X.K=K) {a:Expr} {ta:TE} (ha:PE X a ta) (he:∀ whole,isTrue a X.env whole=(do let v ← whole;standAt a.pos;holding [v] (truthy v)):=by intro _;rfl) :
  PT X a (fun σ H Q=>ta σ H fun x H'=>∃ k,yj K x H' k/\Q k H'):=hK ▸ dQ ha he
theorem mR (hc:X.calm=true):de X (.builtin "all") (fun us H Q=>∃ (a:Addr) (bs:List Bool),us=[.ref a]/\SqL X.K H a (bs.map V.bl)/\Q (.bl (bs.all id)) H):=by
 intro pins s σ H us vs Q I r h
 obtain ⟨a,bs,rfl,hq,q⟩:=h
 obtain ⟨u,rfl,rx⟩:=r.one
 cases (show u=Value.ref a from rx)
 obtain ⟨its,rv,pl,hz⟩:=I.list hq
 have hl:=rv.length
 rw [List.length_map] at hl
 obtain ⟨o,eo,_⟩:=id pl.isList
 have la:a < s.heap.objs.size:=Heap.lt_size eo
 refine call_all_walk (wpAny_pyIter_list pl.isList ⟨s.heap.objs.size,[s.heap.objs.size,a],[s.heap.objs.size],its.toArray.size,_,_,fun i=>bs.getD i true,rfl,Walks.list (by simp [I.ok.hd hc]) _ a (Nat.ne_of_lt la) its.toArray,⟨⟨_,Heap.get?_push_size _ rfl,rfl,rfl⟩,pl.isList.push _⟩,?_,fun h' tk k=>?_⟩)
 ·intro i v s2 Q2 E2 hp hq2
  have e1:its[i]?=some v:=by simpa using hp
  have hi:i < bs.length:=by have:=(List.getElem?_eq_some_iff.mp e1).1;omega
  obtain ⟨u,e2,ru⟩:=rv.get (show (bs.map V.bl)[i]?=some (.bl bs[i]) by rw [List.getElem?_map,List.getElem?_eq_getElem hi];rfl)
  rw [e1] at e2
  cases e2
  obtain rfl:v=.bool bs[i]:=ru
  refine wpAny_truthy_bool ?_
  have:bs.getD i true=bs[i]:=by simp [List.getD_eq_getElem?_getD,hi]
  replace hq2:Q2 (bs.getD i true) s2:=hq2
  rw [this] at hq2
  exact hq2
 ·refine ⟨.bl (bs.all id),H,I.kept (t':=tk) fun b o e=>k b o (fun z=>?_) (Heap.get?_push_of_some _ e),?_,q⟩
  ·have:b=s.heap.objs.size:=by simpa using z
   exact absurd (Heap.lt_size e) (by rw [this];exact Nat.lt_irrefl _)
  ·show Value.bool ((List.range its.toArray.size).all fun i=>bs.getD i true)=.bool (bs.all id)
   rw [show its.toArray.size=bs.length by simp;omega,uR]
end
section
variable {X:Cx} {elt iter tg:Expr} {ifs:List Expr} {pos:Pos} {scope:Scope} {cl:List (Str × Addr)} {N:List Str} {k:Nat} {fr:List Nat} {gt:TG} {tt:TT} {te:TE}
theorem mS {wi:TI} {i:Nat} {y:Str} {py qN:Pos} (hN:X.N.Nodup) (hy:X.N[i]?=some y) (hl:Loc X.env.scope y) (hi:PI X tg iter wi) (O:mI X N k fr scope cl) (hc:X.calm=true) (hg:∀ fp C s H,PG (br X N scope cl fp C s H) tg gt)
  (ht:∀ fp C s H,PIf (br X N scope cl fp C s H) ifs tt) (he:∀ fp C s H,PE (br X N scope cl fp C s H) elt te) (hs:∀ v,foldedSetIterable iter X.env v=pure v:=by intro _;rfl)
  (hsw:swapsWith (.ListComp elt [⟨tg,iter,ifs,0⟩] scope pos) (some (.Name y py)) qN.line X.env=pure true:=by rfl) (hf:X.fn y=true\/X.env.scope.names.lookup y=some .local:=by first | exact .inl rfl | exact .inr rfl | assumption) :
  PS X (.Assign [.Name y py] (.ListComp elt [⟨tg,iter,ifs,0⟩] scope pos) qN) (uw (rK wi gt k fr tt te) (lu i)):=by
 intro pins s σ H D0 I h
 rw [exec_Assign_Name_used _ _ _ _ hsw]
 refine wpAny_bind (wpAny_standAt (wpAny_bind ?_))
 show wpAny _ X.A (do let _ ← comprehension (.ListComp elt [⟨tg,iter,ifs,0⟩] scope pos) scope X.env _ (newList []) false (eval iter X.env) (some (assign (.Name y py) X.env))) _ _ s
 refine wpAny_bind (wpAny_mono (wpAny_comprehension_free (use:=some (assign (.Name y py) X.env)) (Q:=fun _ s'=>SP X pins D0 .next s') rfl hs O.clos O.kind O.names (thn (hi pins s σ H _ I h) fun v s1 h1=>thn h1 fun itv s2 h2=>?_)) (fun _ s' hq=>wpAny_pure (wpAny_pure hq)) fun _ _ z=>z)
 obtain ⟨it,fp,tn,J,H2,e,I2,T,st2,f2,hW⟩:=h2
 subst e
 refine mJ (Q:=fun v H1=>lu i v σ H1 D0.nx) (RR:=fun acc C=>compPost (model X.prog X.w) X.A X.xe (some (assign (.Name y py) X.env)) (fun _ s'=>SP X pins D0 .next s') acc C) O hc I2 T st2 f2 ht he hg hW fun D C s' H' hC hn ⟨m,hm⟩ I' q=>?_
 show wpAny _ X.A (assign (.Name y py) X.env (.ref D)) _ _ s'
 refine wpAny_assign_Name (gB I' hN hy hl (v:=.ref D) rfl (fun s3 I3 ⟨a,hsa,ha⟩=>?_) hf)
 have hCa:C ≠ a:=by
  rcases ha with z | z
  ·rw [z];exact Nat.ne_of_gt (Nat.lt_of_lt_of_le I2.lt hC)
  ·obtain ⟨v,o,ho,_⟩:=I2.cell y a z
   exact Nat.ne_of_gt (Nat.lt_of_lt_of_le (Heap.lt_size ho) hC)
 exact ⟨m,hm.sameBut hsa hCa,fun h' hs'=>⟨_,H',I2.left I3 hC hn hs',q⟩⟩
end
end L2
namespace L2
open PySem
set_option maxRecDepth 100000
section
variable {prog:Program} {w:World} {A:Around} {E:Value->Shared->Prop} {s:Shared}
end
section
variable {X:Cx}
def tLR (K:PySem.W.Frag) (ta:TA):TE:=fun σ H Q=>ta σ H fun vs H1=>∃ a xs,vs=[.ref a]/\SqL K H1 a xs/\∀ p,H1 p=none->Q (.ref p) (upd H1 p (.lst xs.reverse))
end
end L2
namespace L2
open PySem
theorem mT {K:PySem.W.Frag} {a:Addr} {xs:List V} {g:TG} {tb:TS} {D:Ends} {σ:St} {H:Hp} (Pv:Nat->St->Hp->Prop) (h0:Pv 0 σ H) (hl:∀ i σ H,Pv i σ H->SqL K H a xs)
  (hs:∀ i x σ H T,xs[i]?=some x->Pv i σ H->H T=none->g (.ref T) σ (upd H T (.tup [.int i,x])) fun σ2 H2=>tb { D with nx:=Pv (i+1),ct:=Pv (i+1),bk:=D.nx } σ2 H2)
  (hd:∀ σ H,Pv xs.length σ H->D.nx σ H) :
  ∃ W:Nat->Nat->St->Hp->Prop,(∃ m,W 0 m σ H)/\∀ i m σ H,W i m σ H ->
   ((Ite K a).stop i H/\D.nx σ H)\/((Ite K a).go i H/\∃ N:St->Hp->Prop,(∀ σ' H',N σ' H'->∃ m',m' < m/\W (i+1) m' σ' H')/\∀ x H',(Ite K a).yld i H x H'->g x σ H' fun σ2 H2=>tb { D with nx:=N,ct:=N,bk:=D.nx } σ2 H2):=by
 refine ⟨fun i m σ H=>m=xs.length - i/\i<=xs.length/\Pv i σ H,⟨xs.length,by simp,Nat.zero_le _,h0⟩,?_⟩
 rintro i m σ H ⟨rfl,hi,p⟩
 have q1:=hl i σ H p
 by_cases lt:i < xs.length
 ·have e1:xs[i]?=some xs[i]:=List.getElem?_eq_getElem lt
  refine .inr ⟨⟨xs,_,q1,e1⟩,Pv (i+1),fun σ' H' p'=>⟨_,?_,rfl,lt,p'⟩,fun v H' yl=>?_⟩
  ·omega
  ·obtain ⟨T,hT,rfl,e⟩:=yl
   rw [e xs _ q1 e1]
   exact hs i _ σ H T e1 p hT
 ·have e:i=xs.length:=by omega
  subst e
  exact .inl ⟨⟨xs,q1,Nat.le_refl _⟩,hd σ H p⟩
end L2
namespace L2
open PySem
section
variable {prog:Program} {w:World} {A:Around} {E:Value->Shared->Prop} {s:Shared}
theorem pF {I:Addr} {x left step:Int} {Q:Value->Shared->Prop} (hit:IsRangeIter s.heap I x left step) (h:∀ u tk,s.toks<=tk->Q (.int left u) { s with toks:=tk }) :
  wpAny (model prog w) A (call (.builtin "range_iterator.__length_hint__") [.ref I]) Q E s:=by
 have hT:s.TypeIs (.ref I) "range_iterator" := ⟨_,hit,rfl⟩
 refine wpAny_call_entry F.slot_range_iterator_length_hint hT F.entry_range_iterator_length_hint ?_ (F.args_range_iterator_length_hint_1 _)
 unfold Builtin.«range_iterator.__length_hint__»
 refine wpAny_bind (wpAny_of_eq (a:=Value.ref I) rfl ?_)
 refine wpAny_bind (wpAny_field hit rfl (x:=rawInt left) rfl ?_)
 show wpAny _ _ (retInt left) _ _ s
 unfold retInt
 exact wpAny_bind (wpAny_mkInt (wpAny_pure ⟨_,rfl,h _ _ (Nat.le_succ _)⟩))
theorem gP {r:Addr} {a b:Int} {t u v:Tok} {Q:Value->Shared->Prop} (hr:IsRange s.heap r a b 1 t u v) (hs:(Builtin.Range.rangeFitsLong a && Builtin.Range.rangeFitsLong b && Builtin.Range.rangeFitsLong 1 && Builtin.Range.rangeFitsLong (-1) && Builtin.Range.rangeFitsLong (a - 1) && Builtin.Range.rangeFitsLong (Builtin.Range.rangeSize a b 1))=true)
  (h:Q (.ref s.heap.objs.size) { s with heap:=s.heap.push { cls:=.type "range_iterator",data:=.fields #[rawInt (a+(Builtin.Range.rangeSize a b 1 - 1) * 1),rawInt (Builtin.Range.rangeSize a b 1),rawInt (-1)] } }):wpAny (model prog w) A (call (.builtin "range.__reversed__") [.ref r]) Q E s:=by
 have hT:s.TypeIs (.ref r) "range" := ⟨_,hr,rfl⟩
 refine wpAny_call_entry F.slot_range_reversed hT F.entry_range_reversed ?_ (F.args_range_reversed_1 _)
 unfold Builtin.«range.__reversed__»
 refine wpAny_bind (wpAny_of_eq (a:=Value.ref r) rfl ?_)
 unfold Builtin.Range.rangeFields
 refine wpAny_bind ?_
 refine wpAny_bind (wpAny_field hr rfl (x:=.int a t) rfl ?_)
 refine wpAny_bind (m:=asInt? _) (wpAny_pure ?_)
 refine wpAny_bind (wpAny_field hr rfl (x:=.int b u) rfl ?_)
 refine wpAny_bind (m:=asInt? _) (wpAny_pure ?_)
 refine wpAny_bind (wpAny_field hr rfl (x:=.int 1 v) rfl ?_)
 refine wpAny_bind (m:=asInt? _) (wpAny_pure ?_)
 refine wpAny_pure ?_
 dsimp only
 simp only [hs,Bool.not_true,Bool.false_eq_true,if_false,if_true]
 exact wpAny_bind (wpAny_newObj_type (wpAny_pure ⟨_,rfl,h⟩))
theorem fN {r:Addr} {a b:Int} {t u v:Tok} {Q₁:Value->Shared->Prop} (hr:IsRange s.heap r a b 1 t u v) (hs:(Builtin.Range.rangeFitsLong a && Builtin.Range.rangeFitsLong b && Builtin.Range.rangeFitsLong 1 && Builtin.Range.rangeFitsLong (-1) && Builtin.Range.rangeFitsLong (a - 1) && Builtin.Range.rangeFitsLong (Builtin.Range.rangeSize a b 1))=true)
  (h:Q₁ (.ref s.heap.objs.size) { s with heap:=s.heap.push { cls:=.type "range_iterator",data:=.fields #[rawInt (a+(Builtin.Range.rangeSize a b 1 - 1) * 1),rawInt (Builtin.Range.rangeSize a b 1),rawInt (-1)] } }) :
  codeAny (model prog w) A (.call (.builtin "reversed.__new__") ⟨[.type "reversed",.ref r],[]⟩) (wants Q₁ E) s:=by
 refine codeAny_of_tree ?_
 show wpAny _ A.in1 (do checkBuiltinCall "reversed.__new__" ⟨[.type "reversed",.ref r],[]⟩;again (.builtin "reversed.__new__" ⟨[.type "reversed",.ref r],[]⟩)) _ _ s
 refine wpAny_bind (wpAny_of_eq (F.newCall_reversed_1 _) (wpAny_pure ⟨plainId_quiet F.plain_reversed_new _,codeAny_builtin F.entry_reversed_new ?_⟩))
 rw [Around.under_plainId F.plain_reversed_new _]
 unfold Builtin.«reversed.__new__»
 refine wpAny_bind (wpAny_of_eq (newClass_reversed _) ?_)
 try dsimp only
 refine wpAny_bind (wpAny_of_eq (a:=()) (by first | rfl | kernel_rfl) ?_)
 refine wpAny_bind (wpAny_of_eq (a:=()) (by first | rfl | kernel_rfl) ?_)
 try dsimp only
 refine wpAny_bind (wpAny_specialOf (show s.TypeIs (.ref r) "range" from ⟨_,hr,rfl⟩) F.slot_range_reversed.lookup ?_)
 try dsimp only
 refine wpAny_bind (wpAny_of_eq (F.slot_range_reversed.bind _) ?_)
 try dsimp only
 first
 | rw [if_neg (show ¬ ((Value.builtin "range.__reversed__" == Value.none)=true) from Bool.false_ne_true)]
 | (show wpAny _ _ (if (Value.builtin "range.__reversed__" == Value.none)=true then _ else _) _ _ _;rw [if_neg (show ¬ ((Value.builtin "range.__reversed__" == Value.none)=true) from Bool.false_ne_true)])
 refine wpAny_bind (wpAny_rule ?_)
 refine wpAny_bind (m:=runValue (.call (.builtin "range.__reversed__") ⟨[.ref r],[]⟩)) (show wpAny _ _ (call (.builtin "range.__reversed__") [.ref r]) _ _ _ from gP hr hs ?_)
 first
 | exact wpAny_pure h
 | exact wpAny_bind (wpAny_pure (wpAny_pure h))
theorem lJ:isSubtype (.type "range_iterator") (.type "reversed")=pure false:=by rw [isSubtype_type];kernel_rfl
theorem jA {r:Addr} {a b:Int} {t u v:Tok} {Q:Value->Shared->Prop} (hr:IsRange s.heap r a b 1 t u v) (hs:(Builtin.Range.rangeFitsLong a && Builtin.Range.rangeFitsLong b && Builtin.Range.rangeFitsLong 1 && Builtin.Range.rangeFitsLong (-1) && Builtin.Range.rangeFitsLong (a - 1) && Builtin.Range.rangeFitsLong (Builtin.Range.rangeSize a b 1))=true)
  (h:Q (.ref s.heap.objs.size) { s with heap:=s.heap.push { cls:=.type "range_iterator",data:=.fields #[rawInt (a+(Builtin.Range.rangeSize a b 1 - 1) * 1),rawInt (Builtin.Range.rangeSize a b 1),rawInt (-1)] } }):wpAny (model prog w) A (call (.type "reversed") [.ref r]) Q E s:=by
 refine callType_other (U := "range_iterator") (Q₁:=fun obj s₁=>obj=.ref s.heap.objs.size/\s₁ = { s with heap:=s.heap.push { cls:=.type "range_iterator",data:=.fields #[rawInt (a+(Builtin.Range.rangeSize a b 1 - 1) * 1),rawInt (Builtin.Range.rangeSize a b 1),rawInt (-1)] } }) (by decide +kernel) F.create_reversed ⟨_,_,F.mro_reversed⟩ F.made_reversed lJ (F.typeCall_reversed_1 _) (fN hr hs ⟨rfl,rfl⟩) ?_
 rintro obj s₁ ⟨rfl,rfl⟩
 exact ⟨⟨_,Heap.get?_push_size _ rfl,rfl⟩,h⟩
theorem pG {I:Addr} {x c:Int} {n:Nat} {Q:Value->Shared->Prop} (hh:A.handled=none) (hit:IsRangeIter s.heap I x (n:Int) c) (hn:n<=1000)
  (hQ:∀ (h' : Heap) (tk:Nat) (acc:Array Value) (k:Nat),s.toks<=tk->(∀ b o,b ≠ I->s.heap.get? b=some o->h'.get? b=some o)->h'.get? s.heap.objs.size=some { cls:=.type "list",dict:=none,data:=.seq acc k,slots:=#[] } ->
   acc.size=n->(∀ (j:Nat) v,acc[j]?=some v->∃ t,v=.int (x+(j:Nat) * c) t)->∀ d,d=s.drawn->Q (.ref s.heap.objs.size) { s with heap:=h',toks:=tk,drawn:=d }) :
  wpAny (model prog w) A (call (.type "list") [.ref I]) Q E s:=by
 have W:=(Walks.range (prog:=prog) (w:=w) (A:=A.in1.in1) (by simp [hh]) I x c n).toS
 have lI:I < s.heap.objs.size:=Heap.lt_size hit
 have hSf:s.heap.objs.size ∉ [I]:=fun hm=>Nat.lt_irrefl _ ((List.mem_singleton.mp hm) ▸ lI)
 refine callType_codes (Q₁:=fun obj s₁=>obj=.ref s.heap.objs.size/\s₁ = { s with heap:=s.heap.push { cls:=.type "list",data:=.seq #[] } }) F.called_list (F.typeCall_list_1 _) F.entry_list_init
  (code_list_new _ ⟨rfl,rfl⟩) fun obj s₁ h₁=>?_
 obtain ⟨rfl,rfl⟩:=h₁
 have hS:(s.heap.push { cls:=.type "list",data:=.seq #[] }).get? s.heap.objs.size=some { cls:=.type "list",data:=.seq #[] }:=Heap.get?_push_size _ rfl
 refine ⟨⟨_,hS,rfl⟩,F.args_list_init_2 _ _,?_⟩
 show wpAny _ _ (do let old ← Builtin.List.listItems (.ref s.heap.objs.size);Builtin.List.listUpdate (.ref s.heap.objs.size) (fun _=>#[]);letGo old.toList.reverse;Builtin.List.listExtendWith (.ref s.heap.objs.size) (.ref I) .none) _ _ _
 refine wpAny_bind ?_
 unfold Builtin.List.listItems
 refine wpAny_bind (wpAny_seqItems hS rfl (wpAny_pure ?_))
 show wpAny _ _ (updateSeq s.heap.objs.size (fun _=>#[]) >>= fun _=>letGo (#[]:Array Value).toList.reverse >>= fun _=>Builtin.List.listExtendWith (.ref s.heap.objs.size) (.ref I) .none) _ _ _
 refine wpAny_bind (wpAny_updateSeq hS rfl ?_)
 have hS₂:=Heap.get?_update_self (Obj.mapSeq (fun _=>(#[]:Array Value))) hS rfl
 refine wpAny_bind (wpAny_letGo ?_)
 have k1:∀ b o,s.heap.get? b=some o->((s.heap.push { cls:=.type "list",data:=.seq #[] }).update s.heap.objs.size (Obj.mapSeq (fun _=>(#[]:Array Value)))).get? b=some o:=fun b o e =>
  (Heap.get?_update_other _ _ (Nat.ne_of_gt (Heap.lt_size e))).trans (Heap.get?_push_of_some _ e)
 generalize (s.heap.push { cls:=.type "list",data:=.seq #[] }).update s.heap.objs.size (Obj.mapSeq (fun _=>(#[]:Array Value)))=hA at hS₂ k1 ⊢
 have yM:IsRangeIter hA I x (n:Int) c:=k1 _ _ hit
 have hT:Shared.TypeIs { s with heap:=hA } (.ref I) "range_iterator" := ⟨_,yM,rfl⟩
 have hst:(fun (i:Nat) (s:Shared)=>IsRangeIter s.heap I (x+(i:Nat) * c) ((n:Int) - (i:Nat)) c) 0 { s with heap:=hA }:=by
  show IsRangeIter hA I (x+((0:Nat):Int) * c) ((n:Int) - ((0:Nat):Int)) c
  rw [show x+((0:Nat):Int) * c=x by simp,show (n:Int) - ((0:Nat):Int)=(n:Int) by simp]
  exact yM
 unfold Builtin.List.listExtendWith
 refine wpAny_bind (wpAny_typeOf hT ?_)
 have h1:Builtin.List.listSameRef (.ref s.heap.objs.size) (.ref I)=false:=by simp [Builtin.List.listSameRef];exact Nat.ne_of_gt lI
 rw [if_neg (by rw [h1];decide)]
 refine wpAny_bind (W.self 0 _ _ _ hst ?_)
 refine wpAny_bind (wpAny_holding ?_)
 unfold Builtin.List.listLengthHint
 refine wpAny_bind (wpAny_specialOf hT F.nolen_ra ?_)
 show wpAny _ _ (specialOf (Value.ref I) (Str.ofString "__length_hint__") >>= _) _ _ _
 refine wpAny_bind (wpAny_specialOf hT F.hint_ra ?_)
 (generalize hid:("range_iterator.__length_hint__" : String)=id0;(fail_if_success (clear hid id0));wp_delta;rw [show splitId id0=some ("range_iterator", "__length_hint__") from by subst hid;decide +kernel];subst hid)
 refine wpAny_bind (wpAny_isInstance (b:=true) hT (by rw [isSubtype_type];kernel_rfl) ?_)
 show wpAny _ _ (call (.builtin "range_iterator.__length_hint__") [.ref I] >>= _) _ _ _
 refine wpAny_bind (pF yM fun u tk htk=>?_)
 refine wpAny_bind (m:=asInt? (.int (n:Int) u)) (wpAny_pure ?_)
 dsimp only
 have hk:Builtin.List.listTooLong ((n:Int).toNat)=false:=by simp [Builtin.List.listTooLong,sizeLine];omega
 rw [if_neg (by rw [hk];decide)]
 refine wpAny_pure ?_
 rw [if_neg (by decide)]
 refine wpAny_pure ⟨plainId_quiet F.plain_extend_loop _,codeAny_extend_loopS W (by rw [sizeLine_eq];omega) _ hSf _ n 0 _ _ _ (by omega) (Nat.zero_le _) hst hS₂ (ItemsOf.nil _) fun s' Ec c' hm hS' pC=>?_⟩
 refine ⟨rfl,?_⟩
 obtain ⟨h',g',d',t',o'⟩:=s'
 obtain rfl:g'=s.gens:=hm.gens
 obtain rfl:o'=s.os:=hm.os
 exact hQ h' t' Ec c' (Nat.le_trans htk hm.toks) (fun b o hb e=>hm.heap b o (fun hx=>by
  rcases List.mem_cons.mp hx with q | hx
  ·exact Nat.ne_of_lt (Heap.lt_size e) q
  ·exact hb (List.mem_singleton.mp hx)) (k1 b o e)) hS' pC.1 pC.2 d' hm.drawn
end
end L2
namespace L2
open PySem
theorem sR:∀ {xs:List V} {us:List Value},xs.length=us.length->(∀ (j:Nat) (x:V) (u:Value),xs[j]?=some x->us[j]?=some u->RelV x u)->Vals xs us
 | [],[],_,_=>.nil
 | x :: xs,u :: us,hl,h=>.cons (h 0 x u rfl rfl) (sR (by simpa using hl) fun j x' u' e f=>h (j+1) x' u' (by simpa using e) (by simpa using f))
 | [],_ :: _,hl,_=>by simp at hl
 | _ :: _,[],hl,_=>by simp at hl
section
variable {X:Cx}
def dwn (n:Nat):List V:=(List.range n).map fun j:Nat=>V.int ((n:Int) - 1 - (j:Int))
def Ed (ta:TA):TE:=fun σ H Q=>ta σ H fun vs H1=>∃ n:Nat,vs=[.int (n:Int)]/\n<=1000/\∀ p,H1 p=none->Q (.ref p) (upd H1 p (.lst (dwn n)))
theorem qS {e1:Expr} {ta:TA} {p1 p2 p3 A4 y9 wJ:Pos} (hcm:X.calm=true) (hg:Gl X "list") (hm:X.mg "list" = none) (hgz:Gl X "reversed") (hmz:X.mg "reversed" = none) (hgr:Gl X "range") (hmr:X.mg "range" = none) (ha:PA X [e1] ta)
  (hs:starEach [e1] X.env=[(false,eval e1 X.env)]:=by rfl) :
  PE X (.Call (.Name "list" p1) [.Call (.Name "reversed" p2) [.Call (.Name "range" p3) [e1] [] wJ] [] y9] [] A4) (Ed ta):=by
 intro pins s σ H Q I h
 refine wpAny_Call_Name_kw (fw I hg hm PyProof.Rows.boot_list ?_)
 refine PyProof.Rows.callWith_type1 ?_ rfl rfl
 show wpAny _ _ (spliced ((false,eval (.Call (.Name "reversed" p2) [.Call (.Name "range" p3) [e1] [] wJ] [] y9) X.env) :: backTo A4 (starEach [] X.env))) _ _ s
 refine Calls.spliced_cons ?_
 refine wpAny_Call_Name_kw (fw I hgz hmz PyProof.Rows.boot_reversed ?_)
 refine PyProof.Rows.callWith_type1 ?_ rfl rfl
 show wpAny _ _ (spliced ((false,eval (.Call (.Name "range" p3) [e1] [] wJ) X.env) :: backTo y9 (starEach [] X.env))) _ _ s
 refine Calls.spliced_cons ?_
 refine wpAny_Call_Name_kw (fw I hgr hmr PyProof.Rows.boot_range ?_)
 refine PyProof.Rows.callWith_type1 (thn (ha wJ pins s σ H _ I h) fun us s1 ⟨vs,H1,I1,r1,q1⟩=>?_) (by rw [hs];rfl) rfl
 obtain ⟨n,rfl,hn,q⟩:=q1
 obtain ⟨u,rfl,ru⟩:=vals1 r1
 obtain ⟨t,rfl⟩:=(show ∃ t,u=Value.int (n:Int) t from ru)
 refine call_range_1 ?_
 refine Calls.spliced_nil ?_
 have esz:Builtin.Range.rangeSize 0 (n:Int) 1=(n:Int):=by rw [rangeSize_one];split <;> omega
 refine jA (IsRange.new ..) ?_ ?_
 ·rw [esz]
  simp [Builtin.Range.rangeFitsLong]
  omega
 rw [esz]
 refine Calls.spliced_nil ?_
 generalize hg1:({ cls:=.type "range",data:=.fields #[.int 0 s1.toks,.int (n:Int) t,.int 1 (s1.toks+1)] } : Obj)=o1
 generalize hg2:({ cls:=.type "range_iterator",data:=.fields #[rawInt (0+((n:Int) - 1) * 1),rawInt (n:Int),rawInt (-1)] } : Obj)=o2
 have kp0:∀ b o,s1.heap.get? b=some o->((s1.heap.push o1).push o2).get? b=some o:=fun b o e=>Heap.get?_push_of_some _ (Heap.get?_push_of_some _ e)
 have gI:((s1.heap.push o1).push o2).get? (s1.heap.push o1).objs.size=some o2:=Heap.get?_push_size _ (by rw [← hg2];rfl)
 have sz1:(s1.heap.push o1).objs.size=s1.heap.objs.size+1:=Heap.size_push ..
 have sz:((s1.heap.push o1).push o2).objs.size=s1.heap.objs.size+1+1:=by rw [Heap.size_push,sz1]
 rw [← hg2] at gI
 refine pG (s:={ s1 with heap:=(s1.heap.push o1).push o2,toks:=s1.toks+1+1 }) (I:=(s1.heap.push o1).objs.size) (x:=0+((n:Int) - 1) * 1) (c:=-1) (n:=n) (I1.ok.hd hcm) (by rw [← hg2] ;rw [← hg2] at *;exact gI) (by omega) fun h2 tk acc c htk k3 g3 n3 f3 d hd=>?_
 subst hd
 have kp:∀ b o,s1.heap.get? b=some o->h2.get? b=some o:=fun b o e=>k3 b o (by rw [sz1];exact Nat.ne_of_lt (Nat.lt_succ_of_lt (Heap.lt_size e))) (kp0 b o e)
 have hv:Vals (dwn n) acc.toList:=sR (by unfold dwn;simp [n3]) fun j x u e f=>by
  unfold dwn at e
  rw [List.getElem?_map] at e
  have hj:j < n:=by
   have:=(List.getElem?_eq_some_iff.mp f).1
   simpa [n3] using this
  rw [List.getElem?_range hj] at e
  cases e
  obtain ⟨t',rfl⟩:=f3 j u (by simpa using f)
  refine ⟨t',?_⟩
  congr 1
  omega
 have g3' : h2.get? (s1.heap.objs.size+1+1)=some { cls:=.type "list",dict:=none,data:=.seq acc.toList.toArray c,slots:=#[] }:=by
  rw [← sz];simpa using g3
 show EP X pins σ Q _ _
 refine ⟨.ref (s1.heap.objs.size+1+1),_,I1.laid (h':=h2) (t':=tk) (a:=s1.heap.objs.size+1+1) (o:=.lst (dwn n)) kp (Nat.le_trans (Nat.le_succ _) (Nat.le_succ _)) ⟨by unfold dwn;rw [List.length_map,List.length_range,sizeLine_eq];exact Nat.le_trans hn (by decide),acc.toList,c,hv,g3'⟩,?_,q _ (I1.hok.fresh (Nat.le_trans (Nat.le_succ _) (Nat.le_succ _)))⟩
 show Value.ref _=_
 rw [sz]
end
end L2
namespace L2
open PySem
theorem uS {X:Cx} {K:PySem.W.Frag} (h:X.K=K):SlR X (AQ K):=h ▸ ck
end L2
namespace L2
open PySem PySem.Spec PyProof.Rows
theorem cM:∀ (names:List (Str × NameKind)) (n:Nat) (acc:List (Str × Addr)),cellsFrom n names acc=cellsFrom n names [] ++ acc
 | [],_,_=>rfl
 | (x,kd) :: r,n,acc=>by
  unfold cellsFrom
  split
  ·rw [cM r (n+1) ((x,n) :: acc),cM r (n+1) [(x,n)],List.append_assoc];rfl
  ·exact cM r n acc
theorem mU {names:List (Str × NameKind)} {n:Nat} {acc:List (Str × Addr)} {y:Str} {c:Addr} (e:(cellsFrom n names acc).lookup y=some c):(y,c) ∈ cellsFrom n names []\/acc.lookup y=some c:=by
 rw [cM,List.lookup_append] at e
 cases h:(cellsFrom n names []).lookup y with
 | none=>rw [h] at e;exact .inr e
 | some c'=>rw [h] at e;cases e;exact .inl (PySem.mem_of_lookup h)
theorem n9 {M:Model} {A:Around} {E:Value->Shared->Prop} {s:Shared} {scope:Scope} {globals:Addr} {cl:List (Str × Addr)} {qual:Str} {env:Env} {Q:Env->Shared->Prop}
  (h:Q { scope,locals:=s.heap.objs.size,globals,cells:=cellsFrom (s.heap.objs.size+1) scope.names cl,qual,func:=none,code:=env.code,frame:=env.frame,builtins:=env.builtins } { s with heap:=pushCells (s.heap.push { cls:=.type "dict",data:=.dict #[] }) scope.names }) :
  wpAny M A (newFunctionEnv scope globals cl [] qual none .none (some env)) Q E s:=by
 simp only [newFunctionEnv,Option.isSome_some,if_true]
 refine wpAny_bind (wpAny_alloc ?_)
 refine wpAny_bind (wpAny_layCells _ (fun name kind cells=>by cases hkc:kind == NameKind.cell <;> simp [hkc]) _ _ _ _ ?_)
 rw [show ({ s with heap:=s.heap.push { cls:=.type "dict",data:=.dict #[] } } : Shared).heap.objs.size=s.heap.objs.size+1 from Heap.size_push ..]
 refine wpAny_bind ?_
 rw [List.forIn_nil]
 exact wpAny_pure (wpAny_pure h)
theorem uT {X:Cx} {K:PySem.W.Frag} {tg l:Expr} {tl:TE} (h:X.K=K) (hl:PE X l tl):PI X tg l (xo K tl):=h ▸ bq hl
def sS (scope:Scope) (cl:List (Str × Addr)) (C:Addr) (env:Env):Env :=
 { scope:=relabel scope env,locals:=C,globals:=env.globals,cells:=cellsFrom (C+1) scope.names cl,qual:=env.qual,func:=none,code:=env.code,frame:=env.frame,builtins:=env.builtins }
def da (X:Cx) (N:List Str) (scope:Scope) (cl:List (Str × Addr)) (fp:List Addr) (C:Addr) (s2:Shared) (H2:Hp):Cx :=
 { prog:=X.prog,w:=X.w,K:=X.K,mg:=X.mg,base:=X.base,A:=X.A,N:=N,s₀:=s2,H₀:=H2,env:=sS scope cl C X.env,outer:=X.stack,stack:=X.stack,ex:=fp,fn:=fun y=>scope.names.lookup y == some .cell,calm:=X.calm,pn:=[],xe:=fun _ _=>False }
structure rP (X:Cx) (N:List Str) (k:Nat) (fr:List Nat) (scope:Scope) (cl:List (Str × Addr)):Prop where
 clos:closureFor scope X.env=pure cl
 kind:scope.kind=.function
 names:∀ y ∈ scope.names,y.2=.local->scope.names.lookup y.1=some .local
 len:N.length=k+fr.length
 sub:∀ (i:Nat) (y:Str),N[k+i]?=some y->∃ j,fr[i]?=some j/\X.N[j]?=some y/\(X.env.kindOf y=some .cell\/X.env.kindOf y=some .free)/\((relabel scope X.env).names.lookup y=some .cell\/(relabel scope X.env).names.lookup y=some .free)/\∃ c,cl.lookup y=some c/\∀ C:Addr,(cellsFrom (C+1) scope.names cl).lookup y=some c
 cells:∀ y c,cl.lookup y=some c->X.env.cells.lookup y=some c
 has:∀ (C:Addr) (y:Str),((relabel scope X.env).names.lookup y=some .cell\/(relabel scope X.env).names.lookup y=some .free)->∃ c,(cellsFrom (C+1) scope.names cl).lookup y=some c
section
variable {X:Cx} {elt iter tg:Expr} {ifs:List Expr} {pos:Pos} {scope:Scope} {cl:List (Str × Addr)} {N:List Str} {k:Nat} {fr:List Nat} {gt:TG} {tt:TT} {te:TE}
theorem rQ {pins:List (Addr × Obj)} {σ:St} {s2:Shared} {H2:Hp} {it:Addr} {fp:List Addr} {tn:Nat->Heap->Prop} {J:It} {Q:VK} {E:Value->Shared->Prop} {RR:Value->Addr->Result->Shared->Prop}
  (O:rP X N k fr scope cl) (hc:X.calm=true) (I2:Inv X pins σ H2 s2) (T:Turn X.prog X.w X.K tg J fp it tn) (st2:tn 0 s2.heap) (f2:∀ b ∈ fp,iu X pins H2 b)
  (ht:∀ fp C s H,PIf (da X N scope cl fp C s H) ifs tt) (he:∀ fp C s H,PE (da X N scope cl fp C s H) elt te)
  (hg:∀ fp C s H,PG (da X N scope cl fp C s H) tg gt) (hW:gD J gt k fr tt te σ Q H2)
  (fin:∀ D C s' H',s2.heap.objs.size<=C->H' C=none->(∃ m,s'.heap.Ns C m)->Inv X pins σ H' s'->Q (.ref D) H'->RR (.ref D) C (.ok .next) s') :
  wpAny (model X.prog X.w) X.A (newList []) (fun acc s3=>wpAny (model X.prog X.w) X.A (newFunctionEnv scope X.env.globals cl [] X.env.qual none .none (some X.env)) (fun qM s4 =>
   codeAny (model X.prog X.w) X.A (.compStart (.ListComp elt [⟨tg,iter,ifs,0⟩] scope pos) 0 (.ref it) acc { qM with scope:=relabel scope X.env }) (RR acc qM.locals) s4) E s3) E s2:=by
 refine wpAny_newObj_type (n9 ?_)
 dsimp only
 generalize hG:s2.heap.push { cls:=.type "list",dict:=none,data:=.seq ([]:List Value).toArray } = G
 have hC:G.objs.size=s2.heap.objs.size+1:=by rw [← hG,Heap.size_push]
 have old:∀ b o,s2.heap.get? b=some o->(pushCells (G.push { cls:=.type "dict",data:=.dict #[] }) scope.names).get? b=some o:=fun b o e=>pushCells_keeps _ _ b o (Heap.get?_push_of_some _ (hG ▸ Heap.get?_push_of_some _ e))
 have pC:(pushCells (G.push { cls:=.type "dict",data:=.dict #[] }) scope.names).get? s2.heap.objs.size=some { cls:=.type "list",data:=.seq ([]:List Value).toArray 0 }:=pushCells_keeps _ _ _ _ (Heap.get?_push_of_some _ (hG ▸ Heap.get?_push_size _ rfl))
 have hns:(pushCells (G.push { cls:=.type "dict",data:=.dict #[] }) scope.names).Ns G.objs.size fun _=>none:=(Heap.Ns.new G (.type "dict")).keeps (pushCells_keeps _ _)
 have cok:=cellsFrom_ok scope.names (G.push { cls:=.type "dict",data:=.dict #[] }) (G.objs.size+1) [] ⟨fun _ _ hm=>(nomatch hm),List.Pairwise.nil⟩ (by rw [Heap.size_push];exact Nat.le_refl _)
 rw [Heap.size_push] at cok
 have own:∀ y c,(cellsFrom (G.objs.size+1) scope.names cl).lookup y=some c->((y,c) ∈ cellsFrom (G.objs.size+1) scope.names []/\G.objs.size+1<=c)\/cl.lookup y=some c:=fun y c e=>by
  rcases mU e with h | h
  ·exact .inl ⟨h,(cok.empty y c h).2⟩
  ·exact .inr h
 generalize pushCells (G.push { cls:=.type "dict",data:=.dict #[] }) scope.names=h1 at old pC hns cok ⊢
 have hD:H2 s2.heap.objs.size=none:=I2.fresh
 have okX:(da X N scope cl fp G.objs.size s2 H2).Ok:=by
  refine ⟨I2.ok.mod,O.kind,I2.ok.glob,I2.ok.blt,by show s2.heap.objs.size<=G.objs.size;rw [hC];exact Nat.le_succ _,fun y z c e1 e2=>?_,fun y hy=>O.has G.objs.size y hy,fun y c hy e=>?_,I2.ok.hd,I2.ok.frames,.inl rfl,
   fun b hb=>⟨?_,fun y c e=>?_⟩,I2.bs,Nat.le_trans I2.ok.bsz I2.sz,fun b o e hb=>?_,fun b hb z=>?_,I2.stack,I2.stkFree⟩
  ·have low:∀ y c,cl.lookup y=some c->c < s2.heap.objs.size:=fun y c e=>by
    obtain ⟨v,o,ho,_⟩:=I2.cell y c (O.cells y c e)
    exact Heap.lt_size ho
   rcases own y c e1 with ⟨h1_,g1⟩ | h1_ <;> rcases own z c e2 with ⟨h2_,g2⟩ | h2_
   ·exact name_of_addr cok.apart h1_ h2_
   ·exact absurd (Nat.lt_of_lt_of_le (low z c h2_) (Nat.le_trans (show s2.heap.objs.size<=G.objs.size+1 by omega) g1)) (Nat.lt_irrefl _)
   ·exact absurd (Nat.lt_of_lt_of_le (low y c h1_) (Nat.le_trans (show s2.heap.objs.size<=G.objs.size+1 by omega) g2)) (Nat.lt_irrefl _)
   ·exact I2.ok.inj y z c (O.cells y c h1_) (O.cells z c h2_)
  ·have hy:(scope.names.lookup y == some NameKind.cell)=true:=hy
   have hy:=beq_iff_eq.mp hy
   have hs_:=PySem.W.cellsFrom_some (x:=y) scope.names (G.objs.size+1) [] (.inl hy)
   obtain ⟨c',hc'⟩:=Option.isSome_iff_exists.mp hs_
   have e:(cellsFrom (G.objs.size+1) scope.names cl).lookup y=some c:=e
   rw [cM,List.lookup_append,hc'] at e
   cases e
   exact Nat.le_trans (show s2.heap.objs.size<=G.objs.size+1 by omega) (cok.empty y _ (PySem.mem_of_lookup hc')).2
  ·obtain ⟨o,e,_⟩:=T.obj _ _ st2 b hb
   show b ≠ G.objs.size
   exact Nat.ne_of_lt (by rw [hC];exact Nat.lt_succ_of_lt (Heap.lt_size e))
  ·rcases own y c e with ⟨_,g⟩ | h_
   ·obtain ⟨o,e',_⟩:=T.obj _ _ st2 b hb
    exact (Nat.ne_of_lt (Nat.lt_of_lt_of_le (Heap.lt_size e') (Nat.le_trans (show s2.heap.objs.size<=G.objs.size+1 by omega) g))).symm
   ·exact (f2 b hb).2.2.2.2.1 y c (O.cells y c h_)
  ·rcases (f2 b hb).2.2.2.1 with z | z
   ·exact I2.ok.noex b o e z
   ·exact absurd (Nat.lt_of_lt_of_le (Heap.lt_size e) (Nat.le_trans I2.ok.bsz z)) (Nat.lt_irrefl _)
  ·rcases List.mem_cons.mp (I2.stkSub b z) with z | z
   ·exact (f2 b hb).2.1 z
   ·exact (f2 b hb).2.2.1 z
 have fU:∀ {H' : Hp},(∀ b ∈ fp,H' b=none)->∀ b ∈ fp,iu (da X N scope cl fp G.objs.size s2 H2) [] H' b:=fun hn b hb =>
  ⟨hn b hb,(okX.exf b hb).1,okX.exfs b hb,.inl hb,(okX.exf b hb).2,fun p hp=>absurd (show p ∈ ([]:List (Addr × Obj)) from hp) (by simp)⟩
 have I' : Inv (da X N scope cl fp G.objs.size s2 H2) [] (bW σ fr (List.replicate k none)) (upd H2 s2.heap.objs.size (.lst [])) { s2 with heap:=h1 }:=by
  refine ⟨okX,rfl,I2.bare,Un.laid old (Nat.le_refl _) hD,⟨_,hns,fun i y v e1 e2 e3=>?_⟩,fun y c e=>?_,?_,fun y c e=>?_,fun p hp=>absurd (show p ∈ ([]:List (Addr × Obj)) from hp) (by simp),I2.hok.laid old (Nat.le_refl _) ⟨Nat.zero_le _,[],0,.nil,pC⟩,?_⟩
  ·by_cases hik:i < k
   ·have e2' : (List.replicate k none ++ fr.map fun j=>(σ[j]?).join)[i]?=some (some v):=e2
    rw [List.getElem?_append_left (by rw [List.length_replicate];exact hik),List.getElem?_replicate,if_pos hik] at e2'
    cases e2'
   ·obtain ⟨j,q1,q2,q3,q4,c',hc0,hc'⟩:=O.sub (i - k) y (by rw [show k+(i - k)=i by omega];exact e1)
    have e2' : (σ[j]?).join=some v:=by
     have:(List.replicate k none ++ fr.map fun j=>(σ[j]?).join)[i]?=some (some v):=e2
     rw [List.getElem?_append_right (by rw [List.length_replicate];omega),List.length_replicate,List.getElem?_map,q1] at this
     exact Option.some.inj this
    have e4:σ[j]?=some (some v):=by
     cases z:σ[j]? with
     | none=>rw [z] at e2';cases e2'
     | some t=>rw [z] at e2';exact congrArg some e2'
    obtain ⟨m,_,hl⟩:=I2.loc
    have vis:Vis X.env.scope y:=.inr q3
    obtain ⟨u,r,l⟩:=hl j y v q2 e4 vis
    refine ⟨u,r,.inr ⟨q4,?_⟩⟩
    rcases l with ⟨k,_⟩ | ⟨_,c,ec,ic⟩
    ·rcases q3 with z | z
     ·rw [z] at k;cases k
     ·rw [z] at k;cases k
    ·have:=O.cells y c' hc0
     have e' : c=c':=Option.some.inj (ec.symm.trans this)
     obtain ⟨o,ho,hd⟩:=ic
     rw [e'] at ho
     exact ⟨c',hc' _,o,old c' o ho,hd⟩
  ·rcases own y c e with ⟨h_,g⟩ | h_
   ·exact ⟨none,(cok.empty y c h_).1⟩
   ·obtain ⟨v,o,ho,hd⟩:=I2.cell y c (O.cells y c h_)
    exact ⟨v,o,old c o ho,hd⟩
  ·show upd H2 s2.heap.objs.size (.lst []) G.objs.size=none
   rw [aC (Nat.ne_of_gt (by rw [hC];exact Nat.lt_succ_self _))]
   exact I2.hok.fresh (by rw [hC];exact Nat.le_succ _)
  ·rcases own y c e with ⟨h_,g⟩ | h_
   ·rw [aC (Nat.ne_of_gt (Nat.lt_of_lt_of_le (show s2.heap.objs.size < G.objs.size+1 by omega) g))]
    exact I2.hok.fresh (Nat.le_trans (show s2.heap.objs.size<=G.objs.size+1 by omega) g)
   ·obtain ⟨v,o,ho,hd⟩:=I2.cell y c (O.cells y c h_)
    rw [aC (Nat.ne_of_lt (Heap.lt_size ho))]
    exact I2.freeC y c (O.cells y c h_)
  ·show (bW σ fr (List.replicate k none)).length=N.length
   rw [O.len];simp [bW]
 have st1:tn 0 h1:=T.keep _ _ _ st2 fun b hb o e=>old b o e
 have loop:∀ s3:Shared,s3 = { s2 with heap:=h1 } ->
   codeAny (model X.prog X.w) X.A (.compLoop (.ListComp elt [⟨tg,iter,ifs,0⟩] scope pos) 0 (.ref it) (.ref s2.heap.objs.size) (sS scope cl G.objs.size X.env)) (RR (.ref s2.heap.objs.size) G.objs.size) s3:=by
  rintro s3 rfl
  obtain ⟨W,⟨m0,w0⟩,turn⟩:=hW _ hD
  refine iA (fun n s'=>∃ i ts H',ts.length=k/\Inv (da X N scope cl fp G.objs.size s2 H2) [] (bW σ fr ts) H' s'/\tn i s'.heap/\(∀ b ∈ fp,H' b=none)/\W i n H') ?_ m0
   ⟨0,List.replicate k none,_,List.length_replicate,I',st1,fun b hb=>by
    rw [aC (by obtain ⟨o,e,_⟩:=T.obj _ _ st2 b hb;exact Nat.ne_of_lt (Heap.lt_size e))]
    exact (f2 b hb).1,w0⟩
  rintro n s' ⟨i,ts,H',hts,I3,st3,fr3,w3⟩
  rcases turn i n H' w3 with ⟨stop,qn⟩ | ⟨go,step⟩
  ·refine thn (T.done (da X N scope cl fp G.objs.size s2 H2) rfl rfl rfl hc i [] s' _ H' _ I3 (fU fr3) st3 stop) fun r s4 ⟨hr,I4⟩=>?_
   subst hr
   obtain ⟨m,hm,_⟩:=I4.loc
   refine fin _ _ s4 H' (by rw [hC];exact Nat.le_succ _) I4.free ⟨m,hm⟩ (I2.call' (ch:=fp) I4.os I4.base I4.hok I4.bare fun b hb=>?_) qn
   exact ⟨(f2 b hb).2.2.2.1,(f2 b hb).2.1,(f2 b hb).2.2.2.2.1,(f2 b hb).2.2.2.2.2⟩
  ·refine thn (T.item (da X N scope cl fp G.objs.size s2 H2) rfl rfl rfl hc i [] s' _ H' _ I3 (fU fr3) st3 go) fun r s4 ⟨u,hr,h4⟩=>?_
   subst hr
   refine thn h4 fun _ s5 ⟨y,H5,I5,r5,y5,st5,fr5⟩=>?_
   have I5':=I5.pinned (fU fr5) (T.obj _ _ st5)
   refine thn (hg fp G.objs.size s2 H2 _ s5 _ H5 y u _ I5' r5 (step y H5 y5 ts hts)) fun _ s6 ⟨σ6,H6,I6,⟨ts6,yw,e6⟩,q6⟩=>?_
   subst e6
   have again:∀ {σ7:St} {H7:Hp} {s7:Shared} {m' : Nat},σ7=bW σ fr ts6->Inv (da X N scope cl fp G.objs.size s2 H2) ([] ++ iw fp s5.heap) σ7 H7 s7->m' < n->W (i+1) m' H7 ->
     ∃ m,m < n/\∃ i ts H',ts.length=k/\Inv (da X N scope cl fp G.objs.size s2 H2) [] (bW σ fr ts) H' s7/\tn i s7.heap/\(∀ b ∈ fp,H' b=none)/\W i m H':=fun {σ7 H7 s7 m'} e7 I7 hm w7=>by
    subst e7
    refine ⟨m',hm,i+1,ts6,H7,yw,I7.unpinned,T.keep _ _ _ st5 fun b hb o e=>(I7.pin (b,o) (List.mem_append_right _ (List.mem_append_right _ (cx hb e)))).1,fun b hb=>?_,w7⟩
    obtain ⟨o,e,d⟩:=T.obj _ _ st5 b hb
    exact (I7.pin (b,o) (List.mem_append_right _ (List.mem_append_right _ (cx hb e)))).2.1
   refine thn (ht fp G.objs.size s2 H2 _ s6 _ H6 _ I6 q6) fun ok s7 ⟨H7,I7,q7⟩=>?_
   cases ok with
   | false =>
    rw [if_neg Bool.false_ne_true] at q7 ⊢
    obtain ⟨m',hm,w7⟩:=q7
    exact again rfl I7 hm w7
   | true =>
    rw [if_pos rfl] at q7 ⊢
    refine thn (he fp G.objs.size s2 H2 _ s7 _ H7 _ I7 q7) fun u8 s8 ⟨v8,H8,I8,r8,ys,hys,hlen,m',hm,w8⟩=>?_
    refine thn (cb (X:=da X N scope cl fp G.objs.size s2 H2) _ s8 _ H8 (.ref s2.heap.objs.size) [v8] _ [u8] (fun _ H9=>W (i+1) m' H9) I8 rfl (.cons r8 .nil) ⟨_,ys,v8,rfl,rfl,hys,hlen,w8⟩) fun _ s9 ⟨_,H9,I9,_,w9⟩=>?_
    exact again rfl I9 hm w9
 exact codeAny_compStart_list (loop _ rfl) (T.self _ 0 _ _ _ st1 (loop _ rfl))
theorem uU {wi:TI} {i:Nat} {y:Str} {py qN:Pos} (hN:X.N.Nodup) (hy:X.N[i]?=some y) (hl:Loc X.env.scope y) (hi:PI X tg iter wi) (O:rP X N k fr scope cl) (hc:X.calm=true) (hg:∀ fp C s H,PG (da X N scope cl fp C s H) tg gt)
  (ht:∀ fp C s H,PIf (da X N scope cl fp C s H) ifs tt) (he:∀ fp C s H,PE (da X N scope cl fp C s H) elt te) (hs:∀ v,foldedSetIterable iter X.env v=pure v:=by intro _;rfl)
  (hsw:swapsWith (.ListComp elt [⟨tg,iter,ifs,0⟩] scope pos) (some (.Name y py)) qN.line X.env=pure true:=by rfl) (hf:X.fn y=true\/X.env.scope.names.lookup y=some .local:=by first | exact .inl rfl | exact .inr rfl | assumption) :
  PS X (.Assign [.Name y py] (.ListComp elt [⟨tg,iter,ifs,0⟩] scope pos) qN) (uw (rK wi gt k fr tt te) (lu i)):=by
 intro pins s σ H D0 I h
 rw [exec_Assign_Name_used _ _ _ _ hsw]
 refine wpAny_bind (wpAny_standAt (wpAny_bind ?_))
 show wpAny _ X.A (do let _ ← comprehension (.ListComp elt [⟨tg,iter,ifs,0⟩] scope pos) scope X.env _ (newList []) false (eval iter X.env) (some (assign (.Name y py) X.env))) _ _ s
 refine wpAny_bind (wpAny_mono (wpAny_comprehension_free (use:=some (assign (.Name y py) X.env)) (Q:=fun _ s'=>SP X pins D0 .next s') rfl hs O.clos O.kind O.names (thn (hi pins s σ H _ I h) fun v s1 h1=>thn h1 fun itv s2 h2=>?_)) (fun _ s' hq=>wpAny_pure (wpAny_pure hq)) fun _ _ z=>z)
 obtain ⟨it,fp,tn,J,H2,e,I2,T,st2,f2,hW⟩:=h2
 subst e
 refine rQ (Q:=fun v H1=>lu i v σ H1 D0.nx) (RR:=fun acc C=>compPost (model X.prog X.w) X.A X.xe (some (assign (.Name y py) X.env)) (fun _ s'=>SP X pins D0 .next s') acc C) O hc I2 T st2 f2 ht he hg hW fun D C s' H' hC hn ⟨m,hm⟩ I' q=>?_
 show wpAny _ X.A (assign (.Name y py) X.env (.ref D)) _ _ s'
 refine wpAny_assign_Name (gB I' hN hy hl (v:=.ref D) rfl (fun s3 I3 ⟨a,hsa,ha⟩=>?_) hf)
 have hCa:C ≠ a:=by
  rcases ha with z | z
  ·rw [z];exact Nat.ne_of_gt (Nat.lt_of_lt_of_le I2.lt hC)
  ·obtain ⟨v,o,ho,_⟩:=I2.cell y a z
   exact Nat.ne_of_gt (Nat.lt_of_lt_of_le (Heap.lt_size ho) hC)
 exact ⟨m,hm.sameBut hsa hCa,fun h' hs'=>⟨_,H',I2.left I3 hC hn hs',q⟩⟩
end
def uV (X:Cx) (N:List Str) (scope:Scope) (cl:List (Str × Addr)):List Nat->Nat->Prop
 | [],_=>True
 | j :: fr,i=>(∃ (y:Str) (c:Addr),N[i]?=some y/\X.N[j]?=some y/\X.env.kindOf y=some .cell/\(relabel scope X.env).names.lookup y=some .cell/\cl.lookup y=some c/\∀ C:Addr,(cellsFrom (C+1) scope.names cl).lookup y=some c)/\uV X N scope cl fr (i+1)
theorem uV.at {X:Cx} {N:List Str} {scope:Scope} {cl:List (Str × Addr)} : ∀ {fr:List Nat} {k:Nat},uV X N scope cl fr k->∀ (i j:Nat),fr[i]?=some j->∃ (y:Str) (c:Addr),N[k+i]?=some y/\X.N[j]?=some y/\X.env.kindOf y=some .cell/\(relabel scope X.env).names.lookup y=some .cell/\cl.lookup y=some c/\∀ C:Addr,(cellsFrom (C+1) scope.names cl).lookup y=some c
 | [],_,_,i,j,e=>by simp at e
 | a :: fr,k,h,0,j,e=>by
  have:a=j:=by simpa using e
  subst this
  exact h.1
 | a :: fr,k,h,i+1,j,e=>by
  have:=uV.at h.2 i j (by simpa using e)
  rw [show k+1+i=k+(i+1) by omega] at this
  exact this
theorem tU {X:Cx} {N:List Str} {k:Nat} {fr:List Nat} {scope:Scope} {cl:List (Str × Addr)} (clos:closureFor scope X.env=pure cl) (kind:scope.kind=.function) (names:∀ y ∈ scope.names,y.2=.local->scope.names.lookup y.1=some .local)
  (len:N.length=k+fr.length) (sub:uV X N scope cl fr k) (cells:∀ p ∈ cl,X.env.cells.lookup p.1=some p.2) (has:∀ C:Addr,((relabel scope X.env).names.all fun p=>(p.2 != .cell && p.2 != .free) || ((cellsFrom (C+1) scope.names cl).lookup p.1).isSome)=true):rP X N k fr scope cl:=by
 refine ⟨clos,kind,names,len,fun i y e=>?_,fun y c e=>cells _ (PySem.mem_of_lookup e),fun C y h=>?_⟩
 ·have hi:i < fr.length:=by have:=(List.getElem?_eq_some_iff.mp e).1;omega
  obtain ⟨y',c,h1,h2,h3,h4,h5,h6⟩:=sub.at i fr[i] (List.getElem?_eq_getElem hi)
  rw [e] at h1
  cases h1
  exact ⟨fr[i],List.getElem?_eq_getElem hi,h2,.inl h3,.inl h4,c,h5,h6⟩
 ·have look:∀ kd,(relabel scope X.env).names.lookup y=some kd->(kd=.cell\/kd=.free)->∃ c,(cellsFrom (C+1) scope.names cl).lookup y=some c:=fun kd e hk=>by
   have z:=List.all_eq_true.mp (has C) _ (PySem.mem_of_lookup e)
   rcases hk with rfl | rfl
   ·exact Option.isSome_iff_exists.mp (by simpa using z)
   ·exact Option.isSome_iff_exists.mp (by simpa using z)
  rcases h with h | h
  ·exact look _ h (.inl rfl)
  ·exact look _ h (.inr rfl)
def Dd:V->List V->Hp->VK->Prop:=fun x vs H Q=>∃ (l:Addr) (xs:List V) (i:Int) (k:Nat) (y:V),x=.ref l/\vs=[.int i,y]/\i=(k:Int)/\H l=some (.lst xs)/\k<=xs.length/\xs.length < sizeLine/\Q .non (upd H l (.lst (xs.take k ++ y :: xs.drop k)))
end L2
set_option Elab.async false
set_option maxRecDepth 100000
set_option maxHeartbeats 4000000
set_option linter.all false
namespace My
open PySem L2
def top (i:Nat):Stmt:=PySem.Challenge.pw_rowjudge_k64_stacked.main.body.getD i (.Pass ⟨0,0,0,0⟩)
abbrev Y32:Stmt:=top 14
abbrev Y36:Stmt:=top 15
abbrev Y35:Stmt:=top 16
abbrev Y31:Stmt:=top 20
abbrev Y34:Stmt:=top 22
abbrev Y72:Stmt:=top 33
abbrev Y64:Stmt:=top 38
abbrev Y63:Stmt:=top 39
abbrev Y68:Stmt:=top 40
abbrev Y65:Stmt:=top 41
abbrev Y62:Stmt:=top 42
abbrev Y33:Stmt:=top 43
abbrev Y61:Stmt:=top 44
abbrev Y37:Stmt:=top 45
abbrev Y71:Stmt:=top 46
abbrev Y73:Stmt:=top 47
abbrev Y66:Stmt:=top 49
abbrev Y67:Stmt:=top 50
abbrev Y69:Stmt:=top 52
abbrev Y70:Stmt:=top 53
abbrev Y42:Stmt:=top 55
abbrev Y48:Stmt:=top 56
abbrev Y54:Stmt:=top 57
abbrev Y60:Stmt:=top 58
abbrev Y44:Stmt:=top 59
abbrev Y45:Stmt:=top 60
abbrev Y55:Stmt:=top 61
abbrev Y40:Stmt:=top 62
abbrev Y41:Stmt:=top 63
abbrev Y52:Stmt:=top 64
abbrev Y57:Stmt:=top 65
abbrev Y51:Stmt:=top 66
abbrev Y43:Stmt:=top 67
abbrev Y47:Stmt:=top 68
abbrev Y59:Stmt:=top 69
abbrev Y46:Stmt:=top 70
abbrev Y53:Stmt:=top 71
abbrev Y58:Stmt:=top 72
abbrev Y49:Stmt:=top 73
abbrev Y50:Stmt:=top 74
abbrev Y39:Stmt:=top 75
abbrev Y56:Stmt:=top 76
abbrev Y17:Stmt:=inClass (top 37) 0
abbrev Y4:Stmt:=inClass (top 27) 0
abbrev Y18:Stmt:=inClass (top 26) 0
abbrev Y13:Stmt:=inClass (top 28) 0
abbrev Y22:Stmt:=inClass (top 26) 0
abbrev Y8:Stmt:=inClass (top 29) 0
abbrev Y20:Stmt:=inClass (top 26) 0
abbrev Y10:Stmt:=inClass (top 30) 0
abbrev Y21:Stmt:=inClass (top 26) 0
abbrev Y6:Stmt:=inClass (top 31) 0
abbrev Y19:Stmt:=inClass (top 26) 0
abbrev Y15:Stmt:=inClass (top 32) 0
abbrev Y23:Stmt:=inClass (top 26) 0
abbrev Y2:Stmt:=inClass (top 17) 5
abbrev Y3:Stmt:=inClass (top 17) 5
abbrev Y12:Stmt:=inClass (top 18) 0
abbrev Y0:Stmt:=inClass (top 17) 0
abbrev Y30:Stmt:=inClass (top 19) 0
abbrev Y1:Stmt:=inClass (top 17) 0
abbrev Y24:Stmt:=inClass (top 26) 1
abbrev Y5:Stmt:=inClass (top 27) 1
abbrev Y28:Stmt:=inClass (top 26) 1
abbrev Y14:Stmt:=inClass (top 28) 1
abbrev Y26:Stmt:=inClass (top 26) 1
abbrev Y9:Stmt:=inClass (top 29) 1
abbrev Y27:Stmt:=inClass (top 26) 1
abbrev Y11:Stmt:=inClass (top 30) 1
abbrev Y25:Stmt:=inClass (top 26) 1
abbrev Y7:Stmt:=inClass (top 31) 1
abbrev Y29:Stmt:=inClass (top 26) 1
abbrev Y16:Stmt:=inClass (top 32) 1
abbrev Y38:Stmt:=top 77
theorem Z32:ax ["text", "signs", "sign"] ["text", "signs"] (ag Y32):=⟨rfl,rfl,rfl,by decide +kernel,rfl,by decide +kernel,by decide +kernel⟩
theorem Z36:ax ["text"] ["text"] (ag Y36):=⟨rfl,rfl,rfl,by decide +kernel,rfl,by decide +kernel,by decide +kernel⟩
theorem Z35:ax ["value"] ["value"] (ag Y35):=⟨rfl,rfl,rfl,by decide +kernel,rfl,by decide +kernel,by decide +kernel⟩
theorem Z31:ax ["one", "other"] ["one", "other"] (ag Y31):=⟨rfl,rfl,rfl,by decide +kernel,rfl,by decide +kernel,by decide +kernel⟩
theorem Z34:ax ["spans", "number", "low", "high"] ["spans", "number"] (ag Y34):=⟨rfl,rfl,rfl,by decide +kernel,rfl,by decide +kernel,by decide +kernel⟩
theorem Z72:ax ["name", "way"] ["name"] (ag Y72):=⟨rfl,rfl,rfl,by decide +kernel,rfl,by decide +kernel,by decide +kernel⟩
theorem Z64:ax ["names", "name"] ["names"] (ag Y64):=⟨rfl,rfl,rfl,by decide +kernel,rfl,by decide +kernel,by decide +kernel⟩
theorem Z63:ax ["names", "rows"] ["names", "rows"] (ag Y63):=⟨rfl,rfl,rfl,by decide +kernel,rfl,by decide +kernel,by decide +kernel⟩
theorem Z68:ax ["way", "outcome"] ["way", "outcome"] (ag Y68):=⟨rfl,rfl,rfl,by decide +kernel,rfl,by decide +kernel,by decide +kernel⟩
theorem Z65:ax ["domains", "outcome", "cells", "code", "domain", "spans", "low", "high"] ["domains", "outcome", "cells", "code"] (ag Y65):=⟨rfl,rfl,rfl,by decide +kernel,rfl,by decide +kernel,by decide +kernel⟩
theorem Z62:ax ["cells", "code"] ["cells", "code"] (ag Y62):=⟨rfl,rfl,rfl,by decide +kernel,rfl,by decide +kernel,by decide +kernel⟩
theorem Z33:ax ["table", "k", "codes", "cells", "spans", "code"] ["table", "k", "codes"] (ag Y33):=⟨rfl,rfl,rfl,by decide +kernel,rfl,by decide +kernel,by decide +kernel⟩
theorem Z61:ax ["table", "codes"] ["table", "codes"] (ag Y61):=⟨rfl,rfl,rfl,by decide +kernel,rfl,by decide +kernel,by decide +kernel⟩
theorem Z37:ax ["table", "rows", "codes"] ["table", "rows"] (ag Y37):=⟨rfl,rfl,rfl,by decide +kernel,rfl,by decide +kernel,by decide +kernel⟩
theorem Z71:ax ["table", "codes"] ["table", "codes"] (ag Y71):=⟨rfl,rfl,rfl,by decide +kernel,rfl,by decide +kernel,by decide +kernel⟩
theorem Z73:ax ["table", "rows"] ["table", "rows"] (ag Y73):=⟨rfl,rfl,rfl,by decide +kernel,rfl,by decide +kernel,by decide +kernel⟩
theorem Z66:ax ["one", "other"] ["one", "other"] (ag Y66):=⟨rfl,rfl,rfl,by decide +kernel,rfl,by decide +kernel,by decide +kernel⟩
theorem Z67:ax ["ones", "others", "one", "other"] ["ones", "others"] (ag Y67):=⟨rfl,rfl,rfl,by decide +kernel,rfl,by decide +kernel,by decide +kernel⟩
theorem Z69:ax ["one", "other"] ["one", "other"] (ag Y69):=⟨rfl,rfl,rfl,by decide +kernel,rfl,by decide +kernel,by decide +kernel⟩
theorem Z70:ax ["table", "order", "names", "domains", "rows"] ["table", "order"] (ag Y70):=⟨rfl,rfl,rfl,by decide +kernel,rfl,by decide +kernel,by decide +kernel⟩
theorem Z42:ax ["script", "k"] ["script", "k"] (ag Y42):=⟨rfl,rfl,rfl,by decide +kernel,rfl,by decide +kernel,by decide +kernel⟩
theorem Z48:ax ["cell", "k", "big"] ["cell", "k"] (ag Y48):=⟨rfl,rfl,rfl,by decide +kernel,rfl,by decide +kernel,by decide +kernel⟩
theorem Z54:ax ["cells", "most", "seeds", "k", "cell", "at"] ["cells", "most"] (ag Y54):=⟨rfl,rfl,rfl,by decide +kernel,rfl,by decide +kernel,by decide +kernel⟩
theorem Z60:ax ["cell", "k", "ahead", "behind"] ["cell", "k"] (ag Y60):=⟨rfl,rfl,rfl,by decide +kernel,rfl,by decide +kernel,by decide +kernel⟩
theorem Z44:ax ["m", "most", "words", "at", "pairs", "k", "wide"] ["m", "most"] (ag Y44):=⟨rfl,rfl,rfl,by decide +kernel,rfl,by decide +kernel,by decide +kernel⟩
theorem Z45:ax ["column"] ["column"] (ag Y45):=⟨rfl,rfl,rfl,by decide +kernel,rfl,by decide +kernel,by decide +kernel⟩
theorem Z55:ax ["pairs", "bits", "spans", "k", "pair"] ["pairs", "bits"] (ag Y55):=⟨rfl,rfl,rfl,by decide +kernel,rfl,by decide +kernel,by decide +kernel⟩
theorem Z40:ax ["m", "columns", "out", "last", "bits", "seed", "j", "column", "every", "code", "at"] ["m", "columns", "out", "last"] (ag Y40):=⟨rfl,rfl,rfl,by decide +kernel,rfl,by decide +kernel,by decide +kernel⟩
theorem Z41:ax ["seeds", "columns", "out", "rows", "last", "m"] ["seeds", "columns", "out"] (ag Y41):=⟨rfl,rfl,rfl,by decide +kernel,rfl,by decide +kernel,by decide +kernel⟩
theorem Z52:ax ["bit_rows", "columns", "rows", "bits", "code"] ["bit_rows", "columns"] (ag Y52):=⟨rfl,rfl,rfl,by decide +kernel,rfl,by decide +kernel,by decide +kernel⟩
theorem Z57:ax ["head", "columns", "out", "way", "bit_rows", "own", "names", "domains"] ["head", "columns", "out", "way", "bit_rows", "own"] (ag Y57):=⟨rfl,rfl,rfl,by decide +kernel,rfl,by decide +kernel,by decide +kernel⟩
theorem Z51:ax ["columns", "points", "column", "more", "point", "k"] ["columns"] (ag Y51):=⟨rfl,rfl,rfl,by decide +kernel,rfl,by decide +kernel,by decide +kernel⟩
theorem Z43:ax ["columns", "point", "turn"] ["columns", "point", "turn"] (ag Y43):=⟨rfl,rfl,rfl,by decide +kernel,rfl,by decide +kernel,by decide +kernel⟩
theorem Z47:ax ["bit_row", "point"] ["bit_row", "point"] (ag Y47):=⟨rfl,rfl,rfl,by decide +kernel,rfl,by decide +kernel,by decide +kernel⟩
theorem Z59:ax ["turn", "out", "way"] ["turn", "out"] (ag Y59):=⟨rfl,rfl,rfl,by decide +kernel,rfl,by decide +kernel,by decide +kernel⟩
theorem Z46:ax ["way", "bit_rows", "out", "point", "codes"] ["way", "bit_rows", "out", "point"] (ag Y46):=⟨rfl,rfl,rfl,by decide +kernel,rfl,by decide +kernel,by decide +kernel⟩
theorem Z53:ax ["found", "due"] ["found", "due"] (ag Y53):=⟨rfl,rfl,rfl,by decide +kernel,rfl,by decide +kernel,by decide +kernel⟩
theorem Z58:ax ["one", "other", "found", "kinds", "e"] ["one", "other"] (ag Y58):=⟨rfl,rfl,rfl,by decide +kernel,rfl,by decide +kernel,by decide +kernel⟩
theorem Z49:ax ["other", "rows", "names"] ["other"] (ag Y49):=⟨rfl,rfl,rfl,by decide +kernel,rfl,by decide +kernel,by decide +kernel⟩
theorem Z50:ax ["domain", "turn"] ["domain", "turn"] (ag Y50):=⟨rfl,rfl,rfl,by decide +kernel,rfl,by decide +kernel,by decide +kernel⟩
theorem Z39:ax ["other", "turn", "domains", "names", "at", "way", "outcome"] ["other", "turn"] (ag Y39):=⟨rfl,rfl,rfl,by decide +kernel,rfl,by decide +kernel,by decide +kernel⟩
theorem Z56:ax ["table", "other", "found", "columns", "turn", "mine", "yours", "point", "codes", "due"] ["table", "other", "found", "columns", "turn"] (ag Y56):=⟨rfl,rfl,rfl,by decide +kernel,rfl,by decide +kernel,by decide +kernel⟩
theorem Z17:ax ["self", "name", "names", "domains", "outcome", "way", "rows", "cells", "code"] ["self", "name", "names", "domains", "outcome", "way", "rows"] (ag Y17):=⟨rfl,rfl,rfl,by decide +kernel,rfl,by decide +kernel,by decide +kernel⟩
theorem Z4:ax ["self"] ["self"] (ag Y4):=⟨rfl,rfl,rfl,by decide +kernel,rfl,by decide +kernel,by decide +kernel⟩
theorem Z18:ax ["self", "called"] ["self", "called"] (ag Y18):=⟨rfl,rfl,rfl,by decide +kernel,rfl,by decide +kernel,by decide +kernel⟩
theorem Z13:ax ["self"] ["self"] (ag Y13):=⟨rfl,rfl,rfl,by decide +kernel,rfl,by decide +kernel,by decide +kernel⟩
theorem Z22:ax ["self", "called"] ["self", "called"] (ag Y22):=⟨rfl,rfl,rfl,by decide +kernel,rfl,by decide +kernel,by decide +kernel⟩
theorem Z8:ax ["self"] ["self"] (ag Y8):=⟨rfl,rfl,rfl,by decide +kernel,rfl,by decide +kernel,by decide +kernel⟩
theorem Z20:ax ["self", "called"] ["self", "called"] (ag Y20):=⟨rfl,rfl,rfl,by decide +kernel,rfl,by decide +kernel,by decide +kernel⟩
theorem Z10:ax ["self"] ["self"] (ag Y10):=⟨rfl,rfl,rfl,by decide +kernel,rfl,by decide +kernel,by decide +kernel⟩
theorem Z21:ax ["self", "called"] ["self", "called"] (ag Y21):=⟨rfl,rfl,rfl,by decide +kernel,rfl,by decide +kernel,by decide +kernel⟩
theorem Z6:ax ["self"] ["self"] (ag Y6):=⟨rfl,rfl,rfl,by decide +kernel,rfl,by decide +kernel,by decide +kernel⟩
theorem Z19:ax ["self", "called"] ["self", "called"] (ag Y19):=⟨rfl,rfl,rfl,by decide +kernel,rfl,by decide +kernel,by decide +kernel⟩
theorem Z15:ax ["self"] ["self"] (ag Y15):=⟨rfl,rfl,rfl,by decide +kernel,rfl,by decide +kernel,by decide +kernel⟩
theorem Z23:ax ["self", "called"] ["self", "called"] (ag Y23):=⟨rfl,rfl,rfl,by decide +kernel,rfl,by decide +kernel,by decide +kernel⟩
theorem Z2:ax ["self", "value"] ["self", "value"] (ag Y2):=⟨rfl,rfl,rfl,by decide +kernel,rfl,by decide +kernel,by decide +kernel⟩
theorem Z3:ax ["self", "value"] ["self", "value"] (ag Y3):=⟨rfl,rfl,rfl,by decide +kernel,rfl,by decide +kernel,by decide +kernel⟩
theorem Z12:ax ["self", "low", "high"] ["self", "low", "high"] (ag Y12):=⟨rfl,rfl,rfl,by decide +kernel,rfl,by decide +kernel,by decide +kernel⟩
theorem Z0:ax ["self", "low", "high"] ["self", "low", "high"] (ag Y0):=⟨rfl,rfl,rfl,by decide +kernel,rfl,by decide +kernel,by decide +kernel⟩
theorem Z30:ax ["self", "words", "word"] ["self", "words"] (ag Y30):=⟨rfl,rfl,rfl,by decide +kernel,rfl,by decide +kernel,by decide +kernel⟩
theorem Z1:ax ["self", "low", "high"] ["self", "low", "high"] (ag Y1):=⟨rfl,rfl,rfl,by decide +kernel,rfl,by decide +kernel,by decide +kernel⟩
theorem Z24:ax ["self", "codes", "outcome"] ["self", "codes", "outcome"] (ag Y24):=⟨rfl,rfl,rfl,by decide +kernel,rfl,by decide +kernel,by decide +kernel⟩
theorem Z5:ax ["self", "codes", "outcome"] ["self", "codes", "outcome"] (ag Y5):=⟨rfl,rfl,rfl,by decide +kernel,rfl,by decide +kernel,by decide +kernel⟩
theorem Z28:ax ["self", "codes", "outcome"] ["self", "codes", "outcome"] (ag Y28):=⟨rfl,rfl,rfl,by decide +kernel,rfl,by decide +kernel,by decide +kernel⟩
theorem Z14:ax ["self", "codes", "outcome"] ["self", "codes", "outcome"] (ag Y14):=⟨rfl,rfl,rfl,by decide +kernel,rfl,by decide +kernel,by decide +kernel⟩
theorem Z26:ax ["self", "codes", "outcome"] ["self", "codes", "outcome"] (ag Y26):=⟨rfl,rfl,rfl,by decide +kernel,rfl,by decide +kernel,by decide +kernel⟩
theorem Z9:ax ["self", "codes", "outcome"] ["self", "codes", "outcome"] (ag Y9):=⟨rfl,rfl,rfl,by decide +kernel,rfl,by decide +kernel,by decide +kernel⟩
theorem Z27:ax ["self", "codes", "outcome"] ["self", "codes", "outcome"] (ag Y27):=⟨rfl,rfl,rfl,by decide +kernel,rfl,by decide +kernel,by decide +kernel⟩
theorem Z11:ax ["self", "codes", "outcome"] ["self", "codes", "outcome"] (ag Y11):=⟨rfl,rfl,rfl,by decide +kernel,rfl,by decide +kernel,by decide +kernel⟩
theorem Z25:ax ["self", "codes", "outcome"] ["self", "codes", "outcome"] (ag Y25):=⟨rfl,rfl,rfl,by decide +kernel,rfl,by decide +kernel,by decide +kernel⟩
theorem Z7:ax ["self", "codes", "outcome"] ["self", "codes", "outcome"] (ag Y7):=⟨rfl,rfl,rfl,by decide +kernel,rfl,by decide +kernel,by decide +kernel⟩
theorem Z29:ax ["self", "codes", "outcome"] ["self", "codes", "outcome"] (ag Y29):=⟨rfl,rfl,rfl,by decide +kernel,rfl,by decide +kernel,by decide +kernel⟩
theorem Z16:ax ["self", "codes", "outcome"] ["self", "codes", "outcome"] (ag Y16):=⟨rfl,rfl,rfl,by decide +kernel,rfl,by decide +kernel,by decide +kernel⟩
theorem Z38:ax ["script", "head", "turn", "count", "columns", "out", "way", "bit_rows", "cut", "table", "other", "rows", "told", "point", "found", "altered", "great"] ["script"] (ag Y38):=⟨rfl,rfl,rfl,by decide +kernel,rfl,by decide +kernel,by decide +kernel⟩
structure Bl (K:PySem.W.Frag) (mg:Str->Option Value) (yA yH yI yJ yK yG yN yO yP yQ yR yS yT yU yV yW yX yY yZ:Addr):Prop where
 TableError_:mg "TableError" = some (.ref yA)
 di:PySem.W.nsIn K mainGlobals "TableError" = some (some (.ref yA))
 BadName_:mg "BadName" = some (.ref yH)
 eZ:PySem.W.nsIn K mainGlobals "BadName" = some (some (.ref yH))
 TooMany_:mg "TooMany" = some (.ref yI)
 fb:PySem.W.nsIn K mainGlobals "TooMany" = some (some (.ref yI))
 BadWay_:mg "BadWay" = some (.ref yJ)
 fZ:PySem.W.nsIn K mainGlobals "BadWay" = some (some (.ref yJ))
 BadRow_:mg "BadRow" = some (.ref yK)
 gc:PySem.W.nsIn K mainGlobals "BadRow" = some (some (.ref yK))
 Unlike_:mg "Unlike" = some (.ref yG)
 gf:PySem.W.nsIn K mainGlobals "Unlike" = some (some (.ref yG))
 Way_:mg "Way" = some (.ref yN)
 gh:PySem.W.nsIn K mainGlobals "Way" = some (some (.ref yN))
 First_:mg "First" = some (.ref yO)
 gG:PySem.W.nsIn K mainGlobals "First" = some (some (.ref yO))
 Only_:mg "Only" = some (.ref yP)
 ko:PySem.W.nsIn K mainGlobals "Only" = some (some (.ref yP))
 Like_:mg "Like" = some (.ref yQ)
 kq:PySem.W.nsIn K mainGlobals "Like" = some (some (.ref yQ))
 Low_:mg "Low" = some (.ref yR)
 oO:PySem.W.nsIn K mainGlobals "Low" = some (some (.ref yR))
 High_:mg "High" = some (.ref yS)
 kr:PySem.W.nsIn K mainGlobals "High" = some (some (.ref yS))
 Sum_:mg "Sum" = some (.ref yT)
 oP:PySem.W.nsIn K mainGlobals "Sum" = some (some (.ref yT))
 Domain_:mg "Domain" = some (.ref yU)
 dW:PySem.W.nsIn K mainGlobals "Domain" = some (some (.ref yU))
 Numbers_:mg "Numbers" = some (.ref yV)
 dN:PySem.W.nsIn K mainGlobals "Numbers" = some (some (.ref yV))
 Words_:mg "Words" = some (.ref yW)
 gH:PySem.W.nsIn K mainGlobals "Words" = some (some (.ref yW))
 Table_:mg "Table" = some (.ref yX)
 gJ:PySem.W.nsIn K mainGlobals "Table" = some (some (.ref yX))
 x_BadName:cZ K yH
 l_BadName:dH K yH
 x_TooMany:cZ K yI
 l_TooMany:dH K yI
 x_BadWay:cZ K yJ
 l_BadWay:dH K yJ
 x_BadRow:cZ K yK
 l_BadRow:dH K yK
 x_Unlike:cZ K yG
 l_Unlike:dH K yG
 k_First:Cls K yO
 k_Only:Cls K yP
 k_Like:Cls K yQ
 k_Low:Cls K yR
 k_High:Cls K yS
 k_Sum:Cls K yT
 k_Numbers:Cls K yV
 k_Words:Cls K yW
 k_Table:Cls K yX
 t_First:mQ K yO
 t_Only:mQ K yP
 t_Like:mQ K yQ
 t_Low:mQ K yR
 t_High:mQ K yS
 t_Sum:mQ K yT
 t_Numbers:mQ K yV
 t_Words:mQ K yW
 t_Table:mQ K yX
 NONE_:mg "NONE" = some (.ref yY)
 q_NONE:ModT K yY [.str "none",.int (0)]
 CLASH_:mg "CLASH" = some (.ref yZ)
 q_CLASH:ModT K yZ [.str "clash",.int (0)]
 na_First_called:bc K yO "called"
 na_Only_called:bc K yP "called"
 na_Like_called:bc K yQ "called"
 na_Low_called:bc K yR "called"
 na_High_called:bc K yS "called"
 na_Sum_called:bc K yT "called"
 na_Numbers_low:bc K yV "low"
 na_Numbers_high:bc K yV "high"
 cC:bc K yV "words"
 na_Words_low:bc K yW "low"
 na_Words_high:bc K yW "high"
 na_Words_words:bc K yW "words"
 na_Table_name:bc K yX "name"
 na_Table_names:bc K yX "names"
 na_Table_domains:bc K yX "domains"
 na_Table_outcome:bc K yX "outcome"
 na_Table_way:bc K yX "way"
 na_Table_rows:bc K yX "rows"
 f_nn:PySem.W.kitOne K (.ref yV) (.ref yV)=some true
 f_wn:PySem.W.kitOne K (.ref yW) (.ref yV)=some false
 f_ww:PySem.W.kitOne K (.ref yW) (.ref yW)=some true
 f_tt:PySem.W.kitOne K (.ref yX) (.ref yX)=some true
 f_nw:PySem.W.kitOne K (.ref yV) (.ref yW)=some false
 gK:PySem.W.exmOne K (.ref yH) (.ref yA)=some true
 gL:PySem.W.kitOne K (.ref yH) (.type "ValueError")=some true
 cm:PySem.W.kitOne K (.ref yH) (.ref yH)=some true
 cn:PySem.W.kitOne K (.ref yH) (.ref yI)=some false
 cD:PySem.W.kitOne K (.ref yH) (.ref yJ)=some false
 cE:PySem.W.kitOne K (.ref yH) (.ref yK)=some false
 cF:PySem.W.kitOne K (.ref yH) (.ref yG)=some false
 e_TooMany:PySem.W.exmOne K (.ref yI) (.ref yA)=some true
 v_TooMany:PySem.W.kitOne K (.ref yI) (.type "ValueError")=some true
 g_TooMany_BadName:PySem.W.kitOne K (.ref yI) (.ref yH)=some false
 g_TooMany_TooMany:PySem.W.kitOne K (.ref yI) (.ref yI)=some true
 cG:PySem.W.kitOne K (.ref yI) (.ref yJ)=some false
 g_TooMany_BadRow:PySem.W.kitOne K (.ref yI) (.ref yK)=some false
 g_TooMany_Unlike:PySem.W.kitOne K (.ref yI) (.ref yG)=some false
 jB:PySem.W.exmOne K (.ref yJ) (.ref yA)=some true
 jC:PySem.W.kitOne K (.ref yJ) (.type "ValueError")=some true
 cH:PySem.W.kitOne K (.ref yJ) (.ref yH)=some false
 cI:PySem.W.kitOne K (.ref yJ) (.ref yI)=some false
 cP:PySem.W.kitOne K (.ref yJ) (.ref yJ)=some true
 cQ:PySem.W.kitOne K (.ref yJ) (.ref yK)=some false
 cR:PySem.W.kitOne K (.ref yJ) (.ref yG)=some false
 jD:PySem.W.exmOne K (.ref yK) (.ref yA)=some true
 jE:PySem.W.kitOne K (.ref yK) (.type "ValueError")=some true
 cJ:PySem.W.kitOne K (.ref yK) (.ref yH)=some false
 cK:PySem.W.kitOne K (.ref yK) (.ref yI)=some false
 cS:PySem.W.kitOne K (.ref yK) (.ref yJ)=some false
 cU:PySem.W.kitOne K (.ref yK) (.ref yK)=some true
 cV:PySem.W.kitOne K (.ref yK) (.ref yG)=some false
 e_Unlike:PySem.W.exmOne K (.ref yG) (.ref yA)=some true
 v_Unlike:PySem.W.kitOne K (.ref yG) (.type "ValueError")=some true
 g_Unlike_BadName:PySem.W.kitOne K (.ref yG) (.ref yH)=some false
 g_Unlike_TooMany:PySem.W.kitOne K (.ref yG) (.ref yI)=some false
 cX:PySem.W.kitOne K (.ref yG) (.ref yJ)=some false
 g_Unlike_BadRow:PySem.W.kitOne K (.ref yG) (.ref yK)=some false
 g_Unlike_Unlike:PySem.W.kitOne K (.ref yG) (.ref yG)=some true
 len_:mg "len" = none
 isinstance_:mg "isinstance" = none
 int_:mg "int" = none
 bool_:mg "bool" = none
 set_:mg "set" = none
 zip_:mg "zip" = none
 list_:mg "list" = none
 sum_:mg "sum" = none
 range_:mg "range" = none
 enumerate_:mg "enumerate" = none
 all_:mg "all" = none
 min_:mg "min" = none
 max_:mg "max" = none
 tuple_:mg "tuple" = none
 str_:mg "str" = none
 ValueError_:mg "ValueError" = none
 reversed_:mg "reversed" = none
 MOST_SIGNS_:∃ u,mg "MOST_SIGNS" = some u/\RelV (V.int 12) u
 SMALL_LETTERS_:∃ u,mg "SMALL_LETTERS" = some u/\RelV (V.str "abcdefghijklmnopqrstuvwxyz") u
 MOST_ROWS_:∃ u,mg "MOST_ROWS" = some u/\RelV (V.int 200) u
 MOST_COLUMNS_:∃ u,mg "MOST_COLUMNS" = some u/\RelV (V.int 4) u
 MOST_WORDS_:∃ u,mg "MOST_WORDS" = some u/\RelV (V.int 40) u
theorem uW (ns:List Int) (k:Nat) (hi:Option Int):∃ ms:List Int,mD (ns.map V.int) (some (k:Int)) hi=ms.map V.int/\ms.length<=ns.length - k:=by
 unfold mD
 have e:HT.sIx (ns.map V.int).length 0 (some (k:Int))=min k ns.length:=by
  simp only [HT.sIx,List.length_map]
  split <;> omega
 refine ⟨(ns.drop (HT.sIx (ns.map V.int).length 0 (some (k:Int)))).take (HT.sIx (ns.map V.int).length (ns.map V.int).length hi - HT.sIx (ns.map V.int).length 0 (some (k:Int))),?_,?_⟩
 ·rw [List.map_take,List.map_drop]
 ·rw [List.length_take,List.length_drop,e];omega
theorem p10 (n:Nat):(0:Int) < 10 ^ n:=Int.pow_pos (by decide)
theorem Ee {n:Int} {p:Int × Int} (c:decide (p.1<=n)=true) (d:decide (n<=p.2)=true):inR n p=true:=by unfold inR;rw [c,d];rfl
theorem A5 {n:Int} {p:Int × Int} (c:¬ decide (p.1<=n)=true):inR n p=false:=by unfold inR;rw [Bool.eq_false_iff.mpr c];rfl
theorem A6 {n:Int} {p:Int × Int} (d:¬ decide (n<=p.2)=true):inR n p=false:=by unfold inR;rw [Bool.eq_false_iff.mpr d,Bool.and_false]
theorem z0 (a b:Int):atI [V.int a,V.int b] 0=some (V.int a):=rfl
theorem z1 (a b:Int):atI [V.int a,V.int b] 1=some (V.int b):=rfl
theorem dc {H:Hp} {r:Addr} {o:HO} {b:Addr} {u:HO} (h:H r=some u) (n:H b=none):upd H b o r=some u:=by rw [aC (ba h n)];exact h
theorem uX {n:Nat} (h:0 < n):ixN n (-1)=some (n - 1):=by
 unfold ixN
 rw [if_neg (by decide),if_pos (by omega)]
 congr 1
 omega
theorem uY {α:Type} (l:List α) (x y:α):(l ++ [x]).set ((l ++ [x]).length - 1) y=l ++ [y]:=by
 have e:(l ++ [x]).length - 1=l.length:=by simp
 rw [e,List.set_append_right _ _ (Nat.le_refl _),Nat.sub_self]
 rfl
theorem take_snoc {α:Type} {l:List α} {i:Nat} {x:α} (e:l[i]?=some x):l.take (i+1)=l.take i ++ [x]:=by rw [List.take_add_one,e];rfl
theorem get_map {ns:List Int} {i:Nat} {c:Int} (e:ns[i]?=some c):(ns.map V.int)[i]?=some (.int c):=by rw [List.getElem?_map,e];rfl
theorem of_map {ns:List Int} {i:Nat} {x:V} (e:(ns.map V.int)[i]?=some x):∃ c,x=.int c/\ns[i]?=some c:=by
 rw [List.getElem?_map] at e
 cases q:ns[i]? with
 | none=>rw [q] at e;cases e
 | some c=>rw [q] at e;cases e;exact ⟨c,rfl,rfl⟩
def lets:Str := "abcdefghijklmnopqrstuvwxyz"
def isw (z:Str):Bool:=decide ((1:Int)<=((z.length:Nat):Int)) && (decide (((z.length:Nat):Int)<=12) && (!decide (V.str z=V.str "not") && jx z lets))
theorem za {l:List Nat} {i:Nat} {c:Nat} {p:Nat->Bool} (e:l[i]?=some c) (h:p c=false):l.all p=false:=by
 cases q:l.all p with
 | false=>rfl
 | true=>rw [List.all_eq_true.mp q c (List.mem_of_getElem? e)] at h;cases h
theorem all_succ {l:List Nat} {i:Nat} {c:Nat} {p:Nat->Bool} (e:l[i]?=some c) (h:p c=true) (ha:(l.take i).all p=true):(l.take (i+1)).all p=true:=by
 rw [take_snoc e,List.all_append,ha];simp [h]
theorem uZ {z g:Str} (h:(z.cps.toList.take z.cps.size).all (sg g)=true):jx z g=true:=by
 have e:z.cps.toList.take z.cps.size=z.cps.toList:=by rw [← Array.length_toList];exact List.take_length
 rw [e] at h;exact h
theorem zb {g:Str} {c:Nat} (h:(!(!(Builtin.Str.occurrences g ⟨#[c]⟩ 0 g.length 1).isEmpty))=true):sg g c=false:=by unfold sg;simpa using h
theorem A7 {g:Str} {c:Nat} (h:¬ (!(!(Builtin.Str.occurrences g ⟨#[c]⟩ 0 g.length 1).isEmpty))=true):sg g c=true:=by unfold sg;simpa using h
theorem big {n:Nat} (h:n<=1000):n<=sizeLine:=Nat.le_of_lt (aH h)
def mkd (C:Addr) (H:Hp) (x dx:Addr) (lo hi:Int):Hp:=upd (upd H x (.ins C dx [("low",.int lo)])) x (.ins C dx [("low",.int lo),("high",.int hi)])
theorem put2 (v u:V):bp (Str.ofString "high") u [(Str.ofString "low",v)]=[(Str.ofString "low",v),(Str.ofString "high",u)]:=by
 unfold bp bp
 rw [if_neg (by decide)]
theorem put3 (v u t:V):bp (Str.ofString "words") t [(Str.ofString "low",v),(Str.ofString "high",u)]=[(Str.ofString "low",v),(Str.ofString "high",u),(Str.ofString "words",t)]:=by
 unfold bp bp bp
 rw [if_neg (by decide),if_neg (by decide)]
def hiW (zs:List Str):Int:=((zs.length:Nat):Int) - 1
structure Good (zs:List Str):Prop where
 some_:1<=zs.length
 few:zs.length<=40
 words:∀ z ∈ zs,isw z=true
 once:zs.Nodup
theorem tV (zs:List Str):(zs.map V.str).all dg=true:=by
 rw [List.all_map]
 exact List.all_eq_true.mpr fun _ _=>rfl
theorem fc {zs:List Str} {i:Nat} {x:V} (e:(zs.map V.str)[i]?=some x):∃ z,x=.str z/\zs[i]?=some z:=by
 rw [List.getElem?_map] at e
 cases q:zs[i]? with
 | none=>rw [q] at e;cases e
 | some z=>rw [q] at e;cases e;exact ⟨z,rfl,rfl⟩
theorem jF {zs:List Str} {i:Nat} {z:Str} (e:zs[i]?=some z):(zs.map V.str)[i]?=some (.str z):=by rw [List.getElem?_map,e];rfl
def six:List Str:=[Str.ofString "first",Str.ofString "only",Str.ofString "like",Str.ofString "low",Str.ofString "high",Str.ofString "sum"]
theorem wK {i j:Nat} {z:Str} (h:six[i]?=some z) (k:six[j]?=some z):i=j:=jt (show six.Nodup by decide +kernel) h k
def WyN (C:Addr) (H:Hp) (x:Addr) (z:Str):Prop:=∃ dx,H x=some (.ins C dx [("called",.str z)])
theorem WyN.same {C:Addr} {H H' : Hp} {x:Addr} {z:Str} (h:WyN C H x z) (s:av H H'):WyN C H' x z:=let ⟨dx,e⟩:=h;⟨dx,s _ _ e⟩
def tW (C:Addr) (z:Str):Sp:=fun vs H Q _=>∃ (x dx:Addr),vs=[.ref x]/\H x=some (.ins C dx [])/\Q .non (upd H x (.ins C dx [("called",.str z)]))
theorem bg:2<=sizeLine:=by decide
def cl6 (a b c d e f:Addr):List Addr:=[a,b,c,d,e,f]
def zc (C:Addr) (H:Hp) (a:Addr) (lo hi:Int):Prop:=∃ dx fs,H a=some (.ins C dx fs)/\fs.lookup (Str.ofString "low")=some (.int lo)/\fs.lookup (Str.ofString "high")=some (.int hi)/\fs.lookup (Str.ofString "has_code")=none
def Dom (cN cW:Addr) (H:Hp) (a:Addr) (b:Int × Int):Prop:=∃ C,(C=cN\/C=cW)/\zc C H a b.1 b.2
theorem Dom.same {cN cW:Addr} {H H' : Hp} {a:Addr} {b:Int × Int} (h:Dom cN cW H a b) (s:av H H'):Dom cN cW H' a b:=let ⟨C,hC,dx,fs,e,r⟩:=h;⟨C,hC,dx,fs,s _ _ e,r⟩
def az {α:Type} (xs:List V) (as:List α) (P:Addr->α->Prop):Prop:=xs.length=as.length/\∀ (j:Nat) (a:α),as[j]?=some a->∃ r,xs[j]?=some (.ref r)/\P r a
theorem az.mono {α:Type} {xs:List V} {as:List α} {P Q:Addr->α->Prop} (h:az xs as P) (k:∀ r a,P r a->Q r a):az xs as Q:=⟨h.1,fun j a e=>let ⟨r,e1,p⟩:=h.2 j a e;⟨r,e1,k r a p⟩⟩
theorem az.nil {α:Type} {P:Addr->α->Prop} : az [] [] P:=⟨rfl,(fun j a e=>by simp at e)⟩
theorem az.snoc {α:Type} {xs:List V} {as:List α} {P:Addr->α->Prop} {r:Addr} {a:α} (h:az xs as P) (p:P r a):az (xs ++ [.ref r]) (as ++ [a]) P:=by
 refine ⟨by simp [h.1],fun j b e=>?_⟩
 by_cases hj:j < as.length
 ·rw [List.getElem?_append_left hj] at e
  obtain ⟨r',e1,q⟩:=h.2 j b e
  exact ⟨r',by rw [List.getElem?_append_left (by rw [h.1];exact hj)];exact e1,q⟩
 ·have hj2:j=as.length:=by
   have:=(List.getElem?_eq_some_iff.mp e).1
   simp at this;omega
  subst hj2
  simp at e
  subst e
  exact ⟨r,by rw [← h.1];simp,p⟩
theorem az.get {α:Type} {xs:List V} {as:List α} {P:Addr->α->Prop} (h:az xs as P) {j:Nat} {x:V} (e:xs[j]?=some x):∃ r a,x=.ref r/\as[j]?=some a/\P r a:=by
 have hj:=(List.getElem?_eq_some_iff.mp e).1
 have ea:=List.getElem?_eq_getElem (l:=as) (i:=j) (by rw [← h.1];exact hj)
 obtain ⟨r,e1,p⟩:=h.2 j _ ea
 rw [e] at e1;cases e1
 exact ⟨r,_,rfl,ea,p⟩
abbrev Prs:=List (Int × Int)
def SpA (N:Addr->Prop) (H:Hp) (l:Addr) (ps:Prs):Prop:=N l/\∃ ys,H l=some (.lst ys)/\PL H ys ps
def CL (N:Addr->Prop) (H:Hp) (xs:List V) (pss:List Prs):Prop:=az xs pss (SpA N H)
abbrev Rw:=List Prs × Int
def fe (N:Addr->Prop) (H:Hp) (r:Addr) (rw_:Rw):Prop:=∃ ce cs,H r=some (.tup [.ref ce,.int rw_.2])/\N ce/\H ce=some (.lst cs)/\CL N H cs rw_.1
def RL (N:Addr->Prop) (H:Hp) (xs:List V) (rws:List Rw):Prop:=az xs rws (fe N H)
theorem SpA.same {N:Addr->Prop} {H H' : Hp} {l:Addr} {ps:Prs} (h:SpA N H l ps) (s:av H H'):SpA N H' l ps:=let ⟨n,ys,e,p⟩:=h;⟨n,ys,s _ _ e,p.mono s.tups⟩
theorem CL.same {N:Addr->Prop} {H H' : Hp} {xs:List V} {pss:List Prs} (h:CL N H xs pss) (s:av H H'):CL N H' xs pss:=az.mono h fun _ _ p=>p.same s
theorem fe.same {N:Addr->Prop} {H H' : Hp} {r:Addr} {w:Rw} (h:fe N H r w) (s:av H H'):fe N H' r w:=let ⟨ce,cs,e,n,f,c⟩:=h;⟨ce,cs,s _ _ e,n,s _ _ f,c.same s⟩
theorem RL.same {N:Addr->Prop} {H H' : Hp} {xs:List V} {rws:List Rw} (h:RL N H xs rws) (s:av H H'):RL N H' xs rws:=az.mono h fun _ _ p=>p.same s
abbrev NT:Addr->Prop:=fun _=>True
theorem SpA.any {N:Addr->Prop} {H:Hp} {l:Addr} {ps:Prs} (h:SpA N H l ps):SpA NT H l ps:=⟨trivial,h.2⟩
theorem CL.any {N:Addr->Prop} {H:Hp} {xs:List V} {pss:List Prs} (h:CL N H xs pss):CL NT H xs pss:=az.mono h fun _ _ p=>p.any
theorem fe.any {N:Addr->Prop} {H:Hp} {r:Addr} {w:Rw} (h:fe N H r w):fe NT H r w:=let ⟨ce,cs,e,_,f,c⟩:=h;⟨ce,cs,e,trivial,f,c.any⟩
theorem RL.any {N:Addr->Prop} {H:Hp} {xs:List V} {rws:List Rw} (h:RL N H xs rws):RL NT H xs rws:=az.mono h fun _ _ p=>p.any
theorem SpA.wk {N N' : Addr->Prop} {H:Hp} {l:Addr} {ps:Prs} (h:SpA N H l ps) (k:∀ a,N a->N' a):SpA N' H l ps:=⟨k _ h.1,h.2⟩
theorem CL.wk {N N' : Addr->Prop} {H:Hp} {xs:List V} {pss:List Prs} (h:CL N H xs pss) (k:∀ a,N a->N' a):CL N' H xs pss:=az.mono h fun _ _ p=>p.wk k
theorem fe.wk {N N' : Addr->Prop} {H:Hp} {r:Addr} {w:Rw} (h:fe N H r w) (k:∀ a,N a->N' a):fe N' H r w:=let ⟨ce,cs,e,n,f,c⟩:=h;⟨ce,cs,e,k _ n,f,c.wk k⟩
theorem SpA.updN {N:Addr->Prop} {D:Addr} {H:Hp} {l:Addr} {ps:Prs} {zs:List V} {o:HO} (h:SpA N H l ps) (n:¬ N D) (e:H D=some (.lst zs)):SpA N (upd H D o) l ps :=
 let ⟨m,ys,f,p⟩:=h
 ⟨m,ys,(aC (fun z=>n (by rw [← z];exact m))).trans f,p.mono (dq e)⟩
theorem CL.updN {N:Addr->Prop} {D:Addr} {H:Hp} {xs:List V} {pss:List Prs} {zs:List V} {o:HO} (h:CL N H xs pss) (n:¬ N D) (e:H D=some (.lst zs)):CL N (upd H D o) xs pss:=az.mono h fun _ _ p=>p.updN n e
theorem fe.updN {N:Addr->Prop} {D:Addr} {H:Hp} {r:Addr} {w:Rw} {zs:List V} {o:HO} (h:fe N H r w) (n:¬ N D) (e:H D=some (.lst zs)):fe N (upd H D o) r w :=
 let ⟨ce,cs,f,m,g,c⟩:=h
 ⟨ce,cs,(aC (dO f e (by intro z;cases z))).trans f,m,(aC (fun z=>n (by rw [← z];exact m))).trans g,c.updN n e⟩
theorem RL.updN {N:Addr->Prop} {D:Addr} {H:Hp} {xs:List V} {rws:List Rw} {zs:List V} {o:HO} (h:RL N H xs rws) (n:¬ N D) (e:H D=some (.lst zs)):RL N (upd H D o) xs rws:=az.mono h fun _ _ p=>p.updN n e
def Fr (H:Hp) (D:Addr):Addr->Prop:=fun a=>H a=none/\a ≠ D
theorem Fr.out {H:Hp} {D:Addr} : ¬ Fr H D D:=fun h=>h.2 rfl
structure A8 (b:Int × Int) (zs:List Str):Prop where
 le:b.1<=b.2
 ws:zs ≠ []->Good zs/\b=(0,hiW zs)
def Ef (N:Addr->Prop) (H:Hp) (l:Addr) (b:Int × Int):Prop:=∃ (w:Addr) (zs:List Str),N l/\N w/\H l=some (.lst [.int b.1,.int b.2,.ref w])/\H w=some (.lst (zs.map V.str))/\A8 b zs
def QQ (N:Addr->Prop) (H:Hp) (xs:List V) (bs:Prs):Prop:=az xs bs (Ef N H)
structure cz (bs:Prs) (o:Int × Int) (w:Rw):Prop where
 len:w.1.length=bs.length
 inn:∀ (j:Nat) (ps:Prs) (b:Int × Int),w.1[j]?=some ps->bs[j]?=some b->∀ p ∈ ps,b.1<=p.1/\p.2<=b.2
 lo:o.1<=w.2
 hi:w.2<=o.2
def gQ (pss:List Prs) (cs:List Int):Bool:=(List.range cs.length).all fun j=>inP (pss.getD j []) (cs.getD j 0)
theorem pf1 (v0 v1:V):bp (Str.ofString "names") v1 [(Str.ofString "name",v0)]=[(Str.ofString "name",v0),(Str.ofString "names",v1)]:=by
 unfold bp bp
 rw [if_neg (by decide)]
theorem pf2 (v0 v1 v2:V):bp (Str.ofString "domains") v2 [(Str.ofString "name",v0),(Str.ofString "names",v1)]=[(Str.ofString "name",v0),(Str.ofString "names",v1),(Str.ofString "domains",v2)]:=by
 unfold bp bp bp
 rw [if_neg (by decide),if_neg (by decide)]
theorem pf3 (v0 v1 v2 v3:V):bp (Str.ofString "outcome") v3 [(Str.ofString "name",v0),(Str.ofString "names",v1),(Str.ofString "domains",v2)]=[(Str.ofString "name",v0),(Str.ofString "names",v1),(Str.ofString "domains",v2),(Str.ofString "outcome",v3)]:=by
 unfold bp bp bp bp
 rw [if_neg (by decide),if_neg (by decide),if_neg (by decide)]
theorem pf4 (v0 v1 v2 v3 v4:V):bp (Str.ofString "way") v4 [(Str.ofString "name",v0),(Str.ofString "names",v1),(Str.ofString "domains",v2),(Str.ofString "outcome",v3)]=[(Str.ofString "name",v0),(Str.ofString "names",v1),(Str.ofString "domains",v2),(Str.ofString "outcome",v3),(Str.ofString "way",v4)]:=by
 unfold bp bp bp bp bp
 rw [if_neg (by decide),if_neg (by decide),if_neg (by decide),if_neg (by decide)]
theorem pf5 (v0 v1 v2 v3 v4 v5:V):bp (Str.ofString "rows") v5 [(Str.ofString "name",v0),(Str.ofString "names",v1),(Str.ofString "domains",v2),(Str.ofString "outcome",v3),(Str.ofString "way",v4)]=[(Str.ofString "name",v0),(Str.ofString "names",v1),(Str.ofString "domains",v2),(Str.ofString "outcome",v3),(Str.ofString "way",v4),(Str.ofString "rows",v5)]:=by
 unfold bp bp bp bp bp bp
 rw [if_neg (by decide),if_neg (by decide),if_neg (by decide),if_neg (by decide),if_neg (by decide)]
def hide (H:Hp) (x:Addr):Hp:=fun b=>if b=x then none else H b
theorem bT {H:Hp} {x b:Addr} {o:HO} (e:H b=some o) (n:b ≠ x):hide H x b=some o:=by unfold hide;rw [if_neg n];exact e
theorem oQ {H H' : Hp} {x:Addr} (k:∀ b o,b ≠ x->H b=some o->H' b=some o):av (hide H x) H':=fun b o e=>by
 unfold hide at e
 by_cases h:b=x
 ·rw [if_pos h] at e;cases e
 ·rw [if_neg h] at e;exact k b o h e
theorem PL.hide {H:Hp} {x C dx:Addr} {fs:List (Str × V)} (hx:H x=some (.ins C dx fs)) {ys:List V} {ps:Prs} (h:PL H ys ps):PL (hide H x) ys ps :=
 h.mono fun b xs e=>bT e (dO e hx (by intro z;cases z))
theorem RL.hide {H:Hp} {x C dx:Addr} {fs:List (Str × V)} (hx:H x=some (.ins C dx fs)) {xs:List V} {rws:List Rw} (h:RL NT H xs rws):RL NT (My.hide H x) xs rws :=
 az.mono h fun r w ⟨ce,cs,e,_,f,c⟩=>⟨ce,cs,bT e (dO e hx (by intro z;cases z)),trivial,bT f (dO f hx (by intro z;cases z)),az.mono c fun l ps ⟨_,ys,g,p⟩=>⟨trivial,ys,bT g (dO g hx (by intro z;cases z)),PL.hide hx p⟩⟩
def wcs (c k:Int):List Nat:=List.replicate (c / 26 % 6).toNat (97+(c % 26).toNat) ++ ([97+(k / 7 % 7).toNat,97+(k % 7).toNat] ++ List.replicate (k % 5).toNat (97+(c / 156 % 26).toNat))
def wd (c k:Int):Str:=⟨(wcs c k).toArray⟩
theorem sT (c k:Int):(wcs c k).length=(c / 26 % 6).toNat+(2+(k % 5).toNat):=by unfold wcs;simp;omega
theorem jG (c k:Int):(wcs c k)[(c / 26 % 6).toNat]?=some (97+(k / 7 % 7).toNat):=by
 unfold wcs
 rw [List.getElem?_append_right (by simp)]
 simp
theorem lS (c k:Int):(wcs c k)[(c / 26 % 6).toNat+1]?=some (97+(k % 7).toNat):=by
 unfold wcs
 rw [List.getElem?_append_right (by simp)]
 simp
theorem u6 (c k:Int):(wd c k).length=(c / 26 % 6).toNat+(2+(k % 5).toNat):=by
 rw [← sT c k];unfold wd;simp [Str.length]
theorem xC (c k:Int):2<=(wd c k).length/\(wd c k).length<=11:=by
 rw [u6]
 have h0:=Int.emod_lt_of_pos (c / 26) (show (0:Int) < 6 by decide)
 have h1:=Int.emod_lt_of_pos k (show (0:Int) < 5 by decide)
 omega
theorem rR {c:Nat} (h:97<=c/\c<=122):sg lets c=true:=by
 have:∀ d:Nat,d < 26->sg lets (97+d)=true:=by decide +kernel
 have z:=this (c - 97) (by omega)
 rw [show 97+(c - 97)=c by omega] at z
 exact z
theorem sU (c k:Int):∀ x ∈ wcs c k,97<=x/\x<=122:=fun x hx=>by
 have h0:=Int.emod_lt_of_pos c (show (0:Int) < 26 by decide)
 have h1:=Int.emod_lt_of_pos (c / 156) (show (0:Int) < 26 by decide)
 have h2:=Int.emod_lt_of_pos (k / 7) (show (0:Int) < 7 by decide)
 have h3:=Int.emod_lt_of_pos k (show (0:Int) < 7 by decide)
 unfold wcs at hx
 simp only [List.mem_append,List.mem_replicate,List.mem_cons,List.not_mem_nil,or_false] at hx
 rcases hx with ⟨_,rfl⟩ | (rfl | rfl) | ⟨_,rfl⟩ <;> omega
theorem rS (c k:Int):isw (wd c k)=true:=by
 have hl:=xC c k
 have ha:jx (wd c k) lets=true:=by
  unfold jx wd
  rw [List.all_eq_true]
  intro x hx
  exact rR (sU c k x (by simpa using hx))
 have hn:¬ (V.str (wd c k)=V.str (Str.ofString "not")):=fun h=>by
  injection h with h
  have e:Str.ofString "not" = ⟨[110,111,116].toArray⟩:=by decide +kernel
  rw [e] at h
  unfold wd at h
  injection h with h
  have h:wcs c k=[110,111,116]:=by simpa using congrArg Array.toList h
  have z:=jG c k
  rw [h] at z
  have h2:=Int.emod_lt_of_pos (k / 7) (show (0:Int) < 7 by decide)
  have m:=List.mem_of_getElem? z
  simp only [List.mem_cons,List.not_mem_nil,or_false] at m
  omega
 unfold isw
 rw [ha,decide_eq_true (show (1:Int)<=(((wd c k).length:Nat):Int) by omega),decide_eq_true (show (((wd c k).length:Nat):Int)<=12 by omega)]
 show (true && (true && (!decide (V.str (wd c k)=V.str (Str.ofString "not")) && true)))=true
 rw [decide_eq_false hn];rfl
theorem u7 {c k k' : Int} (h0:0<=k) (h1:k < 49) (h2:0<=k') (h3:k' < 49) (e:wd c k=wd c k'):k=k':=by
 unfold wd at e
 injection e with e
 have e:wcs c k=wcs c k':=by simpa using congrArg Array.toList e
 have a:=jG c k
 have b:=lS c k
 rw [e,jG] at a
 rw [e,lS] at b
 injection a with a
 injection b with b
 omega
theorem lT {s:Str} {n:Nat} (h:s.cps.toList=(List.range n).map (97 + ·)) {k:Int} (h0:0<=k) (h1:k < n):atI s.cps.toList k=some (97+k.toNat):=by
 have hk:k.toNat < n:=by omega
 have z:s.cps.toList[k.toNat]?=some (97+k.toNat):=by rw [h,List.getElem?_map,List.getElem?_range hk];rfl
 have q:=bS z
 rw [show ((k.toNat:Nat):Int)=k by omega] at q
 exact q
theorem xD:(Str.ofString "abcdefghijklmnopqrstuvwxyz").cps.toList=(List.range 26).map (97 + ·):=by decide +kernel
theorem A9:(Str.ofString "abcdefg").cps.toList=(List.range 7).map (97 + ·):=by decide +kernel
theorem Ba (c:Nat) (n:Int):Txt.mul ⟨#[c]⟩ n=⟨(List.replicate n.toNat c).toArray⟩:=by
 have h:=PyProof.Rows.mul_one_list c n
 cases q:Txt.mul ⟨#[c]⟩ n with
 | mk a=>rw [q] at h;simp only at h;rw [← h]
def wds (c:Int) (n:Nat):List Str:=(List.range n).map fun j:Nat=>wd c (j:Int)
theorem u9 (c:Int) (n:Nat):wds c (n+1)=wds c n ++ [wd c (n:Int)]:=by unfold wds;rw [List.range_succ,List.map_append];rfl
theorem oR {c:Int} {n:Nat} (h:n<=49) (f:Nat->Int) (hf:∀ j,j < n->0<=f j/\f j < 49) (inj:∀ i j,f i=f j->i=j):((List.range n).map fun j:Nat=>wd c (f j)).Nodup:=by
 rw [List.nodup_iff_pairwise_ne,List.pairwise_map]
 refine List.Pairwise.imp_of_mem (R:=fun a b=>a ≠ b) (fun {a b} ha hb hab e=>?_) List.nodup_range
 have a1:=hf a (List.mem_range.mp ha)
 have b1:=hf b (List.mem_range.mp hb)
 exact hab (inj a b (u7 a1.1 a1.2 b1.1 b1.2 e))
theorem qT {c:Int} {n:Nat} (h1:1<=n) (h2:n<=40):Good (wds c n):=by
 refine ⟨by unfold wds;simp;omega,by unfold wds;simp;omega,fun z hz=>?_,oR (n:=n) (by omega) (fun j:Nat=>(j:Int)) (fun j hj=>⟨by omega,by omega⟩) fun i j e=>by omega⟩
 unfold wds at hz
 obtain ⟨j,_,rfl⟩:=List.mem_map.mp hz
 exact rS _ _
abbrev SI:=Str × Int
def tp (p:SI):List V:=[.str p.1,.int p.2]
def say (i:Int):SI:=(Str.ofString "say",i)
def lE:SI:=(Str.ofString "clash",0)
def Eg:SI:=(Str.ofString "none",0)
def least (ns:List Int):Int:=ns.foldl (fun m c=>if c < m then c else m) (ns.headD 0)
def great (ns:List Int):Int:=ns.foldl (fun m c=>if c > m then c else m) (ns.headD 0)
theorem fold_min (ns:List Int):∀ m:Int,(ns.foldl (fun m c=>if c < m then c else m) m=m\/ns.foldl (fun m c=>if c < m then c else m) m ∈ ns)/\ns.foldl (fun m c=>if c < m then c else m) m<=m/\∀ x ∈ ns,ns.foldl (fun m c=>if c < m then c else m) m<=x:=by
 induction ns with
 | nil=>intro m;exact ⟨.inl rfl,Int.le_refl _,fun x h=>by cases h⟩
 | cons n ns ih =>
  intro m
  obtain ⟨h1,h2,h3⟩:=ih (if n < m then n else m)
  rw [List.foldl_cons]
  refine ⟨?_,?_,fun x hx=>?_⟩
  ·rcases h1 with h1 | h1
   ·rw [h1];split
    ·exact .inr List.mem_cons_self
    ·exact .inl rfl
   ·exact .inr (List.mem_cons_of_mem _ h1)
  ·split at h2 <;> split <;> omega
  ·rcases List.mem_cons.mp hx with rfl | hx
   ·split at h2 <;> split <;> omega
   ·exact h3 x hx
theorem fold_max (ns:List Int):∀ m:Int,(ns.foldl (fun m c=>if c > m then c else m) m=m\/ns.foldl (fun m c=>if c > m then c else m) m ∈ ns)/\m<=ns.foldl (fun m c=>if c > m then c else m) m/\∀ x ∈ ns,x<=ns.foldl (fun m c=>if c > m then c else m) m:=by
 induction ns with
 | nil=>intro m;exact ⟨.inl rfl,Int.le_refl _,fun x h=>by cases h⟩
 | cons n ns ih =>
  intro m
  obtain ⟨h1,h2,h3⟩:=ih (if n > m then n else m)
  rw [List.foldl_cons]
  refine ⟨?_,?_,fun x hx=>?_⟩
  ·rcases h1 with h1 | h1
   ·rw [h1];split
    ·exact .inr List.mem_cons_self
    ·exact .inl rfl
   ·exact .inr (List.mem_cons_of_mem _ h1)
  ·split at h2 <;> split <;> omega
  ·rcases List.mem_cons.mp hx with rfl | hx
   ·split at h2 <;> split <;> omega
   ·exact h3 x hx
theorem fg {n:Int} {ns:List Int} : least (n :: ns) ∈ n :: ns/\∀ x ∈ n :: ns,least (n :: ns)<=x:=by
 obtain ⟨h1,h2,h3⟩:=fold_min (n :: ns) n
 refine ⟨?_,h3⟩
 rcases h1 with h1 | h1
 ·show (n :: ns).foldl _ n ∈ _
  rw [h1];exact List.mem_cons_self
 ·exact h1
theorem gi {n:Int} {ns:List Int} : great (n :: ns) ∈ n :: ns/\∀ x ∈ n :: ns,x<=great (n :: ns):=by
 obtain ⟨h1,h2,h3⟩:=fold_max (n :: ns) n
 refine ⟨?_,h3⟩
 rcases h1 with h1 | h1
 ·show (n :: ns).foldl _ n ∈ _
  rw [h1];exact List.mem_cons_self
 ·exact h1
theorem mV {n m:Int} {ns:List Int} (h1:m ∈ n :: ns) (h2:∀ b ∈ n :: ns,m<=b):m=least (n :: ns):=by
 have a:=h2 _ fg.1
 have b:=fg.2 _ h1
 omega
theorem mW {n m:Int} {ns:List Int} (h1:m ∈ n :: ns) (h2:∀ b ∈ n :: ns,b<=m):m=great (n :: ns):=by
 have a:=h2 _ gi.1
 have b:=gi.2 _ h1
 omega
def Eh (ns:List Int):SI:=say (least ns)
def Bb (ns:List Int):SI:=say (great ns)
def jH (ns:List Int):SI:=if least ns=great ns then say (least ns) else lE
theorem ku {n:Int} {ns:List Int} : (∀ x ∈ ns,x=n)↔least (n :: ns)=great (n :: ns):=by
 constructor
 ·intro h
  have e:∀ x ∈ n :: ns,x=n:=fun x hx=>by
   rcases List.mem_cons.mp hx with r | hx
   ·exact r
   ·exact h x hx
  rw [e _ fg.1,e _ gi.1]
 ·intro h x hx
  have a1:=fg.2 x (List.mem_cons_of_mem n hx)
  have a2:=gi.2 x (List.mem_cons_of_mem n hx)
  have a3:=fg.2 n (List.mem_cons_self (l:=ns))
  have a4:=gi.2 n (List.mem_cons_self (l:=ns))
  omega
theorem oS {n:Int} {ns:List Int} (h:∀ x ∈ ns,x=n):least (n :: ns)=n:=by
 have e:∀ x ∈ n :: ns,x=n:=fun x hx=>by
  rcases List.mem_cons.mp hx with r | hx
  ·exact r
  ·exact h x hx
 exact e _ fg.1
def ver (f:List Int->SI):List Int->SI
 | []=>Eg
 | n :: ns=>f (n :: ns)
def Wy (C:Addr) (H:Hp) (x:Addr):Prop:=∃ dx z,H x=some (.ins C dx [("called",.str z)])
def zd (ns:List Int):SI:=say (ns.headD 0)
def jI (ns:List Int):SI:=if ns.length=1 then say (ns.headD 0) else lE
def near (lo hi n:Int):Int:=if n < lo then lo else if n > hi then hi else n
def wf:Nat->Int->Int->List Int->SI
 | 0,_,_=>zd
 | 1,_,_=>jI
 | 2,_,_=>jH
 | 3,_,_=>Eh
 | 4,_,_=>Bb
 | _,lo,hi=>fun ns=>say (near lo hi ns.sum)
theorem at0 (n:Int) (ns:List Int):atI ((n :: ns).map V.int) 0=some (.int n):=bS (j:=0) rfl
def tX (K:PySem.W.Frag) (C cN cW:Addr) (i:Nat):Sp:=fun vs H Q _=>∃ (x c o:Addr) (n:Int) (ns:List Int) (b:Int × Int),vs=[.ref x,.ref c,.ref o]/\Wy C H x/\Dom cN cW H o b/\b.1<=b.2/\SqL K H c ((n :: ns).map V.int)/\ns.length < 900/\∀ (r:Addr) (H' : Hp),av H H'->SqT K H' r (tp (wf i b.1 b.2 (n :: ns)))->Q (.ref r) H'
def jJ (K:PySem.W.Frag) (C cN cW:Addr) (i:Nat):Sp:=fun vs H Q _=>∃ (x c o:Addr) (ns:List Int) (b:Int × Int),vs=[.ref x,.ref c,.ref o]/\Wy C H x/\Dom cN cW H o b/\b.1<=b.2/\SqL K H c (ns.map V.int)/\ns.length < 900/\∀ (r:Addr) (H' : Hp),av H H'->SqT K H' r (tp (ver (wf i b.1 b.2) ns))->Q (.ref r) H'
def msk (f:Nat->Bool):Nat->Nat
 | 0=>0
 | n+1=>(if f n then 2 ^ n else 0)+msk f n
theorem fh (f:Nat->Bool) (n:Nat):msk f (n+1)=(if f n then 2 ^ n else 0)+msk f n:=rfl
theorem pH (f:Nat->Bool):∀ n,msk f n < 2 ^ n
 | 0=>Nat.one_pos
 | n+1=>by
  have:=pH f n
  unfold msk
  rw [Nat.pow_succ]
  split <;> omega
theorem sV (f:Nat->Bool) (k:Nat):∀ n,(msk f n).testBit k=(decide (k < n) && f k)
 | 0=>by simp [msk]
 | n+1=>by
  have ih:=sV f k n
  have lt:=pH f n
  unfold msk
  rcases Nat.lt_trichotomy k n with h | h | h
  ·split
   ·rw [Nat.testBit_two_pow_add_gt h,ih];simp [h,Nat.lt_succ_of_lt h]
   ·rw [Nat.zero_add,ih];simp [h,Nat.lt_succ_of_lt h]
  ·subst h
   split
   ·rename_i hf
    rw [Nat.testBit_two_pow_add_eq,Nat.testBit_lt_two_pow lt];simp [hf]
   ·rename_i hf
    rw [Nat.zero_add,Nat.testBit_lt_two_pow lt];simp [hf]
  ·have lt2:(if f n=true then 2 ^ n else 0)+msk f n < 2 ^ k:=Nat.lt_of_lt_of_le (pH f (n+1)) (Nat.pow_le_pow_right (by decide) h)
   rw [Nat.testBit_lt_two_pow lt2]
   simp;omega
def gj (m:Int) (k:Nat):Bool:=Builtin.bitAnd (m / 2 ^ k) 1 != 0
theorem tY (f:Nat->Bool) (n k:Nat):gj ((msk f n:Nat):Int) k=(decide (k < n) && f k):=by
 rw [← sV]
 unfold gj
 have e:((msk f n:Nat):Int) / 2 ^ k=((msk f n / 2 ^ k:Nat):Int):=by simp
 rw [e,PyProof.Rows.bitAnd_pp (Int.natCast_nonneg _) (by decide)]
 unfold Nat.testBit
 rw [Nat.shiftRight_eq_div_pow,Int.toNat_natCast,Nat.and_comm]
 show ((((1:Int).toNat &&& (msk f n / 2 ^ k):Nat):Int) != 0)=_
 rw [Bool.eq_iff_iff,bne_iff_ne,bne_iff_ne]
 constructor
 ·intro h z;exact h (by rw [show (1:Int).toNat=1 from rfl,z];rfl)
 ·intro h z;exact h (by rw [show (1:Int).toNat=1 from rfl] at z;omega)
def pkF (rws:List Rw) (f:Nat->Bool) (n:Nat):List Int:=((List.range n).filter f).map fun k=>(rws.getD k ([],0)).2
theorem qU (rws:List Rw) (f:Nat->Bool) (n:Nat):pkF rws f (n+1)=pkF rws f n ++ (if f n then [(rws.getD n ([],0)).2] else []):=by
 unfold pkF
 rw [List.range_succ,List.filter_append,List.map_append]
 cases h:f n with
 | true=>rw [List.filter_cons_of_pos h];simp
 | false=>rw [List.filter_cons_of_neg (by rw [h];exact Bool.false_ne_true)];simp
theorem sW (rws:List Rw) (f:Nat->Bool) (n:Nat):(pkF rws f n).length<=n:=by
 unfold pkF
 rw [List.length_map]
 exact Nat.le_trans (List.length_filter_le ..) (by simp)
theorem wL (rws:List Rw) (f:Nat->Bool) (n:Nat):pkF rws (gj ((msk f n:Nat):Int)) n=pkF rws f n:=by
 unfold pkF
 congr 1
 apply List.filter_congr
 intro k hk
 rw [tY]
 simp [List.mem_range.mp hk]
def Tbl (cT cN cW:Addr) (H:Hp) (t:Addr) (rws:List Rw) (i:Nat) (o:Int × Int):Prop:=∃ (rl ou dx:Addr) (fs:List (Str × V)) (xs:List V) (wy:Str),H t=some (.ins cT dx fs)/\fs.lookup (Str.ofString "rows")=some (.ref rl)/\fs.lookup (Str.ofString "way")=some (.str wy)/\fs.lookup (Str.ofString "outcome")=some (.ref ou)/\H rl=some (.lst xs)/\RL NT H xs rws/\six[i]?=some wy/\Dom cN cW H ou o/\o.1<=o.2/\xs.length<=200
theorem Tbl.same {cT cN cW:Addr} {H H' : Hp} {t:Addr} {rws:List Rw} {i:Nat} {o:Int × Int} (h:Tbl cT cN cW H t rws i o) (s:av H H'):Tbl cT cN cW H' t rws i o :=
 let ⟨rl,ou,dx,fs,xs,wy,h1,h2,h3,h4,h5,h6,h7,h8,h9,h10⟩:=h
 ⟨rl,ou,dx,fs,xs,wy,s _ _ h1,h2,h3,h4,s _ _ h5,h6.same s,h7,h8.same s,h9,h10⟩
def fO (rws:List Rw) (cs:List Int) (k:Nat):Bool:=gQ (rws.getD k ([],0)).1 cs
theorem getD_at {rws:List Rw} {k:Nat} {w:Rw} (e:rws[k]?=some w):rws.getD k ([],0)=w:=by rw [List.getD_eq_getElem?_getD,e];rfl
def fl (rws:List Rw) (cs:List Int):List Int:=(rws.filter fun w=>gQ w.1 cs).map (·.2)
theorem sX (rws:List Rw) (w:Rw) (cs:List Int):fl (rws ++ [w]) cs=fl rws cs ++ (if gQ w.1 cs then [w.2] else []):=by
 unfold fl
 rw [List.filter_append,List.map_append]
 cases h:gQ w.1 cs <;> simp [List.filter_cons,h]
theorem qV (rws:List Rw) (cs:List Int):∀ n,n<=rws.length->pkF rws (fO rws cs) n=fl (rws.take n) cs
 | 0,_=>by simp [pkF,fl]
 | n+1,h=>by
  have ew:rws[n]?=some rws[n]:=List.getElem?_eq_getElem h
  rw [qU,qV rws cs n (Nat.le_of_succ_le h),take_snoc ew,sX,getD_at ew]
  unfold fO
  rw [getD_at ew]
theorem ze (rws:List Rw) (cs:List Int):pkF rws (fO rws cs) rws.length=fl rws cs:=by
 rw [qV rws cs _ (Nat.le_refl _),List.take_length]
def ord:List Nat:=[3,4,2,1,0,5]
def w6:List Str:=[Str.ofString "low",Str.ofString "high",Str.ofString "like",Str.ofString "only",Str.ofString "first",Str.ofString "sum"]
def QR (lo hi:Int) (ns:List Int):List SI:=ord.map fun i=>ver (wf i lo hi) ns
def DL (H:Hp) (xs:List V) (ps:List SI):Prop:=az xs ps fun r p=>H r=some (.tup (tp p))
def QS (cT:Addr) (H:Hp) (t:Addr) (nm wy:Str) (ou:Addr) (zs:List Str) (dv:List V):Prop:=∃ (dx na dl:Addr) (fs:List (Str × V)),H t=some (.ins cT dx fs)/\fs.lookup (Str.ofString "name")=some (.str nm)/\fs.lookup (Str.ofString "way")=some (.str wy)/\fs.lookup (Str.ofString "outcome")=some (.ref ou)/\fs.lookup (Str.ofString "names")=some (.ref na)/\fs.lookup (Str.ofString "domains")=some (.ref dl)/\H na=some (.lst (zs.map V.str))/\H dl=some (.lst dv)
theorem sY {K:PySem.W.Frag} {H:Hp} {n:Nat} {a b:Addr} {xs ys:List V} (ha:SqL K H a xs) (hb:SqL K H b ys) (hl:xs.length=ys.length) (h:∀ (j:Nat) (x y:V),xs[j]?=some x->ys[j]?=some y->DEq K H n x y true):DEq K H (n+1) (.ref a) (.ref b) true:=by
 by_cases e:a=b
 ·subst e;exact .same a
 ·have:=DEq.lst (f:=fun _=>true) e ha hb hl h
  rw [show (List.range xs.length).all (fun _=>true)=true by simp] at this
  exact this
theorem sZ {K:PySem.W.Frag} {H:Hp} {n:Nat} {a b:Addr} {xs ys:List V} (ha:SqT K H a xs) (hb:SqT K H b ys) (hl:xs.length=ys.length) (h:∀ (j:Nat) (x y:V),xs[j]?=some x->ys[j]?=some y->DEq K H n x y true):DEq K H (n+1) (.ref a) (.ref b) true:=by
 by_cases e:a=b
 ·subst e;exact .same a
 ·have:=DEq.tup (f:=fun _=>true) e ha hb h
  rw [show ((List.range (min xs.length ys.length)).all (fun _=>true) && xs.length == ys.length)=true by simp [hl]] at this
  exact this
theorem pI {K:PySem.W.Frag} {H:Hp} {n:Nat} (i:Int):DEq K H n (.int i) (.int i) true:=by
 have:=DEq.flat (K:=K) (H:=H) (n:=n) (x:=.int i) (y:=.int i) rfl rfl
 rw [show eqV (.int i) (.int i)=true by simp [eqV]] at this
 exact this
theorem zf {K:PySem.W.Frag} {H:Hp} {n:Nat} {xs ys:List V} {ps:Prs} (h:PL H xs ps) (h' : PL H ys ps) (j:Nat) (x y:V) (e1:xs[j]?=some x) (e2:ys[j]?=some y):DEq K H (n+1) x y true:=by
 obtain ⟨u,r,g1,rfl,h1⟩:=h.get e1
 obtain ⟨u',r',g2,rfl,h2⟩:=h'.get e2
 rw [g1] at g2
 cases g2
 refine sZ (SqT.of h1) (SqT.of h2) rfl fun j x y f1 f2=>?_
 rw [f1] at f2
 cases f2
 match j,f1 with
 | 0,f1=>cases f1;exact pI _
 | 1,f1=>cases f1;exact pI _
 | j+2,f1=>simp at f1
theorem wM {K:PySem.W.Frag} {H:Hp} {r r' : Addr} {w:Rw} (h:fe NT H r w) (h' : fe NT H r' w):DEq K H 60 (.ref r) (.ref r') true:=by
 obtain ⟨ce,cs,g1,_,g2,g3⟩:=h
 obtain ⟨ce',cs',g1',_,g2',g3'⟩:=h'
 refine sZ (n:=59) (SqT.of g1) (SqT.of g1') rfl fun j x y e1 e2=>?_
 match j,e1,e2 with
 | 0,e1,e2 =>
  cases e1;cases e2
  refine sY (n:=58) (SqL.of g2) (SqL.of g2') (by rw [g3.1,g3'.1]) fun j x y f1 f2=>?_
  obtain ⟨l,ps,rfl,ep,_,ys,el,hp⟩:=az.get g3 f1
  obtain ⟨l',ps',rfl,ep',_,ys',el',hp'⟩:=az.get g3' f2
  rw [ep] at ep'
  cases ep'
  exact sY (n:=57) (SqL.of el) (SqL.of el') (by rw [hp.length,hp'.length]) (zf (n:=56) hp hp')
 | 1,e1,e2=>cases e1;cases e2;exact pI _
 | j+2,e1,e2=>simp at e1
theorem kv {K:PySem.W.Frag} {H:Hp} {Q:VK} {a b:Addr} {xs ys:List V} (ha:SqL K H a xs) (hb:SqL K H b ys) (hl:xs.length=ys.length) (h:∀ (j:Nat) (x y:V),xs[j]?=some x->ys[j]?=some y->DEq K H 60 x y true) (q:Q (.bl false) H):xy K true (.ref a) (.ref b) H Q:=by
 refine ⟨a,b,xs,ys,rfl,rfl,ha,hb,.inr ⟨hl,fun _=>true,h,?_⟩⟩
 rw [show (List.range xs.length).all (fun _=>true)=true by simp]
 exact q
theorem mX {K:PySem.W.Frag} {H:Hp} {xs ys:List V} {rws:List Rw} (h:RL NT H xs rws) (h' : RL NT H ys rws) (j:Nat) (x y:V) (e1:xs[j]?=some x) (e2:ys[j]?=some y):DEq K H 60 x y true:=by
 obtain ⟨r,w,rfl,ew,hr⟩:=az.get h e1
 obtain ⟨r',w',rfl,ew',hr'⟩:=az.get h' e2
 rw [ew] at ew'
 cases ew'
 exact wM hr hr'
structure Col where
 prs:Prs
 w:Bool
 sd:Int
def dY (N:Addr->Prop) (H:Hp) (l:Addr) (c:Col):Prop:=∃ (pl:Addr) (ts:List V),N l/\N pl/\H l=some (.lst [.ref pl,.bl c.w,.int c.sd])/\H pl=some (.lst ts)/\PL H ts c.prs
theorem dY.same {N:Addr->Prop} {H H' : Hp} {l:Addr} {c:Col} (h:dY N H l c) (s:av H H'):dY N H' l c:=let ⟨pl,ts,n,m,e,f,p⟩:=h;⟨pl,ts,n,m,s _ _ e,s _ _ f,p.mono s.tups⟩
theorem dY.wk {N N' : Addr->Prop} {H:Hp} {l:Addr} {c:Col} (h:dY N H l c) (k:∀ a,N a->N' a):dY N' H l c:=let ⟨pl,ts,n,m,r⟩:=h;⟨pl,ts,k _ n,k _ m,r⟩
theorem dY.any {N:Addr->Prop} {H:Hp} {l:Addr} {c:Col} (h:dY N H l c):dY NT H l c:=h.wk fun _ _=>trivial
theorem dY.updN {N:Addr->Prop} {D:Addr} {H:Hp} {l:Addr} {c:Col} {zs:List V} {o:HO} (h:dY N H l c) (n:¬ N D) (e:H D=some (.lst zs)):dY N (upd H D o) l c :=
 let ⟨pl,ts,n1,n2,e1,e2,p⟩:=h
 ⟨pl,ts,n1,n2,(aC (fun z=>n (by rw [← z];exact n1))).trans e1,(aC (fun z=>n (by rw [← z];exact n2))).trans e2,p.mono (dq e)⟩
def dj (N:Addr->Prop) (H:Hp) (xs:List V) (cs:List Col):Prop:=az xs cs (dY N H)
theorem dj.same {N:Addr->Prop} {H H' : Hp} {xs:List V} {cs:List Col} (h:dj N H xs cs) (s:av H H'):dj N H' xs cs:=az.mono h fun _ _ p=>p.same s
theorem dj.any {N:Addr->Prop} {H:Hp} {xs:List V} {cs:List Col} (h:dj N H xs cs):dj NT H xs cs:=az.mono h fun _ _ p=>p.any
theorem dj.updN {N:Addr->Prop} {D:Addr} {H:Hp} {xs:List V} {cs:List Col} {zs:List V} {o:HO} (h:dj N H xs cs) (n:¬ N D) (e:H D=some (.lst zs)):dj N (upd H D o) xs cs:=az.mono h fun _ _ p=>p.updN n e
structure Ch (ps:Prs):Prop where
 le:∀ (i:Nat) (p:Int × Int),ps[i]?=some p->p.1<=p.2
 nxt:∀ (i:Nat) (p q:Int × Int),ps[i]?=some p->ps[i+1]?=some q->q.1=p.2+1
theorem Ch.nil:Ch []:=⟨fun i p e=>by simp at e,fun i p q e=>by simp at e⟩
theorem Ch.snoc {ps:Prs} {a b:Int} (h:Ch ps) (hab:a<=b) (hl:∀ p,ps[ps.length - 1]?=some p->a=p.2+1):Ch (ps ++ [(a,b)]):=by
 refine ⟨fun i p e=>?_,fun i p q e f=>?_⟩
 ·by_cases hi:i < ps.length
  ·rw [List.getElem?_append_left hi] at e;exact h.le i p e
  ·have:i=ps.length:=by have:=(List.getElem?_eq_some_iff.mp e).1;simp at this;omega
   subst this;simp at e;subst e;exact hab
 ·have hf:=(List.getElem?_eq_some_iff.mp f).1
  rw [List.length_append,List.length_singleton] at hf
  rw [List.getElem?_append_left (by omega)] at e
  by_cases hi:i+1 < ps.length
  ·rw [List.getElem?_append_left hi] at f;exact h.nxt i p q e f
  ·have:i=ps.length - 1:=by omega
   subst this
   rw [show ps.length - 1+1=ps.length by omega] at f
   simp at f;subst f
   exact hl p e
theorem Ch.mono {ps:Prs} (h:Ch ps) {i:Nat} {p:Int × Int} (e:ps[i]?=some p):∀ (d:Nat) (q:Int × Int),ps[i+d]?=some q->p.1<=q.1/\p.2<=q.2/\(0 < d->p.2 < q.1)
 | 0,q,f=>by rw [Nat.add_zero,e] at f;cases f;exact ⟨Int.le_refl _,Int.le_refl _,fun z=>absurd z (by omega)⟩
 | d+1,q,f=>by
  have hlt:i+d < ps.length:=by have:=(List.getElem?_eq_some_iff.mp f).1;omega
  obtain ⟨r,er⟩:∃ r,ps[i+d]?=some r:=⟨_,List.getElem?_eq_getElem hlt⟩
  obtain ⟨a,b,c⟩:=h.mono e d r er
  have n:=h.nxt (i+d) r q er f
  have l1:=h.le (i+d) r er
  have l2:=h.le _ q f
  have l3:=h.le _ p e
  omega
theorem Ch.lt {ps:Prs} (h:Ch ps) {i j:Nat} {p q:Int × Int} (e:ps[i]?=some p) (f:ps[j]?=some q) (hij:i < j):p.2 < q.1:=by
 have:=h.mono e (j - i) q (by rw [show i+(j - i)=j by omega];exact f)
 exact this.2.2 (by omega)
structure bu (c:Col):Prop where
 some_:1<=c.prs.length
 few:c.prs.length<=6
 ch:Ch c.prs
 w0:c.w=true->∀ p,c.prs[0]?=some p->p.1=0
 wl:c.w=true->∀ (i:Nat) (p:Int × Int),c.prs[i]?=some p->p.2 < 40
def Col.lo (c:Col):Int:=(c.prs.headD (0,0)).1
def Col.hi (c:Col):Int:=(c.prs.getLastD (0,0)).2
def Col.b (c:Col):Int × Int:=(c.lo,c.hi)
theorem bu.first {c:Col} (h:bu c):∃ p,c.prs[0]?=some p/\p.1=c.lo:=by
 have:=h.some_
 unfold Col.lo
 match c.prs,this with
 | p :: r,_=>exact ⟨p,rfl,rfl⟩
theorem bu.last {c:Col} (h:bu c):∃ p,c.prs[c.prs.length - 1]?=some p/\p.2=c.hi:=by
 have:=h.some_
 unfold Col.hi
 generalize c.prs=l at this ⊢
 rcases List.eq_nil_or_concat l with rfl | ⟨l',x,rfl⟩
 ·simp at this
 ·exact ⟨x,by simp,by simp⟩
theorem bu.inn {c:Col} (h:bu c) {i:Nat} {p:Int × Int} (e:c.prs[i]?=some p):c.lo<=p.1/\p.2<=c.hi:=by
 obtain ⟨p0,e0,f0⟩:=h.first
 obtain ⟨p1,e1,f1⟩:=h.last
 have hi:=(List.getElem?_eq_some_iff.mp e).1
 have a:=h.ch.mono e0 i p (by rw [Nat.zero_add];exact e)
 have b:=h.ch.mono e (c.prs.length - 1 - i) p1 (by rw [show i+(c.prs.length - 1 - i)=c.prs.length - 1 by omega];exact e1)
 omega
theorem bu.le {c:Col} (h:bu c):c.lo<=c.hi:=by
 obtain ⟨p0,e0,f0⟩:=h.first
 have:=h.inn e0
 have:=h.ch.le _ _ e0
 omega
structure Srt (ps:Prs):Prop where
 le:∀ (i:Nat) (p:Int × Int),ps[i]?=some p->p.1<=p.2
 lt:∀ (i j:Nat) (p q:Int × Int),i < j->ps[i]?=some p->ps[j]?=some q->p.2 < q.1
structure dZ (prs:Prs) (b n:Nat) (ps:Prs):Prop where
 srt:Srt ps
 iff:∀ x:Int,inP ps x=true↔∃ (k:Nat) (p:Int × Int),k < n/\prs[k]?=some p/\b.testBit k=true/\p.1<=x/\x<=p.2
theorem mY {ps:Prs} {x:Int} : inP ps x=true↔∃ (i:Nat) (p:Int × Int),ps[i]?=some p/\p.1<=x/\x<=p.2:=by
 unfold inP inR
 rw [List.any_eq_true]
 constructor
 ·rintro ⟨p,hp,e⟩
  obtain ⟨i,ei⟩:=List.getElem?_of_mem hp
  simp at e
  exact ⟨i,p,ei,e.1,e.2⟩
 ·rintro ⟨i,p,e,h1,h2⟩
  exact ⟨p,List.mem_of_getElem? e,by simp [h1,h2]⟩
theorem Srt.snoc {ps:Prs} {a b:Int} (h:Srt ps) (hab:a<=b) (hl:∀ (i:Nat) (p:Int × Int),ps[i]?=some p->p.2 < a):Srt (ps ++ [(a,b)]):=by
 have at_:∀ (i:Nat) (p:Int × Int),(ps ++ [(a,b)])[i]?=some p->ps[i]?=some p/\i < ps.length\/p=(a,b)/\i=ps.length:=fun i p e=>by
  by_cases hi:i < ps.length
  ·rw [List.getElem?_append_left hi] at e;exact .inl ⟨e,hi⟩
  ·have:i=ps.length:=by have:=(List.getElem?_eq_some_iff.mp e).1;simp at this;omega
   subst this;simp at e;exact .inr ⟨e.symm,rfl⟩
 refine ⟨fun i p e=>?_,fun i j p q hij e f=>?_⟩
 ·rcases at_ i p e with ⟨e,_⟩ | ⟨rfl,_⟩
  ·exact h.le i p e
  ·exact hab
 ·rcases at_ i p e with ⟨e,hi⟩ | ⟨rfl,hi⟩
  ·rcases at_ j q f with ⟨f,hj⟩ | ⟨rfl,hj⟩
   ·exact h.lt i j p q hij e f
   ·exact hl i p e
  ·have:=(List.getElem?_eq_some_iff.mp f).1
   simp at this
   omega
theorem dZ.nil {prs:Prs} {b:Nat} : dZ prs b 0 []:=⟨⟨fun i p e=>by simp at e,fun i j p q _ e=>by simp at e⟩,fun x=>⟨(fun h=>by cases h),fun ⟨k,p,hk,_⟩=>absurd hk (by omega)⟩⟩
theorem dZ.skip {prs ps:Prs} {b n:Nat} (h:dZ prs b n ps) (hb:b.testBit n=false):dZ prs b (n+1) ps:=by
 refine ⟨h.srt,fun x=>(h.iff x).trans ⟨fun ⟨k,p,hk,r⟩=>⟨k,p,by omega,r⟩,fun ⟨k,p,hk,e,t,r⟩=>⟨k,p,?_,e,t,r⟩⟩⟩
 rcases Nat.lt_or_ge k n with z | z
 ·exact z
 ·have:k=n:=by omega
  subst this;rw [hb] at t;cases t
theorem dZ.ahead {prs ps:Prs} {b n:Nat} (h:dZ prs b n ps) (hc:Ch prs) {q:Int × Int} (e:prs[n]?=some q) {i:Nat} {p:Int × Int} (f:ps[i]?=some p):p.2 < q.1:=by
 have hle:=h.srt.le i p f
 obtain ⟨k,r,hk,er,_,r1,r2⟩:=(h.iff p.2).mp (mY.mpr ⟨i,p,f,hle,Int.le_refl _⟩)
 have:=hc.lt er e hk
 omega
theorem dZ.put {prs ps:Prs} {b n:Nat} (h:dZ prs b n ps) (hc:Ch prs) (hb:b.testBit n=true) {q:Int × Int} (e:prs[n]?=some q):dZ prs b (n+1) (ps ++ [(q.1,q.2)]):=by
 refine ⟨h.srt.snoc (hc.le n q e) fun i p f=>h.ahead hc e f,fun x=>?_⟩
 have es:inP (ps ++ [(q.1,q.2)]) x=(inP ps x || inR x (q.1,q.2)):=by unfold inP;rw [List.any_append];simp
 rw [es,Bool.or_eq_true,h.iff x]
 constructor
 ·rintro (⟨k,p,hk,r⟩ | hr)
  ·exact ⟨k,p,by omega,r⟩
  ·unfold inR at hr
   simp at hr
   exact ⟨n,q,by omega,e,hb,hr.1,hr.2⟩
 ·rintro ⟨k,p,hk,ep,t,r1,r2⟩
  rcases Nat.lt_or_ge k n with z | z
  ·exact .inl ⟨k,p,z,ep,t,r1,r2⟩
  ·have:k=n:=by omega
   subst this
   rw [e] at ep;cases ep
   exact .inr (by unfold inR;simp [r1,r2])
theorem dZ.join {prs ps:Prs} {b n:Nat} {u:Int × Int} (h:dZ prs b (n+1) (ps ++ [u])) (hc:Ch prs) (hb:b.testBit (n+1)=true) (hb0:b.testBit n=true) {p0 q:Int × Int} (e0:prs[n]?=some p0) (e:prs[n+1]?=some q) (eu:u.2=p0.2):dZ prs b (n+2) (ps ++ [(u.1,q.2)]):=by
 have hq:=hc.le _ q e
 have hn:=hc.nxt n p0 q e0 e
 have hu:=h.srt.le ps.length u (by simp)
 have hS:Srt ps:=by
  refine ⟨fun i p e=>h.srt.le i p ?_,fun i j p r hij e f=>h.srt.lt i j p r hij ?_ ?_⟩
  ·rw [List.getElem?_append_left (List.getElem?_eq_some_iff.mp e).1];exact e
  ·rw [List.getElem?_append_left (List.getElem?_eq_some_iff.mp e).1];exact e
  ·rw [List.getElem?_append_left (List.getElem?_eq_some_iff.mp f).1];exact f
 refine ⟨hS.snoc (by omega) fun i p f=>?_,fun x=>?_⟩
 ·have hi:=(List.getElem?_eq_some_iff.mp f).1
  exact h.srt.lt i ps.length p u hi (by rw [List.getElem?_append_left hi];exact f) (by simp)
 have es:∀ v:Int × Int,inP (ps ++ [v]) x=(inP ps x || inR x v):=fun v=>by unfold inP;rw [List.any_append];simp
 have h1:=h.iff x
 rw [es u,Bool.or_eq_true] at h1
 rw [es (u.1,q.2),Bool.or_eq_true]
 have eR:inR x (u.1,q.2)=true↔u.1<=x/\x<=q.2:=by unfold inR;simp
 have eU:inR x u=true↔u.1<=x/\x<=u.2:=by unfold inR;simp
 rw [eU] at h1
 rw [eR]
 constructor
 ·rintro (z | ⟨z1,z2⟩)
  ·obtain ⟨k,p,hk,r⟩:=h1.mp (.inl z)
   exact ⟨k,p,by omega,r⟩
  ·by_cases hx:x<=u.2
   ·obtain ⟨k,p,hk,r⟩:=h1.mp (.inr ⟨z1,hx⟩)
    exact ⟨k,p,by omega,r⟩
   ·exact ⟨n+1,q,by omega,e,hb,by omega,z2⟩
 ·rintro ⟨k,p,hk,ep,t,r1,r2⟩
  rcases Nat.lt_or_ge k (n+1) with z | z
  ·rcases h1.mpr ⟨k,p,z,ep,t,r1,r2⟩ with w | ⟨w1,w2⟩
   ·exact .inl w
   ·exact .inr ⟨w1,by omega⟩
  ·have:k=n+1:=by omega
   subst this
   rw [e] at ep;cases ep
   exact .inr ⟨by omega,r2⟩
theorem dZ.lastAt {prs ps:Prs} {b n:Nat} (h:dZ prs b (n+1) ps) (hc:Ch prs) (hb:b.testBit n=true) {q:Int × Int} (e:prs[n]?=some q):∃ ps' u,ps=ps' ++ [u]/\u.2=q.2:=by
 have hq:=hc.le _ q e
 obtain ⟨i,p,f,f1,f2⟩:=mY.mp ((h.iff q.2).mpr ⟨n,q,by omega,e,hb,hq,Int.le_refl _⟩)
 rcases List.eq_nil_or_concat ps with rfl | ⟨ps',u,rfl⟩
 ·simp at f
 ·rw [List.concat_eq_append] at h f
  refine ⟨ps',u,List.concat_eq_append,?_⟩
  have eu:(ps' ++ [u])[ps'.length]?=some u:=by simp
  have hu:=h.srt.le _ _ eu
  have top:∀ x,inP (ps' ++ [u]) x=true->x<=q.2:=fun x hx=>by
   obtain ⟨k,r,hk,er,_,_,r2⟩:=(h.iff x).mp hx
   rcases Nat.lt_or_ge k n with z | z
   ·have:=hc.lt er e z;omega
   ·have:k=n:=by omega
    subst this;rw [e] at er;cases er;exact r2
  have t:=top u.2 (mY.mpr ⟨_,u,eu,hu,Int.le_refl _⟩)
  have hi:=(List.getElem?_eq_some_iff.mp f).1
  rw [List.length_append,List.length_singleton] at hi
  rcases Nat.lt_or_ge i ps'.length with z | z
  ·have:=h.srt.lt i ps'.length p u z f eu
   omega
  ·have:i=ps'.length:=by omega
   subst this
   rw [show (ps' ++ [u])[ps'.length]?=some u by simp] at f
   cases f
   omega
theorem pJ (b k:Nat):(decide (V.int (Builtin.bitAnd ((b:Int) / 2 ^ k) 1)=V.int 1))=b.testBit k:=by
 have e:(b:Int) / 2 ^ k=((b / 2 ^ k:Nat):Int):=by simp
 rw [e,PyProof.Rows.bitAnd_pp (Int.natCast_nonneg _) (by decide)]
 unfold Nat.testBit
 rw [Nat.shiftRight_eq_div_pow,Int.toNat_natCast,Nat.and_comm]
 show decide (V.int (((1:Int).toNat &&& (b / 2 ^ k):Nat):Int)=V.int 1)=_
 rw [show (1:Int).toNat=1 from rfl]
 have h2:1 &&& (b / 2 ^ k)=(b / 2 ^ k) % 2:=by rw [Nat.and_comm];exact Nat.and_one_is_mod _
 rw [h2]
 have h3:=Nat.mod_lt (b / 2 ^ k) (show 0 < 2 by decide)
 by_cases z:b / 2 ^ k % 2=1
 ·rw [z];decide
 ·have z0:b / 2 ^ k % 2=0:=by omega
  rw [z0];decide
def mrg (prs:Prs) (b:Nat):Nat->Prs
 | 0=>[]
 | n+1=>if b.testBit n then (if (decide (0 < n) && b.testBit (n - 1)) then (mrg prs b n).dropLast ++ [(((mrg prs b n).getLastD (0,0)).1,(prs.getD n (0,0)).2)] else mrg prs b n ++ [prs.getD n (0,0)]) else mrg prs b n
theorem zg {prs:Prs} {b n:Nat} (h:b.testBit n=false):mrg prs b (n+1)=mrg prs b n:=by
 show (if b.testBit n then _ else _)=_
 rw [h];rfl
theorem wN {prs:Prs} {b n:Nat} {q:Int × Int} (h:b.testBit n=true) (hn:(decide (0 < n) && b.testBit (n - 1))=false) (e:prs[n]?=some q):mrg prs b (n+1)=mrg prs b n ++ [(q.1,q.2)]:=by
 show (if b.testBit n then _ else _)=_
 rw [h,if_pos rfl,hn,if_neg (by decide),List.getD_eq_getElem?_getD,e]
 rfl
theorem va {prs ps:Prs} {b n:Nat} {q u:Int × Int} (h:b.testBit (n+1)=true) (h0:b.testBit n=true) (is:ps ++ [u]=mrg prs b (n+1)) (e:prs[n+1]?=some q):mrg prs b (n+2)=ps ++ [(u.1,q.2)]:=by
 show (if b.testBit (n+1) then (if (decide (0 < n+1) && b.testBit (n+1 - 1)) then (mrg prs b (n+1)).dropLast ++ [(((mrg prs b (n+1)).getLastD (0,0)).1,(prs.getD (n+1) (0,0)).2)] else _) else _)=_
 rw [h,if_pos rfl,Nat.add_sub_cancel,h0,if_pos (by simp),← is,List.getD_eq_getElem?_getD,e]
 simp
abbrev BW:=List Nat × Int
def vN (bs:List Nat):List V:=bs.map fun b:Nat=>V.int (b:Int)
theorem dC (bs:List Nat):(vN bs).length=bs.length:=by unfold vN;rw [List.length_map]
theorem Bc {bs:List Nat} {j b:Nat} (e:bs[j]?=some b):(vN bs)[j]?=some (.int (b:Int)):=by unfold vN;rw [List.getElem?_map,e];rfl
theorem mZ {bs:List Nat} {j:Nat} {x:V} (e:(vN bs)[j]?=some x):∃ b:Nat,x=.int (b:Int)/\bs[j]?=some b:=by
 unfold vN at e
 rw [List.getElem?_map] at e
 cases q:bs[j]? with
 | none=>rw [q] at e;cases e
 | some b=>rw [q] at e;cases e;exact ⟨b,rfl,rfl⟩
theorem pK (bs cs:List Nat):vN bs ++ vN cs=vN (bs ++ cs):=by unfold vN;rw [List.map_append]
def dE (N:Addr->Prop) (H:Hp) (r:Addr) (w:BW):Prop:=∃ bl,H r=some (.tup [.ref bl,.int w.2])/\N bl/\H bl=some (.lst (vN w.1))
theorem dE.same {N:Addr->Prop} {H H' : Hp} {r:Addr} {w:BW} (h:dE N H r w) (s:av H H'):dE N H' r w:=let ⟨bl,e,n,f⟩:=h;⟨bl,s _ _ e,n,s _ _ f⟩
theorem dE.wk {N N' : Addr->Prop} {H:Hp} {r:Addr} {w:BW} (h:dE N H r w) (k:∀ a,N a->N' a):dE N' H r w:=let ⟨bl,e,n,f⟩:=h;⟨bl,e,k _ n,f⟩
theorem dE.updN {N:Addr->Prop} {D:Addr} {H:Hp} {r:Addr} {w:BW} {zs:List V} {o:HO} (h:dE N H r w) (n:¬ N D) (e:H D=some (.lst zs)):dE N (upd H D o) r w :=
 let ⟨bl,f,m,g⟩:=h
 ⟨bl,(aC (dO f e (by intro z;cases z))).trans f,m,(aC (fun z=>n (by rw [← z];exact m))).trans g⟩
def BRL (N:Addr->Prop) (H:Hp) (xs:List V) (ws:List BW):Prop:=az xs ws (dE N H)
theorem BRL.same {N:Addr->Prop} {H H' : Hp} {xs:List V} {ws:List BW} (h:BRL N H xs ws) (s:av H H'):BRL N H' xs ws:=az.mono h fun _ _ p=>p.same s
theorem BRL.wk {N N' : Addr->Prop} {H:Hp} {xs:List V} {ws:List BW} (h:BRL N H xs ws) (k:∀ a,N a->N' a):BRL N' H xs ws:=az.mono h fun _ _ p=>p.wk k
theorem BRL.updN {N:Addr->Prop} {D:Addr} {H:Hp} {xs:List V} {ws:List BW} {zs:List V} {o:HO} (h:BRL N H xs ws) (n:¬ N D) (e:H D=some (.lst zs)):BRL N (upd H D o) xs ws:=az.mono h fun _ _ p=>p.updN n e
structure du (cs:List Col) (o:Col) (w:BW):Prop where
 len:w.1.length=cs.length
 lt:∀ (j b:Nat) (c:Col),w.1[j]?=some b->cs[j]?=some c->b < 2 ^ c.prs.length
 lo:o.lo<=w.2
 hi:w.2<=o.hi
theorem dI (xs:List V) (k:Nat):mD xs none (some (k:Int))=xs.take k:=by
 unfold mD
 have e:HT.sIx xs.length xs.length (some (k:Int))=min k xs.length:=by
  simp only [HT.sIx]
  split <;> omega
 have e2:HT.sIx xs.length 0 none=0:=by simp [HT.sIx]
 rw [e,e2,List.drop_zero,Nat.sub_zero]
 rcases Nat.le_total k xs.length with h | h
 ·rw [Nat.min_eq_left h]
 ·rw [Nat.min_eq_right h,List.take_length,List.take_of_length_le h]
theorem lU (xs:List V) (k:Nat):mD xs (some (k:Int)) none=xs.drop k:=by
 unfold mD
 have e:HT.sIx xs.length 0 (some (k:Int))=min k xs.length:=by
  simp only [HT.sIx]
  split <;> omega
 have e2:HT.sIx xs.length xs.length none=xs.length:=by simp [HT.sIx]
 rw [e,e2,← List.length_drop,List.take_length]
 rcases Nat.le_total k xs.length with h | h
 ·rw [Nat.min_eq_left h]
 ·rw [Nat.min_eq_right h,List.drop_length,List.drop_of_length_le h]
theorem wO (bs:List Nat) (k:Nat):(vN bs).take k=vN (bs.take k):=by unfold vN;rw [List.map_take]
theorem wQ (bs:List Nat) (k:Nat):(vN bs).drop k=vN (bs.drop k):=by unfold vN;rw [List.map_drop]
theorem zh {bs:List Nat} {k:Nat} (h:k < bs.length) (x:Nat):bs.take k ++ [x] ++ bs.drop (k+1)=bs.set k x:=by
 rw [List.set_eq_take_append_cons_drop,if_pos h];simp
theorem four {e v:Int} (he:0 < e) (hv:0<=v) {m:Int} : ∃ b:Nat,atI [V.int (v % (e+1)),.int (v % (e+1)),.int e,.int (v % e)] (m % 4)=some (.int (b:Int))/\(b:Int)<=e:=by
 have h0:=Int.emod_nonneg m (show (4:Int) ≠ 0 by decide)
 have h1:=Int.emod_lt_of_pos m (show (0:Int) < 4 by decide)
 have a0:=Int.emod_nonneg v (show e+1 ≠ 0 by omega)
 have a1:=Int.emod_lt_of_pos v (show 0 < e+1 by omega)
 have b0:=Int.emod_nonneg v (show e ≠ 0 by omega)
 have b1:=Int.emod_lt_of_pos v he
 generalize m % 4=k at h0 h1 ⊢
 generalize v % (e+1)=x at a0 a1 ⊢
 generalize v % e=y at b0 b1 ⊢
 have:k=0\/k=1\/k=2\/k=3:=by omega
 rcases this with rfl | rfl | rfl | rfl
 ·exact ⟨x.toNat,by rw [Int.toNat_of_nonneg a0];rfl,by omega⟩
 ·exact ⟨x.toNat,by rw [Int.toNat_of_nonneg a0];rfl,by omega⟩
 ·exact ⟨e.toNat,by rw [Int.toNat_of_nonneg (by omega)];rfl,by omega⟩
 ·exact ⟨y.toNat,by rw [Int.toNat_of_nonneg b0];rfl,by omega⟩
theorem Be {p:Int × Int} {m:Int} : ∃ x:Int,atI [V.int p.1,V.int p.2] (m % 2)=some (.int x)/\(x=p.1\/x=p.2):=by
 have h0:=Int.emod_nonneg m (show (2:Int) ≠ 0 by decide)
 have h1:=Int.emod_lt_of_pos m (show (0:Int) < 2 by decide)
 generalize m % 2=k at h0 h1 ⊢
 have:k=0\/k=1:=by omega
 rcases this with rfl | rfl
 ·exact ⟨_,rfl,.inl rfl⟩
 ·exact ⟨_,rfl,.inr rfl⟩
theorem xE {H:Hp} {ts:List V} {ps:Prs} (h:PL H ts ps) {i:Int} (h0:0<=i) (h1:i < ((ts.length:Nat):Int)):∃ r p,atI ts i=some (.ref r)/\ps[i.toNat]?=some p/\H r=some (.tup [.int p.1,.int p.2]):=by
 obtain ⟨x,ex⟩:∃ x,ts[i.toNat]?=some x:=⟨_,List.getElem?_eq_getElem (by omega)⟩
 obtain ⟨p,r,f1,rfl,f2⟩:=h.get ex
 have:=bS ex
 rw [Int.toNat_of_nonneg h0] at this
 exact ⟨r,p,this,f1,f2⟩
structure qW (cs:List Col) (w:BW) (x:Rw):Prop where
 code:x.2=w.2
 len:x.1.length=cs.length
 sp:∀ (j:Nat) (ps:Prs) (c:Col) (b:Nat),x.1[j]?=some ps->cs[j]?=some c->w.1[j]?=some b->dZ c.prs b c.prs.length ps
 is:∀ (j:Nat) (ps:Prs) (c:Col) (b:Nat),x.1[j]?=some ps->cs[j]?=some c->w.1[j]?=some b->ps=mrg c.prs b c.prs.length
def cq (cs:List Col) (ws:List BW) (rws:List Rw):Prop:=rws.length=ws.length/\∀ (k:Nat) (w:BW) (x:Rw),ws[k]?=some w->rws[k]?=some x->qW cs w x
theorem cq.nil {cs:List Col} : cq cs [] []:=⟨rfl,fun k w x e=>by simp at e⟩
theorem cq.snoc {cs:List Col} {ws:List BW} {rws:List Rw} {w:BW} {x:Rw} (h:cq cs ws rws) (hx:qW cs w x):cq cs (ws ++ [w]) (rws ++ [x]):=by
 refine ⟨by simp [h.1],fun k w' x' e f=>?_⟩
 by_cases hk:k < ws.length
 ·rw [List.getElem?_append_left hk] at e
  rw [List.getElem?_append_left (by rw [h.1];exact hk)] at f
  exact h.2 k w' x' e f
 ·have hk2:k=ws.length:=by have:=(List.getElem?_eq_some_iff.mp e).1;simp at this;omega
  subst hk2
  simp at e
  subst e
  rw [← h.1] at f
  simp at f
  subst f
  exact hx
theorem qW.rowOk {cs:List Col} {oc:Col} {w:BW} {x:Rw} (h:qW cs w x) (hb:du cs oc w) (hok:∀ c ∈ cs,bu c):cz (cs.map Col.b) oc.b x:=by
 refine ⟨by rw [h.len,List.length_map],fun j ps b e f p hp=>?_,by rw [h.code];exact hb.lo,by rw [h.code];exact hb.hi⟩
 rw [List.getElem?_map] at f
 cases ec:cs[j]? with
 | none=>rw [ec] at f;cases f
 | some c =>
  rw [ec] at f
  cases f
  have ok:=hok c (List.mem_of_getElem? ec)
  obtain ⟨bt,eb⟩:∃ bt,w.1[j]?=some bt:=⟨_,List.getElem?_eq_getElem (by rw [hb.len];exact (List.getElem?_eq_some_iff.mp ec).1)⟩
  have so:=h.sp j ps c bt e ec eb
  obtain ⟨i,ei⟩:=List.getElem?_of_mem hp
  have hle:=so.srt.le i p ei
  obtain ⟨k1,p1,_,e1,_,r1,_⟩:=(so.iff p.1).mp (mY.mpr ⟨i,p,ei,Int.le_refl _,hle⟩)
  obtain ⟨k2,p2,_,e2,_,_,r2⟩:=(so.iff p.2).mp (mY.mpr ⟨i,p,ei,hle,Int.le_refl _⟩)
  have i1:=ok.inn e1
  have i2:=ok.inn e2
  show c.lo<=p.1/\p.2<=c.hi
  omega
theorem cq.rowOk {cs:List Col} {oc:Col} {ws:List BW} {rws:List Rw} (h:cq cs ws rws) (hb:∀ w ∈ ws,du cs oc w) (hok:∀ c ∈ cs,bu c):∀ x ∈ rws,cz (cs.map Col.b) oc.b x:=fun x hx=>by
 obtain ⟨k,ek⟩:=List.getElem?_of_mem hx
 obtain ⟨w,ew⟩:∃ w,ws[k]?=some w:=⟨_,List.getElem?_eq_getElem (by rw [← h.1];exact (List.getElem?_eq_some_iff.mp ek).1)⟩
 exact (h.2 k w x ew ek).rowOk (hb w (List.mem_of_getElem? ew)) hok
def grow (pts:List (List Nat)) (n:Nat):List (List Nat):=pts.flatMap fun p=>(List.range n).map fun k=>p ++ [k]
def eH (ls:List Nat):List (List Nat):=ls.foldl grow [[]]
theorem m7 (ls:List Nat) (n:Nat):eH (ls ++ [n])=grow (eH ls) n:=by unfold eH;rw [List.foldl_append];rfl
theorem vb {pts:List (List Nat)} {n:Nat} {q:List Nat} : q ∈ grow pts n↔∃ p ∈ pts,∃ k,k < n/\q=p ++ [k]:=by
 unfold grow
 rw [List.mem_flatMap]
 constructor
 ·rintro ⟨p,hp,h⟩
  obtain ⟨k,hk,rfl⟩:=List.mem_map.mp h
  exact ⟨p,hp,k,List.mem_range.mp hk,rfl⟩
 ·rintro ⟨p,hp,k,hk,rfl⟩
  exact ⟨p,hp,List.mem_map.mpr ⟨k,List.mem_range.mpr hk,rfl⟩⟩
theorem tZ {pts:List (List Nat)} {n a:Nat} {p:List Nat} (e:pts[a]?=some p):grow (pts.take (a+1)) n=grow (pts.take a) n ++ (List.range n).map fun k=>p ++ [k]:=by
 unfold grow
 rw [take_snoc e,List.flatMap_append]
 simp
theorem qX (pts:List (List Nat)) (n:Nat):(grow pts n).length=pts.length * n:=by
 unfold grow
 induction pts with
 | nil=>simp
 | cons p pts ih=>rw [List.flatMap_cons,List.length_append,ih,List.length_map,List.length_range,List.length_cons,Nat.succ_mul];omega
def m8 (ls:List Nat) (p:List Nat):Prop:=p.length=ls.length/\∀ (j a m:Nat),p[j]?=some a->ls[j]?=some m->a < m
theorem oU:∀ {r ls:List Nat} (_:ls.reverse=r) {p:List Nat},p ∈ eH ls↔m8 ls p
 | [],ls,h,p=>by
  have:ls=[]:=List.reverse_eq_nil_iff.mp h
  subst this
  show p ∈ [[]]↔_
  rw [List.mem_singleton]
  constructor
  ·rintro rfl;exact ⟨rfl,fun j a m e=>by simp at e⟩
  ·rintro ⟨h,_⟩;exact List.length_eq_zero_iff.mp h
 | n :: r,ls,h,p=>by
  have e:ls=r.reverse ++ [n]:=by rw [← List.reverse_reverse ls,h,List.reverse_cons]
  subst e
  rw [m7,vb]
  have ih:∀ {p:List Nat},p ∈ eH r.reverse↔m8 r.reverse p:=oU (List.reverse_reverse r)
  constructor
  ·rintro ⟨q,hq,k,hk,rfl⟩
   obtain ⟨l1,l2⟩:=ih.mp hq
   refine ⟨by rw [List.length_append,List.length_append,l1];rfl,fun j a m f g=>?_⟩
   by_cases hj:j < q.length
   ·rw [List.getElem?_append_left hj] at f
    rw [List.getElem?_append_left (by rw [← l1];exact hj)] at g
    exact l2 j a m f g
   ·have:j=q.length:=by have:=(List.getElem?_eq_some_iff.mp f).1;simp at this;omega
    subst this
    simp at f
    subst f
    rw [l1] at g
    simp at g
    subst g
    exact hk
  ·rintro ⟨l1,l2⟩
   rw [List.length_append,List.length_singleton] at l1
   rcases List.eq_nil_or_concat p with rfl | ⟨q,k,rfl⟩
   ·simp at l1
   ·rw [List.concat_eq_append] at l1 l2 ⊢
    rw [List.length_append,List.length_singleton] at l1
    have lq:q.length=r.reverse.length:=by omega
    refine ⟨q,ih.mpr ⟨lq,fun j a m f g=>?_⟩,k,?_,rfl⟩
    ·refine l2 j a m ?_ ?_
     ·rw [List.getElem?_append_left (List.getElem?_eq_some_iff.mp f).1];exact f
     ·rw [List.getElem?_append_left (List.getElem?_eq_some_iff.mp g).1];exact g
    ·refine l2 q.length k n (by simp) ?_
     rw [lq];simp
theorem m8.iff {ls p:List Nat} : p ∈ eH ls↔m8 ls p:=oU rfl
def PtL (N:Addr->Prop) (H:Hp) (xs:List V) (pts:List (List Nat)):Prop:=az xs pts fun r p=>N r/\H r=some (.lst (vN p))
theorem PtL.same {N:Addr->Prop} {H H' : Hp} {xs:List V} {pts:List (List Nat)} (h:PtL N H xs pts) (s:av H H'):PtL N H' xs pts:=az.mono h fun _ _ p=>⟨p.1,s _ _ p.2⟩
theorem PtL.updN {N:Addr->Prop} {D:Addr} {H:Hp} {xs:List V} {pts:List (List Nat)} {o:HO} (h:PtL N H xs pts) (n:¬ N D):PtL N (upd H D o) xs pts:=az.mono h fun _ _ p=>⟨p.1,(aC (fun z=>n (by rw [← z];exact p.1))).trans p.2⟩
theorem PtL.any {N:Addr->Prop} {H:Hp} {xs:List V} {pts:List (List Nat)} (h:PtL N H xs pts):PtL NT H xs pts:=az.mono h fun _ _ p=>⟨trivial,p.2⟩
theorem ua {n:Nat} (h:n<=2000):n < sizeLine:=Nat.lt_of_le_of_lt h (by decide)
def eS (cs:List Col):List Nat:=cs.map fun c=>c.prs.length
def AtP (cs:List Col) (p:List Nat) (cd:List Int):Prop:=cd.length=cs.length/\∀ (j:Nat) (x:Int) (c:Col) (a:Nat),cd[j]?=some x->cs[j]?=some c->p[j]?=some a->∃ pr,c.prs[a]?=some pr/\(x=pr.1\/x=pr.2)
def m9 (bs p:List Nat):Bool:=(List.range p.length).all fun j=>(bs.getD j 0).testBit (p.getD j 0)
theorem vc {bs p:List Nat} (hl:bs.length=p.length):m9 bs p=true↔∀ (j a b:Nat),p[j]?=some a->bs[j]?=some b->b.testBit a=true:=by
 unfold m9
 rw [List.all_eq_true]
 constructor
 ·intro h j a b e f
  have:=h j (List.mem_range.mpr (List.getElem?_eq_some_iff.mp e).1)
  rw [List.getD_eq_getElem?_getD,List.getD_eq_getElem?_getD,e,f] at this
  exact this
 ·intro h j hj
  have hj:=List.mem_range.mp hj
  have e:=List.getElem?_eq_getElem hj
  have f:=List.getElem?_eq_getElem (l:=bs) (i:=j) (by omega)
  rw [List.getD_eq_getElem?_getD,List.getD_eq_getElem?_getD,e,f]
  exact h j _ _ e f
theorem dZ.atPair {prs ps:Prs} {b:Nat} (h:dZ prs b prs.length ps) (hc:Ch prs) {a:Nat} {pr:Int × Int} (e:prs[a]?=some pr) {x:Int} (h1:pr.1<=x) (h2:x<=pr.2):inP ps x=true↔b.testBit a=true:=by
 rw [h.iff x]
 constructor
 ·rintro ⟨k,p,hk,ep,t,r1,r2⟩
  rcases Nat.lt_trichotomy k a with z | z | z
  ·have:=hc.lt ep e z;omega
  ·subst z;exact t
  ·have:=hc.lt e ep z;omega
 ·intro t
  exact ⟨a,pr,(List.getElem?_eq_some_iff.mp e).1,e,t,h1,h2⟩
theorem qY (cs:List Col):(eS cs).length=cs.length:=by unfold eS;rw [List.length_map]
theorem wR {cs:List Col} {oc:Col} {w:BW} {x:Rw} {p:List Nat} {cd:List Int} (h:qW cs w x) (hb:du cs oc w) (hok:∀ c ∈ cs,bu c) (hp:m8 (eS cs) p) (hc:AtP cs p cd):gQ x.1 cd=m9 w.1 p:=by
 have lp:p.length=cs.length:=by rw [hp.1,qY]
 rw [Bool.eq_iff_iff,vc (by rw [hb.len,lp])]
 unfold gQ
 rw [List.all_eq_true]
 have key:∀ (j a b:Nat),p[j]?=some a->w.1[j]?=some b->∀ z,cd[j]?=some z->(inP (x.1.getD j []) z=true↔b.testBit a=true):=fun j a b ep ew z ez=>by
  have hj:j < cs.length:=by rw [← lp];exact (List.getElem?_eq_some_iff.mp ep).1
  have ec:=List.getElem?_eq_getElem hj
  have ex:=List.getElem?_eq_getElem (l:=x.1) (i:=j) (by rw [h.len];exact hj)
  have ok:=hok _ (List.mem_of_getElem? ec)
  obtain ⟨pr,e1,e2⟩:=hc.2 j z _ a ez ec ep
  have hle:=ok.ch.le _ _ e1
  rw [List.getD_eq_getElem?_getD,ex]
  exact (h.sp j _ _ b ex ec ew).atPair ok.ch e1 (by rcases e2 with rfl | rfl <;> omega) (by rcases e2 with rfl | rfl <;> omega)
 constructor
 ·intro hh j a b ep ew
  have hj:j < cd.length:=by rw [hc.1,← lp];exact (List.getElem?_eq_some_iff.mp ep).1
  have ez:=List.getElem?_eq_getElem hj
  have:=hh j (List.mem_range.mpr hj)
  rw [List.getD_eq_getElem?_getD (l:=cd),ez] at this
  exact (key j a b ep ew _ ez).mp this
 ·intro hh j hj
  have hj:=List.mem_range.mp hj
  have ez:=List.getElem?_eq_getElem hj
  have ep:=List.getElem?_eq_getElem (l:=p) (i:=j) (by rw [lp,← hc.1];exact hj)
  have ew:=List.getElem?_eq_getElem (l:=w.1) (i:=j) (by rw [hb.len,← hc.1];exact hj)
  rw [List.getD_eq_getElem?_getD (l:=cd),ez]
  exact (key j _ _ ep ew _ ez).mpr (hh j _ _ ep ew)
def bF (ws:List BW) (p:List Nat) (k:Nat):Bool:=m9 (ws.getD k ([],0)).1 p
def cnt (ws:List BW) (p:List Nat):List Nat:=(List.range ws.length).filter (bF ws p)
theorem oV {f g:Nat->Bool} : ∀ {n:Nat},(∀ k,k < n->f k=g k)->msk f n=msk g n
 | 0,_=>rfl
 | n+1,h=>by rw [fh,fh,h n (Nat.lt_succ_self n),oV fun k hk=>h k (Nat.lt_succ_of_lt hk)]
theorem Bf {h:Int} : ∃ v:Int,atI [V.int 6,.int 4,.int 3,.int 2] (1+h % 4 - 1)=some (.int v)/\1<=v/\v<=6:=by
 have h0:=Int.emod_nonneg h (show (4:Int) ≠ 0 by decide)
 have h1:=Int.emod_lt_of_pos h (show (0:Int) < 4 by decide)
 generalize h % 4=k at h0 h1 ⊢
 have:k=0\/k=1\/k=2\/k=3:=by omega
 rcases this with rfl | rfl | rfl | rfl
 ·exact ⟨_,rfl,by decide,by decide⟩
 ·exact ⟨_,rfl,by decide,by decide⟩
 ·exact ⟨_,rfl,by decide,by decide⟩
 ·exact ⟨_,rfl,by decide,by decide⟩
def kx (cN cW:Addr) (H:Hp) (a:Addr) (c:Col):Prop:=(c.w=false/\∃ dx fs,H a=some (.ins cN dx fs)/\fs.lookup (Str.ofString "low")=some (.int c.lo)/\fs.lookup (Str.ofString "high")=some (.int c.hi)/\fs.lookup (Str.ofString "has_code")=none) \/
 (c.w=true/\∃ dx fs l,H a=some (.ins cW dx fs)/\fs.lookup (Str.ofString "low")=some (.int c.lo)/\fs.lookup (Str.ofString "high")=some (.int c.hi)/\fs.lookup (Str.ofString "has_code")=none/\fs.lookup (Str.ofString "words")=some (.ref l)/\H l=some (.lst ((wds c.sd (c.hi+1).toNat).map V.str)))
theorem kx.same {cN cW:Addr} {H H' : Hp} {a:Addr} {c:Col} (h:kx cN cW H a c) (s:av H H'):kx cN cW H' a c:=by
 rcases h with ⟨w,dx,fs,e,r⟩ | ⟨w,dx,fs,l,e,r1,r2,r3,r4,r5⟩
 ·exact .inl ⟨w,dx,fs,s _ _ e,r⟩
 ·exact .inr ⟨w,dx,fs,l,s _ _ e,r1,r2,r3,r4,s _ _ r5⟩
def prm {α:Type} (os:List Nat) (xs:List α):List α:=os.filterMap (xs[·]?)
structure Pm (os:List Nat) (n:Nat):Prop where
 len:os.length=n
 lt:∀ k ∈ os,k < n
 nd:os.Nodup
 all:∀ k,k < n->k ∈ os
theorem qZ {α:Type} {o:Nat} {os:List Nat} {xs:List α} (h:o < xs.length):prm (o :: os) xs=xs[o] :: prm os xs:=by
 unfold prm
 rw [List.filterMap_cons,List.getElem?_eq_getElem h]
theorem cw {α:Type} : ∀ {os:List Nat} {xs:List α},(∀ k ∈ os,k < xs.length)->(prm os xs).length=os.length/\∀ (j k:Nat),os[j]?=some k->(prm os xs)[j]?=xs[k]?
 | [],xs,_=>⟨rfl,fun j k e=>by simp at e⟩
 | o :: os,xs,h=>by
  obtain ⟨h1,h2⟩:=cw (os:=os) (xs:=xs) fun k hk=>h k (List.mem_cons_of_mem _ hk)
  have ho:=h o List.mem_cons_self
  rw [qZ ho]
  refine ⟨by rw [List.length_cons,List.length_cons,h1],fun j k f=>?_⟩
  match j,f with
  | 0,f =>
   have:o=k:=by simpa using f
   subst this
   rw [List.getElem?_eq_getElem ho];rfl
  | j+1,f=>exact h2 j k (by simpa using f)
theorem nc {α:Type} {os:List Nat} {k:Nat} {xs:List α} {x:α} (e:xs[k]?=some x):prm (os ++ [k]) xs=prm os xs ++ [x]:=by
 unfold prm
 rw [List.filterMap_append]
 simp [e]
theorem wU {α β:Type} (f:α->β) (os:List Nat) (xs:List α):prm os (xs.map f)=(prm os xs).map f:=by
 unfold prm
 rw [List.map_filterMap]
 congr 1
 funext k
 rw [List.getElem?_map]
theorem pL {α:Type} {os:List Nat} {xs:List α} {x:α} (h:x ∈ prm os xs):x ∈ xs:=by
 unfold prm at h
 obtain ⟨k,_,e⟩:=List.mem_filterMap.mp h
 exact List.mem_of_getElem? e
theorem xF {α:Type} {xs:List α} (h:xs.Nodup) {i j:Nat} {x:α} (e:xs[i]?=some x) (f:xs[j]?=some x):i=j:=by
 obtain ⟨hi,ei⟩:=List.getElem?_eq_some_iff.mp e
 obtain ⟨hj,ej⟩:=List.getElem?_eq_some_iff.mp f
 have p:=List.pairwise_iff_getElem.mp (List.nodup_iff_pairwise_ne.mp h)
 rcases Nat.lt_trichotomy i j with q | q | q
 ·exact absurd (ei.trans ej.symm) (p i j hi hj q)
 ·exact q
 ·exact absurd (ej.trans ei.symm) (p j i hj hi q)
theorem ub {α:Type} {os:List Nat} {xs:List α} (ho:os.Nodup) (hx:xs.Nodup) (hl:∀ k ∈ os,k < xs.length):(prm os xs).Nodup:=by
 induction os with
 | nil=>exact List.nodup_nil
 | cons o os ih =>
  rw [List.nodup_cons] at ho
  have hi:=ih ho.2 fun k hk=>hl k (List.mem_cons_of_mem _ hk)
  have h0:=hl o List.mem_cons_self
  rw [qZ h0,List.nodup_cons]
  refine ⟨fun hm=>?_,hi⟩
  unfold prm at hm
  obtain ⟨k,hk,f⟩:=List.mem_filterMap.mp hm
  have:k=o:=xF hx f (List.getElem?_eq_getElem h0)
  subst this
  exact ho.1 hk
def TF (cT:Addr) (H:Hp) (t:Addr) (nm wy:Str) (ou:Addr) (zs:List Str) (dv:List V) (rws:List Rw):Prop:=∃ (rl dx na dl:Addr) (fs:List (Str × V)) (xs:List V),H t=some (.ins cT dx fs)/\fs.lookup (Str.ofString "rows")=some (.ref rl)/\fs.lookup (Str.ofString "name")=some (.str nm)/\fs.lookup (Str.ofString "way")=some (.str wy)/\fs.lookup (Str.ofString "outcome")=some (.ref ou)/\fs.lookup (Str.ofString "names")=some (.ref na)/\fs.lookup (Str.ofString "domains")=some (.ref dl)/\H na=some (.lst (zs.map V.str))/\H dl=some (.lst dv)/\H rl=some (.lst xs)/\RL NT H xs rws/\xs.length<=200
def trn (os:List Nat) (x:Rw):Rw:=(prm os x.1,x.2)
structure TOk (cN cW:Addr) (H:Hp) (nm wy:Str) (ou:Addr) (zs:List Str) (dv:List V) (rws:List Rw) (bs:Prs) (o:Int × Int):Prop where
 words:∀ z ∈ nm :: zs,isw z=true
 once:(nm :: zs).Nodup
 one:1<=zs.length
 four:zs.length<=4
 way:wy ∈ six
 sum:wy=Str.ofString "sum" -> ∃ dx fs,H ou=some (.ins cN dx fs)
 doms:az dv bs (Dom cN cW H)
 out:Dom cN cW H ou o
 len:bs.length=zs.length
 rows:∀ w ∈ rws,cz bs o w
 few:rws.length<=200
theorem az.prm {α:Type} {xs:List V} {as:List α} {P:Addr->α->Prop} (h:az xs as P) {os:List Nat} (hl:∀ k ∈ os,k < as.length):az (My.prm os xs) (My.prm os as) P:=by
 have g1:=cw (xs:=xs) (os:=os) (fun k hk=>by rw [h.1];exact hl k hk)
 have g2:=cw (xs:=as) (os:=os) hl
 refine ⟨by rw [g1.1,g2.1],fun j a e=>?_⟩
 have hj:j < os.length:=by rw [← g2.1];exact (List.getElem?_eq_some_iff.mp e).1
 have ek:=List.getElem?_eq_getElem hj
 rw [g2.2 j _ ek] at e
 obtain ⟨r,e1,p⟩:=h.2 _ a e
 exact ⟨r,by rw [g1.2 j _ ek];exact e1,p⟩
theorem cz.trn {bs:Prs} {o:Int × Int} {x:Rw} (h:cz bs o x) {os:List Nat} (hl:∀ k ∈ os,k < bs.length):cz (prm os bs) o (My.trn os x):=by
 have g1:=cw (xs:=x.1) (os:=os) (fun k hk=>by rw [h.len];exact hl k hk)
 have g2:=cw (xs:=bs) (os:=os) hl
 refine ⟨by show (prm os x.1).length=_;rw [g1.1,g2.1],fun j ps b e f=>?_,h.lo,h.hi⟩
 have e:(prm os x.1)[j]?=some ps:=e
 have hj:j < os.length:=by rw [← g1.1];exact (List.getElem?_eq_some_iff.mp e).1
 have ek:=List.getElem?_eq_getElem hj
 rw [g1.2 j _ ek] at e
 rw [g2.2 j _ ek] at f
 exact h.inn _ ps b e f
theorem jK {H:Hp} {D:Addr} {o:HO} : hide (upd H D o) D=hide H D:=by
 funext b
 unfold hide
 by_cases h:b=D
 ·rw [if_pos h,if_pos h]
 ·rw [if_neg h,if_neg h,aC h]
theorem gM {H H' : Hp} {D:Addr} (s:av H H'):av (hide H D) (hide H' D):=fun b o e=>by
 unfold hide at e ⊢
 by_cases h:b=D
 ·rw [if_pos h] at e;cases e
 ·rw [if_neg h] at e ⊢;exact s b o e
theorem lV (H:Hp) (D:Addr):av (hide H D) H:=fun b o e=>by
 unfold hide at e
 by_cases h:b=D
 ·rw [if_pos h] at e;cases e
 ·rw [if_neg h] at e;exact e
theorem kx.hide {cN cW:Addr} {H:Hp} {a D:Addr} {c:Col} {zs:List V} (h:kx cN cW H a c) (e:H D=some (.lst zs)) (hz:∀ x ∈ zs,∃ r,x=.ref r) (hn:c.w=true->0<=c.hi):kx cN cW (My.hide H D) a c:=by
 rcases h with ⟨w,dx,fs,e1,r⟩ | ⟨w,dx,fs,l,e1,r1,r2,r3,r4,r5⟩
 ·exact .inl ⟨w,dx,fs,bT e1 (dO e1 e (by intro z;cases z)),r⟩
 ·refine .inr ⟨w,dx,fs,l,bT e1 (dO e1 e (by intro z;cases z)),r1,r2,r3,r4,bT r5 fun z=>?_⟩
  rw [z,e] at r5
  injection r5 with r5
  injection r5 with r5
  have h0:=hn w
  have hl:0 < (wds c.sd (c.hi+1).toNat).length:=by unfold wds;simp;omega
  obtain ⟨r,hr⟩:=hz (.str (wds c.sd (c.hi+1).toNat)[0]) (by rw [r5];exact List.mem_map.mpr ⟨_,List.getElem_mem hl,rfl⟩)
  cases hr
theorem ky {H H' : Hp} {D:Addr} (s:av H H') (n:H D=none):av H (hide H' D):=fun b o e=>bT (s b o e) (ba e n)
def pc (ws:List BW) (p:List Nat):List Int:=(ws.filter fun w=>m9 w.1 p).map (·.2)
theorem pM (ws:List BW) (w:BW) (p:List Nat):pc (ws ++ [w]) p=pc ws p ++ (if m9 w.1 p then [w.2] else []):=by
 unfold pc
 rw [List.filter_append,List.map_append]
 cases h:m9 w.1 p <;> simp [List.filter_cons,h]
theorem vd (ws:List BW) (p:List Nat):(pc ws p).length<=ws.length:=by
 unfold pc
 rw [List.length_map]
 exact List.length_filter_le ..
theorem sne {a b:Str} (h:a ≠ b):¬ (V.str a=V.str b):=fun e=>by injection e with e;exact h e
theorem qW.eq {cs:List Col} {w:BW} {x x' : Rw} (h:qW cs w x) (h' : qW cs w x') (hl:w.1.length=cs.length):x=x':=by
 have e2:x.2=x'.2:=by rw [h.code,h'.code]
 have e1:x.1=x'.1:=by
  refine List.ext_getElem? fun j=>?_
  by_cases hj:j < cs.length
  ·have ex:=List.getElem?_eq_getElem (l:=x.1) (i:=j) (by rw [h.len];exact hj)
   have ex':=List.getElem?_eq_getElem (l:=x'.1) (i:=j) (by rw [h'.len];exact hj)
   have ec:=List.getElem?_eq_getElem hj
   have ew:=List.getElem?_eq_getElem (l:=w.1) (i:=j) (by rw [hl];exact hj)
   rw [ex,ex',h.is j _ _ _ ex ec ew,h'.is j _ _ _ ex' ec ew]
  ·rw [List.getElem?_eq_none (by rw [h.len];omega),List.getElem?_eq_none (by rw [h'.len];omega)]
 cases x;cases x'
 cases e1;cases e2
 rfl
theorem cq.eq {cs:List Col} {ws:List BW} {rws wV : List Rw} (h:cq cs ws rws) (h' : cq cs ws wV) (hl:∀ w ∈ ws,w.1.length=cs.length):rws=wV:=by
 refine List.ext_getElem? fun k=>?_
 by_cases hk:k < ws.length
 ·have ew:=List.getElem?_eq_getElem hk
  have ex:=List.getElem?_eq_getElem (l:=rws) (i:=k) (by rw [h.1];exact hk)
  have ex':=List.getElem?_eq_getElem (l:=wV) (i:=k) (by rw [h'.1];exact hk)
  rw [ex,ex',(h.2 k _ _ ew ex).eq (h'.2 k _ _ ew ex') (hl _ (List.mem_of_getElem? ew))]
 ·rw [List.getElem?_eq_none (by rw [h.1];omega),List.getElem?_eq_none (by rw [h'.1];omega)]
theorem ve {pss:List Prs} {cd:List Int} {os:List Nat} {n:Nat} (h:Pm os n) (h1:pss.length=n) (h2:cd.length=n):gQ (prm os pss) (prm os cd)=gQ pss cd:=by
 have g1:=cw (os:=os) (xs:=pss) (fun k hk=>by rw [h1];exact h.lt k hk)
 have g2:=cw (os:=os) (xs:=cd) (fun k hk=>by rw [h2];exact h.lt k hk)
 have at_:∀ (j k:Nat),os[j]?=some k->inP ((prm os pss).getD j []) ((prm os cd).getD j 0)=inP (pss.getD k []) (cd.getD k 0):=fun j k e=>by
  rw [List.getD_eq_getElem?_getD,List.getD_eq_getElem?_getD,List.getD_eq_getElem?_getD,List.getD_eq_getElem?_getD,g1.2 j k e,g2.2 j k e]
 unfold gQ
 rw [Bool.eq_iff_iff,List.all_eq_true,List.all_eq_true]
 constructor
 ·intro hh k hk
  have hk:=List.mem_range.mp hk
  obtain ⟨j,ej⟩:=List.getElem?_of_mem (h.all k (by rw [← h2];exact hk))
  rw [← at_ j k ej]
  exact hh j (List.mem_range.mpr (by rw [g2.1];exact (List.getElem?_eq_some_iff.mp ej).1))
 ·intro hh j hj
  have hj:=List.mem_range.mp hj
  rw [g2.1] at hj
  have ej:=List.getElem?_eq_getElem hj
  rw [at_ j _ ej]
  exact hh _ (List.mem_range.mpr (by rw [h2];exact h.lt _ (List.mem_of_getElem? ej)))
theorem zi {cs:List Col} {oc:Col} {ws:List BW} {rws:List Rw} {p:List Nat} {cd:List Int} {os:List Nat} (h:cq cs ws rws) (hb:∀ w ∈ ws,du cs oc w) (hok:∀ c ∈ cs,bu c) (hp:m8 (eS cs) p) (hc:AtP cs p cd) (pm:Pm os cs.length):fl (rws.map (trn os)) (prm os cd)=pc ws p:=by
 have key:∀ n,n<=ws.length->fl ((rws.take n).map (trn os)) (prm os cd)=pc (ws.take n) p:=fun n=>by
  induction n with
  | zero=>intro _;rfl
  | succ n ih =>
   intro hn
   have ew:=List.getElem?_eq_getElem (l:=ws) (i:=n) (by omega)
   have ex:=List.getElem?_eq_getElem (l:=rws) (i:=n) (by rw [h.1];omega)
   have ro:=h.2 n _ _ ew ex
   have bo:=hb _ (List.mem_of_getElem? ew)
   rw [take_snoc ew,take_snoc ex,List.map_append,List.map_singleton,sX,pM,ih (by omega)]
   show _ ++ (if gQ (prm os _) (prm os cd) then [_] else [])=_
   rw [ve pm ro.len hc.1,wR ro bo hok hp hc]
   show _ ++ (if _ then [(rws[n]'_).2] else [])=_
   rw [ro.code]
 have:=key ws.length (Nat.le_refl _)
 rw [List.take_length,← h.1,List.take_length] at this
 exact this
structure Sm (n:Nat) (z:Str):Prop where
 len:z.length<=n
 low:∀ c ∈ z.cps.toList,c < 16 ^ 8
theorem zj (s:String):∀ c ∈ (Str.ofString s).cps.toList,c < 16 ^ 8:=fun c hc=>by
 rw [Str.ofString_eq_toList] at hc
 simp only [List.mem_map] at hc
 obtain ⟨ch,_,rfl⟩:=hc
 exact ch.val.toNat_lt
theorem Sm.of (s:String) {n:Nat} (h:(Str.ofString s).length<=n):Sm n (Str.ofString s):=⟨h,zj s⟩
def jL (zs:List Str):Prop:=(∀ z ∈ zs,isw z=true)/\zs.Nodup
def ng (n m:Nat):Prop:=1<=n/\n<=4/\m<=200
def rT (z:Str) (b:Bool):Prop:=z ∈ six/\¬ (z=Str.ofString "sum" /\ b=true)
def OuC (cN cW:Addr) (H:Hp) (ou:Addr) (b:Bool):Prop:=∃ dx fs,H ou=some (.ins (if b=true then cW else cN) dx fs)
theorem OuC.same {cN cW:Addr} {H H' : Hp} {ou:Addr} {b:Bool} (h:OuC cN cW H ou b) (s:av H H'):OuC cN cW H' ou b:=let ⟨dx,fs,e⟩:=h;⟨dx,fs,s _ _ e⟩
inductive cA (nms:List Str) (n m:Nat) (wok rok:Prop):Nat->Prop where
 | made:jL nms->ng n m->wok->rok->cA nms n m wok rok 0
 | name:¬ jL nms->cA nms n m wok rok 1
 | many:jL nms->¬ ng n m->cA nms n m wok rok 2
 | way:jL nms->ng n m->¬ wok->cA nms n m wok rok 3
 | row:jL nms->ng n m->wok->¬ rok->cA nms n m wok rok 4
section
variable {nms:List Str} {n m k:Nat} {wok rok:Prop}
theorem cA.k1 (h:cA nms n m wok rok k) (g:¬ jL nms):k=1:=by
 cases h with
 | made a=>exact absurd a g
 | name=>rfl
 | many a=>exact absurd a g
 | way a=>exact absurd a g
 | row a=>exact absurd a g
theorem cA.k2 (h:cA nms n m wok rok k) (a:jL nms) (g:¬ ng n m):k=2:=by
 cases h with
 | made _ b=>exact absurd b g
 | name b=>exact absurd a b
 | many=>rfl
 | way _ b=>exact absurd b g
 | row _ b=>exact absurd b g
theorem cA.k3 (h:cA nms n m wok rok k) (a:jL nms) (b:ng n m) (g:¬ wok):k=3:=by
 cases h with
 | made _ _ c=>exact absurd c g
 | name c=>exact absurd a c
 | many _ c=>exact absurd b c
 | way=>rfl
 | row _ _ c=>exact absurd c g
theorem cA.k4 (h:cA nms n m wok rok k) (a:jL nms) (b:ng n m) (c:wok) (g:¬ rok):k=4:=by
 cases h with
 | made _ _ _ d=>exact absurd d g
 | name d=>exact absurd a d
 | many _ d=>exact absurd b d
 | way _ _ d=>exact absurd c d
 | row=>rfl
theorem cA.k0 (h:cA nms n m wok rok k) (a:jL nms) (b:ng n m) (c:wok) (d:rok):k=0:=by
 cases h with
 | made=>rfl
 | name e=>exact absurd a e
 | many _ e=>exact absurd b e
 | way _ _ e=>exact absurd c e
 | row _ _ _ e=>exact absurd d e
end
def ex5 (a b c d:Addr):Nat->Option Addr
 | 1=>some a
 | 2=>some b
 | 3=>some c
 | 4=>some d
 | _=>none
def bnd (i:Int):Prop:=i.natAbs < 10 ^ 60
theorem take_all {α:Type} {l:List α} {i:Nat} {x:α} {p:α->Prop} (e:l[i]?=some x) (h:∀ y ∈ l.take i,p y) (hx:p x):∀ y ∈ l.take (i+1),p y:=fun y hy=>by
 rw [take_snoc e] at hy
 rcases List.mem_append.mp hy with hy | hy
 ·exact h y hy
 ·rw [show y=x by simpa using hy];exact hx
theorem tf {bs:List Bool} {i:Nat} {x:V} (e:(bs.map V.bl)[i]?=some x):∃ b,x=.bl b/\bs[i]?=some b:=by
 rw [List.getElem?_map] at e
 cases q:bs[i]? with
 | none=>rw [q] at e;cases e
 | some z=>rw [q] at e;cases e;exact ⟨z,rfl,rfl⟩
theorem fi {K:PySem.W.Frag} {H:Hp} {Q:VK} {a b:Addr} {xs ys:List Bool} {r:Bool} (ha:SqL K H a (xs.map V.bl)) (hb:SqL K H b (ys.map V.bl)) (hr:r=true↔xs=ys) (q:Q (.bl r) H):tJ K false (.ref a) (.ref b) H Q:=by
 by_cases hl:xs.length=ys.length
 ·refine ⟨a,b,_,_,rfl,rfl,ha,hb,.inr ⟨by rw [List.length_map,List.length_map];exact hl,fun j=>decide (xs[j]?=ys[j]?),fun j x y e1 e2=>?_,?_⟩⟩
  ·obtain ⟨z,rfl,f1⟩:=tf e1
   obtain ⟨z2,rfl,f2⟩:=tf e2
   have h1:=EqI.flat (K:=K) (H:=H) (x:=V.bl z) (y:=V.bl z2) rfl rfl
   have h2:eqV (V.bl z) (V.bl z2)=decide (xs[j]?=ys[j]?):=by
    rw [f1,f2,Bool.eq_iff_iff]
    simp [eqV]
   rw [h2] at h1
   exact h1
  ·have e:(List.range (xs.map V.bl).length).all (fun j=>decide (xs[j]?=ys[j]?))=r:=by
    rw [Bool.eq_iff_iff,hr,List.all_eq_true]
    constructor
    ·intro h
     apply List.ext_getElem?
     intro j
     by_cases hj:j < xs.length
     ·exact of_decide_eq_true (h j (List.mem_range.mpr (by rw [List.length_map];exact hj)))
     ·rw [List.getElem?_eq_none (by omega),List.getElem?_eq_none (by omega)]
    ·intro h j _
     rw [h]
     exact decide_eq_true rfl
   rw [if_neg Bool.false_ne_true,e]
   exact q
 ·have e:r=false:=by
   rw [Bool.eq_false_iff]
   intro z
   exact hl (by rw [hr.mp z])
  rw [e] at q
  exact ⟨a,b,_,_,rfl,rfl,ha,hb,.inl ⟨by rw [List.length_map,List.length_map];exact hl,q⟩⟩
theorem az.set {α:Type} {xs:List V} {as:List α} {P:Addr->α->Prop} {i:Nat} {r:Addr} {a:α} (h:az xs as P) (p:P r a):az (xs.set i (.ref r)) (as.set i a) P:=by
 refine ⟨by rw [List.length_set,List.length_set];exact h.1,fun j b e=>?_⟩
 by_cases hj:i=j
 ·subst hj
  have hl:=(List.getElem?_eq_some_iff.mp e).1
  rw [List.length_set] at hl
  rw [List.getElem?_set_self hl] at e
  cases e
  exact ⟨r,List.getElem?_set_self (by rw [h.1];exact hl),p⟩
 ·rw [List.getElem?_set_ne hj] at e
  obtain ⟨r',e1,q⟩:=h.2 j b e
  exact ⟨r',by rw [List.getElem?_set_ne hj];exact e1,q⟩
theorem az.take {α:Type} {xs:List V} {as:List α} {P:Addr->α->Prop} (h:az xs as P) (n:Nat):az (xs.take n) (as.take n) P:=by
 refine ⟨by rw [List.length_take,List.length_take,h.1],fun j b e=>?_⟩
 rw [List.getElem?_take] at e
 split at e
 ·obtain ⟨r,e1,q⟩:=h.2 j b e
  exact ⟨r,by rw [List.getElem?_take,if_pos (by assumption)];exact e1,q⟩
 ·cases e
theorem az.drop {α:Type} {xs:List V} {as:List α} {P:Addr->α->Prop} (h:az xs as P) (n:Nat):az (xs.drop n) (as.drop n) P:=by
 refine ⟨by rw [List.length_drop,List.length_drop,h.1],fun j b e=>?_⟩
 rw [List.getElem?_drop] at e
 obtain ⟨r,e1,q⟩:=h.2 _ b e
 exact ⟨r,by rw [List.getElem?_drop];exact e1,q⟩
theorem az.append {α:Type} {xs ys:List V} {as bs:List α} {P:Addr->α->Prop} (h:az xs as P) (k:az ys bs P):az (xs ++ ys) (as ++ bs) P:=by
 refine ⟨by rw [List.length_append,List.length_append,h.1,k.1],fun j b e=>?_⟩
 by_cases hj:j < as.length
 ·rw [List.getElem?_append_left hj] at e
  obtain ⟨r,e1,q⟩:=h.2 j b e
  exact ⟨r,by rw [List.getElem?_append_left (by rw [h.1];exact hj)];exact e1,q⟩
 ·rw [List.getElem?_append_right (by omega)] at e
  obtain ⟨r,e1,q⟩:=k.2 _ b e
  exact ⟨r,by rw [List.getElem?_append_right (by rw [h.1];omega),h.1];exact e1,q⟩
theorem kz {z:Str} (h:isw z=true):Sm 600 z:=by
 unfold isw at h
 simp only [Bool.and_eq_true,decide_eq_true_eq] at h
 refine ⟨by omega,fun c hc=>?_⟩
 have:=List.all_eq_true.mp h.2.2.2 c hc
 unfold sg at this
 rw [PySem.StrLaws.found_one] at this
 have m:=of_decide_eq_true this
 exact (Sm.of "abcdefghijklmnopqrstuvwxyz" (n:=26) (by decide +kernel)).low c m
theorem uc {K:PySem.W.Frag} {H:Hp} {Q:VK} {a b:Addr} {xs ys:List Str} {r:Bool} (ha:SqL K H a (xs.map V.str)) (hb:SqL K H b (ys.map V.str)) (hr:r=true↔xs=ys) (q:Q (.bl r) H):tJ K false (.ref a) (.ref b) H Q:=by
 by_cases hl:xs.length=ys.length
 ·refine ⟨a,b,_,_,rfl,rfl,ha,hb,.inr ⟨by rw [List.length_map,List.length_map];exact hl,fun j=>decide (xs[j]?=ys[j]?),fun j x y e1 e2=>?_,?_⟩⟩
  ·obtain ⟨z,rfl,f1⟩:=fc e1
   obtain ⟨z2,rfl,f2⟩:=fc e2
   have h1:=EqI.flat (K:=K) (H:=H) (x:=V.str z) (y:=V.str z2) rfl rfl
   have h2:eqV (V.str z) (V.str z2)=decide (xs[j]?=ys[j]?):=by
    rw [f1,f2,Bool.eq_iff_iff]
    simp [eqV]
   rw [h2] at h1
   exact h1
  ·have e:(List.range (xs.map V.str).length).all (fun j=>decide (xs[j]?=ys[j]?))=r:=by
    rw [Bool.eq_iff_iff,hr,List.all_eq_true]
    constructor
    ·intro h
     apply List.ext_getElem?
     intro j
     by_cases hj:j < xs.length
     ·exact of_decide_eq_true (h j (List.mem_range.mpr (by rw [List.length_map];exact hj)))
     ·rw [List.getElem?_eq_none (by omega),List.getElem?_eq_none (by omega)]
    ·intro h j _
     rw [h]
     exact decide_eq_true rfl
   rw [if_neg Bool.false_ne_true,e]
   exact q
 ·have e:r=false:=by
   rw [Bool.eq_false_iff]
   intro z
   exact hl (by rw [hr.mp z])
  rw [e] at q
  exact ⟨a,b,_,_,rfl,rfl,ha,hb,.inl ⟨by rw [List.length_map,List.length_map];exact hl,q⟩⟩
abbrev Dm:=Sum (Int × Int) (List Str)
def DmX (cN cW:Addr) (H:Hp) (a:Addr):Dm->Prop
 | .inl p=>∃ dx fs,H a=some (.ins cN dx fs)/\fs.lookup (Str.ofString "low")=some (.int p.1)/\fs.lookup (Str.ofString "high")=some (.int p.2)/\fs.lookup (Str.ofString "has_code")=none
 | .inr zs=>∃ dx fs l,H a=some (.ins cW dx fs)/\fs.lookup (Str.ofString "words")=some (.ref l)/\H l=some (.lst (zs.map V.str))/\fs.lookup (Str.ofString "low")=some (.int 0)/\fs.lookup (Str.ofString "high")=some (.int (hiW zs))/\fs.lookup (Str.ofString "has_code")=none
theorem DmX.same {cN cW:Addr} {H H' : Hp} {a:Addr} {d:Dm} (h:DmX cN cW H a d) (s:av H H'):DmX cN cW H' a d:=by
 cases d with
 | inl p=>obtain ⟨dx,fs,e,r⟩:=h;exact ⟨dx,fs,s _ _ e,r⟩
 | inr zs=>obtain ⟨dx,fs,l,e,r1,e2,r⟩:=h;exact ⟨dx,fs,l,s _ _ e,r1,s _ _ e2,r⟩
def TD (cT:Addr) (H:Hp) (t:Addr) (dv:List V) (ou:Addr):Prop:=∃ (dx dl:Addr) (fs:List (Str × V)),H t=some (.ins cT dx fs)/\fs.lookup (Str.ofString "domains")=some (.ref dl)/\fs.lookup (Str.ofString "outcome")=some (.ref ou)/\H dl=some (.lst dv)
def TR (cT:Addr) (H:Hp) (t:Addr) (nm wy:Str) (ou:Addr) (zs:List Str) (dv rx:List V):Prop:=∃ (dx na dl rl:Addr) (fs:List (Str × V)),H t=some (.ins cT dx fs)/\fs.lookup (Str.ofString "name")=some (.str nm)/\fs.lookup (Str.ofString "way")=some (.str wy)/\fs.lookup (Str.ofString "outcome")=some (.ref ou)/\fs.lookup (Str.ofString "names")=some (.ref na)/\fs.lookup (Str.ofString "domains")=some (.ref dl)/\fs.lookup (Str.ofString "rows")=some (.ref rl)/\H na=some (.lst (zs.map V.str))/\H dl=some (.lst dv)/\H rl=some (.lst rx)
section
variable {cT:Addr} {H H' : Hp} {t ou:Addr} {nm wy:Str} {zs:List Str} {dv rx:List V}
theorem TR.same (h:TR cT H t nm wy ou zs dv rx) (s:av H H'):TR cT H' t nm wy ou zs dv rx :=
 let ⟨dx,na,dl,rl,fs,h1,h2,h3,h4,h5,h6,h7,h8,h9,h10⟩:=h
 ⟨dx,na,dl,rl,fs,s _ _ h1,h2,h3,h4,h5,h6,h7,s _ _ h8,s _ _ h9,s _ _ h10⟩
theorem TR.td (h:TR cT H t nm wy ou zs dv rx):TD cT H t dv ou :=
 let ⟨dx,_,dl,_,fs,h1,_,_,h4,_,h6,_,_,h9,_⟩:=h
 ⟨dx,dl,fs,h1,h6,h4,h9⟩
end
theorem ud {K:PySem.W.Frag} {H:Hp} {Q:VK} {a b:Addr} {xs ys:List Str} {r:Bool} (ha:SqL K H a (xs.map V.str)) (hb:SqL K H b (ys.map V.str)) (hr:r=true↔xs=ys) (q:Q (.bl (!r)) H):tJ K true (.ref a) (.ref b) H Q:=by
 by_cases hl:xs.length=ys.length
 ·refine ⟨a,b,_,_,rfl,rfl,ha,hb,.inr ⟨by rw [List.length_map,List.length_map];exact hl,fun j=>decide (xs[j]?=ys[j]?),fun j x y e1 e2=>?_,?_⟩⟩
  ·obtain ⟨z,rfl,f1⟩:=fc e1
   obtain ⟨z2,rfl,f2⟩:=fc e2
   have h1:=EqI.flat (K:=K) (H:=H) (x:=V.str z) (y:=V.str z2) rfl rfl
   have h2:eqV (V.str z) (V.str z2)=decide (xs[j]?=ys[j]?):=by
    rw [f1,f2,Bool.eq_iff_iff]
    simp [eqV]
   rw [h2] at h1
   exact h1
  ·have e:(List.range (xs.map V.str).length).all (fun j=>decide (xs[j]?=ys[j]?))=r:=by
    rw [Bool.eq_iff_iff,hr,List.all_eq_true]
    constructor
    ·intro h
     apply List.ext_getElem?
     intro j
     by_cases hj:j < xs.length
     ·exact of_decide_eq_true (h j (List.mem_range.mpr (by rw [List.length_map];exact hj)))
     ·rw [List.getElem?_eq_none (by omega),List.getElem?_eq_none (by omega)]
    ·intro h j _
     rw [h]
     exact decide_eq_true rfl
   rw [if_pos rfl,e]
   exact q
 ·have e:r=false:=by
   rw [Bool.eq_false_iff]
   intro z
   exact hl (by rw [hr.mp z])
  rw [e] at q
  exact ⟨a,b,_,_,rfl,rfl,ha,hb,.inl ⟨by rw [List.length_map,List.length_map];exact hl,q⟩⟩
def Dm.b:Dm->Int × Int
 | .inl p=>p
 | .inr zs=>(0,hiW zs)
def Dm.w:Dm->Bool
 | .inl _=>false
 | .inr _=>true
def Dm.ok:Dm->Prop
 | .inl p=>p.1<=p.2
 | .inr zs=>Good zs
theorem DmX.dom {cN cW:Addr} {H:Hp} {a:Addr} {d:Dm} (h:DmX cN cW H a d):Dom cN cW H a (Dm.b d):=by
 cases d with
 | inl p=>obtain ⟨dx,fs,e,r⟩:=h;exact ⟨cN,.inl rfl,dx,fs,e,r⟩
 | inr zs=>obtain ⟨dx,fs,l,e,r1,e2,r⟩:=h;exact ⟨cW,.inr rfl,dx,fs,e,r⟩
theorem DmX.ouc {cN cW:Addr} {H:Hp} {a:Addr} {d:Dm} (h:DmX cN cW H a d):OuC cN cW H a (Dm.w d):=by
 cases d with
 | inl p=>obtain ⟨dx,fs,e,r⟩:=h;exact ⟨dx,fs,e⟩
 | inr zs=>obtain ⟨dx,fs,l,e,r1,e2,r⟩:=h;exact ⟨dx,fs,e⟩
theorem rV {cN cW:Addr} {H:Hp} {dv:List V} {ds:List Dm} (h:az dv ds (DmX cN cW H)):az dv (ds.map Dm.b) (Dom cN cW H):=⟨by rw [List.length_map];exact h.1,fun j b e=>by
 rw [List.getElem?_map] at e
 cases ec:ds[j]? with
 | none=>rw [ec] at e;cases e
 | some c =>
  rw [ec] at e
  cases e
  obtain ⟨r,e1,p⟩:=h.2 j c ec
  exact ⟨r,e1,p.dom⟩⟩
structure TXo (nm wy:Str) (zs:List Str) (rws:List Rw) (ds:List Dm) (d:Dm):Prop where
 nmo:jL (nm :: zs)
 ct:ng zs.length rws.length
 way:rT wy (Dm.w d)
 rows:∀ w ∈ rws,cz (ds.map Dm.b) (Dm.b d) w
 len:ds.length=zs.length
 fine:∀ e ∈ d :: ds,Dm.ok e
structure TX (cT cN cW:Addr) (H:Hp) (t:Addr) (nm wy:Str) (ou:Addr) (zs:List Str) (dv rx:List V) (rws:List Rw) (ds:List Dm) (d:Dm):Prop where
 tr:TR cT H t nm wy ou zs dv rx
 rl:RL NT H rx rws
 doms:az dv ds (DmX cN cW H)
 out:DmX cN cW H ou d
 o:TXo nm wy zs rws ds d
theorem TX.same {cT cN cW:Addr} {H H' : Hp} {t:Addr} {nm wy:Str} {ou:Addr} {zs:List Str} {dv rx:List V} {rws:List Rw} {ds:List Dm} {d:Dm} (h:TX cT cN cW H t nm wy ou zs dv rx rws ds d) (s:av H H'):TX cT cN cW H' t nm wy ou zs dv rx rws ds d :=
 ⟨h.tr.same s,h.rl.same s,az.mono h.doms fun _ _ p=>p.same s,h.out.same s,h.o⟩
theorem Dm.ok.le {d:Dm} (h:Dm.ok d):(Dm.b d).1<=(Dm.b d).2:=by
 cases d with
 | inl p=>exact h
 | inr zs =>
  have h:Good zs:=h
  have:=h.some_
  show (0:Int)<=hiW zs
  unfold hiW
  omega
theorem TX.tbl {cT cN cW:Addr} {H:Hp} {t:Addr} {nm wy:Str} {ou:Addr} {zs:List Str} {dv rx:List V} {rws:List Rw} {ds:List Dm} {d:Dm} {i:Nat} (h:TX cT cN cW H t nm wy ou zs dv rx rws ds d) (hi:six[i]?=some wy):Tbl cT cN cW H t rws i (Dm.b d) :=
 let ⟨dx,na,dl,rl,fs,h1,h2,h3,h4,h5,h6,h7,h8,h9,h10⟩:=h.tr
 ⟨rl,ou,dx,fs,rx,wy,h1,h7,h3,h4,h10,h.rl,hi,h.out.dom,(h.o.fine d List.mem_cons_self).le,by rw [h.rl.1];exact h.o.ct.2.2⟩
theorem pN {z:Str} (h:z ∈ six):Sm 1000 z:=by
 unfold six at h
 simp only [List.mem_cons,List.not_mem_nil,or_false] at h
 rcases h with rfl | rfl | rfl | rfl | rfl | rfl <;> exact ⟨by decide +kernel,by decide +kernel⟩
theorem cO {yX yV yW yH yI yJ yK:Addr} {H0:Hp} {X DX NA DL_ OU RL_:Addr} {NM WY:Str} {ZS:List Str} {DV RX:List V} {RWS:List Rw} {DS:List Dm} {D:Dm} {Q0:VK} {E0:XK} {sp:Sp} (esp:sp=(fun vs H Q E=>∃ (x dx na dl ou rl:Addr) (nm wy:Str) (zs:List Str) (dv rx:List V) (bs:Prs) (o:Int × Int) (rws:List Rw) (b:Bool) (k:Nat),vs=[.ref x,.str nm,.ref na,.ref dl,.ref ou,.str wy,.ref rl]/\H x=some (.ins yX dx [])/\H na=some (.lst (zs.map V.str))/\(∀ z ∈ nm :: zs,Sm 600 z)/\zs.length<=50/\Sm 1000 wy/\OuC yV yW H ou b/\H dl=some (.lst dv)/\az dv bs (Dom yV yW H)/\Dom yV yW H ou o/\H rl=some (.lst rx)/\RL NT H rx rws/\bs.length<=5/\(∀ w ∈ rws,cz bs o w\/bnd w.2)/\cA (nm :: zs) zs.length rx.length (rT wy b) (∀ w ∈ rws,cz bs o w) k /\
 (k=0->∀ (H' : Hp) (fs:List (Str × V)) (rl' : Addr) (xs' : List V),(∀ b o,b ≠ x->H b=some o->H' b=some o)->H' x=some (.ins yX dx fs)->fs.lookup (Str.ofString "rows")=some (.ref rl')->fs.lookup (Str.ofString "way")=some (.str wy)->fs.lookup (Str.ofString "outcome")=some (.ref ou)->fs.lookup (Str.ofString "name")=some (.str nm)->(∃ na' dl' : Addr,fs.lookup (Str.ofString "names")=some (.ref na')/\fs.lookup (Str.ofString "domains")=some (.ref dl')/\H' na'=some (.lst (zs.map V.str))/\H' dl'=some (.lst dv))->H' rl'=some (.lst xs')->RL NT H' xs' rws->Q .non H')/\(∀ C,ex5 yH yI yJ yK k=some C->∀ H',av H H'->E (.ref C) none H'):Sp))
  (hna:H0 NA=some (.lst (ZS.map V.str))) (hdl:H0 DL_=some (.lst DV)) (hrl:H0 RL_=some (.lst RX)) (hR:RL NT H0 RX RWS) (hds:az DV DS (DmX yV yW H0)) (hou:DmX yV yW H0 OU D) (o:TXo NM WY ZS RWS DS D) (hx:H0 X=none) (hdx:H0 DX=none)
  (q:∀ (H' : Hp) (xs' : List V),av H0 H'->TX yX yV yW H' X NM WY OU ZS DV xs' RWS DS D->Q0 .non H') :
  sp [.ref X,.str NM,.ref NA,.ref DL_,.ref OU,.str WY,.ref RL_] (upd (upd H0 DX (.own X)) X (.ins yX DX [])) Q0 E0:=by
 subst esp
 have s10:av H0 (upd (upd H0 DX (.own X)) X (.ins yX DX [])):=(ah hdx _).upd hx
 have c4:=o.ct.2.1
 refine ⟨X,DX,NA,DL_,OU,RL_,NM,WY,ZS,DV,RX,DS.map Dm.b,Dm.b D,RWS,Dm.w D,0,rfl,ae,s10 _ _ hna,(fun z hz=>kz (o.nmo.1 z hz)),by omega,pN o.way.1,hou.ouc.same s10,s10 _ _ hdl,az.mono (rV hds) (fun _ _ p=>p.same s10),hou.dom.same s10,s10 _ _ hrl,hR.same s10,by rw [List.length_map,o.len];omega,(fun w hw=>.inl (o.rows w hw)),cA.made o.nmo (by rw [hR.1];exact o.ct) o.way o.rows,fun _ H' fs rl' xs' k1 k2 k3 k4 k5 k6 k7 k8 k9=>?_,fun C hC=>by cases hC⟩
 obtain ⟨na2,dl2,m1,m2,m3,m4⟩:=k7
 have s3:av H0 H':=fun b u e=>k1 b u (ba e hx) (s10 _ _ e)
 exact q H' xs' s3 ⟨⟨DX,na2,dl2,rl',fs,k2,k6,k4,k5,m1,m2,k3,m3,m4,k8⟩,k9,az.mono hds fun _ _ p=>p.same s3,hou.same s3,o⟩
def Col.dm (c:Col):Dm:=if c.w=true then .inr (wds c.sd (c.hi+1).toNat) else .inl (c.lo,c.hi)
theorem wW (c:Int) (n:Nat):(wds c n).length=n:=by unfold wds;simp
theorem Col.w_lo {c:Col} (ok:bu c) (hw:c.w=true):c.lo=0:=by
 obtain ⟨p0,e0,l0⟩:=ok.first
 rw [← l0];exact ok.w0 hw p0 e0
theorem Col.hi_w {c:Col} (ok:bu c) (hw:c.w=true):hiW (wds c.sd (c.hi+1).toNat)=c.hi:=by
 have h0:=Col.w_lo ok hw
 have:=ok.le
 unfold hiW
 rw [wW]
 omega
theorem Col.dm_b {c:Col} (ok:bu c):Dm.b c.dm=c.b:=by
 unfold Col.dm
 by_cases hw:c.w=true
 ·rw [if_pos hw]
  show (0,hiW _)=(c.lo,c.hi)
  rw [Col.hi_w ok hw,Col.w_lo ok hw]
 ·rw [if_neg hw];rfl
theorem Col.dm_w (c:Col):Dm.w c.dm=c.w:=by
 unfold Col.dm
 by_cases hw:c.w=true
 ·rw [if_pos hw,hw];rfl
 ·rw [if_neg hw]
  have:c.w=false:=by simpa using hw
  rw [this];rfl
theorem Col.dm_ok {c:Col} (ok:bu c):Dm.ok c.dm:=by
 unfold Col.dm
 by_cases hw:c.w=true
 ·rw [if_pos hw]
  have h0:=Col.w_lo ok hw
  have h1:=ok.le
  obtain ⟨p,e,l⟩:=ok.last
  have h2:=ok.wl hw _ p e
  exact qT (by omega) (by omega)
 ·rw [if_neg hw];exact ok.le
theorem kx.dmx {cN cW:Addr} {H:Hp} {a:Addr} {c:Col} (h:kx cN cW H a c) (ok:bu c):DmX cN cW H a c.dm:=by
 unfold Col.dm
 rcases h with ⟨hw,dx,fs,e,r⟩ | ⟨hw,dx,fs,l,e,r1,r2,r3,r4,r5⟩
 ·rw [if_neg (by rw [hw];decide)]
  exact ⟨dx,fs,e,r⟩
 ·rw [if_pos hw]
  rw [Col.w_lo ok hw] at r1
  refine ⟨dx,fs,l,e,r4,r5,r1,?_,r3⟩
  rw [Col.hi_w ok hw];exact r2
theorem wX {cN cW:Addr} {H:Hp} {dv:List V} {cs:List Col} (h:az dv cs (kx cN cW H)) (hok:∀ c ∈ cs,bu c):az dv (cs.map Col.dm) (DmX cN cW H):=⟨by rw [List.length_map];exact h.1,fun j b e=>by
 rw [List.getElem?_map] at e
 cases ec:cs[j]? with
 | none=>rw [ec] at e;cases e
 | some c =>
  rw [ec] at e
  cases e
  obtain ⟨r,e1,p⟩:=h.2 j c ec
  exact ⟨r,e1,p.dmx (hok c (List.mem_of_getElem? ec))⟩⟩
theorem Bg {cs:List Col} (hok:∀ c ∈ cs,bu c):(cs.map Col.dm).map Dm.b=cs.map Col.b:=by
 rw [List.map_map]
 exact List.map_congr_left fun c hc=>Col.dm_b (hok c hc)
theorem TXo.trn {nm wy:Str} {zs:List Str} {rws:List Rw} {ds:List Dm} {d:Dm} (h:TXo nm wy zs rws ds d) {os:List Nat} (hp:Pm os zs.length):TXo nm wy (prm os zs) (rws.map (My.trn os)) (prm os ds) d:=by
 have hl:=cw (xs:=zs) (os:=os) hp.lt
 have hlb:∀ k ∈ os,k < (ds.map Dm.b).length:=fun k hk=>by rw [List.length_map,h.len];exact hp.lt k hk
 have hld:∀ k ∈ os,k < ds.length:=fun k hk=>by rw [h.len];exact hp.lt k hk
 have hn:=List.nodup_cons.mp h.nmo.2
 refine ⟨⟨fun z hz=>?_,List.nodup_cons.mpr ⟨fun hm=>hn.1 (pL hm),ub hp.nd hn.2 hp.lt⟩⟩,?_,h.way,fun w hw=>?_,by rw [(cw (xs:=ds) (os:=os) hld).1,hl.1],fun e he=>?_⟩
 ·rcases List.mem_cons.mp hz with rfl | hz
  ·exact h.nmo.1 _ List.mem_cons_self
  ·exact h.nmo.1 z (List.mem_cons_of_mem _ (pL hz))
 ·have c:=h.ct
  rw [hl.1,hp.len,List.length_map];exact c
 ·obtain ⟨x,hx,rfl⟩:=List.mem_map.mp hw
  rw [← wU]
  exact (h.rows x hx).trn hlb
 ·rcases List.mem_cons.mp he with rfl | he
  ·exact h.fine _ List.mem_cons_self
  ·exact h.fine e (List.mem_cons_of_mem _ (pL he))
def nmz (h:Int) (n:Nat):List Str:=(List.range n).map fun j:Nat=>wd (h / 16) (1+(0+(j:Int)))
theorem lW (h:Int) (n:Nat):(nmz h n).length=n:=by unfold nmz;simp
theorem lX {h:Int} {n:Nat} {z:Str} (hz:z ∈ nmz h n):∃ j:Nat,j < n/\z=wd (h / 16) (1+(0+(j:Int))):=by
 unfold nmz at hz
 obtain ⟨j,hj,rfl⟩:=List.mem_map.mp hz
 exact ⟨j,List.mem_range.mp hj,rfl⟩
theorem zk {h ow:Int} {n:Nat} (how:ow=0\/ow=5) (hn:n<=4):jL (wd (h / 16) ow :: nmz h n):=by
 refine ⟨fun z hz=>?_,List.nodup_cons.mpr ⟨fun hm=>?_,oR (c:=h / 16) (n:=n) (by omega) (fun j:Nat=>1+(0+(j:Int))) (fun j hj=>⟨by omega,by omega⟩) fun i j e=>by omega⟩⟩
 ·rcases List.mem_cons.mp hz with rfl | hz
  ·exact rS _ _
  ·obtain ⟨j,_,rfl⟩:=lX hz
   exact rS _ _
 ·obtain ⟨j,hj,e⟩:=lX hm
  have:=u7 (c:=h / 16) (k:=ow) (k':=1+(0+(j:Int))) (by omega) (by omega) (by omega) (by omega) e
  omega
def Alk (zs zs2:List Str) (wy wy2:Str) (ds es:List Dm) (d e:Dm):Prop:=zs=zs2/\wy=wy2/\ds=es/\d=e
theorem TXo.both {nm wy:Str} {zs:List Str} {rws aW:List Rw} {ds:List Dm} {d:Dm} {nm2:Str} (h:TXo nm wy zs rws ds d) (h2:TXo nm2 wy zs aW ds d) (hl:rws.length+aW.length<=200):TXo nm wy zs (rws ++ aW) ds d :=
 ⟨h.nmo,⟨h.ct.1,h.ct.2.1,by rw [List.length_append];exact hl⟩,h.way,fun w hw=>(List.mem_append.mp hw).elim (h.rows w) (h2.rows w),h.len,h.fine⟩
theorem vf {zs:List Str} (h:Good zs):Good (zs.drop 1 ++ zs.take 1):=by
 have pm:(zs.drop 1 ++ zs.take 1).Perm zs:=by
  have:=List.perm_append_comm (l₁:=zs.drop 1) (l₂:=zs.take 1)
  rw [List.take_append_drop] at this
  exact this
 exact ⟨by rw [pm.length_eq];exact h.some_,by rw [pm.length_eq];exact h.few,fun z hz=>h.words z (pm.mem_iff.mp hz),pm.nodup_iff.mpr h.once⟩
theorem wY (zs:List Str):(zs.drop 1 ++ zs.take 1).length=zs.length:=by
 rw [List.length_append,List.length_drop,List.length_take];omega
theorem zl {zs:List Str} (h:Good zs) (h2:2<=zs.length):zs.drop 1 ++ zs.take 1 ≠ zs:=by
 match zs,h,h2 with
 | a :: b :: r,h,_ =>
  intro e
  have e1:b :: (r ++ [a])=a :: b :: r:=e
  have:=(List.cons.inj e1).1
  have hn:=List.nodup_cons.mp h.once
  exact hn.1 (by rw [this];exact List.mem_cons_self)
theorem DmX.lohi {cN cW:Addr} {H:Hp} {a:Addr} {d:Dm} (h:DmX cN cW H a d):∃ (C dx:Addr) (fs:List (Str × V)),H a=some (.ins C dx fs)/\fs.lookup (Str.ofString "low")=some (.int (Dm.b d).1)/\fs.lookup (Str.ofString "high")=some (.int (Dm.b d).2)/\(C=cN\/C=cW):=by
 cases d with
 | inl p=>obtain ⟨dx,fs,e,r1,r2,r3⟩:=h;exact ⟨cN,dx,fs,e,r1,r2,.inl rfl⟩
 | inr zs=>obtain ⟨dx,fs,l,e,r1,e2,r3,r4,r5⟩:=h;exact ⟨cW,dx,fs,e,r3,r4,.inr rfl⟩
theorem gN {cN cW:Addr} {H:Hp} {x dx:Addr} {lo hi:Int} : DmX cN cW (mkd cN H x dx lo hi) x (.inl (lo,hi)):=⟨dx,_,ae,rfl,rfl,rfl⟩
theorem fj {C:Addr} {H:Hp} {x dx:Addr} {lo hi:Int} (hx:H x=none) (hdx:H dx=none):av H (mkd C (upd (upd H dx (.own x)) x (.ins C dx [])) x dx lo hi):=by
 unfold mkd
 exact (((ah hdx _).upd hx).upd hx).upd hx
def HS (nm:Str) (zs:List Str):Prop:=∀ z ∈ zs,isw (z ++ Str.ofString "h")=true/\∀ y ∈ nm :: zs,y ≠ z ++ Str.ofString "h"
def wdn (x:Rw):Rw:=(x.1 ++ [[(0,1)]],x.2)
def ct3 (x:Rw):Rw:=(x.1.take 3,x.2)
theorem TXo.wdn {nm wy:Str} {zs:List Str} {rws:List Rw} {ds:List Dm} {d:Dm} (h:TXo nm wy zs rws ds d) (hn:zs.length < 4) (hh:HS nm zs) {z0:Str} (e0:zs[0]?=some z0):TXo nm wy (zs ++ [z0 ++ Str.ofString "h"]) (rws.map My.wdn) (ds ++ [.inl (0,1)]) d:=by
 have m0:=List.mem_of_getElem? e0
 obtain ⟨i1,i2⟩:=hh z0 m0
 have hc:=List.nodup_cons.mp h.nmo.2
 refine ⟨⟨fun z hz=>?_,List.nodup_cons.mpr ⟨fun hm=>?_,List.nodup_append.mpr ⟨hc.2,List.nodup_cons.mpr ⟨List.not_mem_nil,List.nodup_nil⟩,fun a ha b hb=>?_⟩⟩⟩,⟨?_,?_,?_⟩,h.way,fun w hw=>?_,?_,fun e he=>?_⟩
 ·rcases List.mem_cons.mp hz with rfl | hz
  ·exact h.nmo.1 _ List.mem_cons_self
  ·rcases List.mem_append.mp hz with hz | hz
   ·exact h.nmo.1 z (List.mem_cons_of_mem _ hz)
   ·rw [show z=z0 ++ Str.ofString "h" by simpa using hz];exact i1
 ·rcases List.mem_append.mp hm with hm | hm
  ·exact hc.1 hm
  ·exact i2 nm List.mem_cons_self (by simpa using hm)
 ·rw [show b=z0 ++ Str.ofString "h" by simpa using hb]
  exact i2 a (List.mem_cons_of_mem _ ha)
 ·have:=h.ct.1
  rw [List.length_append];omega
 ·rw [List.length_append,List.length_singleton];omega
 ·rw [List.length_map];exact h.ct.2.2
 ·obtain ⟨x,hx,rfl⟩:=List.mem_map.mp hw
  have hr:=h.rows x hx
  have hl:x.1.length=ds.length:=by rw [hr.len,List.length_map]
  refine ⟨?_,fun j ps b e f p hp=>?_,hr.lo,hr.hi⟩
  ·show (x.1 ++ [[(0,1)]]).length=_
   rw [List.length_append,List.length_map,List.length_append,hl];rfl
  ·have e:(x.1 ++ [[(0,1)]])[j]?=some ps:=e
   rw [List.map_append] at f
   by_cases hj:j < ds.length
   ·rw [List.getElem?_append_left (by omega)] at e
    rw [List.getElem?_append_left (by rw [List.length_map];exact hj)] at f
    exact hr.inn j ps b e f p hp
   ·have hj2:j=ds.length:=by
     have:=(List.getElem?_eq_some_iff.mp e).1
     rw [List.length_append,List.length_singleton] at this
     omega
    subst hj2
    rw [List.getElem?_append_right (by omega),hl,Nat.sub_self] at e
    rw [List.getElem?_append_right (by rw [List.length_map];omega),List.length_map,Nat.sub_self] at f
    cases e
    cases f
    rw [show p=(0,1) by simpa using hp]
    exact ⟨Int.le_refl _,Int.le_refl _⟩
 ·rw [List.length_append,List.length_append,h.len];rfl
 ·rcases List.mem_cons.mp he with rfl | he
  ·exact h.fine _ List.mem_cons_self
  ·rcases List.mem_append.mp he with he | he
   ·exact h.fine e (List.mem_cons_of_mem _ he)
   ·rw [show e=.inl (0,1) by simpa using he]
    show (0:Int)<=1
    decide
theorem TXo.ct3 {nm wy:Str} {zs:List Str} {rws:List Rw} {ds:List Dm} {d:Dm} (h:TXo nm wy zs rws ds d) (hn:4<=zs.length):TXo nm wy (zs.take 3) (rws.map My.ct3) (ds.take 3) d:=by
 have hc:=List.nodup_cons.mp h.nmo.2
 refine ⟨⟨fun z hz=>?_,List.nodup_cons.mpr ⟨fun hm=>hc.1 (List.mem_of_mem_take hm),hc.2.sublist (List.take_sublist 3 zs)⟩⟩,⟨?_,?_,?_⟩,h.way,fun w hw=>?_,?_,fun e he=>?_⟩
 ·rcases List.mem_cons.mp hz with rfl | hz
  ·exact h.nmo.1 _ List.mem_cons_self
  ·exact h.nmo.1 z (List.mem_cons_of_mem _ (List.mem_of_mem_take hz))
 ·rw [List.length_take];omega
 ·rw [List.length_take];omega
 ·rw [List.length_map];exact h.ct.2.2
 ·obtain ⟨x,hx,rfl⟩:=List.mem_map.mp hw
  have hr:=h.rows x hx
  have hl:x.1.length=ds.length:=by rw [hr.len,List.length_map]
  refine ⟨?_,fun j ps b e f p hp=>?_,hr.lo,hr.hi⟩
  ·show (x.1.take 3).length=_
   rw [List.length_take,List.length_map,List.length_take,hl]
  ·have e:(x.1.take 3)[j]?=some ps:=e
   rw [List.map_take] at f
   rw [List.getElem?_take] at e f
   split at e
   ·rw [if_pos (by assumption)] at f
    exact hr.inn j ps b e f p hp
   ·cases e
 ·rw [List.length_take,List.length_take,h.len]
 ·rcases List.mem_cons.mp he with rfl | he
  ·exact h.fine _ List.mem_cons_self
  ·exact h.fine e (List.mem_cons_of_mem _ (List.mem_of_mem_take he))
theorem oW {α:Type} {z:α} : ∀ {zs:List α} {i:Nat},zs.Nodup->z ∉ zs->(zs.set i z).Nodup
 | [],_,_,_=>List.nodup_nil
 | _ :: _,0,h,hz=>List.nodup_cons.mpr ⟨fun hm=>hz (List.mem_cons_of_mem _ hm),(List.nodup_cons.mp h).2⟩
 | a :: r,i+1,h,hz=>List.nodup_cons.mpr ⟨fun hm=>(List.mem_or_eq_of_mem_set hm).elim (List.nodup_cons.mp h).1 (fun e=>hz (by rw [e];exact List.mem_cons_self)),oW (List.nodup_cons.mp h).2 fun hm=>hz (List.mem_cons_of_mem _ hm)⟩
theorem TXo.way_to {nm wy wy2:Str} {zs:List Str} {rws:List Rw} {ds:List Dm} {d:Dm} (h:TXo nm wy zs rws ds d) (h6:wy2 ∈ six) (hs:wy2 ≠ Str.ofString "sum"):TXo nm wy2 zs rws ds d:=⟨h.nmo,h.ct,⟨h6,fun g=>hs g.1⟩,h.rows,h.len,h.fine⟩
theorem TXo.out_to {nm wy:Str} {zs:List Str} {rws:List Rw} {ds:List Dm} {d:Dm} (h:TXo nm wy zs rws ds d):TXo nm wy zs rws ds (.inl ((Dm.b d).1,(Dm.b d).2+1)):=by
 refine ⟨h.nmo,h.ct,⟨h.way.1,fun g=>by cases g.2⟩,fun w hw=>?_,h.len,fun e he=>?_⟩
 ·have r:=h.rows w hw
  refine ⟨r.len,r.inn,r.lo,?_⟩
  have:=r.hi
  show w.2<=(Dm.b d).2+1
  omega
 ·rcases List.mem_cons.mp he with rfl | he
  ·have:=(h.fine d List.mem_cons_self).le
   show (Dm.b d).1<=(Dm.b d).2+1
   omega
  ·exact h.fine e (List.mem_cons_of_mem _ he)
theorem TXo.dom_to {nm wy:Str} {zs:List Str} {rws:List Rw} {ds:List Dm} {d e0 e:Dm} {i:Nat} (h:TXo nm wy zs rws ds d) (ei:ds[i]?=some e0) (ok:Dm.ok e) (h1:(Dm.b e).1<=(Dm.b e0).1) (h2:(Dm.b e0).2<=(Dm.b e).2):TXo nm wy zs rws (ds.set i e) d:=by
 refine ⟨h.nmo,h.ct,h.way,fun w hw=>?_,by rw [List.length_set];exact h.len,fun e' he=>?_⟩
 ·have r:=h.rows w hw
  refine ⟨by rw [r.len,List.length_map,List.length_map,List.length_set],fun j ps b e1 f p hp=>?_,r.lo,r.hi⟩
  rw [List.getElem?_map] at f
  by_cases hj:i=j
  ·subst hj
   rw [List.getElem?_set_self (List.getElem?_eq_some_iff.mp ei).1] at f
   cases f
   have:=r.inn i ps (Dm.b e0) e1 (by rw [List.getElem?_map,ei];rfl) p hp
   omega
  ·rw [List.getElem?_set_ne hj] at f
   exact r.inn j ps b e1 (by rw [List.getElem?_map];exact f) p hp
 ·rcases List.mem_cons.mp he with rfl | he
  ·exact h.fine _ List.mem_cons_self
  ·rcases List.mem_or_eq_of_mem_set he with he | rfl
   ·exact h.fine e' (List.mem_cons_of_mem _ he)
   ·exact ok
theorem TXo.name_to {nm wy:Str} {zs:List Str} {rws:List Rw} {ds:List Dm} {d:Dm} {i:Nat} {z:Str} (h:TXo nm wy zs rws ds d) (hh:HS nm zs) (ei:zs[i]?=some z):TXo nm wy (zs.set i (z ++ Str.ofString "h")) rws ds d:=by
 obtain ⟨i1,i2⟩:=hh z (List.mem_of_getElem? ei)
 have hc:=List.nodup_cons.mp h.nmo.2
 refine ⟨⟨fun y hy=>?_,List.nodup_cons.mpr ⟨fun hm=>?_,oW hc.2 fun hm=>i2 _ (List.mem_cons_of_mem _ hm) rfl⟩⟩,by rw [List.length_set];exact h.ct,h.way,h.rows,by rw [List.length_set];exact h.len,h.fine⟩
 ·rcases List.mem_cons.mp hy with rfl | hy
  ·exact h.nmo.1 _ List.mem_cons_self
  ·rcases List.mem_or_eq_of_mem_set hy with hy | rfl
   ·exact h.nmo.1 y (List.mem_cons_of_mem _ hy)
   ·exact i1
 ·rcases List.mem_or_eq_of_mem_set hm with hm | e
  ·exact hc.1 hm
  ·exact i2 nm List.mem_cons_self e
theorem DmX.put {cN cW:Addr} {H:Hp} {a D:Addr} {d:Dm} {zs:List V} {o:HO} (h:DmX cN cW H a d) (ok:Dm.ok d) (e:H D=some (.lst zs)) (hz:∀ x ∈ zs,∃ r,x=.ref r):DmX cN cW (upd H D o) a d:=by
 cases d with
 | inl p =>
  obtain ⟨dx,fs,e1,r⟩:=h
  exact ⟨dx,fs,(aC (dO e1 e (by intro z;cases z))).trans e1,r⟩
 | inr ws =>
  obtain ⟨dx,fs,l,e1,r1,e2,r⟩:=h
  have g:Good ws:=ok
  refine ⟨dx,fs,l,(aC (dO e1 e (by intro z;cases z))).trans e1,r1,(aC fun z=>?_).trans e2,r⟩
  rw [z,e] at e2
  injection e2 with e2
  injection e2 with e2
  have:=g.some_
  obtain ⟨w,ew⟩:∃ w,ws[0]?=some w:=⟨_,List.getElem?_eq_getElem (by omega)⟩
  have m:V.str w ∈ zs:=by rw [e2];exact List.mem_map.mpr ⟨w,List.mem_of_getElem? ew,rfl⟩
  obtain ⟨r,er⟩:=hz _ m
  cases er
theorem zm (n:Nat):dwn n=vN ((List.range n).map fun j=>n - 1 - j):=by
 unfold dwn vN
 rw [List.map_map]
 refine List.map_congr_left fun j hj=>?_
 have:=List.mem_range.mp hj
 show V.int ((n:Int) - 1 - (j:Int))=V.int ((n - 1 - j:Nat):Int)
 congr 1
 omega
theorem vg (n:Nat):Pm ((List.range n).map fun j=>n - 1 - j) n:=by
 refine ⟨by simp,fun k hk=>?_,?_,fun k hk=>?_⟩
 ·obtain ⟨j,hj,rfl⟩:=List.mem_map.mp hk
  have:=List.mem_range.mp hj
  omega
 ·rw [List.nodup_iff_pairwise_ne,List.pairwise_map]
  refine List.Pairwise.imp_of_mem (R:=fun a b=>a ≠ b) (fun {a b} ha hb hab e=>?_) List.nodup_range
  have:=List.mem_range.mp ha
  have:=List.mem_range.mp hb
  omega
 ·exact List.mem_map.mpr ⟨n - 1 - k,List.mem_range.mpr (by omega),by omega⟩
theorem zo {zs:List Str} (hn:zs.Nodup) (h2:2<=zs.length):zs ≠ prm ((List.range zs.length).map fun j=>zs.length - 1 - j) zs:=by
 intro e
 have pm:=vg zs.length
 have g:=(cw (os:=(List.range zs.length).map fun j=>zs.length - 1 - j) (xs:=zs) pm.lt).2 0 (zs.length - 1) (by rw [List.getElem?_map,List.getElem?_range (by omega)];rfl)
 rw [← e] at g
 have h0:=List.getElem?_eq_getElem (l:=zs) (i:=0) (by omega)
 have h1:=List.getElem?_eq_getElem (l:=zs) (i:=zs.length - 1) (by omega)
 rw [h0] at g
 have:=xF hn h0 g.symm
 omega
theorem rW {α:Type} {zs:List α} {i:Nat} {z y:α} (ei:zs[i]?=some z) (h:z ≠ y):zs ≠ zs.set i y:=fun e=>by
 have h2:=List.getElem?_set_self (l:=zs) (i:=i) (a:=y) (List.getElem?_eq_some_iff.mp ei).1
 rw [← e,ei] at h2
 exact h (Option.some.inj h2)
theorem pO {n i:Nat} (h:i < n):ixN n (i:Int)=some i:=by
 unfold ixN
 rw [if_pos (by omega),if_pos (by omega)]
 rfl
theorem tj {f g h:Nat->Bool} {m:Nat} : ∀ n,(∀ k,k < m->f k=g k)->(∀ k,k < n->f (m+k)=h k)->msk f (m+n)=msk g m+msk h n * 2 ^ m
 | 0,h1,_=>by rw [Nat.add_zero,oV h1];show _=_+0 * _;omega
 | n+1,h1,h2=>by
  rw [← Nat.add_assoc,fh,fh,tj n h1 (fun k hk=>h2 k (by omega)),h2 n (by omega),Nat.add_mul,Nat.pow_add]
  cases h n with
  | true=>rw [if_pos rfl,if_pos rfl,Nat.mul_comm (2 ^ n)];omega
  | false=>rw [if_neg Bool.false_ne_true,if_neg Bool.false_ne_true];omega
theorem vh (rws aW:List Rw) (cd:List Int):((msk (fO (rws ++ aW) cd) (rws ++ aW).length:Nat):Int)=((msk (fO rws cd) rws.length:Nat):Int)+((msk (fO aW cd) aW.length:Nat):Int) * 2 ^ rws.length:=by
 rw [List.length_append,tj (g:=fO rws cd) (h:=fO aW cd) aW.length]
 ·push_cast
  rfl
 ·intro k hk
  unfold fO
  rw [List.getD_eq_getElem?_getD,List.getD_eq_getElem?_getD,List.getElem?_append_left hk]
 ·intro k hk
  unfold fO
  rw [List.getD_eq_getElem?_getD,List.getD_eq_getElem?_getD,List.getElem?_append_right (by omega),Nat.add_sub_cancel_left]
theorem vi {α:Type} (xs:List α):prm (List.range xs.length) xs=xs:=by
 have g:=cw (os:=List.range xs.length) (xs:=xs) fun k hk=>List.mem_range.mp hk
 refine List.ext_getElem? fun k=>?_
 by_cases hk:k < xs.length
 ·rw [g.2 k k (List.getElem?_range hk)]
 ·rw [List.getElem?_eq_none (by rw [g.1,List.length_range];omega),List.getElem?_eq_none (by omega)]
theorem Bh (n:Nat):Pm (List.range n) n:=⟨List.length_range,fun _ hk=>List.mem_range.mp hk,List.nodup_range,fun _ hk=>List.mem_range.mpr hk⟩
theorem Bi {cs:List Col} {oc:Col} {ws:List BW} {rws:List Rw} {p:List Nat} {cd:List Int} (h:cq cs ws rws) (hb:∀ w ∈ ws,du cs oc w) (hok:∀ c ∈ cs,bu c) (hp:m8 (eS cs) p) (hc:AtP cs p cd):fl rws cd=pc ws p:=by
 have e:=zi h hb hok hp hc (Bh cs.length)
 have e1:prm (List.range cs.length) cd=cd:=by have:=vi cd;rw [hc.1] at this;exact this
 have e2:rws.map (trn (List.range cs.length))=rws:=by
  refine (List.map_congr_left fun x hx=>?_).trans (List.map_id rws)
  have hl:=(h.rowOk hb hok x hx).len
  rw [List.length_map] at hl
  show (prm (List.range cs.length) x.1,x.2)=x
  rw [← hl,vi]
 rw [e1,e2] at e
 exact e
theorem cq.app {cs:List Col} {ws ws2:List BW} {rws aW:List Rw} (h:cq cs ws rws) (h2:cq cs ws2 aW):cq cs (ws ++ ws2) (rws ++ aW):=by
 refine ⟨by rw [List.length_append,List.length_append,h.1,h2.1],fun k w x e f=>?_⟩
 by_cases hk:k < ws.length
 ·rw [List.getElem?_append_left hk] at e
  rw [List.getElem?_append_left (by rw [h.1];exact hk)] at f
  exact h.2 k w x e f
 ·rw [List.getElem?_append_right (by omega)] at e
  rw [List.getElem?_append_right (by rw [h.1];omega),h.1] at f
  exact h2.2 _ w x e f
theorem Bj {c k k' : Int} (h0:0<=k) (h1:k < 49) (h2:0<=k') (h3:k' < 49):wd c k' ≠ wd c k ++ Str.ofString "h" := by
 intro he
 have e1:wcs c k'=wcs c k ++ [104]:=by
  have h1:=congrArg (fun s:Str=>s.cps.toList) he
  have h2:(wd c k ++ Str.ofString "h").cps.toList=(wd c k).cps.toList ++ (Str.ofString "h").cps.toList:=by
   show (Str.append _ _).cps.toList=_
   unfold Str.append
   simp
  have h3:(Str.ofString "h").cps.toList=[104]:=by decide +kernel
  rw [h2,h3] at h1
  unfold wd at h1
  simpa using h1
 have a0:=jG c k'
 have a1:=lS c k'
 have b0:=jG c k
 have b1:=lS c k
 have l0:=(List.getElem?_eq_some_iff.mp b0).1
 have l1:=(List.getElem?_eq_some_iff.mp b1).1
 rw [e1,List.getElem?_append_left l0,b0] at a0
 rw [e1,List.getElem?_append_left l1,b1] at a1
 have c0:=Option.some.inj a0
 have c1:=Option.some.inj a1
 have:k'=k:=by omega
 subst this
 have:=congrArg List.length e1
 simp at this
theorem vj (c k:Int):isw (wd c k ++ Str.ofString "h")=true:=by
 have hl:=xC c k
 have ht:(wd c k ++ Str.ofString "h").cps.toList=wcs c k ++ [104]:=by
  have h2:(wd c k ++ Str.ofString "h").cps.toList=(wd c k).cps.toList ++ (Str.ofString "h").cps.toList:=by
   show (Str.append _ _).cps.toList=_
   unfold Str.append
   simp
  have h3:(Str.ofString "h").cps.toList=[104]:=by decide +kernel
  rw [h2,h3]
  unfold wd
  simp
 have hlen:(wd c k ++ Str.ofString "h").length=(wd c k).length+1:=by
  have h4:=congrArg List.length ht
  have h5:=sT c k
  have h6:=u6 c k
  rw [List.length_append,List.length_singleton] at h4
  show (wd c k ++ Str.ofString "h").cps.size=_
  rw [← Array.length_toList,h4,h5,h6]
 have ha:jx (wd c k ++ Str.ofString "h") lets=true:=by
  unfold jx
  rw [List.all_eq_true]
  intro x hx
  have hx:x ∈ wcs c k ++ [104]:=by rw [← ht];exact hx
  rcases List.mem_append.mp hx with hx | hx
  ·exact rR (sU c k x hx)
  ·rw [show x=104 by simpa using hx];exact rR ⟨by decide,by decide⟩
 have hn:¬ (V.str (wd c k ++ Str.ofString "h")=V.str (Str.ofString "not")):=fun h=>by
  injection h with h
  have e:(Str.ofString "not").cps.toList=[110,111,116]:=by decide +kernel
  have h7:=congrArg (fun s:Str=>s.cps.toList) h
  have h7:(wd c k ++ Str.ofString "h").cps.toList=(Str.ofString "not").cps.toList:=h7
  rw [ht,e] at h7
  have:=congrArg List.getLast? h7
  simp at this
 unfold isw
 simp only [Bool.and_eq_true,decide_eq_true_eq]
 refine ⟨by omega,by omega,?_,ha⟩
 rw [decide_eq_false (by exact hn)]
 rfl
theorem vk {h ow:Int} {n:Nat} (how:ow=0\/ow=5) (hn:n<=4):HS (wd (h / 16) ow) (nmz h n):=fun z hz=>by
 obtain ⟨j,hj,rfl⟩:=lX hz
 refine ⟨vj _ _,fun y hy=>?_⟩
 rcases List.mem_cons.mp hy with rfl | hy
 ·exact Bj (by omega) (by omega) (by omega) (by omega)
 ·obtain ⟨j',hj',rfl⟩:=lX hy
  exact Bj (by omega) (by omega) (by omega) (by omega)
theorem az.reps {α:Type} {xs:List V} {as:List α} {P:Addr->α->Prop} (p:az xs as P):∀ n:Nat,az (List.replicate n xs).flatten (List.replicate n as).flatten P
 | 0=>az.nil
 | n+1=>by rw [List.replicate_succ,List.replicate_succ,List.flatten_cons,List.flatten_cons];exact az.append p (az.reps p n)
theorem vm {α:Type} {as:List α} {x:α} {n:Nat} (h:x ∈ (List.replicate n as).flatten):x ∈ as:=by
 obtain ⟨l,hl,hx⟩:=List.mem_flatten.mp h
 rw [(List.mem_replicate.mp hl).2] at hx
 exact hx
def J32 (K:W.Frag):Sp:=fun vs H Q _=>∃ (z g:Str),vs=[.str z,.str g]/\Q (.bl (jx z g)) H
def J35 (K:W.Frag):Sp:=fun vs H Q _=>∃ i:Int,vs=[.int i]/\Q (.bl true) H
def J31 (K:W.Frag) (yV yW:Addr):Sp:=fun vs H Q _=>∃ (a b:Addr) (d e:Dm) (r:Bool),vs=[.ref a,.ref b]/\DmX yV yW H a d/\DmX yV yW H b e/\(r=true↔d=e)/\Q (.bl r) H
def J34 (K:W.Frag):Sp:=fun vs H Q _=>∃ (a:Addr) (xs:List V) (ps:List (Int × Int)) (n:Int),vs=[.ref a,.int n]/\SqL K H a xs/\PL H xs ps/\Q (.bl (inP ps n)) H
def J63 (K:W.Frag) (yI:Addr):Sp:=fun vs H Q E=>∃ (p r:Addr) (xs ys:List V),vs=[.ref p,.ref r]/\SqL K H p xs/\SqL K H r ys/\(ng xs.length ys.length->Q .non H)/\(¬ ng xs.length ys.length->E (.ref yI) none H)
def J62 (K:W.Frag):Sp:=fun vs H Q _=>∃ (cl:Addr) (xs:List V) (w:Rw),vs=[.ref cl,.int w.2]/\H cl=some (.lst xs)/\CL NT H xs w.1/\w.1.length<=100/\∀ (r:Addr) (H' : Hp),av H H'->H r=none->fe (fun a=>H a=none) H' r w->Q (.ref r) H'
def J42 (K:W.Frag):Sp:=fun vs H Q _=>∃ (a:Addr) (ns:List Int) (k:Int),vs=[.ref a,.int k]/\SqL K H a (ns.map V.int)/\0<=k/\∀ r:Int,Q (.int r) H
def J48 (K:W.Frag):Sp:=fun vs H Q _=>∃ c k:Int,vs=[.int c,.int k]/\0<=k/\k<=100/\∀ r:Int,0<=r->Q (.int r) H
def J60 (K:W.Frag):Sp:=fun vs H Q _=>∃ c k:Int,vs=[.int c,.int k]/\Q (.str (wd c k)) H
def J55 (K:W.Frag):Sp:=fun vs H Q _=>∃ (pl:Addr) (ts:List V) (prs:Prs) (b:Nat),vs=[.ref pl,.int (b:Int)]/\H pl=some (.lst ts)/\PL H ts prs/\Ch prs/\prs.length<=6/\∀ (l:Addr) (ps:Prs) (H' : Hp),av H H'->SpA (fun a=>H a=none) H' l ps->dZ prs b prs.length ps->ps=mrg prs b prs.length->Q (.ref l) H'
def J51 (K:W.Frag):Sp:=fun vs H Q _=>∃ (cl:Addr) (xs:List V) (cs:List Col),vs=[.ref cl]/\H cl=some (.lst xs)/\dj NT H xs cs/\(∀ c ∈ cs,bu c)/\cs.length<=4/\∀ (l:Addr) (zs:List V) (H' : Hp),av H H'->H' l=some (.lst zs)->PtL NT H' zs (eH (eS cs))->Q (.ref l) H'
def J43 (K:W.Frag):Sp:=fun vs H Q _=>∃ (cl pl:Addr) (xs:List V) (cs:List Col) (p:List Nat) (tn:Int),vs=[.ref cl,.ref pl,.int tn]/\H cl=some (.lst xs)/\dj NT H xs cs/\(∀ c ∈ cs,bu c)/\cs.length<=4/\H pl=some (.lst (vN p))/\m8 (eS cs) p/\∀ (l:Addr) (cd:List Int) (H' : Hp),av H H'->H' l=some (.lst (cd.map V.int))->AtP cs p cd->Q (.ref l) H'
def J47 (K:W.Frag):Sp:=fun vs H Q _=>∃ (r pl:Addr) (w:BW) (p:List Nat),vs=[.ref r,.ref pl]/\dE NT H r w/\H pl=some (.lst (vN p))/\w.1.length=p.length/\p.length<=100/\∀ H',av H H'->Q (.bl (m9 w.1 p)) H'
def J59 (K:W.Frag):Sp:=fun vs H Q _=>∃ (tn:Int) (ol:Addr) (oc:Col),vs=[.int tn,.ref ol]/\dY NT H ol oc/\∀ (wy:Str) (i:Nat) (H' : Hp),av H H'->six[i]?=some wy->(wy=Str.ofString "sum" -> oc.w=false)->Q (.str wy) H'
def J53 (K:W.Frag):Sp:=fun vs H Q _=>∃ (r d:Addr) (p:SI),vs=[.ref r,.ref d]/\SqT K H r (tp p)/\SqT K H d (tp p)/\Q (.bl true) H
def J18 (K:W.Frag) (yO:Addr):Sp:=fun vs H Q _=>∃ (x dx:Addr) (z:Str),vs=[.ref x,.str z]/\H x=some (.ins yO dx [])/\Q .non (upd H x (.ins yO dx [("called",.str z)]))
def J22 (K:W.Frag) (yP:Addr):Sp:=fun vs H Q _=>∃ (x dx:Addr) (z:Str),vs=[.ref x,.str z]/\H x=some (.ins yP dx [])/\Q .non (upd H x (.ins yP dx [("called",.str z)]))
def J20 (K:W.Frag) (yQ:Addr):Sp:=fun vs H Q _=>∃ (x dx:Addr) (z:Str),vs=[.ref x,.str z]/\H x=some (.ins yQ dx [])/\Q .non (upd H x (.ins yQ dx [("called",.str z)]))
def J21 (K:W.Frag) (yR:Addr):Sp:=fun vs H Q _=>∃ (x dx:Addr) (z:Str),vs=[.ref x,.str z]/\H x=some (.ins yR dx [])/\Q .non (upd H x (.ins yR dx [("called",.str z)]))
def J19 (K:W.Frag) (yS:Addr):Sp:=fun vs H Q _=>∃ (x dx:Addr) (z:Str),vs=[.ref x,.str z]/\H x=some (.ins yS dx [])/\Q .non (upd H x (.ins yS dx [("called",.str z)]))
def J23 (K:W.Frag) (yT:Addr):Sp:=fun vs H Q _=>∃ (x dx:Addr) (z:Str),vs=[.ref x,.str z]/\H x=some (.ins yT dx [])/\Q .non (upd H x (.ins yT dx [("called",.str z)]))
def J0 (K:W.Frag) (yV:Addr):Sp:=fun vs H Q _=>∃ (x dx:Addr) (lo hi:Int),vs=[.ref x,.int lo,.int hi]/\H x=some (.ins yV dx [])/\Q .non (mkd yV H x dx lo hi)
def J1 (K:W.Frag) (yW:Addr):Sp:=fun vs H Q _=>∃ (x dx:Addr) (lo hi:Int),vs=[.ref x,.int lo,.int hi]/\H x=some (.ins yW dx [])/\Q .non (mkd yW H x dx lo hi)
def J5 (K:W.Frag) (yO yV yW:Addr):Sp:=tX K yO yV yW 0
def J14 (K:W.Frag) (yP yV yW:Addr):Sp:=tX K yP yV yW 1
def J9 (K:W.Frag) (yQ yV yW:Addr):Sp:=tX K yQ yV yW 2
def J11 (K:W.Frag) (yR yV yW:Addr):Sp:=tX K yR yV yW 3
def J7 (K:W.Frag) (yS yV yW:Addr):Sp:=tX K yS yV yW 4
def J16 (K:W.Frag) (yT yV yW:Addr):Sp:=tX K yT yV yW 5
def J36 (K:W.Frag):Sp:=fun vs H Q _=>∃ (z:Str),vs=[.str z]/\z.length<=1000/\Q (.bl (isw z)) H
def J33 (K:W.Frag) (yX:Addr):Sp:=fun vs H Q _=>∃ (t rl c dx:Addr) (fs:List (Str × V)) (xs:List V) (rws:List Rw) (k:Nat) (w:Rw) (cs:List Int),vs=[.ref t,.int k,.ref c]/\H t=some (.ins yX dx fs)/\fs.lookup (Str.ofString "rows")=some (.ref rl)/\H rl=some (.lst xs)/\RL NT H xs rws/\rws[k]?=some w/\SqL K H c (cs.map V.int)/\w.1.length=cs.length/\∀ H',av H H'->Q (.bl (gQ w.1 cs)) H'
def J67 (K:W.Frag) (yG yV yW:Addr):Sp:=fun vs H Q E=>∃ (la lb:Addr) (xs ys:List V) (ds es:List Dm),vs=[.ref la,.ref lb]/\H la=some (.lst xs)/\H lb=some (.lst ys)/\az xs ds (DmX yV yW H)/\az ys es (DmX yV yW H)/\(ds=es->∀ H',av H H'->Q .non H')/\(ds ≠ es->∀ H',av H H'->E (.ref yG) none H')
def J54 (K:W.Frag):Sp:=fun vs H Q _=>∃ (a:Addr) (ns:List Int) (m:Int),vs=[.ref a,.int m]/\SqL K H a (ns.map V.int)/\ns.length<=900/\1<=m/\m<=200/\∀ (l:Addr) (ms:List Int) (H' : Hp),av H H'->H' l=some (.lst (ms.map V.int))->((ms.length:Nat):Int)<=m->ms.length<=ns.length->(∀ x ∈ ms,0<=x)->Q (.ref l) H'
def J44 (K:W.Frag):Sp:=fun vs H Q _=>∃ m most:Int,vs=[.int m,.int most]/\1<=most/\most<=6/\∀ (l:Addr) (c:Col) (H' : Hp),av H H'->dY (fun a=>H a=none) H' l c->bu c->Q (.ref l) H'
def J40 (K:W.Frag):Sp:=fun vs H Q _=>∃ (m:Int) (cl ol la:Addr) (xs:List V) (cs:List Col) (oc:Col),vs=[.int m,.ref cl,.ref ol,.ref la]/\H cl=some (.lst xs)/\dj NT H xs cs/\(∀ c ∈ cs,bu c)/\1<=cs.length/\cs.length<=4/\dY NT H ol oc/\bu oc/\0<=m/\(H la=some (.lst [])\/∃ w,dE NT H la w/\du cs oc w)/\∀ (r:Addr) (w:BW) (H' : Hp),av H H'->dE (fun a=>H a=none) H' r w->du cs oc w->Q (.ref r) H'
def J52 (K:W.Frag):Sp:=fun vs H Q _=>∃ (l cl:Addr) (zs xs:List V) (ws:List BW) (cs:List Col),vs=[.ref l,.ref cl]/\H l=some (.lst zs)/\BRL NT H zs ws/\ws.length<=200/\H cl=some (.lst xs)/\dj NT H xs cs/\(∀ c ∈ cs,bu c)/\cs.length<=4/\(∀ w ∈ ws,w.1.length=cs.length)/\∀ (l' : Addr) (zs' : List V) (rws:List Rw) (H' : Hp),av H H'->H' l'=some (.lst zs')->RL (fun a=>H a=none) H' zs' rws->cq cs ws rws->Q (.ref l') H'
def J46 (K:W.Frag):Sp:=fun vs H Q _=>∃ (wy:Str) (i:Nat) (bl_ ol pl:Addr) (zs:List V) (ws:List BW) (oc:Col) (p:List Nat),vs=[.str wy,.ref bl_,.ref ol,.ref pl]/\six[i]?=some wy/\H bl_=some (.lst zs)/\BRL NT H zs ws/\ws.length<=200/\dY NT H ol oc/\bu oc/\H pl=some (.lst (vN p))/\(∀ w ∈ ws,w.1.length=p.length)/\p.length<=100/\∀ (r:Addr) (H' : Hp),av H H'->H' r=some (.tup (tp (ver (wf i oc.lo oc.hi) (pc ws p))))->Q (.ref r) H'
def J4 (K:W.Frag) (yO:Addr):Sp:=tW yO (Str.ofString "first")
def J13 (K:W.Frag) (yP:Addr):Sp:=tW yP (Str.ofString "only")
def J8 (K:W.Frag) (yQ:Addr):Sp:=tW yQ (Str.ofString "like")
def J10 (K:W.Frag) (yR:Addr):Sp:=tW yR (Str.ofString "low")
def J6 (K:W.Frag) (yS:Addr):Sp:=tW yS (Str.ofString "high")
def J15 (K:W.Frag) (yT:Addr):Sp:=tW yT (Str.ofString "sum")
def J2 (K:W.Frag) (yV:Addr):Sp:=fun vs H Q _=>∃ (a:Addr) (b:Int × Int) (i:Int),vs=[.ref a,.int i]/\zc yV H a b.1 b.2/\Q (.bl (decide (b.1<=i) && decide (i<=b.2))) H
def J3 (K:W.Frag) (yW:Addr):Sp:=fun vs H Q _=>∃ (a:Addr) (b:Int × Int) (i:Int),vs=[.ref a,.int i]/\zc yW H a b.1 b.2/\Q (.bl (decide (b.1<=i) && decide (i<=b.2))) H
def J12 (K:W.Frag) (yV:Addr):Sp:=fun vs H Q _=>∃ (x dx:Addr) (lo hi:Int),vs=[.ref x,.int lo,.int hi]/\H x=some (.ins yV dx [])/\lo<=hi/\Q .non (mkd yV H x dx lo hi)
def J24 (K:W.Frag) (yO yV yW:Addr):Sp:=jJ K yO yV yW 0
def J28 (K:W.Frag) (yP yV yW:Addr):Sp:=jJ K yP yV yW 1
def J26 (K:W.Frag) (yQ yV yW:Addr):Sp:=jJ K yQ yV yW 2
def J27 (K:W.Frag) (yR yV yW:Addr):Sp:=jJ K yR yV yW 3
def J25 (K:W.Frag) (yS yV yW:Addr):Sp:=jJ K yS yV yW 4
def J29 (K:W.Frag) (yT yV yW:Addr):Sp:=jJ K yT yV yW 5
def J64 (K:W.Frag) (yH:Addr):Sp:=fun vs H Q E=>∃ (p:Addr) (zs:List Str),vs=[.ref p]/\SqL K H p (zs.map V.str)/\(∀ z ∈ zs,Sm 600 z)/\zs.length<=100/\(jL zs->∀ H',av H H'->Q .non H')/\(¬ jL zs->∀ H',av H H'->E (.ref yH) none H')
def J65 (K:W.Frag) (yK yV yW:Addr):Sp:=fun vs H Q E=>∃ (dl ou cl:Addr) (dv xs:List V) (bs:Prs) (o:Int × Int) (w:Rw),vs=[.ref dl,.ref ou,.ref cl,.int w.2]/\SqL K H dl dv/\az dv bs (Dom yV yW H)/\Dom yV yW H ou o/\H cl=some (.lst xs)/\CL NT H xs w.1/\(cz bs o w\/bnd w.2)/\(cz bs o w->∀ H',av H H'->Q .non H')/\(¬ cz bs o w->∀ H',av H H'->E (.ref yK) none H')
def J61 (K:W.Frag) (yV yW yX:Addr):Sp:=fun vs H Q _=>∃ (t c:Addr) (rws:List Rw) (i:Nat) (o:Int × Int) (cs:List Int),vs=[.ref t,.ref c]/\Tbl yX yV yW H t rws i o/\SqL K H c (cs.map V.int)/\(∀ w ∈ rws,w.1.length=cs.length)/\∀ H',av H H'->Q (.int ((msk (fO rws cs) rws.length:Nat):Int)) H'
def J66 (K:W.Frag) (yG yV yW yX:Addr):Sp:=fun vs H Q E=>∃ (t u:Addr) (dv ev:List V) (ou pu:Addr) (ds es:List Dm) (d e:Dm),vs=[.ref t,.ref u]/\TD yX H t dv ou/\TD yX H u ev pu/\az dv ds (DmX yV yW H)/\az ev es (DmX yV yW H)/\DmX yV yW H ou d/\DmX yV yW H pu e/\ds.length<=10/\es.length<=10/\(ds=es/\d=e->∀ H',av H H'->Q .non H')/\(¬ (ds=es/\d=e)->∀ H',av H H'->E (.ref yG) none H')
def J41 (K:W.Frag):Sp:=fun vs H Q _=>∃ (sl cl ol:Addr) (ns:List Int) (xs:List V) (cs:List Col) (oc:Col),vs=[.ref sl,.ref cl,.ref ol]/\H sl=some (.lst (ns.map V.int))/\ns.length<=200/\(∀ n ∈ ns,0<=n)/\H cl=some (.lst xs)/\dj NT H xs cs/\(∀ c ∈ cs,bu c)/\1<=cs.length/\cs.length<=4/\dY NT H ol oc/\bu oc/\∀ (l:Addr) (zs:List V) (ws:List BW) (H' : Hp),av H H'->H' l=some (.lst zs)->BRL (fun a=>H a=none) H' zs ws->ws.length=ns.length->(∀ w ∈ ws,du cs oc w)->Q (.ref l) H'
def J30 (K:W.Frag) (yW:Addr):Sp:=fun vs H Q _=>∃ (x dx p:Addr) (zs:List Str),vs=[.ref x,.ref p]/\H x=some (.ins yW dx [])/\H p=some (.lst (zs.map V.str))/\Good zs /\
 ∀ (H' : Hp) (l:Addr),(∀ b o,b ≠ x->H b=some o->H' b=some o)->H' x=some (.ins yW dx [("low",.int 0),("high",.int (hiW zs)),("words",.ref l)])->H' l=some (.lst (zs.map V.str))->Q .non H'
def J72 (K:W.Frag) (yJ yO yP yQ yR yS yT:Addr):Sp:=fun vs H Q E=>∃ z:Str,vs=[.str z]/\Sm 1000 z/\(∀ i:Nat,six[i]?=some z->∀ (x C:Addr) (H' : Hp),av H H'->(cl6 yO yP yQ yR yS yT)[i]?=some C->WyN C H' x z->Q (.ref x) H')/\(z ∉ six->∀ H',av H H'->E (.ref yJ) none H')
def J56 (K:W.Frag) (yV yW yX:Addr):Sp:=fun vs H Q _=>∃ (t u x cl:Addr) (tn:Int) (nm wy:Str) (ou:Addr) (zs:List Str) (dv rx:List V) (rws:List Rw) (ds:List Dm) (d:Dm) (nm2:Str) (pu:Addr) (ev rx2:List V) (aW:List Rw) (xr xs:List V) (cs:List Col) (wi:Nat),vs=[.ref t,.ref u,.ref x,.ref cl,.int tn]/\TX yX yV yW H t nm wy ou zs dv rx rws ds d/\TX yX yV yW H u nm2 wy pu zs ev rx2 aW ds d/\TX yX yV yW H x nm wy ou zs dv xr (rws ++ aW) ds d/\aW.length<=60/\six[wi]?=some wy/\H cl=some (.lst xs)/\dj NT H xs cs/\(∀ c ∈ cs,bu c)/\cs.length<=4/\cs.length=zs.length/\∀ H',av H H'->Q (.bl true) H'
def J68 (K:W.Frag) (yJ yV yW:Addr):Sp:=fun vs H Q E=>∃ (z:Str) (ou:Addr) (b:Bool),vs=[.str z,.ref ou]/\Sm 1000 z/\OuC yV yW H ou b/\(rT z b->∀ H',av H H'->Q .non H')/\(¬ rT z b->∀ H',av H H'->E (.ref yJ) none H')
def J37 (K:W.Frag) (yV yW yX:Addr):Sp:=fun vs H Q _=>∃ (t:Addr) (rws:List Rw) (i:Nat) (o:Int × Int) (m:Int),vs=[.ref t,.int m]/\Tbl yX yV yW H t rws i o/\∀ (r:Addr) (H' : Hp),av H H'->SqT K H' r (tp (ver (wf i o.1 o.2) (pkF rws (gj m) rws.length)))->Q (.ref r) H'
def J45 (K:W.Frag) (yV yW:Addr):Sp:=fun vs H Q _=>∃ (l:Addr) (c:Col),vs=[.ref l]/\dY NT H l c/\bu c/\∀ (a:Addr) (H' : Hp),av H H'->kx yV yW H' a c->Q (.ref a) H'
def J50 (K:W.Frag) (yV yW:Addr):Sp:=fun vs H Q _=>∃ (a:Addr) (tn:Int) (d:Dm),vs=[.ref a,.int tn]/\DmX yV yW H a d/\Dm.ok d/\∀ (b:Addr) (e:Dm) (H' : Hp),av H H'->DmX yV yW H' b e->e ≠ d->Dm.ok e->(Dm.b e).1<=(Dm.b d).1->(Dm.b d).2<=(Dm.b e).2->Q (.ref b) H'
def J71 (K:W.Frag) (yV yW yX:Addr):Sp:=fun vs H Q _=>∃ (t c:Addr) (rws:List Rw) (i:Nat) (o:Int × Int) (cs:List Int),vs=[.ref t,.ref c]/\Tbl yX yV yW H t rws i o/\SqL K H c (cs.map V.int)/\(∀ w ∈ rws,w.1.length=cs.length)/\∀ (r:Addr) (H' : Hp),av H H'->SqT K H' r (tp (ver (wf i o.1 o.2) (pkF rws (fO rws cs) rws.length)))->Q (.ref r) H'
def J17 (K:W.Frag) (yH yI yJ yK yV yW yX:Addr):Sp:=fun vs H Q E=>∃ (x dx na dl ou rl:Addr) (nm wy:Str) (zs:List Str) (dv rx:List V) (bs:Prs) (o:Int × Int) (rws:List Rw) (b:Bool) (k:Nat),vs=[.ref x,.str nm,.ref na,.ref dl,.ref ou,.str wy,.ref rl]/\H x=some (.ins yX dx [])/\H na=some (.lst (zs.map V.str))/\(∀ z ∈ nm :: zs,Sm 600 z)/\zs.length<=50/\Sm 1000 wy/\OuC yV yW H ou b/\H dl=some (.lst dv)/\az dv bs (Dom yV yW H)/\Dom yV yW H ou o/\H rl=some (.lst rx)/\RL NT H rx rws/\bs.length<=5/\(∀ w ∈ rws,cz bs o w\/bnd w.2)/\cA (nm :: zs) zs.length rx.length (rT wy b) (∀ w ∈ rws,cz bs o w) k /\
 (k=0->∀ (H' : Hp) (fs:List (Str × V)) (rl' : Addr) (xs' : List V),(∀ b o,b ≠ x->H b=some o->H' b=some o)->H' x=some (.ins yX dx fs)->fs.lookup (Str.ofString "rows")=some (.ref rl')->fs.lookup (Str.ofString "way")=some (.str wy)->fs.lookup (Str.ofString "outcome")=some (.ref ou)->fs.lookup (Str.ofString "name")=some (.str nm)->(∃ na' dl' : Addr,fs.lookup (Str.ofString "names")=some (.ref na')/\fs.lookup (Str.ofString "domains")=some (.ref dl')/\H' na'=some (.lst (zs.map V.str))/\H' dl'=some (.lst dv))->H' rl'=some (.lst xs')->RL NT H' xs' rws->Q .non H')/\(∀ C,ex5 yH yI yJ yK k=some C->∀ H',av H H'->E (.ref C) none H')
def J73 (K:W.Frag) (yH yI yJ yK yV yW yX:Addr):Sp:=fun vs H Q E=>∃ (t rl ou:Addr) (nm wy:Str) (zs:List Str) (dv r0 rx:List V) (bs:Prs) (o:Int × Int) (rws:List Rw) (b:Bool) (k:Nat),vs=[.ref t,.ref rl]/\TR yX H t nm wy ou zs dv r0/\(∀ z ∈ nm :: zs,Sm 600 z)/\zs.length<=50/\Sm 1000 wy/\OuC yV yW H ou b/\az dv bs (Dom yV yW H)/\Dom yV yW H ou o/\H rl=some (.lst rx)/\RL NT H rx rws/\bs.length<=5/\(∀ w ∈ rws,cz bs o w\/bnd w.2)/\cA (nm :: zs) zs.length rx.length (rT wy b) (∀ w ∈ rws,cz bs o w) k /\
 (k=0->∀ (x:Addr) (xs' : List V) (H' : Hp),av H H'->TR yX H' x nm wy ou zs dv xs'->RL NT H' xs' rws->Q (.ref x) H')/\(∀ C,ex5 yH yI yJ yK k=some C->∀ H',av H H'->E (.ref C) none H')
def J70 (K:W.Frag) (yV yW yX:Addr):Sp:=fun vs H Q _=>∃ (t ol ou:Addr) (os:List Nat) (nm wy:Str) (zs:List Str) (dv xs:List V) (rws:List Rw) (ds:List Dm) (d:Dm),vs=[.ref t,.ref ol]/\H ol=some (.lst (vN os))/\TX yX yV yW H t nm wy ou zs dv xs rws ds d/\Pm os zs.length/\∀ (t' : Addr) (xs' : List V) (H' : Hp),av H H'->TX yX yV yW H' t' nm wy ou (prm os zs) (prm os dv) xs' (rws.map (trn os)) (prm os ds) d->Q (.ref t') H'
def J57 (K:W.Frag) (yV yW yX:Addr):Sp:=fun vs H Q _=>∃ (h:Int) (cl ol bl_:Addr) (wy:Str) (xs zs:List V) (cs:List Col) (oc:Col) (ws:List BW) (i:Nat) (ow:Int),vs=[.int h,.ref cl,.ref ol,.str wy,.ref bl_,.int ow]/\(ow=0\/ow=5)/\H cl=some (.lst xs)/\dj NT H xs cs/\(∀ c ∈ cs,bu c)/\1<=cs.length/\cs.length<=4/\dY NT H ol oc/\bu oc/\six[i]?=some wy/\(wy=Str.ofString "sum" -> oc.w=false)/\H bl_=some (.lst zs)/\BRL NT H zs ws/\ws.length<=200/\(∀ w ∈ ws,du cs oc w)/\∀ (t ou:Addr) (dv rx:List V) (rws:List Rw) (H' : Hp),av H H'->TX yX yV yW H' t (wd (h / 16) ow) wy ou (nmz h cs.length) dv rx rws (cs.map Col.dm) oc.dm->cq cs ws rws->Q (.ref t) H'
def J49 (K:W.Frag) (yV yW yX:Addr):Sp:=fun vs H Q _=>∃ (t:Addr) (nm wy:Str) (ou:Addr) (zs:List Str) (dv rx:List V) (rws:List Rw) (ds:List Dm) (d:Dm),vs=[.ref t]/\TX yX yV yW H t nm wy ou zs dv rx rws ds d/\HS nm zs/\∀ (t' : Addr) (zs2:List Str) (ev rx2:List V) (aW:List Rw) (es:List Dm) (H' : Hp),av H H'->TX yX yV yW H' t' nm wy ou zs2 ev rx2 aW es d->zs2 ≠ zs->Q (.ref t') H'
def J69 (K:W.Frag) (yH yI yJ yK yG yV yW yX:Addr):Sp:=fun vs H Q E=>∃ (t u:Addr) (nm wy:Str) (ou:Addr) (zs:List Str) (dv rx:List V) (nm2 wy2:Str) (pu:Addr) (zs2:List Str) (ev rx2:List V) (ds es:List Dm) (d e:Dm) (bs:Prs) (o:Int × Int) (rws aW:List Rw) (b:Bool),vs=[.ref t,.ref u]/\TR yX H t nm wy ou zs dv rx/\TR yX H u nm2 wy2 pu zs2 ev rx2/\az dv ds (DmX yV yW H)/\az ev es (DmX yV yW H)/\DmX yV yW H ou d/\DmX yV yW H pu e/\ds.length<=10/\es.length<=10/\(∀ z ∈ nm :: zs,Sm 600 z)/\zs.length<=50/\Sm 1000 wy/\OuC yV yW H ou b/\az dv bs (Dom yV yW H)/\Dom yV yW H ou o/\RL NT H rx rws/\RL NT H rx2 aW/\rx.length<=300/\rx2.length<=300/\bs.length<=5 /\
 ((zs=zs2/\wy=wy2/\ds=es/\d=e/\(∀ w ∈ rws ++ aW,cz bs o w)/\∃ k,cA (nm :: zs) zs.length (rx.length+rx2.length) (rT wy b) (∀ w ∈ rws ++ aW,cz bs o w) k/\(k=0->∀ (x:Addr) (xs' : List V) (H' : Hp),av H H'->TR yX H' x nm wy ou zs dv xs'->RL NT H' xs' (rws ++ aW)->Q (.ref x) H')/\(∀ C,ex5 yH yI yJ yK k=some C->∀ H',av H H'->E (.ref C) none H')) \/
 (¬ (zs=zs2/\wy=wy2/\ds=es/\d=e)/\∀ H',av H H'->E (.ref yG) none H'))
def J39 (K:W.Frag) (yV yW yX:Addr):Sp:=fun vs H Q _=>∃ (t:Addr) (tn:Int) (nm wy:Str) (ou:Addr) (zs:List Str) (dv rx:List V) (rws:List Rw) (ds:List Dm) (d:Dm),vs=[.ref t,.int tn]/\TX yX yV yW H t nm wy ou zs dv rx rws ds d/\HS nm zs/\∀ (t' : Addr) (wy2:Str) (pu:Addr) (zs2:List Str) (ev rx2:List V) (aW:List Rw) (es:List Dm) (e:Dm) (H' : Hp),av H H'->TX yX yV yW H' t' nm wy2 pu zs2 ev rx2 aW es e->¬ Alk zs zs2 wy wy2 ds es d e->Q (.ref t') H'
def J58 (K:W.Frag) (yV yW yX:Addr):Sp:=fun vs H Q _=>∃ (t u:Addr) (nm wy:Str) (ou:Addr) (zs:List Str) (dv rx:List V) (rws:List Rw) (ds:List Dm) (d:Dm) (nm2 wy2:Str) (pu:Addr) (zs2:List Str) (ev rx2:List V) (aW:List Rw) (es:List Dm) (e:Dm),vs=[.ref t,.ref u]/\TX yX yV yW H t nm wy ou zs dv rx rws ds d/\TX yX yV yW H u nm2 wy2 pu zs2 ev rx2 aW es e/\(Alk zs zs2 wy wy2 ds es d e->rws.length+aW.length<=200->∀ (r x:Addr) (xs' : List V) (H' : Hp),av H H'->H' r=some (.tup [.str (Str.ofString "made"),.ref x])->TX yX yV yW H' x nm wy ou zs dv xs' (rws ++ aW) ds d->Q (.ref r) H')/\(Alk zs zs2 wy wy2 ds es d e->200 < rws.length+aW.length->∀ (r:Addr) (H' : Hp),av H H'->H' r=some (.tup [.str (Str.ofString "TooMany"),.non])->Q (.ref r) H')/\(¬ Alk zs zs2 wy wy2 ds es d e->∀ (r:Addr) (H' : Hp),av H H'->H' r=some (.tup [.str (Str.ofString "Unlike"),.non])->Q (.ref r) H')
def J38 (K:PySem.W.Frag):Sp:=fun vs H Q _=>∃ (a:Addr) (ns:List Int),vs=[.ref a]/\SqL K H a (ns.map V.int)/\ns.length<=63/\∀ H',Q (.bl true) H'
section
variable {P:Program} {w:World} {K:PySem.W.Frag} {mg:Str->Option Value} {base:Heap} {f:Addr} {fd:FuncData} {yA yH yI yJ yK yG yN yO yP yQ yR yS yT yU yV yW yX yY yZ:Addr}
theorem Ei (F:Fun K "all_among" "all_among" Y32 f fd) (bl:Bl K mg yA yH yI yJ yK yG yN yO yP yQ yR yS yT yU yV yW yX yY yZ)  : aR P w K mg base CX0 1 f fd ["text", "signs"] (J32 K):=by
 refine F.ok Z32 (fun vs H Q E h=>?_) (fun cdv A outer s H vs Q E hr h=>?_)
 ·obtain ⟨z,g,rfl,q⟩:=h
  rfl
 obtain ⟨z,g,rfl,q⟩:=h
 refine ⟨_,(ak (bM PassesOwn.never rfl (yx (pv 0)) (aK (i:=2) Z32.nd rfl (Or.inl rfl))
  (aj (aQ (aG pe (pv 2) (pv 1) (by with_unfolding_all rfl))
  (aj (ay bU))
  aD)))
  (aj (ay bU))),?_⟩
 refine ⟨_,rfl,z,rfl,wC (fun i σ H'=>(∃ c2:Option V,σ=[some (.str z),some (.str g),c2])/\H'=H/\(z.cps.toList.take i).all (sg g)=true) ⟨⟨_,rfl⟩,rfl,rfl⟩ (fun i c σ H' e h=>?_) (fun σ H' h=>?_)⟩
 ·obtain ⟨⟨c2,rfl⟩,e0,ha⟩:=h
  rw [e0]
  refine ⟨_,rfl,_,rfl,_,_,rfl,rfl,_,rfl,?_⟩
  refine cc (fun d=>?_) (fun d=>?_)
  ·have z2:jx z g=false:=za e (zb d)
   rw [z2] at q;exact q
  ·exact ⟨⟨_,rfl⟩,rfl,all_succ e (A7 d) ha⟩
 ·obtain ⟨⟨c2,rfl⟩,e0,ha⟩:=h
  rw [e0]
  rw [uZ ha] at q;exact q
theorem Ej (F:Fun K "is_whole" "is_whole" Y35 f fd) (bl:Bl K mg yA yH yI yJ yK yG yN yO yP yQ yR yS yT yU yV yW yX yY yZ)  : aR P w K mg base CX0 1 f fd ["value"] (J35 K):=by
 refine F.ok Z35 (fun vs H Q E h=>?_) (fun cdv A outer s H vs Q E hr h=>?_)
 ·obtain ⟨i,rfl,q⟩:=h
  rfl
 obtain ⟨i,rfl,q⟩:=h
 refine ⟨_,(aj (ay (fQ (aw bH rfl bl.isinstance_ PyProof.Rows.boot_isinstance (aa (pv 0) (aa (fz (v:=.ty "int") rfl bl.int_ PyProof.Rows.boot_int rfl) af))) (kc (uv (aw bH rfl bl.isinstance_ PyProof.Rows.boot_isinstance (aa (pv 0) (aa (fz (v:=.ty "bool") rfl bl.bool_ PyProof.Rows.boot_bool rfl) af)))))))),?_⟩
 exact ⟨_,rfl,_,_,_,_,true,rfl,.ty _,.inl (.int _),(by first | rfl | with_unfolding_all rfl | decide +kernel),_,rfl,bR ⟨_,rfl,_,_,_,_,false,rfl,.ty _,.inl (.int _),(by first | rfl | with_unfolding_all rfl | decide +kernel),_,rfl,q⟩⟩
theorem Ek (F:Fun K "alike" "alike" Y31 f fd) (bl:Bl K mg yA yH yI yJ yK yG yN yO yP yQ yR yS yT yU yV yW yX yY yZ)  : aR P w K mg base CX0 1 f fd ["one", "other"] (J31 K yV yW):=by
 refine F.ok Z31 (fun vs H Q E h=>?_) (fun cdv A outer s H vs Q E hr h=>?_)
 ·obtain ⟨a,b,d,e,r,rfl,ha,hb,hi,q⟩:=h
  rfl
 obtain ⟨a,b,d,e,r,rfl,ha,hb,hi,q⟩:=h
 refine ⟨_,(ak (aQ (PW.pt (fA (bC (aw bH rfl bl.isinstance_ PyProof.Rows.boot_isinstance (aa (pv 0) (aa (bz (v:=.ref yV) rfl bl.Numbers_ rfl) af)))) (dG (bC (aw bH rfl bl.isinstance_ PyProof.Rows.boot_isinstance (aa (pv 1) (aa (bz (v:=.ref yV) rfl bl.Numbers_ rfl) af)))))))
  (aj (ay (fQ (df bJ (ar (pv 0) rfl) (ar (pv 1) rfl) (aJ _)) (kc (df bJ (ar (pv 0) rfl) (ar (pv 1) rfl) (aJ _))))))
  aD)
  (ak (aQ (PW.pt (fA (bC (aw bH rfl bl.isinstance_ PyProof.Rows.boot_isinstance (aa (pv 0) (aa (bz (v:=.ref yW) rfl bl.Words_ rfl) af)))) (dG (bC (aw bH rfl bl.isinstance_ PyProof.Rows.boot_isinstance (aa (pv 1) (aa (bz (v:=.ref yW) rfl bl.Words_ rfl) af)))))))
  (aj (ay (df (pq hr) (ar (pv 0) rfl) (ar (pv 1) rfl) (aJ _))))
  aD)
  (aj (ay bU)))),?_⟩
 cases d with
 | inl p =>
  obtain ⟨lo,hg⟩:=p
  obtain ⟨dx,fs,ha,f1,f2,_⟩:=ha
  cases e with
  | inl p2 =>
   obtain ⟨lo2,hg2⟩:=p2
   obtain ⟨dx2,fs2,hb,g1,g2,_⟩:=hb
   refine ⟨_,rfl,_,_,_,_,true,rfl,.ref _,bl.t_Numbers.ty ha,bl.f_nn,_,rfl,bR ?_⟩
   refine ⟨_,rfl,_,_,_,_,true,rfl,.ref _,bl.t_Numbers.ty hb,bl.f_nn,_,rfl,bR ?_⟩
   refine ⟨_,rfl,a,_,_,_,_,rfl,ha,bl.k_Numbers,bl.na_Numbers_low,f1,_,rfl,b,_,_,_,_,rfl,hb,bl.k_Numbers,bl.na_Numbers_low,g1,rfl,_,rfl,?_⟩
   by_cases g:lo=lo2
   ·subst g
    refine dD rfl ⟨_,rfl,a,_,_,_,_,rfl,ha,bl.k_Numbers,bl.na_Numbers_high,f2,_,rfl,b,_,_,_,_,rfl,hb,bl.k_Numbers,bl.na_Numbers_high,g2,rfl,?_⟩
    have e0:decide (V.int hg=V.int hg2)=r:=by
     rw [Bool.eq_iff_iff,decide_eq_true_iff,hi]
     constructor
     ·intro z;injection z with z;rw [z]
     ·intro z;injection z with z;injection z with _ z;rw [z]
    have q' : Q (.bl (decide (V.int hg=V.int hg2))) H:=by rw [e0];exact q
    exact q'
   ·refine cc (fun g2=>absurd (V.int.inj (of_decide_eq_true g2)) g) (fun g2=>?_)
    have er:r=false:=by
     rw [Bool.eq_false_iff]
     intro z
     have t:=hi.mp z
     injection t with t
     injection t with t
     exact g t
    rw [er] at q
    exact q
  | inr zs2 =>
   obtain ⟨dx2,fs2,l2,hb,_⟩:=hb
   have er:r=false:=by
    rw [Bool.eq_false_iff]
    intro z
    cases hi.mp z
   rw [er] at q
   refine ⟨_,rfl,_,_,_,_,true,rfl,.ref _,bl.t_Numbers.ty ha,bl.f_nn,_,rfl,bR ?_⟩
   refine ⟨_,rfl,_,_,_,_,false,rfl,.ref _,bl.t_Words.ty hb,bl.f_wn,_,rfl,bf ?_⟩
   exact ⟨_,rfl,_,_,_,_,false,rfl,.ref _,bl.t_Numbers.ty ha,bl.f_nw,_,rfl,bf (bf q)⟩
 | inr zs =>
  obtain ⟨dx,fs,l,ha,f1,hl,_⟩:=ha
  refine ⟨_,rfl,_,_,_,_,false,rfl,.ref _,bl.t_Words.ty ha,bl.f_wn,_,rfl,bf (bf ?_)⟩
  refine ⟨_,rfl,_,_,_,_,true,rfl,.ref _,bl.t_Words.ty ha,bl.f_ww,_,rfl,bR ?_⟩
  cases e with
  | inl p2 =>
   obtain ⟨dx2,fs2,hb,_⟩:=hb
   have er:r=false:=by
    rw [Bool.eq_false_iff]
    intro z
    cases hi.mp z
   rw [er] at q
   exact ⟨_,rfl,_,_,_,_,false,rfl,.ref _,bl.t_Numbers.ty hb,bl.f_nw,_,rfl,bf q⟩
  | inr zs2 =>
   obtain ⟨dx2,fs2,l2,hb,g1,hl2,_⟩:=hb
   refine ⟨_,rfl,_,_,_,_,true,rfl,.ref _,bl.t_Words.ty hb,bl.f_ww,_,rfl,bR ?_⟩
   exact ⟨_,rfl,a,_,_,_,_,rfl,ha,bl.k_Words,bl.na_Words_words,f1,_,rfl,b,_,_,_,_,rfl,hb,bl.k_Words,bl.na_Words_words,g1,uc (SqL.of hl) (SqL.of hl2) (hi.trans ⟨fun z=>Sum.inr.inj z,fun z=>congrArg _ z⟩) q⟩
theorem El (F:Fun K "holds" "holds" Y34 f fd) (bl:Bl K mg yA yH yI yJ yK yG yN yO yP yQ yR yS yT yU yV yW yX yY yZ)  : aR P w K mg base CX0 1 f fd ["spans", "number"] (J34 K):=by
 refine F.ok Z34 (fun vs H Q E h=>?_) (fun cdv A outer s H vs Q E hr h=>?_)
 ·obtain ⟨a,xs,ps,n,rfl,hS,hP,q⟩:=h
  rfl
 obtain ⟨a,xs,ps,n,rfl,hS,hP,q⟩:=h
 refine ⟨_,(ak (bM PassesOwn.never rfl (bq (pv 0)) (dz rfl (aN (aK (i:=2) Z34.nd rfl (Or.inl rfl)) (aN (aK (i:=3) Z34.nd rfl (Or.inl rfl)) bD)))
  (aj (aQ (mz fM fM (pv 2) (pv 1) (pv 3))
  (aj (ay bU))
  aD)))
  (aj (ay bU))),?_⟩
 refine ⟨_,rfl,a,rfl,⟨_,hS⟩,bY (xs:=xs) (fun i σ H'=>(∃ c2 c3,σ=[some (.ref a),some (.int n),c2,c3])/\H'=H/\(ps.take i).any (inR n)=false) ⟨⟨_,_,rfl⟩,rfl,rfl⟩ (fun i σ H' _ h=>by obtain ⟨_,e,_⟩:=h;rw [e];exact hS) (fun i x σ H' e h=>?_) (fun σ H' h=>?_)⟩
 ·obtain ⟨⟨c2,c3,rfl⟩,e0,hn⟩:=h
  rw [e0]
  obtain ⟨p,r,e1,rfl,hr'⟩:=hP.get e
  refine ⟨r,_,rfl,SqT.of hr',rfl,_,_,rfl,_,_,rfl,rfl,?_⟩
  refine ⟨_,rfl,_,rfl,_,_,rfl,rfl,_,rfl,?_⟩
  refine cc (fun c=>?_) (fun c=>?_)
  ·refine ⟨_,rfl,_,_,rfl,rfl,_,rfl,?_⟩
   refine cc (fun d=>?_) (fun d=>?_)
   ·have z2:inP ps n=true:=rJ e1 (Ee c d)
    rw [z2] at q;exact q
   ·exact ⟨⟨_,_,rfl⟩,rfl,ie e1 hn (A6 d)⟩
  ·exact ⟨_,rfl,bf ⟨⟨_,_,rfl⟩,rfl,ie e1 hn (A5 c)⟩⟩
 ·obtain ⟨⟨c2,c3,rfl⟩,e0,hn⟩:=h
  rw [e0]
  have z:inP ps n=false:=by
   rw [hP.length,List.take_length] at hn
   exact hn
  rw [z] at q;exact q
theorem Em (F:Fun K "refuse_counts" "refuse_counts" Y63 f fd) (bl:Bl K mg yA yH yI yJ yK yG yN yO yP yQ yR yS yT yU yV yW yX yY yZ)  : aR P w K mg base (CX1 P w) 1 f fd ["names", "rows"] (J63 K yI):=by
 refine F.okE Z63 (fun vs H Q E h=>?_) (fun cdv A outer s H vs Q E hr h=>?_)
 ·obtain ⟨p,r,xs,ys,rfl,hP,hR,q,qE⟩:=h
  rfl
 obtain ⟨p,r,xs,ys,rfl,hP,hR,q,qE⟩:=h
 refine ⟨_,(ak (aQ (bV (mz fM fM ai (aw aE rfl bl.len_ PySem.boot_len (aa (pv 0) af)) (qO rfl bl.MOST_COLUMNS_)))
  (aj (bO bl.x_TooMany hr.hd rfl bl.TooMany_ (aa aI af)))
  aD)
  (aj (aQ (aG jv (aw aE rfl bl.len_ PySem.boot_len (aa (pv 1) af)) (qO rfl bl.MOST_ROWS_) (aJ _))
  (aj (bO bl.x_TooMany hr.hd rfl bl.TooMany_ (aa aI af)))
  aD))),?_⟩
 refine ⟨_,rfl,p,_,rfl,.inl (hP),_,_,rfl,rfl,_,rfl,?_⟩
 refine cc (fun g1=>?_) (fun g1=>?_)
 rotate_left
 ·have g1' : ¬ (1:Int)<=((xs.length:Nat):Int):=oE g1
  exact ⟨_,rfl,bR ⟨(by show 1<=sizeLine;decide),qE fun g=>by have:=g.1;omega⟩⟩
 have g1' : (1:Int)<=((xs.length:Nat):Int):=lA g1
 refine ⟨_,_,rfl,rfl,_,rfl,?_⟩
 cases hg:decide (((xs.length:Nat):Int)<=4) with
 | false =>
  have hg':=of_decide_eq_false hg
  exact bR ⟨(by show 1<=sizeLine;decide),qE fun g=>by have:=g.2.1;omega⟩
 | true =>
  have hg':=of_decide_eq_true hg
  refine bf ⟨_,rfl,r,_,rfl,.inl (hR),_,_,rfl,rfl,_,rfl,?_⟩
  refine cc (fun g2=>?_) (fun g2=>?_)
  ·have g2':=lA g2
   exact ⟨(by show 1<=sizeLine;decide),qE fun g=>by have:=g.2.2;omega⟩
  ·have g2':=oE g2
   exact q ⟨by omega,by omega,by omega⟩
theorem En (F:Fun K "own_row" "own_row" Y62 f fd) (bl:Bl K mg yA yH yI yJ yK yG yN yO yP yQ yR yS yT yU yV yW yX yY yZ)  : aR P w K mg base CX0 1 f fd ["cells", "code"] (J62 K):=by
 refine F.ok Z62 (fun vs H Q E h=>?_) (fun cdv A outer s H vs Q E hr h=>?_)
 ·obtain ⟨cl,xs,w_,rfl,hC,hcl,ue,q⟩:=h
  rfl
 obtain ⟨cl,xs,w_,rfl,hC,hcl,ue,q⟩:=h
 refine ⟨_,(aj (ay (bB (aa (pD (bq (pv 0)) (lB rfl (by decide +kernel) (by decide +kernel) (by decide +kernel) rfl) rfl (fun _ _ _ _=>bX) (fun _ _ _ _=>(bN (n8 (K:=K) rfl) rfl bl.list_ PyProof.Rows.boot_list (aa (pv 0) af)))) (aa (pv 1) af))))),?_⟩
 refine ⟨_,rfl,cl,rfl,⟨_,SqL.of hC⟩,eX (xs:=xs) (fun D i zs H'=>av H H'/\H' D=some (.lst zs)/\CL (Fr H D) H' zs (w_.1.take i))
  (fun D hD=>⟨ah hD _,ae,az.nil⟩) (fun D i zs H' hD _ h=>SqL.of (h.1 _ _ hC)) (fun D i x zs H' hD e h=>?_) (fun D zs H' hD h=>?_)⟩
 ·obtain ⟨sm,eD,hz⟩:=h
  obtain ⟨l,ps,rfl,ep,hl⟩:=az.get hcl e
  obtain ⟨_,ys,el,hp⟩:=hl.same sm
  have hi:i < xs.length:=(List.getElem?_eq_some_iff.mp e).1
  have hlz:zs.length < sizeLine:=by
   have h1:=hz.1
   rw [List.length_take] at h1
   exact aH (by omega)
  refine ⟨_,rfl,l,_,rfl,.inl (SqL.of el),fun l2 hl2=>?_⟩
  have s2:=ah hl2 (.lst ys)
  have e2:upd H' l2 (.lst ys) l2=some (.lst ys):=ae
  have eD2:=s2 _ _ eD
  generalize upd H' l2 (.lst ys)=H2 at s2 e2 eD2 ⊢
  have n2:H l2=none:=sm.free hl2
  have nD:l2 ≠ D:=fun z=>by rw [z,eD] at hl2;cases hl2
  refine dB.mk hi eD2 hlz ⟨(sm.trans s2).upd hD,ae,?_⟩
  rw [take_snoc ep]
  exact CL.updN (az.snoc (hz.same s2) ⟨⟨n2,nD⟩,ys,e2,hp.mono s2.tups⟩) Fr.out eD2
 ·obtain ⟨sm,eD,hz⟩:=h
  rw [hcl.1,List.take_length] at hz
  refine ⟨_,rfl,bg,fun r hr'=>q r _ (sm.trans (ah hr' _)) (sm.free hr') ⟨D,zs,ae,hD,ah hr' _ _ _ eD,?_⟩⟩
  exact (hz.same (ah hr' _)).wk fun a h=>h.1
theorem Eo (F:Fun K "_law_cell_at" "_law_cell_at" Y42 f fd) (bl:Bl K mg yA yH yI yJ yK yG yN yO yP yQ yR yS yT yU yV yW yX yY yZ)  : aR P w K mg base CX0 1 f fd ["script", "k"] (J42 K):=by
 refine F.ok Z42 (fun vs H Q E h=>?_) (fun cdv A outer s H vs Q E hr h=>?_)
 ·obtain ⟨a,ns,k,rfl,hS,h0,q⟩:=h
  rfl
 obtain ⟨a,ns,k,rfl,hS,h0,q⟩:=h
 refine ⟨_,(ak (aQ (aG om (pv 1) (aw aE rfl bl.len_ PySem.boot_len (aa (pv 0) af)) (aJ _))
  (aj (ay (aO aS (pv 0) (pv 1) (fun _ _=>rfl))))
  aD)
  (aj (ay ai))),?_⟩
 refine ⟨_,rfl,_,rfl,a,_,rfl,.inl hS,_,_,rfl,rfl,_,rfl,?_⟩
 refine cc (fun c=>?_) (fun c=>?_)
 ·have c' : k < (((ns.map V.int).length:Nat):Int):=lA c
  rw [List.length_map] at c'
  have hk:k.toNat < ns.length:=by omega
  have hv:atI (ns.map V.int) k=some (.int ns[k.toNat]):=by
   have z:atI (ns.map V.int) ((k.toNat:Nat):Int)=some (.int ns[k.toNat]):=bS (by rw [List.getElem?_map,List.getElem?_eq_getElem hk];rfl)
   rw [show ((k.toNat:Nat):Int)=k by omega] at z
   exact z
  exact ⟨_,rfl,_,rfl,a,_,_,_,rfl,rfl,hS,hv,q _⟩
 ·exact q 0
theorem Ep (F:Fun K "_law_mixed" "_law_mixed" Y48 f fd) (bl:Bl K mg yA yH yI yJ yK yG yN yO yP yQ yR yS yT yU yV yW yX yY yZ)  : aR P w K mg base CX0 1 f fd ["cell", "k"] (J48 K):=by
 refine F.ok Z48 (fun vs H Q E h=>?_) (fun cdv A outer s H vs Q E hr h=>?_)
 ·obtain ⟨c,k,rfl,h0,h1,q⟩:=h
  rfl
 obtain ⟨c,k,rfl,h0,h1,q⟩:=h
 refine ⟨_,(aL (aM (i:=2) Z48.nd rfl (Or.inl rfl) (ao sP (ao bE (ao aU (pv 0) (ao ke ai ai)) ai) (ao bE ai (ao o9 (ao o9 ai (pv 1)) (pv 1)))))
  (aL (aM (i:=2) Z48.nd rfl (Or.inl rfl) (ao bE (pv 2) (ao o9 ai (pv 1))))
  (aj (ay (ao aU (ao sP (pv 2) (pv 2)) (ao bE (ao ke ai ai) ai)))))),?_⟩
 have a0:=Int.emod_nonneg c (Int.ne_of_gt (p10 (60:Int).toNat))
 have a1:=Int.emod_lt_of_pos c (p10 (60:Int).toNat)
 have t60:(10:Int) ^ (60:Int).toNat < 2 ^ 200:=by decide
 have kk:0<=2 * k * k/\2 * k * k<=20000:=by
  have z1:0<=2 * k:=by omega
  have z2:=Int.mul_nonneg z1 h0
  have z3:2 * k * k<=2 * k * 100:=Int.mul_le_mul_of_nonneg_left h1 z1
  omega
 refine ⟨fun σ' H'=>H'=H/\∃ b:Int,0<=b/\b < 2 ^ 400/\σ'=[some (.int c),some (.int k),some (.int b)],?_,?_⟩
 ·have hA:0<=c % 10 ^ (60:Int).toNat+1/\c % 10 ^ (60:Int).toNat+1<=2 ^ 200:=⟨by omega,by omega⟩
  have hB:0<=31415926535897932384626433832795028841971+2 * k * k/\31415926535897932384626433832795028841971+2 * k * k < 2 ^ 140:=by
   have:(31415926535897932384626433832795028841971:Int)+20000 < 2 ^ 140:=by decide
   omega
  have hM:IntMulOk (c % 10 ^ (60:Int).toNat+1) (31415926535897932384626433832795028841971+2 * k * k):=by
   refine qR (m:=201) (n:=140) ?_ ?_ (by decide) (by decide)
   ·have:(2:Int) ^ 200 < ((2 ^ 201:Nat):Int):=by decide
    omega
   ·have:(2:Int) ^ 140=((2 ^ 140:Nat):Int):=by decide
    omega
  refine ⟨_,rfl,_,_,rfl,rfl,⟨by decide,by decide,by decide⟩,_,_,rfl,rfl,p10 _,_,_,rfl,rfl,_,rfl,_,_,rfl,rfl,.inl ⟨by decide,by decide⟩,_,rfl,_,_,rfl,rfl,.inr ⟨by omega,by omega⟩,_,_,rfl,rfl,_,_,rfl,rfl,hM,rfl,_,Int.mul_nonneg hA.1 hB.1,?_,rfl⟩
  have z:=Int.mul_le_mul hA.2 (Int.le_of_lt hB.2) hB.1 (by decide)
  have z2:(2:Int) ^ 200 * 2 ^ 140 < 2 ^ 400:=by decide
  omega
 rintro σ1 H1 ⟨rfl,b,b0,b1,rfl⟩
 refine ⟨fun σ' H'=>H'=H1/\∃ b:Int,0<=b/\b < 2 ^ 401/\σ'=[some (.int c),some (.int k),some (.int b)],?_,?_⟩
 ·refine ⟨_,rfl,_,rfl,_,_,rfl,rfl,.inl ⟨by decide,by decide⟩,_,_,rfl,rfl,rfl,_,by omega,?_,rfl⟩
  have z2:(2:Int) ^ 400+7919 * 100 < 2 ^ 401:=by decide
  omega
 rintro σ2 H2 ⟨rfl,b',b2,b3,rfl⟩
 have hM:IntMulOk b' b':=by
  have e:(2:Int) ^ 401=((2 ^ 401:Nat):Int):=by decide
  refine qR (m:=401) (n:=401) ?_ ?_ (by decide) (by decide) <;> omega
 have hp:(0:Int) < 10 ^ (60:Int).toNat+9:=by have:=p10 (60:Int).toNat;omega
 exact ⟨_,rfl,_,rfl,_,_,rfl,rfl,hM,_,_,rfl,rfl,⟨by decide,by decide,by decide⟩,_,_,rfl,rfl,_,_,rfl,rfl,hp,q _ (Int.emod_nonneg _ (Int.ne_of_gt hp))⟩
theorem Er (F:Fun K "_law_word" "_law_word" Y60 f fd) (bl:Bl K mg yA yH yI yJ yK yG yN yO yP yQ yR yS yT yU yV yW yX yY yZ)  : aR P w K mg base CX0 1 f fd ["cell", "k"] (J60 K):=by
 refine F.ok Z60 (fun vs H Q E h=>?_) (fun cdv A outer s H vs Q E hr h=>?_)
 ·obtain ⟨c,k,rfl,q⟩:=h
  rfl
 obtain ⟨c,k,rfl,q⟩:=h
 refine ⟨_,(aL (aM (i:=2) Z60.nd rfl (Or.inl rfl) (ao mL (aO ph aI (ao aU (pv 0) ai) (fun _ _=>rfl)) (ao aU (ao aY (pv 0) ai) ai)))
  (aL (aM (i:=3) Z60.nd rfl (Or.inl rfl) (ao mL (aO ph aI (ao aU (ao aY (pv 0) ai) ai) (fun _ _=>rfl)) (ao aU (pv 1) ai)))
  (aj (ay (ao dR (ao dR (ao dR (pv 2) (aO ph aI (ao aU (ao aY (pv 1) ai) ai) (fun _ _=>rfl))) (aO ph aI (ao aU (pv 1) ai) (fun _ _=>rfl))) (pv 3)))))),?_⟩
 have m1:∀ (x:Nat) (n:Int),0<=n->n < 10->MulOk ⟨#[x]⟩ n:=fun x n h0 h1=>by
  have:n=0\/n=1\/n=2\/n=3\/n=4\/n=5\/n=6\/n=7\/n=8\/n=9:=by omega
  have e:(⟨#[x]⟩:Str).length=1:=rfl
  unfold MulOk
  rw [e]
  rcases this with rfl | rfl | rfl | rfl | rfl | rfl | rfl | rfl | rfl | rfl <;> decide
 have a0:=Int.emod_nonneg c (show (26:Int) ≠ 0 by decide)
 have a1:=Int.emod_lt_of_pos c (show (0:Int) < 26 by decide)
 have b0:=Int.emod_nonneg (c / 26) (show (6:Int) ≠ 0 by decide)
 have b1:=Int.emod_lt_of_pos (c / 26) (show (0:Int) < 6 by decide)
 have d0:=Int.emod_nonneg (c / 156) (show (26:Int) ≠ 0 by decide)
 have d1:=Int.emod_lt_of_pos (c / 156) (show (0:Int) < 26 by decide)
 have e0:=Int.emod_nonneg k (show (5:Int) ≠ 0 by decide)
 have e1:=Int.emod_lt_of_pos k (show (0:Int) < 5 by decide)
 have f0:=Int.emod_nonneg (k / 7) (show (7:Int) ≠ 0 by decide)
 have f1:=Int.emod_lt_of_pos (k / 7) (show (0:Int) < 7 by decide)
 have g0:=Int.emod_nonneg k (show (7:Int) ≠ 0 by decide)
 have g1:=Int.emod_lt_of_pos k (show (0:Int) < 7 by decide)
 refine ⟨fun σ' H'=>H'=H/\σ'=[some (.int c),some (.int k),some (.str ⟨(List.replicate (c / 26 % 6).toNat (97+(c % 26).toNat)).toArray⟩),none],?_,?_⟩
 ·refine ⟨_,rfl,_,_,rfl,rfl,(by show (0:Int) < 26;decide),_,_,_,rfl,rfl,(by decide),lT xD a0 a1,_,rfl,_,_,rfl,rfl,⟨by decide,by decide⟩,_,_,rfl,rfl,(by show (0:Int) < 6;decide),_,_,rfl,rfl,m1 _ _ b0 (by omega),rfl,?_⟩
  rw [Ba]
  rfl
 rintro σ1 H1 ⟨rfl,rfl⟩
 refine ⟨fun σ' H'=>H'=H1/\σ'=[some (.int c),some (.int k),some (.str ⟨(List.replicate (c / 26 % 6).toNat (97+(c % 26).toNat)).toArray⟩),some (.str ⟨(List.replicate (k % 5).toNat (97+(c / 156 % 26).toNat)).toArray⟩)],?_,?_⟩
 ·refine ⟨_,rfl,_,_,rfl,rfl,⟨by decide,by decide⟩,_,_,rfl,rfl,(by show (0:Int) < 26;decide),_,_,_,rfl,rfl,(by decide),lT xD d0 d1,_,rfl,_,_,rfl,rfl,(by show (0:Int) < 5;decide),_,_,rfl,rfl,m1 _ _ e0 (by omega),rfl,?_⟩
  rw [Ba]
  rfl
 rintro σ2 H2 ⟨rfl,rfl⟩
 have n1:(⟨(List.replicate (c / 26 % 6).toNat (97+(c % 26).toNat)).toArray⟩:Str).length<=6:=by simp [Str.length];omega
 have n2:(⟨(List.replicate (k % 5).toNat (97+(c / 156 % 26).toNat)).toArray⟩:Str).length<=6:=by simp [Str.length];omega
 have o1:∀ x:Nat,(⟨#[x]⟩:Str).length=1:=fun _=>rfl
 refine ⟨_,rfl,_,rfl,_,_,rfl,rfl,⟨by decide,by decide⟩,_,_,rfl,rfl,(by show (0:Int) < 7;decide),_,_,_,rfl,rfl,(by decide),lT A9 f0 f1,_,_,rfl,rfl,big (by rw [o1];omega),_,rfl,_,_,rfl,rfl,(by show (0:Int) < 7;decide),_,_,_,rfl,rfl,(by decide),lT A9 g0 g1,_,_,rfl,rfl,big (by rw [len_app,o1,o1];omega),_,rfl,_,_,rfl,rfl,big (by rw [len_app,len_app,o1,o1];omega),?_⟩
 have e:∀ (A B:List Nat) (x y:Nat),(⟨A.toArray⟩:Str) ++ (⟨#[x]⟩:Str) ++ (⟨#[y]⟩:Str) ++ (⟨B.toArray⟩:Str)=⟨(A ++ ([x,y] ++ B)).toArray⟩:=fun A B x y=>by
  show Str.append (Str.append (Str.append _ _) _) _=_
  unfold Str.append
  simp
 show Q (.str (_ ++ _ ++ _ ++ _)) H2
 rw [e]
 exact q
theorem Es (F:Fun K "_law_spans" "_law_spans" Y55 f fd) (bl:Bl K mg yA yH yI yJ yK yG yN yO yP yQ yR yS yT yU yV yW yX yY yZ)  : aR P w K mg base CX0 1 f fd ["pairs", "bits"] (J55 K):=by
 refine F.ok Z55 (fun vs H Q E h=>?_) (fun cdv A outer s H vs Q E hr h=>?_)
 ·obtain ⟨pl,ts,prs,b,rfl,hpl,hp,hch,h6,q⟩:=h
  rfl
 obtain ⟨pl,ts,prs,b,rfl,hpl,hp,hch,h6,q⟩:=h
 refine ⟨_,(ak (aM (i:=2) Z55.nd rfl (Or.inl rfl) (aX af))
  (ak (bM PassesOwn.never rfl (lR rfl bl.enumerate_ (aa (pv 0) af)) (dz rfl (aN (aK (i:=3) Z55.nd rfl (Or.inl rfl)) (aN (aK (i:=4) Z55.nd rfl (Or.inl rfl)) bD)))
  (aj (aQ (aG bJ (ao pd (ao pb (pv 1) (pv 3)) ai) ai (aJ _))
  (aj (aQ (PW.pt (fA (aG jv (pv 3) ai (aJ _)) (dG (aG bJ (ao pd (ao pb (pv 1) (ao fR (pv 3) ai)) ai) ai (aJ _)))))
  (aj (o8 (bB (aa (aO bI (aO aS (pv 2) (qG mx ai) (fun _ _=>rfl)) ai (fun _ _=>rfl)) (aa (aO bI (pv 4) ai (fun _ _=>rfl)) af))) (o7 (pv 2) (qG mx ai) set_list)))
  (aj (bx (mF PySem.F.plainAttrs_list PySem.F.slot_list_append PySem.F.type_list_append cb (pv 2) (aa (pv 4) af))))))
  aD)))
  (aj (ay (pv 2))))),?_⟩
 have htl:=hp.length
 refine ⟨(by show 0<=sizeLine;decide),fun sp hsp=>?_⟩
 have s0:av H (upd H sp (.lst [])):=ah hsp _
 have e0:upd H sp (.lst []) sp=some (.lst []):=ae
 generalize upd H sp (.lst [])=H0 at s0 e0 ⊢
 refine ⟨_,rfl,pl,rfl,⟨_,SqL.of (s0 _ _ hpl)⟩,mT (xs:=ts) (fun i σ H'=>av H H'/\∃ (ys:List V) (ps:Prs) (c3 c4:Option V),H' sp=some (.lst ys)/\PL H' ys ps/\dZ prs b i ps/\ps=mrg prs b i/\ys.length<=i/\σ=[some (.ref pl),some (.int (b:Int)),some (.ref sp),c3,c4]) ⟨s0,[],[],_,_,e0,.nil,dZ.nil,rfl,Nat.le_refl _,rfl⟩ (fun i σ H' hh=>SqL.of (hh.1 _ _ hpl)) (fun i y σ H' T ey hh hT=>?_) (fun σ H' hh=>?_)⟩
 ·obtain ⟨sm,ys,ps,c3,c4,es,hP,ok,his,hly,rfl⟩:=hh
  obtain ⟨u,ru,eu,rfl,hu⟩:=hp.get ey
  have hi:i < prs.length:=(List.getElem?_eq_some_iff.mp eu).1
  have s2:=sm.trans (ah hT (.tup [.int (i:Int),.ref ru]))
  have eT:upd H' T (.tup [.int (i:Int),.ref ru]) T=some (.tup [.int (i:Int),.ref ru]):=ae
  have es2:upd H' T (.tup [.int (i:Int),.ref ru]) sp=some (.lst ys):=dc es hT
  have hP2:=hP.mono (ah hT (.tup [.int (i:Int),.ref ru])).tups
  have hu2:=s2 _ _ hu
  generalize upd H' T (.tup [.int (i:Int),.ref ru])=H2 at s2 eT es2 hP2 hu2 ⊢
  refine ⟨T,_,rfl,SqT.of eT,rfl,_,_,rfl,_,_,rfl,rfl,?_⟩
  refine ⟨_,rfl,_,rfl,_,_,rfl,rfl,(by show (0:Int)<=(i:Int);omega),_,_,rfl,rfl,rfl,_,rfl,?_⟩
  have eb:=pJ b i
  refine cc (fun g=>?_) (fun g=>⟨s2,ys,ps,_,_,es2,hP2,ok.skip (by rw [← eb];exact Bool.eq_false_iff.mpr g),by rw [his,zg (by rw [← eb];exact Bool.eq_false_iff.mpr g)],by omega,rfl⟩)
  have gb:b.testBit i=true:=by rw [← eb];exact g
  refine ⟨_,rfl,_,_,rfl,rfl,_,rfl,?_⟩
  refine cc (fun g1=>?_) (fun g1=>bf ?e1)
  have g1' : (0:Int) < (i:Int):=lA g1
  obtain ⟨n,rfl⟩:∃ n,i=n+1:=⟨i - 1,by omega⟩
  have eb0:=pJ b n
  refine ⟨_,rfl,_,rfl,_,_,rfl,rfl,_,_,rfl,rfl,(by show (0:Int)<=((n+1:Nat):Int) - 1;omega),_,_,rfl,rfl,rfl,_,rfl,?_⟩
  have en:(((n+1:Nat):Int) - 1).toNat=n:=by omega
  rw [en]
  refine cc (fun g2=>?_) (fun g2=>?e2)
  have gb0:b.testBit n=true:=by rw [← eb0];exact g2
  obtain ⟨p0,ep0⟩:∃ p0,prs[n]?=some p0:=⟨_,List.getElem?_eq_getElem (by omega)⟩
  obtain ⟨ps',v,eps,ev⟩:=ok.lastAt hch gb0 ep0
  obtain ⟨ys',r,ps2,p2,ey',eq',hP',er⟩:=hP2.last (by intro z;rw [z] at hP2;have:=hP2.length;rw [eps] at this;simp at this)
  rw [eq'] at eps
  obtain ⟨rfl,hv⟩:=List.append_inj' eps rfl
  have hv:p2=v:=by simpa using hv
  subst hv
  subst ey' eq'
  refine ⟨_,rfl,_,rfl,sp,_,_,_,rfl,rfl,SqL.of es2,mE _ _,r,_,_,_,rfl,rfl,SqT.of er,z0 _ _,_,rfl,ru,_,_,_,rfl,rfl,SqT.of hu2,z1 _ _,bg,fun t ht=>?_⟩
  have x1:upd H2 t (.tup [.int p2.1,.int u.2]) sp=some (.lst (ys' ++ [.ref r])):=dc es2 ht
  refine ⟨_,rfl,_,rfl,sp,_,_,_,rfl,rfl,x1,uX (by simp),?_⟩
  rw [uY]
  have st:fT H2 (upd (upd H2 t (.tup [.int p2.1,.int u.2])) sp (.lst (ys' ++ [.ref t]))):=(oC ht).trans (dq x1)
  refine ⟨(s2.trans (ah ht _)).upd hsp,ys' ++ [.ref t],ps2 ++ [(p2.1,u.2)],_,_,ae,(hP'.mono st).snoc (dq x1 _ _ ae),ok.join hch gb gb0 ep0 eu ev,?_,?_,rfl⟩
  ·rw [va gb gb0 his eu]
  ·rw [List.length_append,List.length_singleton] at hly ⊢
   omega
  all_goals
   refine ⟨_,rfl,.inl ⟨rfl,_,SqL.of es2⟩,_,rfl,sp,_,_,rfl,rfl,es2,aH (by omega),?_⟩
   have st:fT H2 (upd H2 sp (.lst (ys ++ [.ref ru]))):=dq es2
   exact ⟨s2.upd hsp,ys ++ [.ref ru],ps ++ [(u.1,u.2)],_,_,ae,(hP2.mono st).snoc (st _ _ hu2),ok.put hch gb eu,by rw [his,wN gb (by first | (rw [show i=0 by (have:¬ ((0:Int) < (i:Int)):=fun z=>g1 (decide_eq_true z));omega];rfl) | (rw [show n+1 - 1=n by omega,← eb0,Bool.eq_false_iff.mpr g2,Bool.and_false])) eu],by rw [List.length_append,List.length_singleton];omega,rfl⟩
 ·obtain ⟨sm,ys,ps,c3,c4,es,hP,ok,his,hly,rfl⟩:=hh
  rw [htl] at ok his
  exact ⟨_,rfl,q sp ps H' sm ⟨hsp,ys,es,hP⟩ ok his⟩
theorem Et (F:Fun K "_law_points" "_law_points" Y51 f fd) (bl:Bl K mg yA yH yI yJ yK yG yN yO yP yQ yR yS yT yU yV yW yX yY yZ)  : aR P w K mg base CX0 1 f fd ["columns"] (J51 K):=by
 refine F.ok Z51 (fun vs H Q E h=>?_) (fun cdv A outer s H vs Q E hr h=>?_)
 ·obtain ⟨cl,xs,cs,rfl,hcl,hcs,hok,h4,q⟩:=h
  rfl
 obtain ⟨cl,xs,cs,rfl,hcl,hcs,hok,h4,q⟩:=h
 refine ⟨_,(ak (aM (i:=1) Z51.nd rfl (Or.inl rfl) (aX (aa (aX af) af)))
  (ak (bM PassesOwn.never rfl (bq (pv 0)) (aK (i:=2) Z51.nd rfl (Or.inl rfl))
  (ak (aM (i:=3) Z51.nd rfl (Or.inl rfl) (aX af))
  (aL (bM PassesOwn.never rfl (bq (pv 1)) (aK (i:=4) Z51.nd rfl (Or.inl rfl))
  (aj (bM PassesOwn.never rfl (dJ rfl bl.range_ (aa (aw aE rfl bl.len_ PySem.boot_len (aa (aO aS (pv 2) ai (fun _ _=>rfl)) af)) af)) (aK (i:=5) Z51.nd rfl (Or.inl rfl))
  (aj (bx (mF PySem.F.plainAttrs_list PySem.F.slot_list_append PySem.F.type_list_append cb (pv 3) (aa (ao dA (pv 4) (aX (aa (pv 5) af))) af)))))))
  (aj (aM (i:=1) Z51.nd rfl (Or.inl rfl) (pv 3))))))
  (aj (ay (pv 1))))),?_⟩
 have hxl:xs.length=cs.length:=hcs.1
 refine ⟨(by show 0<=sizeLine;decide),fun a0 ha0=>?_⟩
 have s0:=ah ha0 (.lst (vN []))
 have e0:upd H a0 (.lst (vN [])) a0=some (.lst (vN [])):=ae
 have ee:upd H a0 (.lst [])=upd H a0 (.lst (vN [])):=rfl
 rw [ee]
 clear ee
 generalize upd H a0 (.lst (vN []))=H0 at s0 e0 ⊢
 refine ⟨(by show 1<=sizeLine;decide),fun p0 hp0=>?_⟩
 have s1:=s0.trans (ah hp0 (.lst [.ref a0]))
 have e1:upd H0 p0 (.lst [.ref a0]) p0=some (.lst [.ref a0]):=ae
 have e1a:=ah hp0 (.lst [.ref a0]) _ _ e0
 generalize upd H0 p0 (.lst [.ref a0])=H1 at s1 e1 e1a ⊢
 have st0:PtL NT H1 [.ref a0] [[]]:=⟨rfl,fun j p e=>by
  match j,e with
  | 0,e=>cases e;exact ⟨a0,rfl,trivial,e1a⟩
  | j+1,e=>simp at e⟩
 refine ⟨_,rfl,cl,rfl,⟨_,SqL.of (s1 _ _ hcl)⟩,bY (xs:=xs) (fun i σ H'=>av H H'/\∃ (pl:Addr) (zs:List V) (c2 c3 c4 c5:Option V),H' pl=some (.lst zs)/\PtL NT H' zs (eH ((eS cs).take i))/\zs.length<=6 ^ i/\σ=[some (.ref cl),some (.ref pl),c2,c3,c4,c5]) ⟨s1,p0,_,_,_,_,_,e1,st0,by show 1<=6 ^ 0;decide,rfl⟩ (fun i σ H' _ h=>SqL.of (h.1 _ _ hcl)) (fun i y σ H' ey hh=>?_) (fun σ H' hh=>?_)⟩
 ·obtain ⟨sm,pl,zs,c2,c3,c4,c5,epl,hpt,hsz,rfl⟩:=hh
  obtain ⟨lc,c,rfl,ec,cpl,ts,_,_,g1,g2,g3⟩:=az.get (hcs.same sm) ey
  have hi:i < cs.length:=(List.getElem?_eq_some_iff.mp ec).1
  have ok:=hok c (List.mem_of_getElem? ec)
  have k6:=ok.few
  have htl:=g3.length
  have Qh:6 ^ i<=216:=by
   have:i<=3:=by omega
   exact Nat.le_trans (Nat.pow_le_pow_right (by decide) this) (by decide)
  refine ⟨(by show 0<=sizeLine;decide),fun M hM=>?_⟩
  have u1:=ah hM (.lst [])
  have eM:upd H' M (.lst []) M=some (.lst []):=ae
  generalize upd H' M (.lst [])=H2 at u1 eM ⊢
  have Bk:zs.length=(eH ((eS cs).take i)).length:=hpt.1
  refine ⟨fun σ' H3=>av H' H3/\∃ (ys:List V) (c4 c5:Option V),H3 M=some (.lst ys)/\PtL (· ≠ M) H3 ys (grow (eH ((eS cs).take i)) c.prs.length)/\σ'=[some (.ref cl),some (.ref pl),some (.ref lc),some (.ref M),c4,c5],?_,?_⟩
  ·refine ⟨_,rfl,pl,rfl,⟨_,SqL.of (u1 _ _ epl)⟩,bY (xs:=zs) (fun a σ H3=>av H' H3/\∃ (ys:List V) (c4 c5:Option V),H3 M=some (.lst ys)/\PtL (· ≠ M) H3 ys (grow ((eH ((eS cs).take i)).take a) c.prs.length)/\σ=[some (.ref cl),some (.ref pl),some (.ref lc),some (.ref M),c4,c5]) ⟨u1,[],_,_,eM,az.nil,rfl⟩ (fun a σ H3 _ h=>SqL.of (h.1 _ _ epl)) (fun a y σ H3 ey2 h3=>?_) (fun σ H3 h3=>?_)⟩
   ·obtain ⟨t3,ys,c4,c5,eM3,hy,rfl⟩:=h3
    obtain ⟨r,p,rfl,ep,_,hr3⟩:=az.get (hpt.same t3) ey2
    have ha:a < zs.length:=(List.getElem?_eq_some_iff.mp ey2).1
    refine ⟨_,rfl,lc,_,_,_,rfl,rfl,SqL.of (t3 _ _ g1),rfl,cpl,_,rfl,.inl (SqL.of (t3 _ _ g2)),_,rfl,(by show -(2 ^ 62)<=((ts.length:Nat):Int);omega),(by show ((ts.length:Nat):Int) < 2 ^ 62;omega),oj (fun b σ H4=>av H' H4/\∃ (ys:List V) (c5:Option V),H4 M=some (.lst ys)/\PtL (· ≠ M) H4 ys (grow ((eH ((eS cs).take i)).take a) c.prs.length ++ (List.range b).map fun k=>p ++ [k])/\σ=[some (.ref cl),some (.ref pl),some (.ref lc),some (.ref M),some (.ref r),c5]) ⟨t3,ys,_,eM3,by simpa using hy,rfl⟩ (fun b σ H4 hb h4_=>?_) (fun σ H4 h4_=>?_)⟩
    ·obtain ⟨t4,ys4,c5',eM4,hy4,rfl⟩:=h4_
     have hr4:H4 r=some (.lst (vN p)):=by
      obtain ⟨r',p',er',ep',_,hr'⟩:=az.get hpt ey2
      cases er'
      rw [ep] at ep';cases ep'
      exact t4 _ _ hr'
     have hb2:b < c.prs.length:=by first | omega | (rw [← htl];omega)
     have hys:ys4.length<=2000:=by
      have h1:=hy4.1
      rw [List.length_append,qX,List.length_take,List.length_map,List.length_range] at h1
      have h2:min a (eH ((eS cs).take i)).length * c.prs.length<=216 * 6:=Nat.mul_le_mul (by omega) k6
      omega
     have hpl:p.length<=4:=by
      have:=(m8.iff.mp (List.mem_of_getElem? ep)).1
      rw [List.length_take] at this
      unfold eS at this
      rw [List.length_map] at this
      omega
     refine ⟨_,rfl,.inl ⟨rfl,_,SqL.of eM4⟩,_,rfl,_,rfl,(by show 1<=sizeLine;decide),fun k1 hk1=>?_⟩
     have v1:=ah hk1 (.lst (vN [b]))
     have f1:upd H4 k1 (.lst (vN [b])) k1=some (.lst (vN [b])):=ae
     have ee:upd H4 k1 (.lst [V.int (0+(b:Int))])=upd H4 k1 (.lst (vN [b])):=by rw [Int.zero_add];rfl
     rw [ee]
     clear ee
     generalize upd H4 k1 (.lst (vN [b]))=H5 at v1 f1 ⊢
     refine ⟨r,k1,_,_,rfl,rfl,v1 _ _ hr4,f1,Nat.le_of_lt (aH (by rw [dC,dC];simp;omega)),fun k2 hk2=>?_⟩
     rw [pK]
     have v2:=ah hk2 (.lst (vN (p ++ [b])))
     have f2:upd H5 k2 (.lst (vN (p ++ [b]))) k2=some (.lst (vN (p ++ [b]))):=ae
     have eM5:=v1 _ _ eM4
     have nk:k2 ≠ M:=fun z=>by rw [z,eM5] at hk2;cases hk2
     generalize upd H5 k2 (.lst (vN (p ++ [b])))=H6 at v2 f2 ⊢
     have eM6:=v2 _ _ eM5
     refine ⟨M,_,_,rfl,rfl,eM6,ua hys,?_⟩
     have hy6:PtL (· ≠ M) H6 (ys4 ++ [.ref k2]) (grow ((eH ((eS cs).take i)).take a) c.prs.length ++ ((List.range b).map fun k=>p ++ [k]) ++ [p ++ [b]]):=az.snoc (hy4.same (v1.trans v2)) ⟨nk,f2⟩
     refine ⟨((t4.trans v1).trans v2).upd hM,ys4 ++ [.ref k2],_,ae,?_,rfl⟩
     rw [List.range_succ,List.map_append,List.map_singleton,← List.append_assoc]
     exact hy6.updN (fun z=>z rfl)
    ·obtain ⟨t4,ys4,c5',eM4,hy4,rfl⟩:=h4_
     refine ⟨t4,ys4,_,_,eM4,?_,rfl⟩
     rw [tZ ep]
     rw [htl] at hy4
     exact hy4
   ·obtain ⟨t3,ys,c4,c5,eM3,hy,rfl⟩:=h3
    rw [Bk,List.take_length] at hy
    exact ⟨t3,ys,_,_,eM3,hy,rfl⟩
  rintro σ3 H3 ⟨t3,ys,c4',c5',eM3,hy,rfl⟩
  have el:(eS cs)[i]?=some c.prs.length:=by unfold eS;rw [List.getElem?_map,ec];rfl
  have hyl:=hy.1
  rw [qX] at hyl
  refine ⟨_,rfl,sm.trans t3,M,ys,_,_,_,_,eM3,?_,?_,rfl⟩
  ·rw [take_snoc el,m7]
   exact hy.any
  ·rw [hyl,← Bk,Nat.pow_succ]
   exact Nat.mul_le_mul hsz k6
 ·obtain ⟨sm,pl,zs,c2,c3,c4,c5,epl,hpt,hsz,rfl⟩:=hh
  have:(eS cs).length=cs.length:=by unfold eS;rw [List.length_map]
  rw [hxl,← this,List.take_length] at hpt
  exact ⟨_,rfl,q pl zs H' sm epl hpt⟩
theorem Eu (F:Fun K "_law_codes" "_law_codes" Y43 f fd) (bl:Bl K mg yA yH yI yJ yK yG yN yO yP yQ yR yS yT yU yV yW yX yY yZ)  : aR P w K mg base CX0 1 f fd ["columns", "point", "turn"] (J43 K):=by
 refine F.ok Z43 (fun vs H Q E h=>?_) (fun cdv A outer s H vs Q E hr h=>?_)
 ·obtain ⟨cl,pl,xs,cs,p,tn,rfl,hcl,hcs,hok,h4,hpl,hpt,q⟩:=h
  rfl
 obtain ⟨cl,pl,xs,cs,p,tn,rfl,hcl,hcs,hok,h4,hpl,hpt,q⟩:=h
 refine ⟨_,(aj (ay (fW (iD rfl bl.zip_ (aa (pv 0) (aa (pv 1) af))) (fY (N:=["column", "k", "turn"]) (k:=2) (fr:=[2]) (cl:=[("turn",s.heap.objs.size+1)]) rfl rfl (by decide +kernel) (by decide +kernel) rfl rfl (List.forall_mem_cons.mpr ⟨rfl,List.forall_mem_nil _⟩) rfl) rfl (fun _ _ _ _=>(lC (K:=K) (n:=2) rfl rfl (aN (aK (i:=0) (show (["column", "k", "turn"]:List Str).Nodup by decide +kernel) rfl (Or.inl rfl) (Or.inr rfl)) (aN (aK (i:=1) (show (["column", "k", "turn"]:List Str).Nodup by decide +kernel) rfl (Or.inl rfl) (Or.inr rfl)) bD)))) (fun _ _ _ _=>bX) (fun _ _ _ _=>(aO (pw (K:=K) rfl) (aO (dr (K:=K) rfl) (aO (dr (K:=K) rfl) (pv 0) ai (fun _ _=>rfl)) (pv 1) (fun _ _=>rfl)) (ao aU (ao bE (pv 1) (pv 2)) ai) (fun _ _=>rfl)))))),?_⟩
 have hxl:xs.length=cs.length:=hcs.1
 have QT:p.length=cs.length:=by rw [hpt.1];unfold eS;rw [List.length_map]
 have pP:min xs.length (vN p).length=cs.length:=by rw [dC];omega
 refine ⟨_,rfl,_,rfl,cl,pl,rfl,⟨_,SqL.of hcl⟩,⟨_,SqL.of hpl⟩,kn (xs:=xs) (ys:=vN p) (fun D i ys H2=>av H H2/\H2 D=some (.lst ys)/\∃ cd:List Int,ys=cd.map V.int/\cd.length=i/\∀ (j:Nat) (x:Int) (c:Col) (a:Nat),cd[j]?=some x->cs[j]?=some c->p[j]?=some a->∃ pr,c.prs[a]?=some pr/\(x=pr.1\/x=pr.2))
  (fun D hD=>⟨ah hD _,ae,[],rfl,rfl,(fun j x c a e=>by simp at e)⟩) (fun D i ys H2 hD _ h=>⟨SqL.of (h.1 _ _ hcl),SqL.of (h.1 _ _ hpl)⟩) (fun D j x y ys H2 T hD ex ey2 h hT ts hts=>?_) (fun D ys H2 hD h=>?_)⟩
 ·obtain ⟨s2,eD,cd,rfl,hlen,hat⟩:=h
  obtain ⟨lc,c,rfl,ec,cpl,tp_,_,_,g1,g2,g3⟩:=az.get (hcs.same s2) ex
  obtain ⟨a,rfl,ea⟩:=mZ ey2
  obtain ⟨t0,t1,rfl⟩:∃ t0 t1,ts=[t0,t1]:=by
   match ts,hts with
   | [t0,t1],_=>exact ⟨t0,t1,rfl⟩
  have s3:=ah hT (.tup [.ref lc,.int (a:Int)])
  have eT:upd H2 T (.tup [.ref lc,.int (a:Int)]) T=some (.tup [.ref lc,.int (a:Int)]):=ae
  generalize upd H2 T (.tup [.ref lc,.int (a:Int)])=H3 at s3 eT ⊢
  have hac:a < c.prs.length:=hpt.2 j a _ ea (by unfold eS;rw [List.getElem?_map,ec];rfl)
  obtain ⟨rp,pr,e1,e2,e3⟩:=xE g3 (i:=(a:Int)) (by omega) (by rw [g3.length];omega)
  rw [Int.toNat_natCast] at e2
  obtain ⟨x,ex2,hx⟩:=Be (p:=pr) (m:=(a:Int)+tn)
  refine ⟨T,_,rfl,SqT.of eT,rfl,_,_,rfl,_,_,rfl,rfl,⟨[some (.ref lc),some (.int (a:Int))],rfl,rfl⟩,?_⟩
  have hj:j < min xs.length (vN p).length:=by
   have:=(List.getElem?_eq_some_iff.mp ex).1
   rw [pP,← hxl];exact this
  have eD3:=s3 _ _ eD
  refine ⟨_,rfl,lc,_,_,_,rfl,rfl,SqL.of (s3 _ _ g1),rfl,_,rfl,cpl,_,_,_,rfl,rfl,SqL.of (s3 _ _ g2),e1,_,rfl,_,rfl,_,_,rfl,rfl,_,_,rfl,rfl,(by show (0:Int) < 2;decide),rp,_,_,_,rfl,rfl,SqT.of (s3 _ _ e3),ex2,dB.mk hj eD3 (aH (by rw [List.length_map];omega)) ⟨(s2.trans s3).upd hD,ae,cd ++ [x],by simp,by simp [hlen],fun j' x' c' a' f1 f2 f3=>?_⟩⟩
  by_cases hj' : j' < cd.length
  ·rw [List.getElem?_append_left hj'] at f1
   exact hat j' x' c' a' f1 f2 f3
  ·have hj2:j'=cd.length:=by have:=(List.getElem?_eq_some_iff.mp f1).1;simp at this;omega
   subst hj2
   simp at f1
   subst f1
   rw [hlen] at f2 f3
   rw [ec] at f2
   rw [ea] at f3
   cases f2;cases f3
   exact ⟨pr,e2,hx⟩
 ·obtain ⟨s2,eD,cd,rfl,hlen,hat⟩:=h
  rw [pP] at hlen
  exact q D cd H2 s2 eD ⟨hlen,hat⟩
theorem Ew (F:Fun K "_law_fit" "_law_fit" Y47 f fd) (bl:Bl K mg yA yH yI yJ yK yG yN yO yP yQ yR yS yT yU yV yW yX yY yZ)  : aR P w K mg base CX0 1 f fd ["bit_row", "point"] (J47 K):=by
 refine F.ok Z47 (fun vs H Q E h=>?_) (fun cdv A outer s H vs Q E hr h=>?_)
 ·obtain ⟨r,pl,w_,p,rfl,⟨bl0,f1,_,f2⟩,hpl,hlen,ue,q⟩:=h
  rfl
 obtain ⟨r,pl,w_,p,rfl,⟨bl0,f1,_,f2⟩,hpl,hlen,ue,q⟩:=h
 refine ⟨_,(aj (ay (aw (mR rfl) rfl bl.all_ PyProof.Rows.boot_all (aa (fW (iD rfl bl.zip_ (aa (aO bI (pv 0) ai (fun _ _=>rfl)) (aa (pv 1) af))) (dh (N:=["bit", "k"]) (k:=2) rfl rfl (by decide +kernel) (by decide +kernel) (by decide +kernel)) rfl (fun _ _ _ _=>(lC (K:=K) (n:=2) rfl rfl (aN (aK (i:=0) (show (["bit", "k"]:List Str).Nodup by decide +kernel) rfl (Or.inl rfl) (Or.inr rfl)) (aN (aK (i:=1) (show (["bit", "k"]:List Str).Nodup by decide +kernel) rfl (Or.inl rfl) (Or.inr rfl)) bD)))) (fun _ _ _ _=>bX) (fun _ _ _ _=>(df bJ (ao pd (ao pb (pv 0) (pv 1)) ai) ai (aJ _)))) af)))),?_⟩
 have pP:min (vN w_.1).length (vN p).length=p.length:=by rw [dC,dC];omega
 refine ⟨_,rfl,r,_,_,_,rfl,rfl,SqT.of f1,rfl,_,rfl,bl0,pl,rfl,⟨_,SqL.of f2⟩,⟨_,SqL.of hpl⟩,kn (xs:=vN w_.1) (ys:=vN p) (fun D i ys H2=>av H H2/\H2 D=some (.lst ys)/\ys=((List.range i).map fun j=>(w_.1.getD j 0).testBit (p.getD j 0)).map V.bl)
  (fun D hD=>⟨ah hD _,ae,rfl⟩) (fun D i ys H2 hD _ h=>⟨SqL.of (h.1 _ _ f2),SqL.of (h.1 _ _ hpl)⟩) (fun D j x y ys H2 T hD ex ey2 h hT ts hts=>?_) (fun D ys H2 hD h=>?_)⟩
 ·obtain ⟨s2,eD,rfl⟩:=h
  obtain ⟨b,rfl,eb⟩:=mZ ex
  obtain ⟨a,rfl,ea⟩:=mZ ey2
  obtain ⟨t0,t1,rfl⟩:∃ t0 t1,ts=[t0,t1]:=by
   match ts,hts with
   | [t0,t1],_=>exact ⟨t0,t1,rfl⟩
  have s3:=ah hT (.tup [.int (b:Int),.int (a:Int)])
  have eT:upd H2 T (.tup [.int (b:Int),.int (a:Int)]) T=some (.tup [.int (b:Int),.int (a:Int)]):=ae
  generalize upd H2 T (.tup [.int (b:Int),.int (a:Int)])=H3 at s3 eT ⊢
  refine ⟨T,_,rfl,SqT.of eT,rfl,_,_,rfl,_,_,rfl,rfl,⟨[some (.int (b:Int)),some (.int (a:Int))],rfl,rfl⟩,?_⟩
  have hj:j < min (vN w_.1).length (vN p).length:=by
   have:=(List.getElem?_eq_some_iff.mp ea).1
   rw [pP];exact this
  have hj2:j < p.length:=by rw [pP] at hj;exact hj
  have eD3:=s3 _ _ eD
  refine ⟨_,rfl,_,rfl,_,_,rfl,rfl,(by show (0:Int)<=(a:Int);omega),_,_,rfl,rfl,rfl,dB.mk hj eD3 (aH (by rw [List.length_map,List.length_map,List.length_range];omega)) ⟨(s2.trans s3).upd hD,ae,?_⟩⟩
  have g1:w_.1.getD j 0=b:=by rw [List.getD_eq_getElem?_getD,eb];rfl
  have g2:p.getD j 0=a:=by rw [List.getD_eq_getElem?_getD,ea];rfl
  rw [List.range_succ,List.map_append,List.map_append]
  congr 1
  show [V.bl (decide (V.int (Builtin.bitAnd ((b:Int) / 2 ^ a) 1)=V.int 1))]=[V.bl ((w_.1.getD j 0).testBit (p.getD j 0))]
  rw [pJ,g1,g2]
 ·obtain ⟨s2,eD,rfl⟩:=h
  rw [pP] at eD
  refine ⟨D,_,rfl,SqL.of eD,?_⟩
  have e:(((List.range p.length).map fun j=>(w_.1.getD j 0).testBit (p.getD j 0)).all id)=m9 w_.1 p:=by unfold m9;rw [List.all_map];rfl
  rw [e]
  exact q H2 s2
theorem Ex (F:Fun K "_law_way" "_law_way" Y59 f fd) (bl:Bl K mg yA yH yI yJ yK yG yN yO yP yQ yR yS yT yU yV yW yX yY yZ)  : aR P w K mg base CX0 1 f fd ["turn", "out"] (J59 K):=by
 refine F.ok Z59 (fun vs H Q E h=>?_) (fun cdv A outer s H vs Q E hr h=>?_)
 ·obtain ⟨tn,ol,oc,rfl,⟨pl,ts,_,_,e1,e2,hp⟩,q⟩:=h
  rfl
 obtain ⟨tn,ol,oc,rfl,⟨pl,ts,_,_,e1,e2,hp⟩,q⟩:=h
 refine ⟨_,(aL (aM (i:=2) Z59.nd rfl (Or.inl rfl) (aO aS (aX (aa aI (aa aI (aa aI (aa aI (aa aI (aa aI af))))))) (ao aU (pv 0) ai) (fun _ _=>rfl)))
  (ak (aQ (PW.pt (fA (aG bJ (pv 2) aI (aJ _)) (dG (bC (aO aS (pv 1) ai (fun _ _=>rfl))))))
  (aj (aM (i:=2) Z59.nd rfl (Or.inl rfl) aI))
  aD)
  (aj (ay (pv 2))))),?_⟩
 have k0:=Int.emod_nonneg tn (show (6:Int) ≠ 0 by decide)
 have k1:=Int.emod_lt_of_pos tn (show (0:Int) < 6 by decide)
 refine ⟨fun σ' H'=>av H H'/\∃ (wy:Str) (i:Nat),six[i]?=some wy/\σ'=[some (.int tn),some (.ref ol),some (.str wy)],?_,?_⟩
 ·refine ⟨(by show 6<=sizeLine;decide),fun p hp_=>?_⟩
  obtain ⟨wy,i,hw,hi⟩:∃ (wy:Str) (i:Nat),atI [V.str (Str.ofString "first"),.str (Str.ofString "only"),.str (Str.ofString "like"),.str (Str.ofString "low"),.str (Str.ofString "high"),.str (Str.ofString "sum")] (tn % 6)=some (.str wy)/\six[i]?=some wy:=by
   generalize tn % 6=k at k0 k1 ⊢
   have:k=0\/k=1\/k=2\/k=3\/k=4\/k=5:=by omega
   rcases this with rfl | rfl | rfl | rfl | rfl | rfl
   ·exact ⟨_,0,rfl,rfl⟩
   ·exact ⟨_,1,rfl,rfl⟩
   ·exact ⟨_,2,rfl,rfl⟩
   ·exact ⟨_,3,rfl,rfl⟩
   ·exact ⟨_,4,rfl,rfl⟩
   ·exact ⟨_,5,rfl,rfl⟩
  exact ⟨_,rfl,_,_,rfl,rfl,(by show (0:Int) < 6;decide),p,_,_,_,rfl,rfl,SqL.of ae,hw,ah hp_ _,wy,i,hi,rfl⟩
 rintro σ1 H1 ⟨s1,wy,i,hi,rfl⟩
 refine ⟨_,rfl,rfl,_,rfl,?_⟩
 by_cases g:wy=Str.ofString "sum"
 ·subst g
  refine dD rfl ?_
  refine ⟨_,rfl,ol,_,_,_,rfl,rfl,SqL.of (s1 _ _ e1),rfl,_,rfl,?_⟩
  cases hw:oc.w with
  | true=>exact bR ⟨_,rfl,q _ 0 H1 s1 rfl fun z=>absurd z (by decide)⟩
  | false=>exact bf ⟨_,rfl,q _ i H1 s1 hi fun _=>hw⟩
 ·exact bL (fun e=>by injection e with e;exact g e) (bf ⟨_,rfl,q _ i H1 s1 hi fun z=>absurd z g⟩)
theorem Ey (F:Fun K "_law_same" "_law_same" Y53 f fd) (bl:Bl K mg yA yH yI yJ yK yG yN yO yP yQ yR yS yT yU yV yW yX yY yZ)  : aR P w K mg base CX0 1 f fd ["found", "due"] (J53 K):=by
 refine F.ok Z53 (fun vs H Q E h=>?_) (fun cdv A outer s H vs Q E hr h=>?_)
 ·obtain ⟨r,d,p,rfl,hr',hd,q⟩:=h
  rfl
 obtain ⟨r,d,p,rfl,hr',hd,q⟩:=h
 refine ⟨_,(ak (aQ (PW.pt (eE (bV (bC (aw bH rfl bl.isinstance_ PyProof.Rows.boot_isinstance (aa (pv 0) (aa (fz (v:=.ty "tuple") rfl bl.tuple_ PyProof.Rows.boot_tuple rfl) af))))) (eE (aG fL (aw aE rfl bl.len_ PySem.boot_len (aa (pv 0) af)) ai (aJ _)) (dP (bV (bC (aw bH rfl bl.isinstance_ PyProof.Rows.boot_isinstance (aa (aO bI (pv 0) ai (fun _ _=>rfl)) (aa (fz (v:=.ty "str") rfl bl.str_ PyProof.Rows.boot_str rfl) af)))))))))
  (aj (ay bU))
  aD)
  (aj (ay (fQ (aw bH rfl bl.isinstance_ PyProof.Rows.boot_isinstance (aa (aO bI (pv 0) ai (fun _ _=>rfl)) (aa (fz (v:=.ty "int") rfl bl.int_ PyProof.Rows.boot_int rfl) af))) (fQ (uv (aw bH rfl bl.isinstance_ PyProof.Rows.boot_isinstance (aa (aO bI (pv 0) ai (fun _ _=>rfl)) (aa (fz (v:=.ty "bool") rfl bl.bool_ PyProof.Rows.boot_bool rfl) af)))) (kc (df (yF hr) (pv 0) (pv 1) (aJ _)))))))),?_⟩
 refine ⟨_,rfl,_,_,_,_,true,rfl,.ty _,.inr ⟨r,_,rfl,hr',rfl⟩,(by first | rfl | with_unfolding_all rfl | decide +kernel),_,rfl,bf ?_⟩
 refine ⟨_,rfl,r,_,rfl,.inr (hr'),rfl,_,rfl,fS rfl ?_⟩
 refine ⟨_,rfl,r,_,_,_,rfl,rfl,hr',rfl,_,_,_,_,true,rfl,.ty _,.inl (.str _),(by first | rfl | with_unfolding_all rfl | decide +kernel),_,rfl,bf ?_⟩
 refine ⟨_,rfl,r,_,_,_,rfl,rfl,hr',rfl,_,_,_,_,true,rfl,.ty _,.inl (.int _),(by first | rfl | with_unfolding_all rfl | decide +kernel),_,rfl,bR ?_⟩
 refine ⟨_,rfl,r,_,_,_,rfl,rfl,hr',rfl,_,_,_,_,false,rfl,.ty _,.inl (.int _),(by first | rfl | with_unfolding_all rfl | decide +kernel),_,rfl,true,rfl,bR ?_⟩
 refine ⟨_,rfl,_,rfl,?_⟩
 refine tP hr' hd (fun x hx=>?_) q
 rcases List.mem_cons.mp hx with rfl | hx
 ·rfl
 ·rw [show x=.int p.2 by simpa using hx];rfl
theorem Ez (F:Fun K "__init__" "Way.__init__" Y18 f fd) (bl:Bl K mg yA yH yI yJ yK yG yN yO yP yQ yR yS yT yU yV yW yX yY yZ)  : aR P w K mg base CX0 1 f fd ["self", "called"] (J18 K yO):=by
 refine F.ok Z18 (fun vs H Q E h=>?_) (fun cdv A outer s H vs Q E hr h=>?_)
 ·obtain ⟨x,dx,z,rfl,hx,q⟩:=h
  rfl
 obtain ⟨x,dx,z,rfl,hx,q⟩:=h
 refine ⟨_,(aj (cy (pv 0) (pv 1) rfl)),?_⟩
 exact ⟨_,rfl,_,rfl,x,_,dx,_,rfl,hx,bl.k_First,bl.na_First_called,(by show 0 < 1000;decide),q⟩
theorem EA (F:Fun K "__init__" "Way.__init__" Y22 f fd) (bl:Bl K mg yA yH yI yJ yK yG yN yO yP yQ yR yS yT yU yV yW yX yY yZ)  : aR P w K mg base CX0 1 f fd ["self", "called"] (J22 K yP):=by
 refine F.ok Z22 (fun vs H Q E h=>?_) (fun cdv A outer s H vs Q E hr h=>?_)
 ·obtain ⟨x,dx,z,rfl,hx,q⟩:=h
  rfl
 obtain ⟨x,dx,z,rfl,hx,q⟩:=h
 refine ⟨_,(aj (cy (pv 0) (pv 1) rfl)),?_⟩
 exact ⟨_,rfl,_,rfl,x,_,dx,_,rfl,hx,bl.k_Only,bl.na_Only_called,(by show 0 < 1000;decide),q⟩
theorem EB (F:Fun K "__init__" "Way.__init__" Y20 f fd) (bl:Bl K mg yA yH yI yJ yK yG yN yO yP yQ yR yS yT yU yV yW yX yY yZ)  : aR P w K mg base CX0 1 f fd ["self", "called"] (J20 K yQ):=by
 refine F.ok Z20 (fun vs H Q E h=>?_) (fun cdv A outer s H vs Q E hr h=>?_)
 ·obtain ⟨x,dx,z,rfl,hx,q⟩:=h
  rfl
 obtain ⟨x,dx,z,rfl,hx,q⟩:=h
 refine ⟨_,(aj (cy (pv 0) (pv 1) rfl)),?_⟩
 exact ⟨_,rfl,_,rfl,x,_,dx,_,rfl,hx,bl.k_Like,bl.na_Like_called,(by show 0 < 1000;decide),q⟩
theorem EC (F:Fun K "__init__" "Way.__init__" Y21 f fd) (bl:Bl K mg yA yH yI yJ yK yG yN yO yP yQ yR yS yT yU yV yW yX yY yZ)  : aR P w K mg base CX0 1 f fd ["self", "called"] (J21 K yR):=by
 refine F.ok Z21 (fun vs H Q E h=>?_) (fun cdv A outer s H vs Q E hr h=>?_)
 ·obtain ⟨x,dx,z,rfl,hx,q⟩:=h
  rfl
 obtain ⟨x,dx,z,rfl,hx,q⟩:=h
 refine ⟨_,(aj (cy (pv 0) (pv 1) rfl)),?_⟩
 exact ⟨_,rfl,_,rfl,x,_,dx,_,rfl,hx,bl.k_Low,bl.na_Low_called,(by show 0 < 1000;decide),q⟩
theorem ED (F:Fun K "__init__" "Way.__init__" Y19 f fd) (bl:Bl K mg yA yH yI yJ yK yG yN yO yP yQ yR yS yT yU yV yW yX yY yZ)  : aR P w K mg base CX0 1 f fd ["self", "called"] (J19 K yS):=by
 refine F.ok Z19 (fun vs H Q E h=>?_) (fun cdv A outer s H vs Q E hr h=>?_)
 ·obtain ⟨x,dx,z,rfl,hx,q⟩:=h
  rfl
 obtain ⟨x,dx,z,rfl,hx,q⟩:=h
 refine ⟨_,(aj (cy (pv 0) (pv 1) rfl)),?_⟩
 exact ⟨_,rfl,_,rfl,x,_,dx,_,rfl,hx,bl.k_High,bl.na_High_called,(by show 0 < 1000;decide),q⟩
theorem EE (F:Fun K "__init__" "Way.__init__" Y23 f fd) (bl:Bl K mg yA yH yI yJ yK yG yN yO yP yQ yR yS yT yU yV yW yX yY yZ)  : aR P w K mg base CX0 1 f fd ["self", "called"] (J23 K yT):=by
 refine F.ok Z23 (fun vs H Q E h=>?_) (fun cdv A outer s H vs Q E hr h=>?_)
 ·obtain ⟨x,dx,z,rfl,hx,q⟩:=h
  rfl
 obtain ⟨x,dx,z,rfl,hx,q⟩:=h
 refine ⟨_,(aj (cy (pv 0) (pv 1) rfl)),?_⟩
 exact ⟨_,rfl,_,rfl,x,_,dx,_,rfl,hx,bl.k_Sum,bl.na_Sum_called,(by show 0 < 1000;decide),q⟩
theorem O_0 (F:Fun K "__init__" "Domain.__init__" Y0 f fd) (bl:Bl K mg yA yH yI yJ yK yG yN yO yP yQ yR yS yT yU yV yW yX yY yZ)  : aR P w K mg base CX0 1 f fd ["self", "low", "high"] (J0 K yV):=by
 refine F.ok Z0 (fun vs H Q E h=>?_) (fun cdv A outer s H vs Q E hr h=>?_)
 ·obtain ⟨x,dx,lo,hi,rfl,hx,q⟩:=h
  rfl
 obtain ⟨x,dx,lo,hi,rfl,hx,q⟩:=h
 refine ⟨_,(ak (cy (pv 0) (pv 1) rfl)
  (aj (cy (pv 0) (pv 2) rfl))),?_⟩
 refine ⟨_,rfl,_,rfl,x,_,dx,_,rfl,hx,bl.k_Numbers,bl.na_Numbers_low,(by show 0 < 1000;decide),_,rfl,_,rfl,x,_,dx,_,rfl,ae,bl.k_Numbers,bl.na_Numbers_high,(by show 1 < 1000;decide),?_⟩
 show Q .non (upd (upd H x (.ins yV dx [("low",.int lo)])) x (.ins yV dx (bp "high" (.int hi) [("low",.int lo)])))
 rw [put2]
 exact q
theorem O_1 (F:Fun K "__init__" "Domain.__init__" Y1 f fd) (bl:Bl K mg yA yH yI yJ yK yG yN yO yP yQ yR yS yT yU yV yW yX yY yZ)  : aR P w K mg base CX0 1 f fd ["self", "low", "high"] (J1 K yW):=by
 refine F.ok Z1 (fun vs H Q E h=>?_) (fun cdv A outer s H vs Q E hr h=>?_)
 ·obtain ⟨x,dx,lo,hi,rfl,hx,q⟩:=h
  rfl
 obtain ⟨x,dx,lo,hi,rfl,hx,q⟩:=h
 refine ⟨_,(ak (cy (pv 0) (pv 1) rfl)
  (aj (cy (pv 0) (pv 2) rfl))),?_⟩
 refine ⟨_,rfl,_,rfl,x,_,dx,_,rfl,hx,bl.k_Words,bl.na_Words_low,(by show 0 < 1000;decide),_,rfl,_,rfl,x,_,dx,_,rfl,ae,bl.k_Words,bl.na_Words_high,(by show 1 < 1000;decide),?_⟩
 show Q .non (upd (upd H x (.ins yW dx [("low",.int lo)])) x (.ins yW dx (bp "high" (.int hi) [("low",.int lo)])))
 rw [put2]
 exact q
theorem O_5 (F:Fun K "chosen" "First.chosen" Y5 f fd) (bl:Bl K mg yA yH yI yJ yK yG yN yO yP yQ yR yS yT yU yV yW yX yY yZ)  : aR P w K mg base CX0 1 f fd ["self", "codes", "outcome"] (J5 K yO yV yW):=by
 refine F.ok Z5 (fun vs H Q E h=>?_) (fun cdv A outer s H vs Q E hr h=>?_)
 ·obtain ⟨x,c,o,n,ns,b,rfl,⟨dx,z,hx⟩,ho,hle,hS,hn,q⟩:=h
  rfl
 obtain ⟨x,c,o,n,ns,b,rfl,⟨dx,z,hx⟩,ho,hle,hS,hn,q⟩:=h
 refine ⟨_,(aj (ay (bB (aa aI (aa (aO aS (pv 1) ai (fun _ _=>rfl)) af))))),?_⟩
 exact ⟨_,rfl,c,_,_,_,rfl,rfl,hS,at0 n ns,bg,fun t ht=>q t _ (ah ht _) (SqT.of ae)⟩
theorem EF (F:Fun K "chosen" "Only.chosen" Y14 f fd) (bl:Bl K mg yA yH yI yJ yK yG yN yO yP yQ yR yS yT yU yV yW yX yY yZ)  : aR P w K mg base CX0 1 f fd ["self", "codes", "outcome"] (J14 K yP yV yW):=by
 refine F.ok Z14 (fun vs H Q E h=>?_) (fun cdv A outer s H vs Q E hr h=>?_)
 ·obtain ⟨x,c,o,n,ns,b,rfl,⟨dx,z,hx⟩,ho,hle,hS,hn,q⟩:=h
  rfl
 obtain ⟨x,c,o,n,ns,b,rfl,⟨dx,z,hx⟩,ho,hle,hS,hn,q⟩:=h
 refine ⟨_,(aj (ay (qF (aG bJ (aw aE rfl bl.len_ PySem.boot_len (aa (pv 1) af)) ai (aJ _)) (bB (aa aI (aa (aO aS (pv 1) ai (fun _ _=>rfl)) af))) (bz (v:=.ref yZ) rfl bl.CLASH_ rfl)))),?_⟩
 refine ⟨_,rfl,c,_,rfl,.inl (hS),rfl,_,rfl,?_⟩
 refine cc (fun g=>?_) (fun g=>?_)
 ·have e:wf 1 b.1 b.2 (n :: ns)=say n:=by
   have g':=lA g
   simp at g'
   show jI _=_
   unfold jI
   rw [if_pos (by rw [List.length_cons];omega)]
   rfl
  rw [e] at q
  exact ⟨_,rfl,c,_,_,_,rfl,rfl,hS,at0 n ns,bg,fun t ht=>q t _ (ah ht _) (SqT.of ae)⟩
 ·have e:wf 1 b.1 b.2 (n :: ns)=lE:=by
   have g':=oE g
   simp at g'
   show jI _=_
   unfold jI
   rw [if_neg (by rw [List.length_cons];omega)]
  rw [e] at q
  exact q _ _ (av.refl _) (bl.q_CLASH.sq _)
theorem O_9 (F:Fun K "chosen" "Like.chosen" Y9 f fd) (bl:Bl K mg yA yH yI yJ yK yG yN yO yP yQ yR yS yT yU yV yW yX yY yZ)  : aR P w K mg base CX0 1 f fd ["self", "codes", "outcome"] (J9 K yQ yV yW):=by
 refine F.ok Z9 (fun vs H Q E h=>?_) (fun cdv A outer s H vs Q E hr h=>?_)
 ·obtain ⟨x,c,o,n,ns,b,rfl,⟨dx,z,hx⟩,ho,hle,hS,hn,q⟩:=h
  rfl
 obtain ⟨x,c,o,n,ns,b,rfl,⟨dx,z,hx⟩,ho,hle,hS,hn,q⟩:=h
 refine ⟨_,(aj (ay (qF (aG bJ (aw n6 rfl bl.len_ PySem.boot_len (aa (bN (nZ rfl) rfl bl.set_ PyProof.Rows.boot_set (aa (pv 1) af)) af)) ai (aJ _)) (bB (aa aI (aa (aO aS (pv 1) ai (fun _ _=>rfl)) af))) (bz (v:=.ref yZ) rfl bl.CLASH_ rfl)))),?_⟩
 refine ⟨_,rfl,c,_,rfl,hS,(by rw [List.length_cons];omega),fun l hl=>?_⟩
 refine ⟨l,_,rfl,ae,(by rw [List.length_cons];omega),rfl,_,rfl,?_⟩
 have sl:av H (upd H l (wH P w l (n :: ns))):=ah hl _
 refine cc (fun g=>?_) (fun g=>?_)
 ·have g' : V.int _=V.int _:=lA g
  have g2:cntK (n :: ns) (n :: ns).length=1:=by injection g' with g';omega
  have g3:=oN.mp g2
  have e:wf 2 b.1 b.2 (n :: ns)=say n:=by
   show jH _=_
   unfold jH
   rw [if_pos (ku.mp g3),oS g3]
  rw [e] at q
  exact ⟨_,rfl,c,_,_,_,rfl,rfl,sl.seq hS,at0 n ns,bg,fun t ht=>q t _ (sl.trans (ah ht _)) (SqT.of ae)⟩
 ·have g2:¬ cntK (n :: ns) (n :: ns).length=1:=fun z=>(oE g) (by rw [z];rfl)
  have e:wf 2 b.1 b.2 (n :: ns)=lE:=by
   show jH _=_
   unfold jH
   rw [if_neg fun z=>g2 (oN.mpr (ku.mpr z))]
  rw [e] at q
  exact q _ _ sl (bl.q_CLASH.sq _)
theorem EG (F:Fun K "chosen" "Low.chosen" Y11 f fd) (bl:Bl K mg yA yH yI yJ yK yG yN yO yP yQ yR yS yT yU yV yW yX yY yZ)  : aR P w K mg base CX0 1 f fd ["self", "codes", "outcome"] (J11 K yR yV yW):=by
 refine F.ok Z11 (fun vs H Q E h=>?_) (fun cdv A outer s H vs Q E hr h=>?_)
 ·obtain ⟨x,c,o,n,ns,b,rfl,⟨dx,z,hx⟩,ho,hle,hS,hn,q⟩:=h
  rfl
 obtain ⟨x,c,o,n,ns,b,rfl,⟨dx,z,hx⟩,ho,hle,hS,hn,q⟩:=h
 refine ⟨_,(aj (ay (bB (aa aI (aa (aw (eP rfl) rfl bl.min_ PyProof.Rows.boot_min (aa (pv 1) af)) af))))),?_⟩
 refine ⟨_,rfl,c,_,rfl,hS,Nat.succ_pos _,fun m h1 h2=>⟨bg,fun t ht=>q t _ (ah ht _) (SqT.of ?_)⟩⟩
 rw [ae,mV h1 h2]
 rfl
theorem O_7 (F:Fun K "chosen" "High.chosen" Y7 f fd) (bl:Bl K mg yA yH yI yJ yK yG yN yO yP yQ yR yS yT yU yV yW yX yY yZ)  : aR P w K mg base CX0 1 f fd ["self", "codes", "outcome"] (J7 K yS yV yW):=by
 refine F.ok Z7 (fun vs H Q E h=>?_) (fun cdv A outer s H vs Q E hr h=>?_)
 ·obtain ⟨x,c,o,n,ns,b,rfl,⟨dx,z,hx⟩,ho,hle,hS,hn,q⟩:=h
  rfl
 obtain ⟨x,c,o,n,ns,b,rfl,⟨dx,z,hx⟩,ho,hle,hS,hn,q⟩:=h
 refine ⟨_,(aj (ay (bB (aa aI (aa (aw (eQ rfl) rfl bl.max_ PyProof.Rows.boot_max (aa (pv 1) af)) af))))),?_⟩
 refine ⟨_,rfl,c,_,rfl,hS,Nat.succ_pos _,fun m h1 h2=>⟨bg,fun t ht=>q t _ (ah ht _) (SqT.of ?_)⟩⟩
 rw [ae,mW h1 h2]
 rfl
theorem EH (F:Fun K "chosen" "Sum.chosen" Y16 f fd) (bl:Bl K mg yA yH yI yJ yK yG yN yO yP yQ yR yS yT yU yV yW yX yY yZ)  : aR P w K mg base CX0 1 f fd ["self", "codes", "outcome"] (J16 K yT yV yW):=by
 refine F.ok Z16 (fun vs H Q E h=>?_) (fun cdv A outer s H vs Q E hr h=>?_)
 ·obtain ⟨x,c,o,n,ns,b,rfl,⟨dx,z,hx⟩,⟨C,hC,dy,fs,ho,hlo,hhi,_⟩,hle,hS,hn,q⟩:=h
  rfl
 obtain ⟨x,c,o,n,ns,b,rfl,⟨dx,z,hx⟩,⟨C,hC,dy,fs,ho,hlo,hhi,_⟩,hle,hS,hn,q⟩:=h
 refine ⟨_,(aj (ay (bB (aa aI (aa (aw (oo rfl) rfl bl.max_ PyProof.Rows.boot_max (aa (ar (pv 2) rfl) (aa (aw (oq rfl) rfl bl.min_ PyProof.Rows.boot_min (aa (ar (pv 2) rfl) (aa (aw (eL rfl) rfl bl.sum_ PyProof.Rows.boot_sum (aa (pv 1) af)) af))) af))) af))))),?_⟩
 have hk:Cls K C/\bc K C (Str.ofString "low")/\bc K C (Str.ofString "high"):=by
  rcases hC with rfl | rfl
  ·exact ⟨bl.k_Numbers,bl.na_Numbers_low,bl.na_Numbers_high⟩
  ·exact ⟨bl.k_Words,bl.na_Words_low,bl.na_Words_high⟩
 refine ⟨_,rfl,o,_,_,_,_,rfl,ho,hk.1,hk.2.1,hlo,_,rfl,o,_,_,_,_,rfl,ho,hk.1,hk.2.2,hhi,_,rfl,c,_,rfl,hS,_,_,rfl,_,_,rfl,?_⟩
 refine ⟨bg,fun t ht=>q t _ (ah ht _) (SqT.of ?_)⟩
 rw [ae]
 have e:near b.1 b.2 (n :: ns).sum=if (if (n :: ns).sum < b.2 then (n :: ns).sum else b.2) > b.1 then (if (n :: ns).sum < b.2 then (n :: ns).sum else b.2) else b.1:=by
  unfold near
  generalize (n :: ns).sum=t
  split <;> split <;> split <;> first | rfl | omega | (split <;> omega)
 show _=some (HO.tup (tp (say (near b.1 b.2 (n :: ns).sum))))
 rw [e]
 rfl
theorem EI (F:Fun K "is_word" "is_word" Y36 f fd) (bl:Bl K mg yA yH yI yJ yK yG yN yO yP yQ yR yS yT yU yV yW yX yY yZ) (q0:Callee P w K mg base 1 "all_among" ["text", "signs"] (J32 K)):aR P w K mg base CX0 2 f fd ["text"] (J36 K):=by
 refine F.ok Z36 (fun vs H Q E h=>?_) (fun cdv A outer s H vs Q E hr h=>?_)
 ·obtain ⟨z,rfl,hz,q⟩:=h
  rfl
 obtain ⟨z,rfl,hz,q⟩:=h
 refine ⟨_,(aj (ay (fQ (my fM fM ai (aw pk rfl bl.len_ PySem.boot_len (aa (pv 0) af)) (qO rfl bl.MOST_SIGNS_)) (fQ (df fL (pv 0) aI (aJ _)) (kc (aT q0 hr rfl (aa (pv 0) (aa (qO rfl bl.SMALL_LETTERS_) af)))))))),?_⟩
 refine ⟨_,rfl,_,rfl,big hz,_,_,rfl,rfl,_,rfl,?_⟩
 refine cc (fun g1=>?_) (fun g1=>?_)
 ·refine ⟨_,_,rfl,rfl,_,rfl,?_⟩
  refine cc (fun g2=>?_) (fun g2=>?_)
  ·refine ⟨_,rfl,rfl,_,rfl,?_⟩
   refine cc (fun g3=>?_) (fun g3=>?_)
   ·refine ⟨_,rfl,z,lets,rfl,?_⟩
    have e:isw z=jx z lets:=by unfold isw;rw [g1,g2,g3];rfl
    rw [e] at q;exact q
   ·have e:isw z=false:=by unfold isw;rw [Bool.eq_false_iff.mpr g3,Bool.false_and,Bool.and_false,Bool.and_false]
    rw [e] at q;exact q
  ·have e:isw z=false:=by unfold isw;rw [Bool.eq_false_iff.mpr g2,Bool.false_and,Bool.and_false]
   rw [e] at q;exact q
 ·have e:isw z=false:=by unfold isw;rw [Bool.eq_false_iff.mpr g1,Bool.false_and]
  rw [e] at q;exact ⟨_,rfl,bf q⟩
theorem EJ (F:Fun K "fits" "fits" Y33 f fd) (bl:Bl K mg yA yH yI yJ yK yG yN yO yP yQ yR yS yT yU yV yW yX yY yZ) (wZ:Callee P w K mg base 1 "holds" ["spans", "number"] (J34 K)):aR P w K mg base CX0 2 f fd ["table", "k", "codes"] (J33 K yX):=by
 refine F.ok Z33 (fun vs H Q E h=>?_) (fun cdv A outer s H vs Q E hr h=>?_)
 ·obtain ⟨t,rl,c,dx,fs,xs,rws,k,w_,cs,rfl,ht,hf,hl,hR,ek,hS,hlen,q⟩:=h
  rfl
 obtain ⟨t,rl,c,dx,fs,xs,rws,k,w_,cs,rfl,ht,hf,hl,hR,ek,hS,hlen,q⟩:=h
 refine ⟨_,(ak (aM (i:=3) Z33.nd rfl (Or.inl rfl) (aO bI (aO aS (ar (pv 0) rfl) (pv 1) (fun _ _=>rfl)) ai (fun _ _=>rfl)))
  (ak (bM PassesOwn.never rfl (iD rfl bl.zip_ (aa (pv 3) (aa (pv 2) af))) (dz rfl (aN (aK (i:=4) Z33.nd rfl (Or.inl rfl)) (aN (aK (i:=5) Z33.nd rfl (Or.inl rfl)) bD)))
  (aj (aQ (bV (bC (aT wZ hr rfl (aa (pv 4) (aa (pv 5) af)))))
  (aj (ay bU))
  aD)))
  (aj (ay bU)))),?_⟩
 obtain ⟨r,er,ce,cv,e1,_,e2,hcl⟩:=hR.2 k w_ ek
 refine ⟨_,rfl,t,_,_,_,_,rfl,ht,bl.k_Table,bl.na_Table_rows,hf,_,rfl,rl,_,_,_,rfl,rfl,SqL.of hl,bS er,r,_,_,_,rfl,rfl,SqT.of e1,rfl,?_⟩
 refine ⟨_,rfl,_,rfl,ce,c,rfl,⟨_,SqL.of e2⟩,⟨_,hS⟩,lQ (xs:=cv) (ys:=cs.map V.int) (fun i σ H'=>av H H'/\(∀ j,j < i->inP (w_.1.getD j []) (cs.getD j 0)=true)/\∃ c4 c5:Option V,σ=[some (.ref t),some (.int k),some (.ref c),some (.ref ce),c4,c5]) ⟨av.refl _,(fun j h=>absurd h (Nat.not_lt_zero j)),_,_,rfl⟩ (fun i σ H' h=>⟨SqL.of (h.1 _ _ e2),h.1.seq hS⟩) (fun i x y σ H' T ex ey h hT=>?_) (fun σ H' h=>?_)⟩
 ·obtain ⟨sm,gO,c4,c5,rfl⟩:=h
  have s2:=sm.trans (ah hT (.tup [x,y]))
  have eT:upd H' T (.tup [x,y]) T=some (.tup [x,y]):=ae
  generalize upd H' T (.tup [x,y])=H2 at s2 eT ⊢
  obtain ⟨l,ps,rfl,ep,hl'⟩:=az.get hcl ex
  obtain ⟨_,ys,el,hp⟩:=hl'.same s2
  obtain ⟨n,rfl,en⟩:=of_map ey
  refine ⟨T,_,rfl,SqT.of eT,rfl,_,_,rfl,_,_,rfl,rfl,?_⟩
  refine ⟨_,rfl,_,rfl,l,ys,ps,n,rfl,SqL.of el,hp,_,rfl,?_⟩
  have g1:w_.1.getD i []=ps:=by rw [List.getD_eq_getElem?_getD,ep];rfl
  have g2:cs.getD i 0=n:=by rw [List.getD_eq_getElem?_getD,en];rfl
  cases hin:inP ps n with
  | true =>
   refine bf ⟨s2,fun j hj=>?_,_,_,rfl⟩
   by_cases hji:j < i
   ·exact gO j hji
   ·have:j=i:=by omega
    subst this
    rw [g1,g2];exact hin
  | false =>
   refine bR ?_
   have e:gQ w_.1 cs=false:=by
    unfold gQ
    rw [List.all_eq_false]
    refine ⟨i,List.mem_range.mpr (List.getElem?_eq_some_iff.mp en).1,?_⟩
    rw [g1,g2,hin];decide
   have q2:=q H2 s2
   rw [e] at q2
   exact q2
 ·obtain ⟨sm,gO,c4,c5,rfl⟩:=h
  have e:gQ w_.1 cs=true:=by
   unfold gQ
   rw [List.all_eq_true]
   intro j hj
   refine gO j ?_
   have h1:=hcl.1
   rw [List.length_map]
   have:=List.mem_range.mp hj
   omega
  have q2:=q H' sm
  rw [e] at q2
  exact q2
theorem EK (F:Fun K "refuse_unlike_domains" "refuse_unlike_domains" Y67 f fd) (bl:Bl K mg yA yH yI yJ yK yG yN yO yP yQ yR yS yT yU yV yW yX yY yZ) (lY:Callee P w K mg base 1 "alike" ["one", "other"] (J31 K yV yW)):aR P w K mg base (CX1 P w) 2 f fd ["ones", "others"] (J67 K yG yV yW):=by
 refine F.okE Z67 (fun vs H Q E h=>?_) (fun cdv A outer s H vs Q E hr h=>?_)
 ·obtain ⟨la,lb,xs,ys,ds,es,rfl,ela,elb,hx,hy,q,qE⟩:=h
  rfl
 obtain ⟨la,lb,xs,ys,ds,es,rfl,ela,elb,hx,hy,q,qE⟩:=h
 refine ⟨_,(ak (aQ (aG fL (aw aE rfl bl.len_ PySem.boot_len (aa (pv 0) af)) (aw aE rfl bl.len_ PySem.boot_len (aa (pv 1) af)) (aJ _))
  (aj (bO bl.x_Unlike hr.hd rfl bl.Unlike_ (aa aI af)))
  aD)
  (aj (bM (dM rfl rfl rfl) rfl (iD rfl bl.zip_ (aa (pv 0) (aa (pv 1) af))) (dz rfl (aN (aK (i:=2) Z67.nd rfl (Or.inl rfl)) (aN (aK (i:=3) Z67.nd rfl (Or.inl rfl)) bD)))
  (aj (aQ (bV (bC (aT lY hr rfl (aa (pv 2) (aa (pv 3) af)))))
  (aj (bO bl.x_Unlike hr.hd rfl bl.Unlike_ (aa aI af)))
  aD))))),?_⟩
 refine ⟨_,rfl,la,_,rfl,.inl (SqL.of ela),_,rfl,lb,_,rfl,.inl (SqL.of elb),rfl,_,rfl,?_⟩
 by_cases hl:xs.length=ys.length
 rotate_left
 ·refine cc (fun _=>⟨(by show 1<=sizeLine;decide),qE (fun g=>hl (by rw [hx.1,hy.1,g])) H (av.refl H)⟩) (fun g=>absurd ?_ g)
  rw [decide_eq_false (fun e=>hl (by injection e with e;omega))]
  rfl
 refine fS (by rw [hl]) ?_
 have hle:ds.length=es.length:=by rw [← hx.1,hl,hy.1]
 refine ⟨_,rfl,_,rfl,la,lb,rfl,⟨_,SqL.of ela⟩,⟨_,SqL.of elb⟩,lQ (xs:=xs) (ys:=ys) (fun i σ H'=>av H H'/\(∃ c2 c3:Option V,σ=[some (.ref la),some (.ref lb),c2,c3])/\ds.take i=es.take i) ⟨av.refl _,⟨_,_,rfl⟩,rfl⟩ (fun i σ H' h=>⟨SqL.of (h.1 _ _ ela),SqL.of (h.1 _ _ elb)⟩) (fun i x y σ H' T ex ey h hT=>?_) (fun σ H' h=>?_)⟩
 ·obtain ⟨sm,⟨c2,c3,rfl⟩,heq⟩:=h
  have s2:=sm.trans (ah hT (.tup [x,y]))
  have eT:upd H' T (.tup [x,y]) T=some (.tup [x,y]):=ae
  generalize upd H' T (.tup [x,y])=H2 at s2 eT ⊢
  obtain ⟨a,d,rfl,ed,hd⟩:=hx.get ex
  obtain ⟨b,e,rfl,ee,he⟩:=hy.get ey
  refine ⟨T,_,rfl,SqT.of eT,rfl,_,_,rfl,_,_,rfl,rfl,?_⟩
  by_cases g:d=e
  ·refine ⟨_,rfl,_,rfl,a,b,d,e,true,rfl,hd.same s2,he.same s2,⟨fun _=>g,fun _=>rfl⟩,_,rfl,bf ⟨s2,⟨_,_,rfl⟩,?_⟩⟩
   rw [take_snoc ed,take_snoc ee,heq,g]
  ·refine ⟨_,rfl,_,rfl,a,b,d,e,false,rfl,hd.same s2,he.same s2,⟨(fun h=>by cases h),fun h=>absurd h g⟩,_,rfl,bR ⟨(by show 1<=sizeLine;decide),qE (fun h=>g ?_) _ s2⟩⟩
   rw [h,ee] at ed
   cases ed
   rfl
 ·obtain ⟨sm,_,heq⟩:=h
  refine q ?_ _ sm
  rw [show min xs.length ys.length=ds.length by rw [← hl,hx.1];omega,List.take_length,hle,List.take_length] at heq
  exact heq
theorem EL (F:Fun K "_law_seeds" "_law_seeds" Y54 f fd) (bl:Bl K mg yA yH yI yJ yK yG yN yO yP yQ yR yS yT yU yV yW yX yY yZ) (bG:Callee P w K mg base 1 "_law_mixed" ["cell", "k"] (J48 K)):aR P w K mg base CX0 2 f fd ["cells", "most"] (J54 K):=by
 refine F.ok Z54 (fun vs H Q E h=>?_) (fun cdv A outer s H vs Q E hr h=>?_)
 ·obtain ⟨a,ns,m,rfl,hS,EM,hm1,hm2,q⟩:=h
  rfl
 obtain ⟨a,ns,m,rfl,hS,EM,hm1,hm2,q⟩:=h
 refine ⟨_,(ak (aM (i:=2) Z54.nd rfl (Or.inl rfl) (aX af))
  (ak (bM PassesOwn.never rfl (lR rfl bl.enumerate_ (aa (pv 0) af)) (dz rfl (aN (aK (i:=3) Z54.nd rfl (Or.inl rfl)) (aN (aK (i:=4) Z54.nd rfl (Or.inl rfl)) bD)))
  (aj (aQ (aG om (pv 3) (pv 1) (aJ _))
  (aj (bx (mF PySem.F.plainAttrs_list PySem.F.slot_list_append PySem.F.type_list_append cb (pv 2) (aa (aT bG hr rfl (aa (pv 4) (aa (ao aU (pv 3) ai) af))) af))))
  (ak (aM (i:=5) Z54.nd rfl (Or.inl rfl) (ao aU (pv 3) (pv 1)))
  (aj (o8 (aT bG hr rfl (aa (ao bE (aO aS (pv 2) (pv 5) (fun _ _=>rfl)) (ao aU (pv 4) (ao ke ai ai))) (aa (ao aU (pv 3) ai) af))) (o7 (pv 2) (pv 5) set_list)))))))
  (aj (ay (pv 2))))),?_⟩
 refine ⟨(by show 0<=sizeLine;decide),fun l hl=>?_⟩
 have s0:av H (upd H l (.lst ([].map V.int))):=ah hl _
 have e0:upd H l (.lst ([].map V.int)) l=some (.lst ([].map V.int)):=ae
 have ee:upd H l (.lst [])=upd H l (.lst ([].map V.int)):=rfl
 rw [ee]
 clear ee
 generalize upd H l (.lst ([].map V.int))=H0 at s0 e0 ⊢
 refine ⟨_,rfl,a,rfl,⟨_,s0.seq hS⟩,mT (xs:=ns.map V.int) (fun i σ H'=>av H H'/\∃ (ms:List Int) (c3 c4 c5:Option V),H' l=some (.lst (ms.map V.int))/\ms.length<=i/\((ms.length:Nat):Int)<=m/\((i:Int) ≥ m->((ms.length:Nat):Int)=m)/\((i:Int) < m->ms.length=i)/\(∀ x ∈ ms,0<=x)/\σ=[some (.ref a),some (.int m),some (.ref l),c3,c4,c5]) ⟨s0,[],_,_,_,e0,Nat.le_refl _,by show ((0:Nat):Int)<=m;omega,(fun h=>by omega),(fun h=>rfl),(fun x h=>by cases h),rfl⟩ (fun i σ H' hh=>hh.1.seq hS) (fun i y σ H' T ey hh hT=>?_) (fun σ H' hh=>?_)⟩
 ·obtain ⟨sm,ms,c3,c4,c5,el,hl1,hl2,hl3,hl4,hnn,rfl⟩:=hh
  obtain ⟨c,rfl,_⟩:=of_map ey
  have hin:i < ns.length:=by have:=(List.getElem?_eq_some_iff.mp ey).1;rw [List.length_map] at this;exact this
  have s2:=sm.trans (ah hT (.tup [.int (i:Int),.int c]))
  have eT:upd H' T (.tup [.int (i:Int),.int c]) T=some (.tup [.int (i:Int),.int c]):=ae
  have el2:upd H' T (.tup [.int (i:Int),.int c]) l=some (.lst (ms.map V.int)):=dc el hT
  generalize upd H' T (.tup [.int (i:Int),.int c])=H2 at s2 eT el2 ⊢
  have k0:=Int.emod_nonneg (i:Int) (show (50:Int) ≠ 0 by decide)
  have k1:=Int.emod_lt_of_pos (i:Int) (show (0:Int) < 50 by decide)
  refine ⟨T,_,rfl,SqT.of eT,rfl,_,_,rfl,_,_,rfl,rfl,?_⟩
  refine ⟨_,rfl,_,rfl,_,_,rfl,rfl,_,rfl,?_⟩
  refine cc (fun g=>?_) (fun g=>?_)
  ·have g:(i:Int) < m:=of_decide_eq_true g
   have hl5:=hl4 g
   refine ⟨_,rfl,.inl ⟨rfl,_,SqL.of el2⟩,_,rfl,_,rfl,_,_,rfl,rfl,(by show (0:Int) < 50;decide),c,_,rfl,k0,by omega,fun r hr0=>?_⟩
   refine ⟨l,_,_,rfl,rfl,el2,aH (by rw [List.length_map];omega),s2.upd hl,ms ++ [r],_,_,_,by rw [ae,List.map_append];rfl,by simp;omega,by simp;omega,(fun h=>by simp;omega),(fun h=>by simp;omega),(fun x hx=>(List.mem_append.mp hx).elim (hnn x) fun z=>by rw [show x=r by simpa using z];exact hr0),rfl⟩
  ·have g:m<=(i:Int):=by have:¬ ((i:Int) < m):=fun z=>g (decide_eq_true z);omega
   have hl5:=hl3 g
   have hmp:(0:Int) < m:=by omega
   have j0:=Int.emod_nonneg (i:Int) (Int.ne_of_gt hmp)
   have j1:=Int.emod_lt_of_pos (i:Int) hmp
   obtain ⟨x,ex⟩:∃ x,ms[((i:Int) % m).toNat]?=some x:=⟨_,List.getElem?_eq_getElem (by omega)⟩
   have ix:atI (ms.map V.int) ((i:Int) % m)=some (.int x):=by
    have:=bS (get_map ex)
    rw [Int.toNat_of_nonneg j0] at this
    exact this
   refine ⟨_,rfl,_,rfl,_,_,rfl,rfl,hmp,?_⟩
   refine ⟨_,rfl,_,rfl,l,_,_,_,rfl,rfl,SqL.of el2,ix,_,rfl,_,_,rfl,rfl,⟨by decide,by decide,by decide⟩,_,_,rfl,rfl,p10 _,_,_,rfl,rfl,_,rfl,_,_,rfl,rfl,(by show (0:Int) < 50;decide),_,_,rfl,k0,by omega,fun r hr0=>?_⟩
   refine ⟨_,rfl,_,rfl,l,_,_,((i:Int) % m).toNat,rfl,rfl,el2,?_,?_⟩
   ·unfold ixN
    rw [if_pos j0,if_pos (by rw [List.length_map];omega)]
   ·refine ⟨s2.upd hl,ms.set ((i:Int) % m).toNat r,_,_,_,by rw [ae,List.map_set],by simp;omega,by simp;omega,(fun h=>by simp;omega),(fun h=>by omega),(fun x hx=>(List.mem_or_eq_of_mem_set hx).elim (hnn x) fun z=>by rw [z];exact hr0),rfl⟩
 ·obtain ⟨sm,ms,c3,c4,c5,el,hl1,hl2,hl3,hl4,hnn,rfl⟩:=hh
  rw [List.length_map] at hl1
  exact ⟨_,rfl,q l ms H' sm el hl2 hl1 hnn⟩
theorem EN (F:Fun K "_law_column" "_law_column" Y44 f fd) (bl:Bl K mg yA yH yI yJ yK yG yN yO yP yQ yR yS yT yU yV yW yX yY yZ) (bG:Callee P w K mg base 1 "_law_mixed" ["cell", "k"] (J48 K)):aR P w K mg base CX0 2 f fd ["m", "most"] (J44 K):=by
 refine F.ok Z44 (fun vs H Q E h=>?_) (fun cdv A outer s H vs Q E hr h=>?_)
 ·obtain ⟨m,most,rfl,hm1,hm6,q⟩:=h
  rfl
 obtain ⟨m,most,rfl,hm1,hm6,q⟩:=h
 refine ⟨_,(aL (aM (i:=2) Z44.nd rfl (Or.inl rfl) (df bJ (ao aU (pv 0) ai) ai (aJ _)))
  (aL (aM (i:=3) Z44.nd rfl (Or.inl rfl) (ao fR (ao aU (ao aY (pv 0) ai) (ao o9 ai (ao ke ai ai))) (ao ke ai ai)))
  (aL (aQ (aG bJ (ao aU (pv 0) ai) ai (aJ _))
  (aj (aM (i:=3) Z44.nd rfl (Or.inl rfl) (ao fR ai (ao aU (ao aY (pv 0) ai) ai))))
  aD)
  (aL (aQ (bC (pv 2))
  (aj (aM (i:=3) Z44.nd rfl (Or.inl rfl) ai))
  aD)
  (aL (aM (i:=4) Z44.nd rfl (Or.inl rfl) (aX af))
  (ak (bM PassesOwn.never rfl (dJ rfl bl.range_ (aa (ao bE ai (ao aU (ao aY (pv 0) ai) (pv 1))) af)) (aK (i:=5) Z44.nd rfl (Or.inl rfl))
  (aL (aM (i:=0) Z44.nd rfl (Or.inl rfl) (aT bG hr rfl (aa (pv 0) (aa (ao bE ai (pv 5)) af))))
  (aL (aM (i:=6) Z44.nd rfl (Or.inl rfl) (aO aS (aX (aa ai (aa ai (aa (ao bE ai (ao aU (ao aY (pv 0) ai) ai)) (aa (ao bE ai (ao aU (ao aY (pv 0) ai) (ao ke ai ai))) af))))) (ao aU (pv 0) ai) (fun _ _=>rfl)))
  (aL (aQ (bC (pv 2))
  (aj (aM (i:=6) Z44.nd rfl (Or.inl rfl) (ao bE ai (ao aU (pv 0) ai))))
  aD)
  (ak (bx (mF PySem.F.plainAttrs_list PySem.F.slot_list_append PySem.F.type_list_append cb (pv 4) (aa (bB (aa (pv 3) (aa (ao fR (ao bE (pv 3) (pv 6)) ai) af))) af)))
  (aj (aM (i:=3) Z44.nd rfl (Or.inl rfl) (ao bE (pv 3) (pv 6)))))))))
  (aj (ay (aX (aa (pv 4) (aa (pv 2) (aa (ao aY (pv 0) ai) af)))))))))))),?_⟩
 have hmp:(0:Int) < most:=by omega
 refine ⟨fun σ' H'=>H'=H/\∃ w:Bool,σ'=[some (.int m),some (.int most),some (.bl w),none,none,none,none],⟨_,rfl,_,_,rfl,rfl,(by show (0:Int) < 3;decide),rfl,rfl,_,rfl⟩,?_⟩
 rintro σ1 H1 ⟨rfl,w_,rfl⟩
 have EO:(0:Int) < 2 * 10 ^ (59:Int).toNat:=by have:=p10 (59:Int).toNat;omega
 refine ⟨fun σ' H'=>H'=H1/\∃ a:Int,σ'=[some (.int m),some (.int most),some (.bl w_),some (.int a),none,none,none],⟨_,rfl,_,_,rfl,rfl,⟨by decide,by decide⟩,_,_,rfl,rfl,⟨by decide,by decide,by decide⟩,_,_,rfl,rfl,.inl ⟨by decide,by decide⟩,_,_,rfl,rfl,EO,_,_,rfl,rfl,⟨by decide,by decide,by decide⟩,_,_,rfl,rfl,rfl,_,rfl⟩,?_⟩
 rintro σ2 H2 ⟨rfl,a1,rfl⟩
 refine ⟨fun σ' H'=>H'=H2/\∃ a:Int,σ'=[some (.int m),some (.int most),some (.bl w_),some (.int a),none,none,none],⟨_,rfl,_,_,rfl,rfl,(by show (0:Int) < 3;decide),rfl,_,rfl,cc (fun _=>⟨_,rfl,_,_,rfl,rfl,⟨by decide,by decide⟩,_,_,rfl,rfl,(by show (0:Int) < 5;decide),_,_,rfl,rfl,rfl,_,rfl⟩) (fun _=>⟨rfl,_,rfl⟩)⟩,?_⟩
 rintro σ3 H3 ⟨rfl,a2,rfl⟩
 refine ⟨fun σ' H'=>H'=H3/\∃ a:Int,(w_=true->a=0)/\σ'=[some (.int m),some (.int most),some (.bl w_),some (.int a),none,none,none],⟨_,rfl,_,rfl,?_⟩,?_⟩
 ·cases w_ with
  | true=>exact bR ⟨rfl,0,(fun _=>rfl),rfl⟩
  | false=>exact bf ⟨rfl,a2,(fun h=>by cases h),rfl⟩
 rintro σ4 H4 ⟨rfl,a0,ha0,rfl⟩
 refine ⟨fun σ' H'=>av H4 H'/\∃ pl:Addr,H4 pl=none/\H' pl=some (.lst [])/\σ'=[some (.int m),some (.int most),some (.bl w_),some (.int a0),some (.ref pl),none,none],⟨(by show 0<=sizeLine;decide),fun l hl=>⟨ah hl _,l,hl,ae,rfl⟩⟩,?_⟩
 rintro σ5 H5 ⟨s5,pl,npl,epl,rfl⟩
 have n0:=Int.emod_nonneg (m / 3) (Int.ne_of_gt hmp)
 have n1:=Int.emod_lt_of_pos (m / 3) hmp
 refine ⟨_,rfl,_,_,rfl,rfl,⟨by decide,by decide⟩,_,rfl,_,_,rfl,rfl,hmp,_,_,rfl,rfl,_,rfl,(by show -(2 ^ 62)<=1+m / 3 % most;omega),(by show 1+m / 3 % most < 2 ^ 62;omega),oj (fun i σ H'=>av H4 H'/\∃ (m2 at_:Int) (c5 c6:Option V) (ys:List V) (ps:Prs),H' pl=some (.lst ys)/\PL H' ys ps/\ps.length=i/\Ch ps/\(∀ p,ps[ps.length - 1]?=some p->at_=p.2+1)/\(w_=true->(∀ p,ps[0]?=some p->p.1=0)/\(i=0->at_=0)/\at_<=3 * (i:Int)/\∀ (j:Nat) (p:Int × Int),ps[j]?=some p->p.2 < 3 * (i:Int))/\σ=[some (.int m2),some (.int most),some (.bl w_),some (.int at_),some (.ref pl),c5,c6]) ⟨s5,m,a0,_,_,[],[],epl,.nil,rfl,Ch.nil,(fun p e=>by simp at e),(fun hw=>⟨(fun p e=>by simp at e),(fun _=>ha0 hw),(by rw [ha0 hw];decide),(fun j p e=>by simp at e)⟩),rfl⟩ (fun i σ H' hi h=>?_) (fun σ H' h=>?_)⟩
 ·obtain ⟨sm,m2,at_,c5,c6,ys,ps,es,hp,hlen,hch,xG,hw,rfl⟩:=h
  have hi6:i < 6:=by omega
  refine ⟨fun σ' H6=>H6=H'/\∃ m3:Int,σ'=[some (.int m3),some (.int most),some (.bl w_),some (.int at_),some (.ref pl),some (.int (0+(i:Int))),c6],⟨_,rfl,_,rfl,_,_,rfl,rfl,_,_,rfl,(by show (0:Int)<=10+(0+(i:Int));omega),(by show (10:Int)+(0+(i:Int))<=100;omega),fun r _=>⟨rfl,r,rfl⟩⟩,?_⟩
  rintro σ6 H6 ⟨rfl,m3,rfl⟩
  refine ⟨fun σ' H7=>av H6 H7/\∃ wd_:Int,1<=wd_/\σ'=[some (.int m3),some (.int most),some (.bl w_),some (.int at_),some (.ref pl),some (.int (0+(i:Int))),some (.int wd_)],?_,?_⟩
  ·refine ⟨_,rfl,_,_,rfl,rfl,⟨by decide,by decide⟩,_,_,rfl,rfl,(by show (0:Int) < 9;decide),_,_,rfl,rfl,_,rfl,_,_,rfl,rfl,⟨by decide,by decide⟩,_,_,rfl,rfl,⟨by decide,by decide,by decide⟩,_,_,rfl,rfl,p10 _,_,_,rfl,rfl,(by show 4<=sizeLine;decide),fun p hp_=>?_⟩
   have h0:=Int.emod_nonneg m3 (show (4:Int) ≠ 0 by decide)
   have h1:=Int.emod_lt_of_pos m3 (show (0:Int) < 4 by decide)
   have b1:=Int.emod_nonneg (m3 / 4) (show (9:Int) ≠ 0 by decide)
   have b2:=Int.emod_nonneg (m3 / 4) (Int.ne_of_gt (p10 (58:Int).toNat))
   obtain ⟨v,hv,hv1⟩:∃ v:Int,atI [V.int 1,.int 2,.int (1+m3 / 4 % 9),.int (1+m3 / 4 % 10 ^ (58:Int).toNat)] (m3 % 4)=some (.int v)/\1<=v:=by
    generalize m3 % 4=k at h0 h1 ⊢
    generalize m3 / 4 % 9=x1 at b1 ⊢
    generalize m3 / 4 % 10 ^ (58:Int).toNat=x2 at b2 ⊢
    have:k=0\/k=1\/k=2\/k=3:=by omega
    rcases this with rfl | rfl | rfl | rfl
    ·exact ⟨_,rfl,by decide⟩
    ·exact ⟨_,rfl,by decide⟩
    ·exact ⟨_,rfl,by omega⟩
    ·exact ⟨_,rfl,by omega⟩
   exact ⟨_,rfl,_,_,rfl,rfl,(by show (0:Int) < 4;decide),p,_,_,_,rfl,rfl,SqL.of ae,hv,ah hp_ _,v,hv1,rfl⟩
  rintro σ7 H7 ⟨s7,v7,hv7,rfl⟩
  refine ⟨fun σ' H8=>H8=H7/\∃ v:Int,1<=v/\(w_=true->v<=3)/\σ'=[some (.int m3),some (.int most),some (.bl w_),some (.int at_),some (.ref pl),some (.int (0+(i:Int))),some (.int v)],⟨_,rfl,_,rfl,?_⟩,?_⟩
  ·have h0:=Int.emod_nonneg m3 (show (3:Int) ≠ 0 by decide)
   have h1:=Int.emod_lt_of_pos m3 (show (0:Int) < 3 by decide)
   cases w_ with
   | true=>exact bR ⟨_,rfl,_,_,rfl,rfl,(by show (0:Int) < 3;decide),_,_,rfl,rfl,rfl,_,by omega,fun _=>by omega,rfl⟩
   | false=>exact bf ⟨rfl,v7,hv7,(fun h=>by cases h),rfl⟩
  rintro σ8 H8 ⟨rfl,v,hv1,hv3,rfl⟩
  have es7:=s7 _ _ es
  refine ⟨_,rfl,.inl ⟨rfl,_,SqL.of es7⟩,_,rfl,_,rfl,_,rfl,_,_,rfl,rfl,_,_,rfl,rfl,bg,fun t ht=>?_⟩
  have x1:upd H8 t (.tup [.int at_,.int (at_+v - 1)]) pl=some (.lst ys):=dc es7 ht
  have hyl:ys.length=i:=by rw [hp.length,hlen]
  refine ⟨pl,_,_,rfl,rfl,x1,aH (by omega),?_⟩
  have st:fT H8 (upd (upd H8 t (.tup [.int at_,.int (at_+v - 1)])) pl (.lst (ys ++ [.ref t]))):=(oC ht).trans (dq x1)
  have atp:∀ (j:Nat) (p:Int × Int),(ps ++ [(at_,at_+v - 1)])[j]?=some p->ps[j]?=some p/\j < ps.length\/p=(at_,at_+v - 1)/\j=ps.length:=fun j p e=>by
   by_cases hj:j < ps.length
   ·rw [List.getElem?_append_left hj] at e;exact .inl ⟨e,hj⟩
   ·have:j=ps.length:=by have:=(List.getElem?_eq_some_iff.mp e).1;simp at this;omega
    subst this;simp at e;exact .inr ⟨e.symm,rfl⟩
  refine ⟨_,rfl,_,rfl,_,_,rfl,rfl,((sm.trans s7).trans (ah ht _)).upd npl,m3,_,_,_,ys ++ [.ref t],ps ++ [(at_,at_+v - 1)],ae,((hp.mono s7.tups).mono st).snoc (dq x1 _ _ ae),by simp [hlen],hch.snoc (by omega) xG,?_,fun hw'=>?_,rfl⟩
  ·intro p e
   rw [List.length_append,List.length_singleton,Nat.add_sub_cancel] at e
   simp at e
   subst e
   show at_+v=at_+v - 1+1
   omega
  ·obtain ⟨w1,w2,w3,w4⟩:=hw hw'
   have v3:=hv3 hw'
   refine ⟨fun p e=>?_,fun h=>by omega,by omega,fun j p e=>?_⟩
   ·rcases atp 0 p e with ⟨e,_⟩ | ⟨rfl,hz⟩
    ·exact w1 p e
    ·exact w2 (by omega)
   ·rcases atp j p e with ⟨e,_⟩ | ⟨rfl,hz⟩
    ·have:=w4 j p e;omega
    ·show at_+v - 1 < _
     omega
 ·obtain ⟨sm,m2,at_,c5,c6,ys,ps,es,hp,hlen,hch,xG,hw,rfl⟩:=h
  have hn1:1<=(1+m / 3 % most).toNat/\(1+m / 3 % most).toNat<=6:=by omega
  refine ⟨_,rfl,_,rfl,_,rfl,_,_,rfl,rfl,⟨by decide,by decide⟩,(by show 3<=sizeLine;decide),fun l hl=>q l ⟨ps,w_,m2 / 8⟩ _ (sm.trans (ah hl _)) ⟨pl,ys,sm.free hl,npl,ae,dc es hl,hp.mono (ah hl _).tups⟩ ⟨by show 1<=ps.length;omega,by show ps.length<=6;omega,hch,fun h=>(hw h).1,fun h j p e=>?_⟩⟩
  have:=(hw h).2.2.2 j p e
  omega
theorem ER (F:Fun K "_law_bit_row" "_law_bit_row" Y40 f fd) (bl:Bl K mg yA yH yI yJ yK yG yN yO yP yQ yR yS yT yU yV yW yX yY yZ) (bG:Callee P w K mg base 1 "_law_mixed" ["cell", "k"] (J48 K)):aR P w K mg base CX0 2 f fd ["m", "columns", "out", "last"] (J40 K):=by
 refine F.ok Z40 (fun vs H Q E h=>?_) (fun cdv A outer s H vs Q E hr h=>?_)
 ·obtain ⟨m,cl,ol,la,xs,cs,oc,rfl,hcl,hcs,hok,h1,h4,⟨opl,ots,_,_,eol,uf,hop⟩,ook,hm0,hla,q⟩:=h
  rfl
 obtain ⟨m,cl,ol,la,xs,cs,oc,rfl,hcl,hcs,hok,h1,h4,⟨opl,ots,_,_,eol,uf,hop⟩,ook,hm0,hla,q⟩:=h
 refine ⟨_,(aL (aM (i:=4) Z40.nd rfl (Or.inl rfl) (aX af))
  (ak (aM (i:=5) Z40.nd rfl (Or.inl rfl) (pv 0))
  (aL (bM PassesOwn.never rfl (lR rfl bl.enumerate_ (aa (pv 1) af)) (dz rfl (aN (aK (i:=6) Z40.nd rfl (Or.inl rfl)) (aN (aK (i:=7) Z40.nd rfl (Or.inl rfl)) bD)))
  (aL (aM (i:=0) Z40.nd rfl (Or.inl rfl) (aT bG hr rfl (aa (pv 0) (aa (ao bE ai (pv 6)) af))))
  (aL (aM (i:=8) Z40.nd rfl (Or.inl rfl) (ao fR (ao rm ai (aw aE rfl bl.len_ PySem.boot_len (aa (aO aS (pv 7) ai (fun _ _=>rfl)) af))) ai))
  (aj (bx (mF PySem.F.plainAttrs_list PySem.F.slot_list_append PySem.F.type_list_append cb (pv 4) (aa (aO aS (aX (aa (ao aU (ao aY (pv 0) ai) (ao bE (pv 8) ai)) (aa (ao aU (ao aY (pv 0) ai) (ao bE (pv 8) ai)) (aa (pv 8) (aa (ao aU (ao aY (pv 0) ai) (pv 8)) af))))) (ao aU (pv 0) ai) (fun _ _=>rfl)) af)))))))
  (aL (aM (i:=9) Z40.nd rfl (Or.inl rfl) (aO bI (aO aS (aO aS (pv 2) ai (fun _ _=>rfl)) (ao aU (ao aY (pv 0) ai) (aw aE rfl bl.len_ PySem.boot_len (aa (aO aS (pv 2) ai (fun _ _=>rfl)) af))) (fun _ _=>rfl)) (ao aU (ao aY (pv 0) ai) ai) (fun _ _=>rfl)))
  (aL (aQ (PW.pt (fA (aG jv (aw aE rfl bl.len_ PySem.boot_len (aa (pv 3) af)) ai (aJ _)) (dG (aG bJ (ao aU (pv 5) ai) ai (aJ _)))))
  (aL (aM (i:=10) Z40.nd rfl (Or.inl rfl) (ao aU (ao aY (pv 5) ai) (aw aE rfl bl.len_ PySem.boot_len (aa (pv 1) af))))
  (ak (aM (i:=4) Z40.nd rfl (Or.inl rfl) (ao dA (ao dA (bQ ck (aO bI (pv 3) ai (fun _ _=>rfl)) cg (cj (pv 10))) (aX (aa (aO aS (pv 4) (pv 10) (fun _ _=>rfl)) af))) (bQ ck (aO bI (pv 3) ai (fun _ _=>rfl)) (cj (ao bE (pv 10) ai)) cg)))
  (aj (aQ (aG jv (ao aU (ao aY (pv 5) ai) ai) ai (aJ _))
  (aj (aM (i:=9) Z40.nd rfl (Or.inl rfl) (aO bI (pv 3) ai (fun _ _=>rfl))))
  aD))))
  aD)
  (aj (ay (bB (aa (pv 4) (aa (pv 9) af)))))))))),?_⟩
 have hxl:xs.length=cs.length:=hcs.1
 refine ⟨fun σ' H'=>av H H'/\∃ bl:Addr,H bl=none/\H' bl=some (.lst (vN []))/\σ'=[some (.int m),some (.ref cl),some (.ref ol),some (.ref la),some (.ref bl),none,none,none,none,none,none],⟨(by show 0<=sizeLine;decide),fun l hl=>⟨ah hl _,l,hl,ae,rfl⟩⟩,?_⟩
 rintro σ1 H1 ⟨s1,bl,nbl,ebl,rfl⟩
 refine ⟨_,rfl,fun σ' H'=>av H H'/\∃ (m2:Int) (bs:List Nat) (c6 c7 c8:Option V),0<=m2/\H' bl=some (.lst (vN bs))/\bs.length=cs.length/\(∀ (j b:Nat) (c:Col),bs[j]?=some b->cs[j]?=some c->b < 2 ^ c.prs.length)/\σ'=[some (.int m2),some (.ref cl),some (.ref ol),some (.ref la),some (.ref bl),some (.int m),c6,c7,c8,none,none],?_,?_⟩
 ·refine ⟨_,rfl,cl,rfl,⟨_,SqL.of (s1 _ _ hcl)⟩,mT (xs:=xs) (fun i σ H'=>av H H'/\∃ (m2:Int) (bs:List Nat) (c6 c7 c8:Option V),0<=m2/\H' bl=some (.lst (vN bs))/\bs.length=i/\(∀ (j b:Nat) (c:Col),bs[j]?=some b->cs[j]?=some c->b < 2 ^ c.prs.length)/\σ=[some (.int m2),some (.ref cl),some (.ref ol),some (.ref la),some (.ref bl),some (.int m),c6,c7,c8,none,none]) ⟨s1,m,[],_,_,_,hm0,ebl,rfl,(fun j b c e=>by simp at e),rfl⟩ (fun i σ H' hh=>SqL.of (hh.1 _ _ hcl)) (fun i y σ H' T ey hh hT=>?_) (fun σ H' hh=>by rw [hxl] at hh;exact hh)⟩
  obtain ⟨sm,m2,bs,c6,c7,c8,hm2,eb,hlen,hlt,rfl⟩:=hh
  obtain ⟨l,c,rfl,ec,pl,ts,_,_,el,epl,hp⟩:=az.get hcs ey
  have hi:i < xs.length:=(List.getElem?_eq_some_iff.mp ey).1
  have ok:=hok c (List.mem_of_getElem? ec)
  have k1:=ok.some_
  have k6:=ok.few
  have s2:=sm.trans (ah hT (.tup [.int (i:Int),.ref l]))
  have eT:upd H' T (.tup [.int (i:Int),.ref l]) T=some (.tup [.int (i:Int),.ref l]):=ae
  have eb2:upd H' T (.tup [.int (i:Int),.ref l]) bl=some (.lst (vN bs)):=dc eb hT
  generalize upd H' T (.tup [.int (i:Int),.ref l])=H2 at s2 eT eb2 ⊢
  refine ⟨T,_,rfl,SqT.of eT,rfl,_,_,rfl,_,_,rfl,rfl,?_⟩
  refine ⟨fun σ' H3=>H3=H2/\∃ m3:Int,0<=m3/\σ'=[some (.int m3),some (.ref cl),some (.ref ol),some (.ref la),some (.ref bl),some (.int m),some (.int (i:Int)),some (.ref l),c8,none,none],⟨_,rfl,_,rfl,_,_,rfl,rfl,_,_,rfl,(by show (0:Int)<=20+(i:Int);omega),(by show (20:Int)+(i:Int)<=100;omega),fun r hr0=>⟨rfl,r,hr0,rfl⟩⟩,?_⟩
  rintro σ3 H3 ⟨rfl,m3,hm3,rfl⟩
  have htl:=hp.length
  refine ⟨fun σ' H4=>H4=H3/\σ'=[some (.int m3),some (.ref cl),some (.ref ol),some (.ref la),some (.ref bl),some (.int m),some (.int (i:Int)),some (.ref l),some (.int (((2 ^ c.prs.length:Nat):Int) - 1)),none,none],?_,?_⟩
  ·refine ⟨_,rfl,l,_,_,_,rfl,rfl,SqL.of (s2 _ _ el),rfl,pl,_,rfl,.inl (SqL.of (s2 _ _ epl)),_,_,rfl,rfl,⟨by omega,by omega,by decide⟩,_,_,rfl,rfl,rfl,?_⟩
   rw [htl,Int.toNat_natCast]
   simp
  rintro σ4 H4 ⟨rfl,rfl⟩
  have he:(0:Int) < ((2 ^ c.prs.length:Nat):Int) - 1:=by
   have:=Nat.pow_le_pow_right (show 0 < 2 by decide) k1
   rw [Nat.pow_one] at this
   generalize 2 ^ c.prs.length=W at this ⊢
   omega
  have hv0:0<=m3 / 8:=Int.ediv_nonneg hm3 (by decide)
  obtain ⟨b,hb,hbe⟩:=four he hv0 (m:=m3)
  refine ⟨_,rfl,.inl ⟨rfl,_,SqL.of eb2⟩,_,rfl,_,_,rfl,rfl,⟨by decide,by decide⟩,_,rfl,_,_,rfl,rfl,_,_,rfl,rfl,(by omega),_,rfl,_,_,rfl,rfl,⟨by decide,by decide⟩,_,rfl,_,_,rfl,rfl,_,_,rfl,rfl,(by omega),_,rfl,_,rfl,_,_,rfl,rfl,⟨by decide,by decide⟩,_,rfl,_,_,rfl,rfl,he,(by show 4<=sizeLine;decide),fun p hp_=>?_⟩
  refine ⟨_,rfl,_,_,rfl,rfl,(by show (0:Int) < 4;decide),p,_,_,_,rfl,rfl,SqL.of ae,hb,bl,_,_,rfl,rfl,dc eb2 hp_,aH (by rw [dC];omega),?_⟩
  refine ⟨(s2.trans (ah hp_ _)).upd nbl,m3,bs ++ [b],_,_,_,hm3,by rw [ae,← pK];rfl,by simp [hlen],fun j b' c' e1 e2=>?_,rfl⟩
  by_cases hj:j < bs.length
  ·rw [List.getElem?_append_left hj] at e1
   exact hlt j b' c' e1 e2
  ·have hj2:j=bs.length:=by have:=(List.getElem?_eq_some_iff.mp e1).1;simp at this;omega
   subst hj2
   simp at e1
   subst e1
   rw [hlen,ec] at e2
   cases e2
   generalize 2 ^ c.prs.length=W at hbe ⊢
   omega
 rintro σ5 H5 ⟨s5,m5,bs,c6,c7,c8,hm5,eb,hlen,hlt,rfl⟩
 have QU:=hop.length
 have o1:=ook.some_
 have zp:(0:Int) < ((ots.length:Nat):Int):=by omega
 refine ⟨fun σ' H'=>H'=H5/\∃ cd:Int,oc.lo<=cd/\cd<=oc.hi/\σ'=[some (.int m5),some (.ref cl),some (.ref ol),some (.ref la),some (.ref bl),some (.int m),c6,c7,c8,some (.int cd),none],?_,?_⟩
 ·obtain ⟨rp,p,e1,e2,e3⟩:=xE hop (Int.emod_nonneg (m5 / 9) (Int.ne_of_gt zp)) (Int.emod_lt_of_pos (m5 / 9) zp)
  obtain ⟨x,ex,hx⟩:=Be (p:=p) (m:=m5 / 7)
  have hin:=ook.inn e2
  have hle:=ook.ch.le _ _ e2
  refine ⟨_,rfl,ol,_,_,_,rfl,rfl,SqL.of (s5 _ _ eol),rfl,_,rfl,_,_,rfl,rfl,⟨by decide,by decide⟩,_,rfl,ol,_,_,_,rfl,rfl,SqL.of (s5 _ _ eol),rfl,opl,_,rfl,.inl (SqL.of (s5 _ _ uf)),_,_,rfl,rfl,zp,opl,_,_,_,rfl,rfl,SqL.of (s5 _ _ uf),e1,_,rfl,_,_,rfl,rfl,⟨by decide,by decide⟩,_,_,rfl,rfl,(by show (0:Int) < 2;decide),rp,_,_,_,rfl,rfl,SqT.of (s5 _ _ e3),ex,rfl,x,?_,?_,rfl⟩
  ·rcases hx with rfl | rfl <;> omega
  ·rcases hx with rfl | rfl <;> omega
 rintro σ6 H6 ⟨rfl,cd,cd0,cd1,rfl⟩
 refine ⟨fun σ' H'=>av H H'/\∃ (bl2:Addr) (w:BW) (c10:Option V),H bl2=none/\H' bl2=some (.lst (vN w.1))/\du cs oc w/\σ'=[some (.int m5),some (.ref cl),some (.ref ol),some (.ref la),some (.ref bl2),some (.int m),c6,c7,c8,some (.int w.2),c10],?_,?_⟩
 ·have plain:av H H6/\∃ (bl2:Addr) (w:BW) (c10:Option V),H bl2=none/\H6 bl2=some (.lst (vN w.1))/\du cs oc w/\([some (.int m5),some (.ref cl),some (.ref ol),some (.ref la),some (.ref bl),some (.int m),c6,c7,c8,some (.int cd),none]:St)=[some (.int m5),some (.ref cl),some (.ref ol),some (.ref la),some (.ref bl2),some (.int m),c6,c7,c8,some (.int w.2),c10]:=⟨s5,bl,(bs,cd),none,nbl,eb,⟨hlen,hlt,cd0,cd1⟩,rfl⟩
  rcases hla with hla | ⟨w0,⟨bl0,f1,_,f2⟩,ok0⟩
  ·exact ⟨_,rfl,la,_,rfl,.inl (SqL.of (s5 _ _ hla)),_,_,rfl,rfl,_,rfl,bL (by simp) (bf plain)⟩
  ·have f1':=s5 _ _ f1
   have f2':=s5 _ _ f2
   refine ⟨_,rfl,la,_,rfl,.inr (SqT.of f1'),_,_,rfl,rfl,_,rfl,dD (by simp) ?_⟩
   refine ⟨_,rfl,_,_,rfl,rfl,(by show (0:Int) < 2;decide),rfl,_,rfl,cc (fun _=>?_) (fun _=>plain)⟩
   have hxp:(0:Int) < ((xs.length:Nat):Int):=by omega
   have a0:=Int.emod_nonneg (m / 2) (Int.ne_of_gt hxp)
   have a1:=Int.emod_lt_of_pos (m / 2) hxp
   refine ⟨fun σ' H'=>H'=H6/\∃ k:Nat,k < cs.length/\σ'=[some (.int m5),some (.ref cl),some (.ref ol),some (.ref la),some (.ref bl),some (.int m),c6,c7,c8,some (.int cd),some (.int (k:Int))],⟨_,rfl,_,_,rfl,rfl,⟨by decide,by decide⟩,_,rfl,cl,_,rfl,.inl (SqL.of (s5 _ _ hcl)),_,_,rfl,rfl,hxp,rfl,(m / 2 % ((xs.length:Nat):Int)).toNat,by omega,by rw [Int.toNat_of_nonneg a0];rfl⟩,?_⟩
   rintro σ7 H7 ⟨rfl,k,hk,rfl⟩
   obtain ⟨b,ebk⟩:∃ b,bs[k]?=some b:=⟨_,List.getElem?_eq_getElem (by omega)⟩
   refine ⟨_,rfl,la,_,_,_,rfl,rfl,SqT.of f1',rfl,_,rfl,_,rfl,bl0,_,rfl,SqL.of f2',fun c1 hc1=>?_⟩
   rw [dI,wO]
   have t1:=ah hc1 (.lst (vN (w0.1.take k)))
   have g1:upd H7 c1 (.lst (vN (w0.1.take k))) c1=some (.lst (vN (w0.1.take k))):=ae
   generalize upd H7 c1 (.lst (vN (w0.1.take k)))=H8 at t1 g1 ⊢
   refine ⟨_,rfl,_,rfl,bl,_,_,_,rfl,rfl,SqL.of (t1 _ _ eb),bS (Bc ebk),(by show 1<=sizeLine;decide),fun c2 hc2=>?_⟩
   have t2:=ah hc2 (.lst (vN [b]))
   have g2:upd H8 c2 (.lst (vN [b])) c2=some (.lst (vN [b])):=ae
   have ee:upd H8 c2 (.lst [V.int (b:Int)])=upd H8 c2 (.lst (vN [b])):=rfl
   rw [ee]
   clear ee
   generalize upd H8 c2 (.lst (vN [b]))=H9 at t2 g2 ⊢
   have lw:=ok0.len
   refine ⟨c1,c2,_,_,rfl,rfl,t2 _ _ g1,g2,Nat.le_of_lt (aH (by rw [dC,dC,List.length_take];simp;omega)),fun c3 hc3=>?_⟩
   rw [pK]
   have t3:=ah hc3 (.lst (vN (w0.1.take k ++ [b])))
   have g3:upd H9 c3 (.lst (vN (w0.1.take k ++ [b]))) c3=some (.lst (vN (w0.1.take k ++ [b]))):=ae
   generalize upd H9 c3 (.lst (vN (w0.1.take k ++ [b])))=H10 at t3 g3 ⊢
   have t10:=(t1.trans t2).trans t3
   refine ⟨_,rfl,la,_,_,_,rfl,rfl,SqT.of (t10 _ _ f1'),rfl,_,rfl,_,_,rfl,rfl,_,rfl,bl0,_,rfl,SqL.of (t10 _ _ f2'),fun c4 hc4=>?_⟩
   rw [show ((k:Int)+1)=((k+1:Nat):Int) by omega,lU,wQ]
   have t4:=ah hc4 (.lst (vN (w0.1.drop (k+1))))
   have g4:upd H10 c4 (.lst (vN (w0.1.drop (k+1)))) c4=some (.lst (vN (w0.1.drop (k+1)))):=ae
   generalize upd H10 c4 (.lst (vN (w0.1.drop (k+1))))=H11 at t4 g4 ⊢
   refine ⟨c3,c4,_,_,rfl,rfl,t4 _ _ g3,g4,Nat.le_of_lt (aH (by rw [dC,dC,List.length_append,List.length_take,List.length_drop];simp;omega)),fun c5 hc5=>?_⟩
   rw [pK,zh (by omega)]
   have t5:=ah hc5 (.lst (vN (w0.1.set k b)))
   have g5:upd H11 c5 (.lst (vN (w0.1.set k b))) c5=some (.lst (vN (w0.1.set k b))):=ae
   have n5:H c5=none:=((s5.trans t10).trans t4).free hc5
   generalize upd H11 c5 (.lst (vN (w0.1.set k b)))=H12 at t5 g5 ⊢
   have sA:=((s5.trans t10).trans t4).trans t5
   have okb:∀ x:Int,oc.lo<=x->x<=oc.hi->du cs oc (w0.1.set k b,x):=fun x x0 x1=>⟨by rw [List.length_set];exact lw,fun j b' c' e1 e2=>by
    have e3:(w0.1.set k b)[j]?=some b':=e1
    rw [List.getElem?_set] at e3
    by_cases hkj:k=j
    ·rw [if_pos hkj,if_pos (by omega)] at e3
     cases e3
     subst hkj
     exact hlt _ _ _ ebk e2
    ·rw [if_neg hkj] at e3
     exact ok0.lt j b' c' e3 e2,x0,x1⟩
   refine ⟨_,rfl,_,_,rfl,rfl,⟨by decide,by decide⟩,_,_,rfl,rfl,(by show (0:Int) < 4;decide),_,_,rfl,rfl,_,rfl,cc (fun _=>?_) (fun _=>?_)⟩
   ·exact ⟨_,rfl,la,_,_,_,rfl,rfl,SqT.of (sA _ _ f1),rfl,sA,c5,(w0.1.set k b,w0.2),_,n5,g5,okb _ ok0.lo ok0.hi,rfl⟩
   ·exact ⟨sA,c5,(w0.1.set k b,cd),_,n5,g5,okb _ cd0 cd1,rfl⟩
 rintro σ7 H7 ⟨s7,bl2,w_,c10,n2,e2,okw,rfl⟩
 exact ⟨_,rfl,_,rfl,bg,fun r hr_=>q r w_ _ (s7.trans (ah hr_ _)) ⟨bl2,ae,n2,dc e2 hr_⟩ okw⟩
theorem ES (F:Fun K "_law_rows" "_law_rows" Y52 f fd) (bl:Bl K mg yA yH yI yJ yK yG yN yO yP yQ yR yS yT yU yV yW yX yY yZ) (pQ:Callee P w K mg base 1 "_law_spans" ["pairs", "bits"] (J55 K)):aR P w K mg base CX0 2 f fd ["bit_rows", "columns"] (J52 K):=by
 refine F.ok Z52 (fun vs H Q E h=>?_) (fun cdv A outer s H vs Q E hr h=>?_)
 ·obtain ⟨l0,cl,zs0,xs,ws0,cs,rfl,hl0,hz0,gk,hcl,hcs,hok,h4,hlw,q⟩:=h
  rfl
 obtain ⟨l0,cl,zs0,xs,ws0,cs,rfl,hl0,hz0,gk,hcl,hcs,hok,h4,hlw,q⟩:=h
 refine ⟨_,(ak (aM (i:=2) Z52.nd rfl (Or.inl rfl) (aX af))
  (ak (bM PassesOwn.never rfl (bq (pv 0)) (dz rfl (aN (aK (i:=3) Z52.nd rfl (Or.inl rfl)) (aN (aK (i:=4) Z52.nd rfl (Or.inl rfl)) bD)))
  (aj (bx (mF PySem.F.plainAttrs_list PySem.F.slot_list_append PySem.F.type_list_append cb (pv 2) (aa (bB (aa (fW (iD rfl bl.zip_ (aa (pv 1) (aa (pv 3) af))) (dh (N:=["column", "bit"]) (k:=2) rfl rfl (by decide +kernel) (by decide +kernel) (by decide +kernel)) rfl (fun _ _ _ _=>(lC (K:=K) (n:=2) rfl rfl (aN (aK (i:=0) (show (["column", "bit"]:List Str).Nodup by decide +kernel) rfl (Or.inl rfl) (Or.inr rfl)) (aN (aK (i:=1) (show (["column", "bit"]:List Str).Nodup by decide +kernel) rfl (Or.inl rfl) (Or.inr rfl)) bD)))) (fun _ _ _ _=>bX) (fun _ _ _ _=>(aT pQ hr rfl (aa (aO (dr (K:=K) rfl) (pv 0) ai (fun _ _=>rfl)) (aa (pv 1) af))))) (aa (pv 4) af))) af)))))
  (aj (ay (pv 2))))),?_⟩
 have hxl:xs.length=cs.length:=hcs.1
 refine ⟨(by show 0<=sizeLine;decide),fun l hl=>?_⟩
 have s0:av H (upd H l (.lst [])):=ah hl _
 have e0:upd H l (.lst []) l=some (.lst []):=ae
 generalize upd H l (.lst [])=H0 at s0 e0 ⊢
 refine ⟨_,rfl,l0,rfl,⟨_,SqL.of (s0 _ _ hl0)⟩,bY (xs:=zs0) (fun i σ H'=>av H H'/\∃ (zs:List V) (rws:List Rw) (c3 c4:Option V),H' l=some (.lst zs)/\RL (Fr H l) H' zs rws/\cq cs (ws0.take i) rws/\σ=[some (.ref l0),some (.ref cl),some (.ref l),c3,c4]) ⟨s0,[],[],_,_,e0,az.nil,cq.nil,rfl⟩ (fun i σ H' _ h=>SqL.of (h.1 _ _ hl0)) (fun i y σ H' ey hh=>?_) (fun σ H' hh=>?_)⟩
 ·obtain ⟨sm,zs,rws,c3,c4,el,hz,hof,rfl⟩:=hh
  obtain ⟨r,w0,rfl,ew,bl0,f1,_,f2⟩:=az.get (hz0.same sm) ey
  have hi:i < ws0.length:=(List.getElem?_eq_some_iff.mp ew).1
  have lw:=hlw w0 (List.mem_of_getElem? ew)
  have pP:min xs.length (vN w0.1).length=cs.length:=by rw [dC];omega
  refine ⟨r,_,rfl,SqT.of f1,rfl,_,_,rfl,_,_,rfl,rfl,?_⟩
  refine ⟨_,rfl,.inl ⟨rfl,_,SqL.of el⟩,_,rfl,_,rfl,cl,bl0,rfl,⟨_,SqL.of (sm _ _ hcl)⟩,⟨_,SqL.of f2⟩,kn (xs:=xs) (ys:=vN w0.1) (fun D i ys H2=>av H' H2/\H2 D=some (.lst ys)/\∃ pss:List Prs,CL (Fr H' D) H2 ys pss/\pss.length=i/\∀ (j:Nat) (ps:Prs) (c:Col) (b:Nat),pss[j]?=some ps->cs[j]?=some c->w0.1[j]?=some b->dZ c.prs b c.prs.length ps/\ps=mrg c.prs b c.prs.length)
   (fun D hD=>⟨ah hD _,ae,[],az.nil,rfl,(fun j ps c b e=>by simp at e)⟩) (fun D i ys H2 hD _ h=>⟨SqL.of (h.1 _ _ (sm _ _ hcl)),SqL.of (h.1 _ _ f2)⟩) (fun D j x y ys H2 T hD ex ey2 h hT ts hts=>?_) (fun D ys H2 hD h=>?_)⟩
  ·obtain ⟨s2,eD,pss,hy,hlen,hsp⟩:=h
   obtain ⟨lc,c,rfl,ec,pl,tp_,_,_,g1,g2,g3⟩:=az.get ((hcs.same sm).same s2) ex
   obtain ⟨b,rfl,eb⟩:=mZ ey2
   have ok:=hok c (List.mem_of_getElem? ec)
   obtain ⟨t0,t1,rfl⟩:∃ t0 t1,ts=[t0,t1]:=by
    match ts,hts with
    | [t0,t1],_=>exact ⟨t0,t1,rfl⟩
   have s3:=ah hT (.tup [.ref lc,.int (b:Int)])
   have eT:upd H2 T (.tup [.ref lc,.int (b:Int)]) T=some (.tup [.ref lc,.int (b:Int)]):=ae
   generalize upd H2 T (.tup [.ref lc,.int (b:Int)])=H3 at s3 eT ⊢
   refine ⟨T,_,rfl,SqT.of eT,rfl,_,_,rfl,_,_,rfl,rfl,⟨[some (.ref lc),some (.int (b:Int))],rfl,rfl⟩,?_⟩
   refine ⟨_,rfl,lc,_,_,_,rfl,rfl,SqL.of (s3 _ _ g1),rfl,_,rfl,pl,tp_,c.prs,b,rfl,s3 _ _ g2,g3.mono s3.tups,ok.ch,ok.few,fun l2 ps H4 s4 Bm Bo Bp=>?_⟩
   have hj:j < min xs.length (vN w0.1).length:=by
    have:=(List.getElem?_eq_some_iff.mp ex).1
    rw [pP,← hxl];exact this
   have eD4:=s4 _ _ (s3 _ _ eD)
   have n4:H3 l2=none:=Bm.1
   have nD:l2 ≠ D:=fun z=>by rw [z,s3 _ _ eD] at n4;cases n4
   have n2:H' l2=none:=s2.free (s3.free n4)
   have ET:CL (Fr H' D) H4 (ys ++ [.ref l2]) (pss ++ [ps]):=az.snoc (hy.same (s3.trans s4)) ⟨⟨n2,nD⟩,Bm.2⟩
   refine dB.mk hj eD4 (aH (by rw [hy.1];omega)) ⟨((s2.trans s3).trans s4).upd hD,ae,pss ++ [ps],ET.updN Fr.out eD4,by simp [hlen],fun j' ps' c' b' e1 e2 e3=>?_⟩
   by_cases hj' : j' < pss.length
   ·rw [List.getElem?_append_left hj'] at e1
    exact hsp j' ps' c' b' e1 e2 e3
   ·have hj2:j'=pss.length:=by have:=(List.getElem?_eq_some_iff.mp e1).1;simp at this;omega
    subst hj2
    simp at e1
    subst e1
    rw [hlen] at e2 e3
    rw [ec] at e2
    rw [eb] at e3
    cases e2;cases e3
    exact ⟨Bo,Bp⟩
  ·obtain ⟨s2,eD,pss,hy,hlen,hsp⟩:=h
   rw [pP] at hlen
   have nDl:D ≠ l:=fun z=>by rw [z,el] at hD;cases hD
   refine ⟨_,rfl,bg,fun t ht=>?_⟩
   have t4:=ah ht (.tup [.ref D,.int w0.2])
   have el4:=t4 _ _ (s2 _ _ el)
   have gR:fe (Fr H l) (upd H2 t (.tup [.ref D,.int w0.2])) t (pss,w0.2):=⟨D,ys,ae,⟨sm.free hD,nDl⟩,t4 _ _ eD,(hy.same t4).wk fun a ha=>⟨sm.free ha.1,fun z=>by have hh:=ha.1;rw [z,el] at hh;cases hh⟩⟩
   refine ⟨l,_,_,rfl,rfl,el4,aH (by rw [hz.1,hof.1,List.length_take];omega),?_⟩
   have hz2:RL (Fr H l) (upd H2 t (.tup [.ref D,.int w0.2])) (zs ++ [.ref t]) (rws ++ [(pss,w0.2)]):=az.snoc (hz.same (s2.trans t4)) gR
   refine ⟨((sm.trans s2).trans t4).upd hl,zs ++ [.ref t],rws ++ [(pss,w0.2)],_,_,ae,hz2.updN Fr.out el4,?_,rfl⟩
   rw [take_snoc ew]
   exact hof.snoc ⟨rfl,hlen,fun j ps c b e1 e2 e3=>(hsp j ps c b e1 e2 e3).1,fun j ps c b e1 e2 e3=>(hsp j ps c b e1 e2 e3).2⟩
 ·obtain ⟨sm,zs,rws,c3,c4,el,hz,hof,rfl⟩:=hh
  rw [hz0.1,List.take_length] at hof
  exact ⟨_,rfl,q l zs rws H' sm el (az.mono hz fun _ _ p=>p.wk fun a h=>h.1) hof⟩
theorem EU (F:Fun K "_law_due" "_law_due" Y46 f fd) (bl:Bl K mg yA yH yI yJ yK yG yN yO yP yQ yR yS yT yU yV yW yX yY yZ) (rX:Callee P w K mg base 1 "_law_fit" ["bit_row", "point"] (J47 K)):aR P w K mg base CX0 2 f fd ["way", "bit_rows", "out", "point"] (J46 K):=by
 refine F.ok Z46 (fun vs H Q E h=>?_) (fun cdv A outer s H vs Q E hr h=>?_)
 ·obtain ⟨wy,i,bl_,ol,pl,zs,ws,oc,p,rfl,hi6,hbl,hz,gk,⟨opl,ots,_,_,eol,uf,hop⟩,ook,hpl,hwl,ue,q⟩:=h
  rfl
 obtain ⟨wy,i,bl_,ol,pl,zs,ws,oc,p,rfl,hi6,hbl,hz,gk,⟨opl,ots,_,_,eol,uf,hop⟩,ook,hpl,hwl,ue,q⟩:=h
 refine ⟨_,(aL (gC (i:=4) Z46.nd rfl (Or.inl rfl) (bq (pv 1)) (cY (N:=["row", "point"]) (fr:=[3]) (cl:=[("point",s.heap.objs.size+1)]) rfl rfl (by decide +kernel) (by decide +kernel) rfl (by decide +kernel) rfl rfl rfl (List.forall_mem_cons.mpr ⟨rfl,List.forall_mem_nil _⟩) rfl) rfl (fun _ _ _ _=>(pA (bC (aT rX hr rfl (aa (pv 0) (aa (pv 1) af)))))) (fun _ _ _ _=>(aO (pw (K:=K) rfl) (pv 0) ai (fun _ _=>rfl))))
  (ak (aQ (aG bJ (aw aE rfl bl.len_ PySem.boot_len (aa (pv 4) af)) ai (aJ _))
  (aj (ay (bB (aa aI (aa ai af)))))
  aD)
  (ak (aQ (PW.pt (eE (PW.pt (fA (aG bJ (pv 0) aI (aJ _)) (dG (aG jv (aw aE rfl bl.len_ PySem.boot_len (aa (pv 4) af)) ai (aJ _))))) (dP (PW.pt (fA (aG bJ (pv 0) aI (aJ _)) (dG (aG fL (aw (eP rfl) rfl bl.min_ PyProof.Rows.boot_min (aa (pv 4) af)) (aw (eQ rfl) rfl bl.max_ PyProof.Rows.boot_max (aa (pv 4) af)) (aJ _))))))))
  (aj (ay (bB (aa aI (aa ai af)))))
  aD)
  (ak (aQ (aG bJ (pv 0) aI (aJ _))
  (aj (ay (bB (aa aI (aa (aw (eP rfl) rfl bl.min_ PyProof.Rows.boot_min (aa (pv 4) af)) af)))))
  aD)
  (ak (aQ (aG bJ (pv 0) aI (aJ _))
  (aj (ay (bB (aa aI (aa (aw (eQ rfl) rfl bl.max_ PyProof.Rows.boot_max (aa (pv 4) af)) af)))))
  aD)
  (ak (aQ (aG bJ (pv 0) aI (aJ _))
  (aj (ay (bB (aa aI (aa (aw (oo rfl) rfl bl.max_ PyProof.Rows.boot_max (aa (aO bI (aO aS (aO aS (pv 2) ai (fun _ _=>rfl)) ai (fun _ _=>rfl)) ai (fun _ _=>rfl)) (aa (aw (oq rfl) rfl bl.min_ PyProof.Rows.boot_min (aa (aO bI (aO aS (aO aS (pv 2) ai (fun _ _=>rfl)) (qG mx ai) (fun _ _=>rfl)) ai (fun _ _=>rfl)) (aa (aw (eL rfl) rfl bl.sum_ PyProof.Rows.boot_sum (aa (pv 4) af)) af))) af))) af)))))
  aD)
  (aj (ay (bB (aa aI (aa (aO aS (pv 4) ai (fun _ _=>rfl)) af))))))))))),?_⟩
 refine ⟨fun σ' H'=>av H H'/\∃ cl:Addr,H' cl=some (.lst ((pc ws p).map V.int))/\σ'=[some (.str wy),some (.ref bl_),some (.ref ol),some (.ref pl),some (.ref cl)],?_,?_⟩
 ·refine ⟨_,rfl,bl_,rfl,⟨_,SqL.of hbl⟩,eX (xs:=zs) (fun D i ys H'=>av H H'/\H' D=some (.lst ys)/\ys=(pc (ws.take i) p).map V.int) (fun D hD=>⟨ah hD _,ae,rfl⟩) (fun D i ys H' hD _ h=>SqL.of (h.1 _ _ hbl)) (fun D k y ys H' hD e h=>?_) (fun D ys H' hD h=>?_)⟩
  ·obtain ⟨sm,eD,rfl⟩:=h
   obtain ⟨r,w_,rfl,ew,gR⟩:=az.get hz e
   have hk:k < zs.length:=(List.getElem?_eq_some_iff.mp e).1
   have hkw:k < ws.length:=(List.getElem?_eq_some_iff.mp ew).1
   refine ⟨_,rfl,_,rfl,r,pl,w_,p,rfl,gR.same sm,sm _ _ hpl,hwl w_ (List.mem_of_getElem? ew),ue,fun H3 s3=>⟨_,rfl,?_⟩⟩
   have eD3:=s3 _ _ eD
   have hl:((pc (ws.take k) p).map V.int).length<=200:=by
    rw [List.length_map]
    exact Nat.le_trans (vd _ _) (by rw [List.length_take];omega)
   obtain ⟨bl2,g1,_,g2⟩:=gR.same (sm.trans s3)
   cases hb:m9 w_.1 p with
   | true =>
    refine bR ⟨_,rfl,r,_,_,_,rfl,rfl,SqT.of g1,rfl,dB.mk hk eD3 (aH (by omega)) ⟨(sm.trans s3).upd hD,ae,?_⟩⟩
    rw [take_snoc ew,pM,hb,List.map_append]
    rfl
   | false =>
    refine bf (fV.mk (zs:=(pc (ws.take k) p).map V.int) hk ⟨sm.trans s3,eD3,?_⟩)
    rw [take_snoc ew,pM,hb]
    simp
  ·obtain ⟨sm,eD,rfl⟩:=h
   rw [hz.1,List.take_length] at eD
   exact ⟨sm,D,eD,rfl⟩
 rintro σ1 H1 ⟨s1,cl,ecl,rfl⟩
 have zq:(pc ws p).length<=200:=Nat.le_trans (vd ws p) gk
 have Bq:=s1 _ _ eol
 have xH:=s1 _ _ uf
 generalize pc ws p=ns at ecl q zq
 have hml:(ns.map V.int).length=ns.length:=List.length_map _
 cases ns with
 | nil =>
  refine ⟨_,rfl,cl,_,rfl,.inl (SqL.of ecl),rfl,_,rfl,dD rfl ⟨bg,fun r hr_=>q r _ (s1.trans (ah hr_ _)) ae⟩⟩
 | cons n ns =>
 refine ⟨_,rfl,cl,_,rfl,.inl (SqL.of ecl),rfl,_,rfl,bL (by simp;omega) ?_⟩
 have fr:=fun (r:Addr) (u:List V) (hr_:H1 r=none)=>s1.trans (ah hr_ (.tup u))
 match i,hi6 with
 | 0,hi6 =>
  cases hi6
  exact ⟨_,rfl,rfl,_,rfl,bL (sne (by decide)) (bf ⟨_,rfl,rfl,_,rfl,bL (sne (by decide)) (bf ⟨_,rfl,rfl,_,rfl,bL (sne (by decide)) ⟨_,rfl,rfl,_,rfl,bL (sne (by decide)) ⟨_,rfl,rfl,_,rfl,bL (sne (by decide)) ⟨_,rfl,cl,_,_,_,rfl,rfl,SqL.of ecl,at0 n ns,bg,fun r hr_=>q r _ (fr r _ hr_) ae⟩⟩⟩⟩)⟩)⟩
 | 1,hi6 =>
  cases hi6
  refine ⟨_,rfl,rfl,_,rfl,dD rfl ⟨_,rfl,cl,_,rfl,.inl (SqL.of ecl),_,_,rfl,rfl,_,rfl,cc (fun g=>?_) (fun g=>?_)⟩⟩
  ·have g:(1:Int) < ((((n :: ns).map V.int).length:Nat):Int):=of_decide_eq_true g
   have e:wf 1 oc.lo oc.hi (n :: ns)=lE:=by
    show jI _=_
    unfold jI
    rw [if_neg (by rw [List.length_map] at g;omega)]
   have q:∀ (r:Addr) (H' : Hp),av H H'->H' r=some (.tup (tp lE))->Q (.ref r) H':=by rw [← e];exact q
   exact bR ⟨bg,fun r hr_=>q r _ (fr r _ hr_) ae⟩
  ·have g:¬ (1:Int) < ((((n :: ns).map V.int).length:Nat):Int):=fun z=>g (decide_eq_true z)
   have e:wf 1 oc.lo oc.hi (n :: ns)=say n:=by
    show jI _=_
    unfold jI
    rw [if_pos (by rw [List.length_map,List.length_cons] at g;rw [List.length_cons];omega)]
    rfl
   have q:∀ (r:Addr) (H' : Hp),av H H'->H' r=some (.tup (tp (say n)))->Q (.ref r) H':=by rw [← e];exact q
   exact ⟨_,rfl,rfl,_,rfl,bL (sne (by decide)) (bf ⟨_,rfl,rfl,_,rfl,bL (sne (by decide)) ⟨_,rfl,rfl,_,rfl,bL (sne (by decide)) ⟨_,rfl,rfl,_,rfl,bL (sne (by decide)) ⟨_,rfl,cl,_,_,_,rfl,rfl,SqL.of ecl,at0 n ns,bg,fun r hr_=>q r _ (fr r _ hr_) ae⟩⟩⟩⟩)⟩
 | 2,hi6 =>
  cases hi6
  refine ⟨_,rfl,rfl,_,rfl,bL (sne (by decide)) (bf ⟨_,rfl,rfl,_,rfl,dD rfl ⟨_,rfl,cl,n :: ns,rfl,SqL.of ecl,Nat.succ_pos _,fun m1 h1 h2=>⟨_,rfl,cl,n :: ns,rfl,SqL.of ecl,Nat.succ_pos _,fun m2 h3 h4=>⟨rfl,_,rfl,?_⟩⟩⟩⟩)⟩
  have e1:=mV h1 h2
  have e2:=mW h3 h4
  by_cases g:m1=m2
  ·have e:wf 2 oc.lo oc.hi (n :: ns)=say n:=by
    show jH _=_
    unfold jH
    have gg:least (n :: ns)=great (n :: ns):=by rw [← e1,← e2];exact g
    rw [if_pos gg,oS (ku.mpr gg)]
   have q:∀ (r:Addr) (H' : Hp),av H H'->H' r=some (.tup (tp (say n)))->Q (.ref r) H':=by rw [← e];exact q
   exact fS (by rw [g]) ⟨_,rfl,rfl,_,rfl,bL (sne (by decide)) ⟨_,rfl,rfl,_,rfl,bL (sne (by decide)) ⟨_,rfl,rfl,_,rfl,bL (sne (by decide)) ⟨_,rfl,cl,_,_,_,rfl,rfl,SqL.of ecl,at0 n ns,bg,fun r hr_=>q r _ (fr r _ hr_) ae⟩⟩⟩⟩
  ·have e:wf 2 oc.lo oc.hi (n :: ns)=lE:=by
    show jH _=_
    unfold jH
    rw [if_neg fun z=>g (by rw [e1,e2];exact z)]
   have q:∀ (r:Addr) (H' : Hp),av H H'->H' r=some (.tup (tp lE))->Q (.ref r) H':=by rw [← e];exact q
   rw [decide_eq_false (fun z=>g (V.int.inj z))]
   exact bR ⟨bg,fun r hr_=>q r _ (fr r _ hr_) ae⟩
 | 3,hi6 =>
  cases hi6
  refine ⟨_,rfl,rfl,_,rfl,bL (sne (by decide)) (bf ⟨_,rfl,rfl,_,rfl,bL (sne (by decide)) (bf ⟨_,rfl,rfl,_,rfl,dD rfl ⟨_,rfl,cl,n :: ns,rfl,SqL.of ecl,Nat.succ_pos _,fun m h1 h2=>⟨bg,fun r hr_=>q r _ (fr r _ hr_) ?_⟩⟩⟩)⟩)⟩
  rw [ae,mV h1 h2]
  rfl
 | 4,hi6 =>
  cases hi6
  refine ⟨_,rfl,rfl,_,rfl,bL (sne (by decide)) (bf ⟨_,rfl,rfl,_,rfl,bL (sne (by decide)) (bf ⟨_,rfl,rfl,_,rfl,bL (sne (by decide)) ⟨_,rfl,rfl,_,rfl,dD rfl ⟨_,rfl,cl,n :: ns,rfl,SqL.of ecl,Nat.succ_pos _,fun m h1 h2=>⟨bg,fun r hr_=>q r _ (fr r _ hr_) ?_⟩⟩⟩⟩)⟩)⟩
  rw [ae,mW h1 h2]
  rfl
 | 5,hi6 =>
  cases hi6
  have h1:=ook.some_
  have vn:=hop.mono s1.tups
  obtain ⟨ts',r1,ps',p1,ets,eps,_,er1⟩:=vn.last (by intro z;rw [z] at vn;have:=vn.length;simp at this;omega)
  have il:atI ots (-1)=some (.ref r1):=by rw [ets];exact mE _ _
  have hhi:oc.hi=p1.2:=by unfold Col.hi;rw [eps];simp
  obtain ⟨p0,ep0,hlo⟩:=ook.first
  obtain ⟨r0,er0,hr0⟩:∃ r0,ots[0]?=some (.ref r0)/\H1 r0=some (.tup [.int p0.1,.int p0.2]):=by
   obtain ⟨x,ex⟩:∃ x,ots[0]?=some x:=⟨_,List.getElem?_eq_getElem (by rw [vn.length];omega)⟩
   obtain ⟨p2,r2,f1,rfl,f2⟩:=vn.get ex
   rw [ep0] at f1;cases f1
   exact ⟨r2,ex,f2⟩
  refine ⟨_,rfl,rfl,_,rfl,bL (sne (by decide)) (bf ⟨_,rfl,rfl,_,rfl,bL (sne (by decide)) (bf ⟨_,rfl,rfl,_,rfl,bL (sne (by decide)) ⟨_,rfl,rfl,_,rfl,bL (sne (by decide)) ⟨_,rfl,rfl,_,rfl,dD rfl ?_⟩⟩⟩)⟩)⟩
  refine ⟨_,rfl,ol,_,_,_,rfl,rfl,SqL.of Bq,rfl,opl,_,_,_,rfl,rfl,SqL.of xH,bS (j:=0) er0,r0,_,_,_,rfl,rfl,SqT.of hr0,z0 _ _,_,rfl,ol,_,_,_,rfl,rfl,SqL.of Bq,rfl,_,rfl,opl,_,_,_,rfl,rfl,SqL.of xH,il,r1,_,_,_,rfl,rfl,SqT.of er1,z1 _ _,_,rfl,cl,n :: ns,rfl,SqL.of ecl,_,_,rfl,_,_,rfl,bg,fun r hr_=>q r _ (fr r _ hr_) ?_⟩
  rw [ae]
  have hle:=ook.le
  have e:near oc.lo oc.hi (n :: ns).sum=if (if (n :: ns).sum < oc.hi then (n :: ns).sum else oc.hi) > oc.lo then (if (n :: ns).sum < oc.hi then (n :: ns).sum else oc.hi) else oc.lo:=by
   unfold near
   generalize (n :: ns).sum=t
   split <;> split <;> split <;> first | rfl | omega | (split <;> omega)
  show _=some (HO.tup (tp (say (near oc.lo oc.hi (n :: ns).sum))))
  rw [e,hhi,← hlo]
  rfl
 | k+6,hi6=>simp [six] at hi6
theorem O_4 (F:Fun K "__init__" "First.__init__" Y4 f fd) (bl:Bl K mg yA yH yI yJ yK yG yN yO yP yQ yR yS yT yU yV yW yX yY yZ) (gm:bA CX0 P w K mg base 1 "Way" "__init__" ["self", "called"] (J18 K yO)):aR P w K mg base CX0 2 f fd ["self"] (J4 K yO):=by
 refine F.ok Z4 (fun vs H Q E h=>?_) (fun cdv A outer s H vs Q E hr h=>?_)
 ·obtain ⟨x,dx,rfl,hx,q⟩:=h
  rfl
 obtain ⟨x,dx,rfl,hx,q⟩:=h
 refine ⟨_,(aj (bx (eG gm bK hr rfl (aa (pv 0) (aa aI af))))),?_⟩
 exact ⟨_,rfl,x,dx,_,rfl,hx,q⟩
theorem EV (F:Fun K "__init__" "Only.__init__" Y13 f fd) (bl:Bl K mg yA yH yI yJ yK yG yN yO yP yQ yR yS yT yU yV yW yX yY yZ) (gS:bA CX0 P w K mg base 1 "Way" "__init__" ["self", "called"] (J22 K yP)):aR P w K mg base CX0 2 f fd ["self"] (J13 K yP):=by
 refine F.ok Z13 (fun vs H Q E h=>?_) (fun cdv A outer s H vs Q E hr h=>?_)
 ·obtain ⟨x,dx,rfl,hx,q⟩:=h
  rfl
 obtain ⟨x,dx,rfl,hx,q⟩:=h
 refine ⟨_,(aj (bx (eG gS bK hr rfl (aa (pv 0) (aa aI af))))),?_⟩
 exact ⟨_,rfl,x,dx,_,rfl,hx,q⟩
theorem O_8 (F:Fun K "__init__" "Like.__init__" Y8 f fd) (bl:Bl K mg yA yH yI yJ yK yG yN yO yP yQ yR yS yT yU yV yW yX yY yZ) (gU:bA CX0 P w K mg base 1 "Way" "__init__" ["self", "called"] (J20 K yQ)):aR P w K mg base CX0 2 f fd ["self"] (J8 K yQ):=by
 refine F.ok Z8 (fun vs H Q E h=>?_) (fun cdv A outer s H vs Q E hr h=>?_)
 ·obtain ⟨x,dx,rfl,hx,q⟩:=h
  rfl
 obtain ⟨x,dx,rfl,hx,q⟩:=h
 refine ⟨_,(aj (bx (eG gU bK hr rfl (aa (pv 0) (aa aI af))))),?_⟩
 exact ⟨_,rfl,x,dx,_,rfl,hx,q⟩
theorem EW (F:Fun K "__init__" "Low.__init__" Y10 f fd) (bl:Bl K mg yA yH yI yJ yK yG yN yO yP yQ yR yS yT yU yV yW yX yY yZ) (iE:bA CX0 P w K mg base 1 "Way" "__init__" ["self", "called"] (J21 K yR)):aR P w K mg base CX0 2 f fd ["self"] (J10 K yR):=by
 refine F.ok Z10 (fun vs H Q E h=>?_) (fun cdv A outer s H vs Q E hr h=>?_)
 ·obtain ⟨x,dx,rfl,hx,q⟩:=h
  rfl
 obtain ⟨x,dx,rfl,hx,q⟩:=h
 refine ⟨_,(aj (bx (eG iE bK hr rfl (aa (pv 0) (aa aI af))))),?_⟩
 exact ⟨_,rfl,x,dx,_,rfl,hx,q⟩
theorem O_6 (F:Fun K "__init__" "High.__init__" Y6 f fd) (bl:Bl K mg yA yH yI yJ yK yG yN yO yP yQ yR yS yT yU yV yW yX yY yZ) (gW:bA CX0 P w K mg base 1 "Way" "__init__" ["self", "called"] (J19 K yS)):aR P w K mg base CX0 2 f fd ["self"] (J6 K yS):=by
 refine F.ok Z6 (fun vs H Q E h=>?_) (fun cdv A outer s H vs Q E hr h=>?_)
 ·obtain ⟨x,dx,rfl,hx,q⟩:=h
  rfl
 obtain ⟨x,dx,rfl,hx,q⟩:=h
 refine ⟨_,(aj (bx (eG gW bK hr rfl (aa (pv 0) (aa aI af))))),?_⟩
 exact ⟨_,rfl,x,dx,_,rfl,hx,q⟩
theorem EY (F:Fun K "__init__" "Sum.__init__" Y15 f fd) (bl:Bl K mg yA yH yI yJ yK yG yN yO yP yQ yR yS yT yU yV yW yX yY yZ) (iF:bA CX0 P w K mg base 1 "Way" "__init__" ["self", "called"] (J23 K yT)):aR P w K mg base CX0 2 f fd ["self"] (J15 K yT):=by
 refine F.ok Z15 (fun vs H Q E h=>?_) (fun cdv A outer s H vs Q E hr h=>?_)
 ·obtain ⟨x,dx,rfl,hx,q⟩:=h
  rfl
 obtain ⟨x,dx,rfl,hx,q⟩:=h
 refine ⟨_,(aj (bx (eG iF bK hr rfl (aa (pv 0) (aa aI af))))),?_⟩
 exact ⟨_,rfl,x,dx,_,rfl,hx,q⟩
theorem O_2 (F:Fun K "has_code" "Domain.has_code" Y2 f fd) (bl:Bl K mg yA yH yI yJ yK yG yN yO yP yQ yR yS yT yU yV yW yX yY yZ) (iG:Callee P w K mg base 1 "is_whole" ["value"] (J35 K)):aR P w K mg base CX0 2 f fd ["self", "value"] (J2 K yV):=by
 refine F.ok Z2 (fun vs H Q E h=>?_) (fun cdv A outer s H vs Q E hr h=>?_)
 ·obtain ⟨a,b,i,rfl,⟨dx,fs,ha,hl,hh,_⟩,q⟩:=h
  rfl
 obtain ⟨a,b,i,rfl,⟨dx,fs,ha,hl,hh,_⟩,q⟩:=h
 refine ⟨_,(aj (ay (fQ (aT iG hr rfl (aa (pv 1) af)) (kc (my fM fM (ar (pv 0) rfl) (pv 1) (ar (pv 0) rfl)))))),?_⟩
 refine ⟨_,rfl,i,rfl,_,rfl,bR ?_⟩
 refine ⟨_,rfl,a,_,_,_,_,rfl,ha,bl.k_Numbers,bl.na_Numbers_low,hl,_,rfl,_,_,rfl,rfl,_,rfl,?_⟩
 by_cases h1:b.1<=i
 ·refine dD h1 ⟨_,rfl,a,_,_,_,_,rfl,ha,bl.k_Numbers,bl.na_Numbers_high,hh,_,_,rfl,rfl,?_⟩
  rw [decide_eq_true h1,Bool.true_and] at q
  exact q
 ·refine cc (fun g=>absurd (of_decide_eq_true g) h1) (fun _=>?_)
  rw [decide_eq_false h1,Bool.false_and] at q
  first | exact q | (rw [decide_eq_false h1];exact q)
theorem O_3 (F:Fun K "has_code" "Domain.has_code" Y3 f fd) (bl:Bl K mg yA yH yI yJ yK yG yN yO yP yQ yR yS yT yU yV yW yX yY yZ) (iG:Callee P w K mg base 1 "is_whole" ["value"] (J35 K)):aR P w K mg base CX0 2 f fd ["self", "value"] (J3 K yW):=by
 refine F.ok Z3 (fun vs H Q E h=>?_) (fun cdv A outer s H vs Q E hr h=>?_)
 ·obtain ⟨a,b,i,rfl,⟨dx,fs,ha,hl,hh,_⟩,q⟩:=h
  rfl
 obtain ⟨a,b,i,rfl,⟨dx,fs,ha,hl,hh,_⟩,q⟩:=h
 refine ⟨_,(aj (ay (fQ (aT iG hr rfl (aa (pv 1) af)) (kc (my fM fM (ar (pv 0) rfl) (pv 1) (ar (pv 0) rfl)))))),?_⟩
 refine ⟨_,rfl,i,rfl,_,rfl,bR ?_⟩
 refine ⟨_,rfl,a,_,_,_,_,rfl,ha,bl.k_Words,bl.na_Words_low,hl,_,rfl,_,_,rfl,rfl,_,rfl,?_⟩
 by_cases h1:b.1<=i
 ·refine dD h1 ⟨_,rfl,a,_,_,_,_,rfl,ha,bl.k_Words,bl.na_Words_high,hh,_,_,rfl,rfl,?_⟩
  rw [decide_eq_true h1,Bool.true_and] at q
  exact q
 ·refine cc (fun g=>absurd (of_decide_eq_true g) h1) (fun _=>?_)
  rw [decide_eq_false h1,Bool.false_and] at q
  first | exact q | (rw [decide_eq_false h1];exact q)
theorem EZ (F:Fun K "__init__" "Numbers.__init__" Y12 f fd) (bl:Bl K mg yA yH yI yJ yK yG yN yO yP yQ yR yS yT yU yV yW yX yY yZ) (ef:bA CX0 P w K mg base 1 "Domain" "__init__" ["self", "low", "high"] (J0 K yV)):aR P w K mg base CX0 2 f fd ["self", "low", "high"] (J12 K yV):=by
 refine F.ok Z12 (fun vs H Q E h=>?_) (fun cdv A outer s H vs Q E hr h=>?_)
 ·obtain ⟨x,dx,lo,hi,rfl,hx,hle,q⟩:=h
  rfl
 obtain ⟨x,dx,lo,hi,rfl,hx,hle,q⟩:=h
 refine ⟨_,(ak (aQ (aG jv (pv 1) (pv 2) (aJ _))
  (aj ju)
  aD)
  (aj (bx (eG ef bK hr rfl (aa (pv 0) (aa (pv 1) (aa (pv 2) af))))))),?_⟩
 exact ⟨_,rfl,_,rfl,_,_,rfl,rfl,_,rfl,bL (by omega) ⟨_,rfl,_,rfl,_,rfl,x,dx,lo,hi,rfl,hx,q⟩⟩
theorem E1 (F:Fun K "verdict" "Way.verdict" Y24 f fd) (bl:Bl K mg yA yH yI yJ yK yG yN yO yP yQ yR yS yT yU yV yW yX yY yZ) (gn:aV CX0 P w K mg base 1 yO "chosen" ["self", "codes", "outcome"] (J5 K yO yV yW)):aR P w K mg base CX0 2 f fd ["self", "codes", "outcome"] (J24 K yO yV yW):=by
 refine F.ok Z24 (fun vs H Q E h=>?_) (fun cdv A outer s H vs Q E hr h=>?_)
 ·obtain ⟨x,c,o,ns,b,rfl,⟨dx,z,hx⟩,ho,hle,hS,hn,q⟩:=h
  rfl
 obtain ⟨x,c,o,ns,b,rfl,⟨dx,z,hx⟩,ho,hle,hS,hn,q⟩:=h
 refine ⟨_,(ak (aQ (bV (dQ (pv 1) (by intro _;rfl)))
  (aj (ay (bz (v:=.ref yY) rfl bl.NONE_ rfl)))
  aD)
  (aj (ay (oI gn bK bl.k_First hr (pv 0) (aa (pv 1) (aa (pv 2) af)))))),?_⟩
 refine ⟨_,rfl,!(ns.map V.int).isEmpty,.inl ⟨_,hS,rfl⟩,?_⟩
 cases ns with
 | nil=>exact bR (q _ _ (av.refl _) (bl.q_NONE.sq _))
 | cons n ns=>exact bf ⟨_,rfl,x,_,_,rfl,hx,rfl,_,rfl,_,rfl,x,c,o,n,ns,b,rfl,⟨dx,z,hx⟩,ho,hle,hS,Nat.lt_of_succ_lt hn,q⟩
theorem E3 (F:Fun K "verdict" "Way.verdict" Y28 f fd) (bl:Bl K mg yA yH yI yJ yK yG yN yO yP yQ yR yS yT yU yV yW yX yY yZ) (iH:aV CX0 P w K mg base 1 yP "chosen" ["self", "codes", "outcome"] (J14 K yP yV yW)):aR P w K mg base CX0 2 f fd ["self", "codes", "outcome"] (J28 K yP yV yW):=by
 refine F.ok Z28 (fun vs H Q E h=>?_) (fun cdv A outer s H vs Q E hr h=>?_)
 ·obtain ⟨x,c,o,ns,b,rfl,⟨dx,z,hx⟩,ho,hle,hS,hn,q⟩:=h
  rfl
 obtain ⟨x,c,o,ns,b,rfl,⟨dx,z,hx⟩,ho,hle,hS,hn,q⟩:=h
 refine ⟨_,(ak (aQ (bV (dQ (pv 1) (by intro _;rfl)))
  (aj (ay (bz (v:=.ref yY) rfl bl.NONE_ rfl)))
  aD)
  (aj (ay (oI iH bK bl.k_Only hr (pv 0) (aa (pv 1) (aa (pv 2) af)))))),?_⟩
 refine ⟨_,rfl,!(ns.map V.int).isEmpty,.inl ⟨_,hS,rfl⟩,?_⟩
 cases ns with
 | nil=>exact bR (q _ _ (av.refl _) (bl.q_NONE.sq _))
 | cons n ns=>exact bf ⟨_,rfl,x,_,_,rfl,hx,rfl,_,rfl,_,rfl,x,c,o,n,ns,b,rfl,⟨dx,z,hx⟩,ho,hle,hS,Nat.lt_of_succ_lt hn,q⟩
theorem E4 (F:Fun K "verdict" "Way.verdict" Y26 f fd) (bl:Bl K mg yA yH yI yJ yK yG yN yO yP yQ yR yS yT yU yV yW yX yY yZ) (iI:aV CX0 P w K mg base 1 yQ "chosen" ["self", "codes", "outcome"] (J9 K yQ yV yW)):aR P w K mg base CX0 2 f fd ["self", "codes", "outcome"] (J26 K yQ yV yW):=by
 refine F.ok Z26 (fun vs H Q E h=>?_) (fun cdv A outer s H vs Q E hr h=>?_)
 ·obtain ⟨x,c,o,ns,b,rfl,⟨dx,z,hx⟩,ho,hle,hS,hn,q⟩:=h
  rfl
 obtain ⟨x,c,o,ns,b,rfl,⟨dx,z,hx⟩,ho,hle,hS,hn,q⟩:=h
 refine ⟨_,(ak (aQ (bV (dQ (pv 1) (by intro _;rfl)))
  (aj (ay (bz (v:=.ref yY) rfl bl.NONE_ rfl)))
  aD)
  (aj (ay (oI iI bK bl.k_Like hr (pv 0) (aa (pv 1) (aa (pv 2) af)))))),?_⟩
 refine ⟨_,rfl,!(ns.map V.int).isEmpty,.inl ⟨_,hS,rfl⟩,?_⟩
 cases ns with
 | nil=>exact bR (q _ _ (av.refl _) (bl.q_NONE.sq _))
 | cons n ns=>exact bf ⟨_,rfl,x,_,_,rfl,hx,rfl,_,rfl,_,rfl,x,c,o,n,ns,b,rfl,⟨dx,z,hx⟩,ho,hle,hS,Nat.lt_of_succ_lt hn,q⟩
theorem E5 (F:Fun K "verdict" "Way.verdict" Y27 f fd) (bl:Bl K mg yA yH yI yJ yK yG yN yO yP yQ yR yS yT yU yV yW yX yY yZ) (kA:aV CX0 P w K mg base 1 yR "chosen" ["self", "codes", "outcome"] (J11 K yR yV yW)):aR P w K mg base CX0 2 f fd ["self", "codes", "outcome"] (J27 K yR yV yW):=by
 refine F.ok Z27 (fun vs H Q E h=>?_) (fun cdv A outer s H vs Q E hr h=>?_)
 ·obtain ⟨x,c,o,ns,b,rfl,⟨dx,z,hx⟩,ho,hle,hS,hn,q⟩:=h
  rfl
 obtain ⟨x,c,o,ns,b,rfl,⟨dx,z,hx⟩,ho,hle,hS,hn,q⟩:=h
 refine ⟨_,(ak (aQ (bV (dQ (pv 1) (by intro _;rfl)))
  (aj (ay (bz (v:=.ref yY) rfl bl.NONE_ rfl)))
  aD)
  (aj (ay (oI kA bK bl.k_Low hr (pv 0) (aa (pv 1) (aa (pv 2) af)))))),?_⟩
 refine ⟨_,rfl,!(ns.map V.int).isEmpty,.inl ⟨_,hS,rfl⟩,?_⟩
 cases ns with
 | nil=>exact bR (q _ _ (av.refl _) (bl.q_NONE.sq _))
 | cons n ns=>exact bf ⟨_,rfl,x,_,_,rfl,hx,rfl,_,rfl,_,rfl,x,c,o,n,ns,b,rfl,⟨dx,z,hx⟩,ho,hle,hS,Nat.lt_of_succ_lt hn,q⟩
theorem E6 (F:Fun K "verdict" "Way.verdict" Y25 f fd) (bl:Bl K mg yA yH yI yJ yK yG yN yO yP yQ yR yS yT yU yV yW yX yY yZ) (iJ:aV CX0 P w K mg base 1 yS "chosen" ["self", "codes", "outcome"] (J7 K yS yV yW)):aR P w K mg base CX0 2 f fd ["self", "codes", "outcome"] (J25 K yS yV yW):=by
 refine F.ok Z25 (fun vs H Q E h=>?_) (fun cdv A outer s H vs Q E hr h=>?_)
 ·obtain ⟨x,c,o,ns,b,rfl,⟨dx,z,hx⟩,ho,hle,hS,hn,q⟩:=h
  rfl
 obtain ⟨x,c,o,ns,b,rfl,⟨dx,z,hx⟩,ho,hle,hS,hn,q⟩:=h
 refine ⟨_,(ak (aQ (bV (dQ (pv 1) (by intro _;rfl)))
  (aj (ay (bz (v:=.ref yY) rfl bl.NONE_ rfl)))
  aD)
  (aj (ay (oI iJ bK bl.k_High hr (pv 0) (aa (pv 1) (aa (pv 2) af)))))),?_⟩
 refine ⟨_,rfl,!(ns.map V.int).isEmpty,.inl ⟨_,hS,rfl⟩,?_⟩
 cases ns with
 | nil=>exact bR (q _ _ (av.refl _) (bl.q_NONE.sq _))
 | cons n ns=>exact bf ⟨_,rfl,x,_,_,rfl,hx,rfl,_,rfl,_,rfl,x,c,o,n,ns,b,rfl,⟨dx,z,hx⟩,ho,hle,hS,Nat.lt_of_succ_lt hn,q⟩
theorem E7 (F:Fun K "verdict" "Way.verdict" Y29 f fd) (bl:Bl K mg yA yH yI yJ yK yG yN yO yP yQ yR yS yT yU yV yW yX yY yZ) (kB:aV CX0 P w K mg base 1 yT "chosen" ["self", "codes", "outcome"] (J16 K yT yV yW)):aR P w K mg base CX0 2 f fd ["self", "codes", "outcome"] (J29 K yT yV yW):=by
 refine F.ok Z29 (fun vs H Q E h=>?_) (fun cdv A outer s H vs Q E hr h=>?_)
 ·obtain ⟨x,c,o,ns,b,rfl,⟨dx,z,hx⟩,ho,hle,hS,hn,q⟩:=h
  rfl
 obtain ⟨x,c,o,ns,b,rfl,⟨dx,z,hx⟩,ho,hle,hS,hn,q⟩:=h
 refine ⟨_,(ak (aQ (bV (dQ (pv 1) (by intro _;rfl)))
  (aj (ay (bz (v:=.ref yY) rfl bl.NONE_ rfl)))
  aD)
  (aj (ay (oI kB bK bl.k_Sum hr (pv 0) (aa (pv 1) (aa (pv 2) af)))))),?_⟩
 refine ⟨_,rfl,!(ns.map V.int).isEmpty,.inl ⟨_,hS,rfl⟩,?_⟩
 cases ns with
 | nil=>exact bR (q _ _ (av.refl _) (bl.q_NONE.sq _))
 | cons n ns=>exact bf ⟨_,rfl,x,_,_,rfl,hx,rfl,_,rfl,_,rfl,x,c,o,n,ns,b,rfl,⟨dx,z,hx⟩,ho,hle,hS,Nat.lt_of_succ_lt hn,q⟩
theorem E8 (F:Fun K "refuse_names" "refuse_names" Y64 f fd) (bl:Bl K mg yA yH yI yJ yK yG yN yO yP yQ yR yS yT yU yV yW yX yY yZ) (kC:Callee P w K mg base 2 "is_word" ["text"] (J36 K)):aR P w K mg base (CX1 P w) 3 f fd ["names"] (J64 K yH):=by
 refine F.okE Z64 (fun vs H Q E h=>?_) (fun cdv A outer s H vs Q E hr h=>?_)
 ·obtain ⟨p,zs,rfl,hS,hsm,hl,q,qE⟩:=h
  rfl
 obtain ⟨p,zs,rfl,hS,hsm,hl,q,qE⟩:=h
 refine ⟨_,(aL (bM (dM rfl rfl rfl) rfl (bq (pv 0)) (aK (i:=1) Z64.nd rfl (Or.inl rfl))
  (aj (aQ (bV (bC (aT kC hr rfl (aa (pv 1) af))))
  (aj (bO bl.x_BadName hr.hd rfl bl.BadName_ (aa (xx (pv 1)) af)))
  aD)))
  (aj (aQ (aG om (aw ip rfl bl.len_ PySem.boot_len (aa (bN (ij rfl) rfl bl.set_ PyProof.Rows.boot_set (aa (pv 0) af)) af)) (aw aE rfl bl.len_ PySem.boot_len (aa (pv 0) af)) (aJ _))
  (aj (bO bl.x_BadName hr.hd rfl bl.BadName_ (aa aI af)))
  aD))),?_⟩
 have hlen:(zs.map V.str).length=zs.length:=List.length_map _
 refine ⟨fun σ' H'=>H'=H/\(∃ c1:Option V,σ'=[some (.ref p),c1])/\∀ z ∈ zs,isw z=true,?_,?_⟩
 ·refine ⟨_,rfl,p,rfl,⟨_,hS⟩,bY (xs:=zs.map V.str) (fun i σ H'=>(∃ c1:Option V,σ=[some (.ref p),c1])/\H'=H/\∀ z ∈ zs.take i,isw z=true) ⟨⟨_,rfl⟩,rfl,(fun z hz=>by simp at hz)⟩ (fun i σ H' _ h=>by rw [h.2.1];exact hS) (fun i y σ H' e h=>?_) (fun σ H' h=>?_)⟩
  ·obtain ⟨⟨c1,rfl⟩,e0,ha⟩:=h
   rw [e0]
   obtain ⟨z,rfl,ez⟩:=fc e
   have hz:=hsm z (List.mem_of_getElem? ez)
   have hz1:=hz.len
   refine ⟨_,rfl,z,rfl,by omega,_,rfl,?_⟩
   cases hw:isw z with
   | true=>exact bf ⟨⟨_,rfl⟩,rfl,take_all ez ha hw⟩
   | false=>exact bR ⟨_,rfl,z,rfl,by omega,hz.low,(by decide +kernel),fun z2=>⟨(by show 1<=sizeLine;decide),qE (fun g=>by rw [g.1 z (List.mem_of_getElem? ez)] at hw;cases hw) H (av.refl H)⟩⟩
  ·obtain ⟨⟨c1,rfl⟩,e0,ha⟩:=h
   rw [hlen,List.take_length] at ha
   exact ⟨e0,⟨_,rfl⟩,ha⟩
 rintro σ2 H2 ⟨e2,⟨c1,rfl⟩,gO⟩
 rw [e2]
 refine ⟨_,rfl,p,zs,rfl,hS,by omega,fun l hl2=>⟨l,zs,rfl,ae,by omega,_,rfl,p,_,rfl,.inl ((ah hl2 _).seq hS),_,_,rfl,rfl,_,rfl,?_⟩⟩
 have s1:=ah hl2 (mO P w l zs)
 have cf:=kj zs zs.length (Nat.le_refl _)
 rw [List.take_length] at cf
 refine cc (fun g=>?_) (fun g=>?_)
 ·have g':=lA g
  rw [hlen] at g'
  exact ⟨(by show 1<=sizeLine;decide),qE (fun gd=>by have:=cf.mpr gd.2;omega) _ s1⟩
 ·have g':=oE g
  rw [hlen] at g'
  exact q ⟨gO,cf.mp (by have:=gF zs zs.length;omega)⟩ _ s1
theorem E9 (F:Fun K "refuse_row" "refuse_row" Y65 f fd) (bl:Bl K mg yA yH yI yJ yK yG yN yO yP yQ yR yS yT yU yV yW yX yY yZ) (eg:aV CX0 P w K mg base 2 yV "has_code" ["self", "value"] (J2 K yV)) (fk:aV CX0 P w K mg base 2 yW "has_code" ["self", "value"] (J3 K yW)):aR P w K mg base (CX1 P w) 3 f fd ["domains", "outcome", "cells", "code"] (J65 K yK yV yW):=by
 refine F.okE Z65 (fun vs H Q E h=>?_) (fun cdv A outer s H vs Q E hr h=>?_)
 ·obtain ⟨dl,ou,cl,dv,xs,bs,o,w_,rfl,hD,hdv,hO,hC,hcl,hbn,q,qE⟩:=h
  rfl
 obtain ⟨dl,ou,cl,dv,xs,bs,o,w_,rfl,hD,hdv,hO,hC,hcl,hbn,q,qE⟩:=h
 refine ⟨_,(ak (aQ (aG fL (aw aE rfl bl.len_ PySem.boot_len (aa (pv 2) af)) (aw aE rfl bl.len_ PySem.boot_len (aa (pv 0) af)) (aJ _))
  (aj (bO bl.x_BadRow hr.hd rfl bl.BadRow_ (aa aI af)))
  aD)
  (aL (bM (dM rfl rfl rfl) rfl (iD rfl bl.zip_ (aa (pv 0) (aa (pv 2) af))) (dz rfl (aN (aK (i:=4) Z65.nd rfl (Or.inl rfl)) (aN (aK (i:=5) Z65.nd rfl (Or.inl rfl)) bD)))
  (aj (bM (dM rfl rfl rfl) rfl (bq (pv 5)) (dz rfl (aN (aK (i:=6) Z65.nd rfl (Or.inl rfl)) (aN (aK (i:=7) Z65.nd rfl (Or.inl rfl)) bD)))
  (aj (aQ (PW.pt (eE (aG om (pv 6) (ar (pv 4) rfl) (aJ _)) (dP (aG jv (pv 7) (ar (pv 4) rfl) (aJ _)))))
  (aj (bO bl.x_BadRow hr.hd rfl bl.BadRow_ (aa aI af)))
  aD)))))
  (aj (aQ (bV (bC (uO (qQ eg bl.k_Numbers (qQ fk bl.k_Words A2)) bK hr (pv 1) (aa (pv 3) af))))
  (aj (bO bl.x_BadRow hr.hd rfl bl.BadRow_ (aa (yE (pv 3)) af)))
  aD)))),?_⟩
 have hdf:∀ (C:Addr),(C=yV\/C=yW)->Cls K C/\bc K C (Str.ofString "low")/\bc K C (Str.ofString "high"):=fun C h=>by
  rcases h with rfl | rfl
  ·exact ⟨bl.k_Numbers,bl.na_Numbers_low,bl.na_Numbers_high⟩
  ·exact ⟨bl.k_Words,bl.na_Words_low,bl.na_Words_high⟩
 refine ⟨_,rfl,cl,_,rfl,.inl (SqL.of hC),_,rfl,dl,_,rfl,.inl (hD),rfl,_,rfl,?_⟩
 by_cases hlen:xs.length=dv.length
 rotate_left
 ·refine cc (fun _=>⟨(by show 1<=sizeLine;decide),qE (fun g=>hlen (by rw [hcl.1,g.len,hdv.1])) H (av.refl H)⟩) (fun g=>absurd ?_ g)
  rw [decide_eq_false (fun e=>hlen (by injection e with e;omega))]
  rfl
 refine fS (by rw [hlen]) ?_
 refine ⟨fun σ' H'=>av H H'/\(∃ c4 c5 c6 c7:Option V,σ'=[some (.ref dl),some (.ref ou),some (.ref cl),some (.int w_.2),c4,c5,c6,c7])/\∀ (j:Nat) (ps:Prs) (b:Int × Int),w_.1[j]?=some ps->bs[j]?=some b->∀ p ∈ ps,b.1<=p.1/\p.2<=b.2,?_,?_⟩
 ·refine ⟨_,rfl,_,rfl,dl,cl,rfl,⟨_,hD⟩,⟨_,SqL.of hC⟩,lQ (xs:=dv) (ys:=xs) (fun i σ H'=>av H H'/\(∃ c4 c5 c6 c7:Option V,σ=[some (.ref dl),some (.ref ou),some (.ref cl),some (.int w_.2),c4,c5,c6,c7])/\∀ (j:Nat) (ps:Prs) (b:Int × Int),j < i->w_.1[j]?=some ps->bs[j]?=some b->∀ p ∈ ps,b.1<=p.1/\p.2<=b.2) ⟨av.refl _,⟨_,_,_,_,rfl⟩,(fun j _ _ h=>absurd h (Nat.not_lt_zero j))⟩ (fun i σ H' h=>⟨h.1.seq hD,SqL.of (h.1 _ _ hC)⟩) (fun i x y σ H' T ex ey h hT=>?_) (fun σ H' h=>?_)⟩
  ·obtain ⟨sm,⟨c4,c5,c6,c7,rfl⟩,hin⟩:=h
   have s2:=sm.trans (ah hT (.tup [x,y]))
   have eT:upd H' T (.tup [x,y]) T=some (.tup [x,y]):=ae
   generalize upd H' T (.tup [x,y])=H2 at s2 eT ⊢
   obtain ⟨a,b,rfl,eb,hb⟩:=hdv.get ex
   obtain ⟨l,ps,rfl,ep,hl⟩:=az.get hcl ey
   obtain ⟨C,hC',dx,fs,ha,f1,f2,_⟩:=hb.same s2
   obtain ⟨k1,k2,k3⟩:=hdf C hC'
   obtain ⟨_,ys,el,hp⟩:=hl.same s2
   have Br:∀ p ∈ ps,¬ (b.1<=p.1/\p.2<=b.2)->¬ cz bs o w_:=fun p hp hn g=>hn (g.inn i ps b ep eb p hp)
   refine ⟨T,_,rfl,SqT.of eT,rfl,_,_,rfl,_,_,rfl,rfl,?_⟩
   refine ⟨_,rfl,l,rfl,⟨_,SqL.of el⟩,bY (xs:=ys) (fun j σ H'=>H'=H2/\(∃ c6 c7:Option V,σ=[some (.ref dl),some (.ref ou),some (.ref cl),some (.int w_.2),some (.ref a),some (.ref l),c6,c7])/\∀ p ∈ ps.take j,b.1<=p.1/\p.2<=b.2) ⟨rfl,⟨_,_,rfl⟩,(fun p hp=>by simp at hp)⟩ (fun j σ H' _ h=>by rw [h.1];exact SqL.of el) (fun j y σ H' e h=>?_) (fun σ H' h=>?_)⟩
   ·obtain ⟨e0,⟨c6,c7,rfl⟩,hj⟩:=h
    rw [e0]
    obtain ⟨p,r,e1,rfl,hr'⟩:=hp.get e
    have hm:p ∈ ps:=List.mem_of_getElem? e1
    refine ⟨r,_,rfl,SqT.of hr',rfl,_,_,rfl,_,_,rfl,rfl,?_⟩
    refine ⟨_,rfl,_,rfl,a,_,_,_,_,rfl,ha,k1,k2,f1,_,_,rfl,rfl,_,rfl,?_⟩
    by_cases i1:p.1 < b.1
    ·exact dD i1 (bR ⟨(by show 1<=sizeLine;decide),qE (Br p hm fun g=>by omega) _ s2⟩)
    refine bL i1 ⟨_,rfl,_,rfl,a,_,_,_,_,rfl,ha,k1,k3,f2,_,_,rfl,rfl,_,rfl,?_⟩
    by_cases i2:b.2 < p.2
    ·exact dD i2 ⟨(by show 1<=sizeLine;decide),qE (Br p hm fun g=>by omega) _ s2⟩
    exact bL i2 ⟨rfl,⟨_,_,rfl⟩,take_all e1 hj ⟨by omega,by omega⟩⟩
   ·obtain ⟨e0,⟨c6,c7,rfl⟩,hj⟩:=h
    rw [e0]
    have hpl:ys.length=ps.length:=hp.length
    rw [hpl,List.take_length] at hj
    refine ⟨s2,⟨_,_,_,_,rfl⟩,fun j ps' b' hji e1 e2=>?_⟩
    by_cases hlt:j < i
    ·exact hin j ps' b' hlt e1 e2
    ·have:j=i:=by omega
     subst this
     rw [ep] at e1;rw [eb] at e2
     cases e1;cases e2
     exact hj
  ·obtain ⟨sm,hσ,hin⟩:=h
   refine ⟨sm,hσ,fun j ps b e1 e2=>hin j ps b ?_ e1 e2⟩
   have h1:=(List.getElem?_eq_some_iff.mp e2).1
   have h2:=(List.getElem?_eq_some_iff.mp e1).1
   have h3:=hdv.1
   have h4:=hcl.1
   omega
 rintro σ3 H3 ⟨s3,⟨c4,c5,c6,c7,rfl⟩,hin⟩
 obtain ⟨C,hC',hd⟩:=hO.same s3
 obtain ⟨dx,fs,ha,f1,f2,f3⟩:=id hd
 have hl2:w_.1.length=bs.length:=by rw [← hcl.1,hlen,hdv.1]
 have fin:∀ b:Bool,b=(decide (o.1<=w_.2) && decide (w_.2<=o.2))->(b=true->Q .non H3)/\(b=false->E (.ref yK) none H3):=fun b e=>by
  subst e
  refine ⟨fun h=>?_,fun h=>?_⟩
  ·simp only [Bool.and_eq_true,decide_eq_true_eq] at h
   exact q ⟨hl2,hin,h.1,h.2⟩ _ s3
  ·refine qE (fun g=>?_) _ s3
   rw [decide_eq_true g.lo,decide_eq_true g.hi] at h
   cases h
 rcases hC' with rfl | rfl
 ·refine ⟨_,rfl,ou,_,dx,fs,rfl,.head _,ha,f3,_,rfl,ou,o,w_.2,rfl,hd,_,rfl,?_⟩
  cases hb:(decide (o.1<=w_.2) && decide (w_.2<=o.2)) with
  | true=>exact bf ((fin _ hb.symm).1 rfl)
  | false=>exact bR ⟨_,rfl,.int (hbn.elim (fun g=>absurd hb (by rw [decide_eq_true g.lo,decide_eq_true g.hi];decide)) id),(by decide +kernel),fun z2=>⟨(by show 1<=sizeLine;decide),(fin _ hb.symm).2 rfl⟩⟩
 ·refine ⟨_,rfl,ou,_,dx,fs,rfl,.tail _ (.head _),ha,f3,_,rfl,ou,o,w_.2,rfl,hd,_,rfl,?_⟩
  cases hb:(decide (o.1<=w_.2) && decide (w_.2<=o.2)) with
  | true=>exact bf ((fin _ hb.symm).1 rfl)
  | false=>exact bR ⟨_,rfl,.int (hbn.elim (fun g=>absurd hb (by rw [decide_eq_true g.lo,decide_eq_true g.hi];decide)) id),(by decide +kernel),fun z2=>⟨(by show 1<=sizeLine;decide),(fin _ hb.symm).2 rfl⟩⟩
theorem Fb (F:Fun K "mask" "mask" Y61 f fd) (bl:Bl K mg yA yH yI yJ yK yG yN yO yP yQ yR yS yT yU yV yW yX yY yZ) (zr:Callee P w K mg base 2 "fits" ["table", "k", "codes"] (J33 K yX)):aR P w K mg base CX0 3 f fd ["table", "codes"] (J61 K yV yW yX):=by
 refine F.ok Z61 (fun vs H Q E h=>?_) (fun cdv A outer s H vs Q E hr h=>?_)
 ·obtain ⟨t,c,rws,wi,o,cs,rfl,⟨rl,ou,dx,fs,xs,wy,ht,hf,hfw,hfo,erl,hR,hwi,hou,hole,gk⟩,hS,hlen,q⟩:=h
  rfl
 obtain ⟨t,c,rws,wi,o,cs,rfl,⟨rl,ou,dx,fs,xs,wy,ht,hf,hfw,hfo,erl,hR,hwi,hou,hole,gk⟩,hS,hlen,q⟩:=h
 refine ⟨_,(aj (ay (aw (eL rfl) rfl bl.sum_ PyProof.Rows.boot_sum (aa (pD (dJ rfl bl.range_ (aa (aw aE rfl bl.len_ PySem.boot_len (aa (ar (pv 0) rfl) af)) af)) (cY (N:=["k", "table", "codes"]) (fr:=[0,1]) (cl:=[("table",s.heap.objs.size+1),("codes",s.heap.objs.size+1+1)]) rfl rfl (by decide +kernel) (by decide +kernel) rfl (by decide +kernel) rfl rfl rfl (List.forall_mem_cons.mpr ⟨rfl,List.forall_mem_cons.mpr ⟨rfl,List.forall_mem_nil _⟩⟩) rfl) rfl (fun _ _ _ _=>(pA (bC (aT zr hr rfl (aa (pv 1) (aa (pv 0) (aa (pv 2) af))))))) (fun _ _ _ _=>(ao rm ai (pv 0)))) af)))),?_⟩
 have hxl:xs.length=rws.length:=hR.1
 refine ⟨_,rfl,t,_,_,_,_,rfl,ht,bl.k_Table,bl.na_Table_rows,hf,rl,_,rfl,.inl (SqL.of erl),_,rfl,(by show -(2 ^ 62)<=((xs.length:Nat):Int);omega),(by show ((xs.length:Nat):Int) < 2 ^ 62;omega),fB (fun D i zs H'=>av H H'/\H' D=some (.lst zs)/\∃ ys:List Int,zs=ys.map V.int/\ys.sum=((msk (fO rws cs) i:Nat):Int)/\ys.length<=i)
  (fun D hD=>⟨ah hD _,ae,[],rfl,rfl,Nat.zero_le _⟩) (fun D i zs H' hD hi h=>?_) (fun D zs H' hD h=>?_)⟩
 ·obtain ⟨sm,eD,ys,rfl,nh,hl⟩:=h
  have hi2:i < rws.length:=by first | omega | (rw [← hxl];omega)
  obtain ⟨w_,ew⟩:∃ w_,rws[i]?=some w_:=⟨_,List.getElem?_eq_getElem hi2⟩
  have hg:rws.getD i ([],0)=w_:=getD_at ew
  refine ⟨_,rfl,_,rfl,_,rfl,t,rl,c,dx,fs,xs,rws,i,w_,cs,by rw [Int.zero_add],sm _ _ ht,hf,sm _ _ erl,hR.same sm,ew,sm.seq hS,hlen w_ (List.mem_of_getElem? ew),fun H3 s3=>⟨_,rfl,?_⟩⟩
  have sA:=sm.trans s3
  have eD3:=s3 _ _ eD
  cases hb:gQ w_.1 cs with
  | true =>
   refine bR ⟨_,rfl,_,_,rfl,rfl,⟨by omega,by omega,by decide⟩,dB.mk hi eD3 (aH (by rw [List.length_map];omega)) ⟨sA.upd hD,ae,ys ++ [1 * 2 ^ (0+(i:Int)).toNat],by simp,?_,by simp;omega⟩⟩
   have e2:(0+(i:Int)).toNat=i:=by omega
   rw [e2,List.sum_append,nh,fh,show fO rws cs i=true by unfold fO;rw [hg];exact hb]
   simp
   omega
  | false =>
   refine bf (fV.mk (zs:=ys.map V.int) hi ⟨sA,eD3,ys,rfl,?_,by omega⟩)
   rw [nh,fh,show fO rws cs i=false by unfold fO;rw [hg];exact hb]
   simp
 ·obtain ⟨sm,eD,ys,rfl,nh,hl⟩:=h
  rw [Int.toNat_natCast] at nh
  refine ⟨D,ys,rfl,SqL.of eD,?_⟩
  have q2:=q H' sm
  rw [← hxl,← nh] at q2
  exact q2
theorem Fc (F:Fun K "refuse_unlike" "refuse_unlike" Y66 f fd) (bl:Bl K mg yA yH yI yJ yK yG yN yO yP yQ yR yS yT yU yV yW yX yY yZ) (fm:aZ P w K mg base 2 "refuse_unlike_domains" ["ones", "others"] (J67 K yG yV yW)):aR P w K mg base (CX1 P w) 3 f fd ["one", "other"] (J66 K yG yV yW yX):=by
 refine F.okE Z66 (fun vs H Q E h=>?_) (fun cdv A outer s H vs Q E hr h=>?_)
 ·obtain ⟨t,u,dv,ev,ou,pu,ds,es,d,e,rfl,⟨dx,dl,fs,ht,f1,f2,edl⟩,⟨dy,el,gs,hu,g1,g2,eel⟩,hd,he,hou,hpu,l1,l2,q,qE⟩:=h
  rfl
 obtain ⟨t,u,dv,ev,ou,pu,ds,es,d,e,rfl,⟨dx,dl,fs,ht,f1,f2,edl⟩,⟨dy,el,gs,hu,g1,g2,eel⟩,hd,he,hou,hpu,l1,l2,q,qE⟩:=h
 refine ⟨_,(aj (bx (eO fm jz hr rfl (aa (ao dA (ar (pv 0) rfl) (aX (aa (ar (pv 0) rfl) af))) (aa (ao dA (ar (pv 1) rfl) (aX (aa (ar (pv 1) rfl) af))) af))))),?_⟩
 have hdn:=hd.1
 have hen:=he.1
 refine ⟨_,rfl,t,_,_,_,_,rfl,ht,bl.k_Table,bl.na_Table_domains,f1,_,rfl,t,_,_,_,_,rfl,ht,bl.k_Table,bl.na_Table_outcome,f2,(by show 1<=sizeLine;decide),fun p1 hp1=>?_⟩
 have s1:=ah hp1 (.lst [.ref ou])
 have e1:upd H p1 (.lst [.ref ou]) p1=some (.lst [.ref ou]):=ae
 generalize upd H p1 (.lst [.ref ou])=H1 at s1 e1 ⊢
 refine ⟨dl,p1,_,_,rfl,rfl,s1 _ _ edl,e1,Nat.le_of_lt (aH (by show dv.length+1<=1000;omega)),fun p2 hp2=>?_⟩
 have t2:=ah hp2 (.lst (dv ++ [.ref ou]))
 have s2:=s1.trans t2
 have e2:upd H1 p2 (.lst (dv ++ [.ref ou])) p2=some (.lst (dv ++ [.ref ou])):=ae
 generalize upd H1 p2 (.lst (dv ++ [.ref ou]))=H2 at s2 e2 ⊢
 clear t2
 refine ⟨_,rfl,u,_,_,_,_,rfl,s2 _ _ hu,bl.k_Table,bl.na_Table_domains,g1,_,rfl,u,_,_,_,_,rfl,s2 _ _ hu,bl.k_Table,bl.na_Table_outcome,g2,(by show 1<=sizeLine;decide),fun p3 hp3=>?_⟩
 have t3:=ah hp3 (.lst [.ref pu])
 have s3:=s2.trans t3
 have e3:upd H2 p3 (.lst [.ref pu]) p3=some (.lst [.ref pu]):=ae
 have e2:=t3 _ _ e2
 generalize upd H2 p3 (.lst [.ref pu])=H3 at s3 e3 e2 ⊢
 clear t3
 refine ⟨el,p3,_,_,rfl,rfl,s3 _ _ eel,e3,Nat.le_of_lt (aH (by show ev.length+1<=1000;omega)),fun p4 hp4=>?_⟩
 have t4:=ah hp4 (.lst (ev ++ [.ref pu]))
 have s4:=s3.trans t4
 refine ⟨p2,p4,_,_,ds ++ [d],es ++ [e],rfl,t4 _ _ e2,ae,az.snoc (az.mono hd fun _ _ p=>p.same s4) (hou.same s4),az.snoc (az.mono he fun _ _ p=>p.same s4) (hpu.same s4),fun g H5 s5=>?_,fun g H5 s5=>?_⟩
 ·obtain ⟨a1,a2⟩:=List.append_inj' g rfl
  exact q ⟨a1,by simpa using a2⟩ H5 (s4.trans s5)
 ·exact qE (fun h=>g (by rw [h.1,h.2])) H5 (s4.trans s5)
theorem Fd (F:Fun K "_law_bit_rows" "_law_bit_rows" Y41 f fd) (bl:Bl K mg yA yH yI yJ yK yG yN yO yP yQ yR yS yT yU yV yW yX yY yZ) (ni:Callee P w K mg base 2 "_law_bit_row" ["m", "columns", "out", "last"] (J40 K)):aR P w K mg base CX0 3 f fd ["seeds", "columns", "out"] (J41 K):=by
 refine F.ok Z41 (fun vs H Q E h=>?_) (fun cdv A outer s H vs Q E hr h=>?_)
 ·obtain ⟨sl,cl,ol,ns,xs,cs,oc,rfl,hsl,gk,hn0,hcl,hcs,hok,h1,h4,hoc,ook,q⟩:=h
  rfl
 obtain ⟨sl,cl,ol,ns,xs,cs,oc,rfl,hsl,gk,hn0,hcl,hcs,hok,h1,h4,hoc,ook,q⟩:=h
 refine ⟨_,(ak (aM (i:=3) Z41.nd rfl (Or.inl rfl) (aX af))
  (ak (aM (i:=4) Z41.nd rfl (Or.inl rfl) (aX af))
  (ak (bM PassesOwn.never rfl (bq (pv 0)) (aK (i:=5) Z41.nd rfl (Or.inl rfl))
  (ak (aM (i:=4) Z41.nd rfl (Or.inl rfl) (aT ni hr rfl (aa (pv 5) (aa (pv 1) (aa (pv 2) (aa (pv 4) af))))))
  (aj (bx (mF PySem.F.plainAttrs_list PySem.F.slot_list_append PySem.F.type_list_append cb (pv 3) (aa (pv 4) af))))))
  (aj (ay (pv 3)))))),?_⟩
 refine ⟨(by show 0<=sizeLine;decide),fun l hl=>?_⟩
 have s0:av H (upd H l (.lst [])):=ah hl _
 have e0:upd H l (.lst []) l=some (.lst []):=ae
 generalize upd H l (.lst [])=H0 at s0 e0 ⊢
 refine ⟨(by show 0<=sizeLine;decide),fun la0 vo=>?_⟩
 have s1:=s0.trans (ah vo (.lst []))
 have e1:=ah vo (.lst []) _ _ e0
 have e2:upd H0 la0 (.lst []) la0=some (.lst []):=ae
 have hne:la0 ≠ l:=fun z=>by rw [z,e0] at vo;cases vo
 have QV:H la0=none:=s0.free vo
 generalize upd H0 la0 (.lst [])=H1 at s1 e1 e2 ⊢
 refine ⟨_,rfl,sl,rfl,⟨_,SqL.of (s1 _ _ hsl)⟩,bY (xs:=ns.map V.int) (fun i σ H'=>av H H'/\∃ (la:Addr) (zs:List V) (ws:List BW) (c5:Option V),H' l=some (.lst zs)/\BRL (Fr H l) H' zs ws/\ws.length=i/\(∀ w ∈ ws,du cs oc w)/\(la ≠ l/\H' la=some (.lst [])\/∃ w,dE (Fr H l) H' la w/\du cs oc w)/\σ=[some (.ref sl),some (.ref cl),some (.ref ol),some (.ref l),some (.ref la),c5]) ⟨s1,la0,[],[],_,e1,az.nil,rfl,(fun w h=>by cases h),.inl ⟨hne,e2⟩,rfl⟩ (fun i σ H' _ h=>SqL.of (h.1 _ _ hsl)) (fun i y σ H' ey hh=>?_) (fun σ H' hh=>?_)⟩
 ·obtain ⟨sm,la,zs,ws,c5,el,hz,hlen,gO,hla,rfl⟩:=hh
  obtain ⟨c,rfl,ec⟩:=of_map ey
  have hi:i < ns.length:=(List.getElem?_eq_some_iff.mp ec).1
  refine ⟨_,rfl,_,rfl,_,rfl,_,rfl,c,cl,ol,la,xs,cs,oc,rfl,sm _ _ hcl,hcs.same sm,hok,h1,h4,hoc.same sm,ook,hn0 c (List.mem_of_getElem? ec),?_,fun r w_ H2 s2 gR okw=>?_⟩
  ·rcases hla with ⟨_,z⟩ | ⟨w,z1,z2⟩
   ·exact .inl z
   ·exact .inr ⟨w,z1.wk fun _ _=>trivial,z2⟩
  have el2:=s2 _ _ el
  have hlz:zs.length=i:=by rw [hz.1,hlen]
  refine ⟨_,rfl,.inl ⟨rfl,_,SqL.of el2⟩,_,rfl,l,_,_,rfl,rfl,el2,aH (by omega),?_⟩
  have xI : dE (Fr H l) H2 r w_:=gR.wk fun a ha=>⟨sm.free ha,fun z=>by rw [z,el] at ha;cases ha⟩
  have Bs:dE (Fr H l) (upd H2 l (.lst (zs ++ [.ref r]))) r w_:=xI.updN Fr.out el2
  have hz2:BRL (Fr H l) H2 (zs ++ [.ref r]) (ws ++ [w_]):=az.snoc (hz.same s2) xI
  refine ⟨(sm.trans s2).upd hl,r,zs ++ [.ref r],ws ++ [w_],_,ae,hz2.updN Fr.out el2,by simp [hlen],fun w h=>?_,.inr ⟨w_,Bs,okw⟩,rfl⟩
  rcases List.mem_append.mp h with h | h
  ·exact gO w h
  ·rw [show w=w_ by simpa using h];exact okw
 ·obtain ⟨sm,la,zs,ws,c5,el,hz,hlen,gO,hla,rfl⟩:=hh
  rw [List.length_map] at hlen
  exact ⟨_,rfl,q l zs ws H' sm el (hz.wk fun a h=>h.1) hlen gO⟩
theorem Fe (F:Fun K "__init__" "Words.__init__" Y30 f fd) (bl:Bl K mg yA yH yI yJ yK yG yN yO yP yQ yR yS yT yU yV yW yX yY yZ) (fo:bA CX0 P w K mg base 2 "Domain" "__init__" ["self", "low", "high"] (J1 K yW)) (kC:Callee P w K mg base 2 "is_word" ["text"] (J36 K)):aR P w K mg base CX0 3 f fd ["self", "words"] (J30 K yW):=by
 refine F.ok Z30 (fun vs H Q E h=>?_) (fun cdv A outer s H vs Q E hr h=>?_)
 ·obtain ⟨x,dx,p,zs,rfl,hx,hP,hg,q⟩:=h
  rfl
 obtain ⟨x,dx,p,zs,rfl,hx,hP,hg,q⟩:=h
 refine ⟨_,(ak (aQ (bV (mz fM fM ai (aw aE rfl bl.len_ PySem.boot_len (aa (pv 1) af)) (qO rfl bl.MOST_WORDS_)))
  (aj ju)
  aD)
  (aL (bM PassesOwn.never rfl (bq (pv 1)) (aK (i:=2) Z30.nd rfl (Or.inl rfl))
  (aj (aQ (bV (bC (aT kC hr rfl (aa (pv 2) af))))
  (aj ju)
  aD)))
  (ak (aQ (aG om (aw ip rfl bl.len_ PySem.boot_len (aa (bN (ij rfl) rfl bl.set_ PyProof.Rows.boot_set (aa (pv 1) af)) af)) (aw aE rfl bl.len_ PySem.boot_len (aa (pv 1) af)) (aJ _))
  (aj ju)
  aD)
  (ak (bx (eG fo bK hr rfl (aa (pv 0) (aa ai (aa (ao fR (aw aE rfl bl.len_ PySem.boot_len (aa (pv 1) af)) ai) af)))))
  (aj (cy (pv 0) (bN cB rfl bl.list_ PyProof.Rows.boot_list (aa (pv 1) af)) rfl)))))),?_⟩
 have hS:SqL K H p (zs.map V.str):=SqL.of hP
 have hpx:p ≠ x:=dO hP hx (by intro z;cases z)
 have hlen:(zs.map V.str).length=zs.length:=List.length_map _
 have h1:=hg.some_
 have h40:=hg.few
 refine ⟨_,rfl,p,_,rfl,.inl hS,_,_,rfl,rfl,_,rfl,dD (by rw [hlen];omega) ?_⟩
 refine ⟨_,_,rfl,rfl,_,rfl,?_⟩
 rw [decide_eq_true (show (((zs.map V.str).length:Nat):Int)<=40 by rw [hlen];omega)]
 refine bf ?_
 refine ⟨fun σ' H'=>H'=H/\∃ c2:Option V,σ'=[some (.ref x),some (.ref p),c2],?_,?_⟩
 ·refine ⟨_,rfl,p,rfl,⟨_,hS⟩,bY (xs:=zs.map V.str) (fun i σ H'=>H'=H/\∃ c2:Option V,σ=[some (.ref x),some (.ref p),c2]) ⟨rfl,_,rfl⟩ (fun i σ H' _ h=>by rw [h.1];exact hS) (fun i y σ H' e h=>?_) (fun σ H' h=>h)⟩
  obtain ⟨e0,c2,rfl⟩:=h
  rw [e0]
  obtain ⟨z,rfl,ez⟩:=fc e
  have hw:=hg.words z (List.mem_of_getElem? ez)
  have hz:z.length<=1000:=by
   have hw2:=hw
   unfold isw at hw2
   simp only [Bool.and_eq_true,decide_eq_true_eq] at hw2
   omega
  refine ⟨_,rfl,z,rfl,hz,_,rfl,?_⟩
  rw [hw]
  exact bf ⟨rfl,_,rfl⟩
 rintro σ2 H2 ⟨e2,c2,rfl⟩
 rw [e2]
 refine ⟨_,rfl,p,zs,rfl,hS,by omega,fun l hl=>⟨l,zs,rfl,ae,by omega,_,rfl,p,_,rfl,.inl ((ah hl _).seq hS),_,_,rfl,rfl,_,rfl,?_⟩⟩
 have s1:=ah hl (mO P w l zs)
 have cf:=kj zs zs.length (Nat.le_refl _)
 rw [List.take_length] at cf
 refine bL (by rw [hlen,cf.mpr hg.once];omega) ?_
 have hx1:=s1 _ _ hx
 have hP1:=s1 _ _ hP
 refine ⟨_,rfl,_,rfl,p,_,rfl,.inl (SqL.of hP1),_,_,rfl,rfl,x,dx,0,_,rfl,hx1,?_⟩
 have e1:mkd yW (upd H l (mO P w l zs)) x dx 0 ((((zs.map V.str).length:Nat):Int) - 1) x=some (.ins yW dx [("low",.int 0),("high",.int ((((zs.map V.str).length:Nat):Int) - 1))]):=ae
 have e2:mkd yW (upd H l (mO P w l zs)) x dx 0 ((((zs.map V.str).length:Nat):Int) - 1) p=some (.lst (zs.map V.str)):=by unfold mkd;rw [aC hpx,aC hpx];exact hP1
 have e3:∀ b o,b ≠ x->H b=some o->mkd yW (upd H l (mO P w l zs)) x dx 0 ((((zs.map V.str).length:Nat):Int) - 1) b=some o:=fun b o hb h=>by unfold mkd;rw [aC hb,aC hb];exact s1 b o h
 have eh:(((zs.map V.str).length:Nat):Int) - 1=hiW zs:=by rw [hlen];rfl
 refine ⟨_,rfl,p,_,rfl,.inl (SqL.of e2),fun l2 hl2=>⟨_,rfl,x,_,dx,_,rfl,dc e1 hl2,bl.k_Words,bl.na_Words_words,(by show 2 < 1000;decide),?_⟩⟩
 show Q .non (upd (upd (mkd yW (upd H l (mO P w l zs)) x dx 0 ((((zs.map V.str).length:Nat):Int) - 1)) l2 (.lst (zs.map V.str))) x (.ins yW dx (bp (Str.ofString "words") (.ref l2) [(Str.ofString "low",.int 0),(Str.ofString "high",.int ((((zs.map V.str).length:Nat):Int) - 1))])))
 rw [put3]
 have hl3:mkd yW (upd H l (mO P w l zs)) x dx 0 ((((zs.map V.str).length:Nat):Int) - 1) l2=none:=hl2
 clear hl2
 generalize mkd yW (upd H l (mO P w l zs)) x dx 0 ((((zs.map V.str).length:Nat):Int) - 1)=H2 at e1 e2 e3 hl3 ⊢
 rw [eh]
 have nl:l2 ≠ x:=(ba e1 hl3).symm
 exact q _ l2 (fun b o hb h=>(aC hb).trans (dc (e3 b o hb h) hl3)) ae ((aC nl).trans ae)
theorem Ff (F:Fun K "way_by" "way_by" Y72 f fd) (bl:Bl K mg yA yH yI yJ yK yG yN yO yP yQ yR yS yT yU yV yW yX yY yZ) (k_First:aP CX0 P w K mg base 2 "First" yO ["self"] (J4 K yO)) (k_Only:aP CX0 P w K mg base 2 "Only" yP ["self"] (J13 K yP)) (k_Like:aP CX0 P w K mg base 2 "Like" yQ ["self"] (J8 K yQ)) (k_Low:aP CX0 P w K mg base 2 "Low" yR ["self"] (J10 K yR)) (k_High:aP CX0 P w K mg base 2 "High" yS ["self"] (J6 K yS)) (k_Sum:aP CX0 P w K mg base 2 "Sum" yT ["self"] (J15 K yT)):aR P w K mg base (CX1 P w) 4 f fd ["name"] (J72 K yJ yO yP yQ yR yS yT):=by
 refine F.okE Z72 (fun vs H Q E h=>?_) (fun cdv A outer s H vs Q E hr h=>?_)
 ·obtain ⟨z,rfl,hz,q,qE⟩:=h
  rfl
 obtain ⟨z,rfl,hz,q,qE⟩:=h
 refine ⟨_,(ak (bM (dM rfl rfl rfl) rfl (bq (aX (aa (km k_First bK hr rfl) (aa (km k_Only bK hr rfl) (aa (km k_Like bK hr rfl) (aa (km k_Low bK hr rfl) (aa (km k_High bK hr rfl) (aa (km k_Sum bK hr rfl) af)))))))) (aK (i:=1) Z72.nd rfl (Or.inl rfl))
  (aj (aQ (aG bJ (ar (pv 1) rfl) (pv 0) (aJ _))
  (aj (ay (pv 1)))
  aD)))
  (aj (bO bl.x_BadWay hr.hd rfl bl.BadWay_ (aa (xx (pv 0)) af)))),?_⟩
 refine fun w0 d0 hw hdw hnw=>⟨w0,d0,rfl,ae,rfl,?_⟩
 have t0:av H (upd (upd (upd H d0 (.own w0)) w0 (.ins yO d0 [])) w0 (.ins yO d0 [("called",.str (Str.ofString "first"))])):=((ah hdw _).upd hw).upd hw
 have y0:WyN yO (upd (upd (upd H d0 (.own w0)) w0 (.ins yO d0 [])) w0 (.ins yO d0 [("called",.str (Str.ofString "first"))])) w0 (Str.ofString "first"):=⟨d0,ae⟩
 generalize upd (upd (upd H d0 (.own w0)) w0 (.ins yO d0 [])) w0 (.ins yO d0 [("called",.str (Str.ofString "first"))])=H0 at t0 y0 ⊢
 clear hw hdw hnw
 refine fun w1 d1 hw hdw hnw=>⟨w1,d1,rfl,ae,rfl,?_⟩
 have t1:av H0 (upd (upd (upd H0 d1 (.own w1)) w1 (.ins yP d1 [])) w1 (.ins yP d1 [("called",.str (Str.ofString "only"))])):=((ah hdw _).upd hw).upd hw
 have y1:WyN yP (upd (upd (upd H0 d1 (.own w1)) w1 (.ins yP d1 [])) w1 (.ins yP d1 [("called",.str (Str.ofString "only"))])) w1 (Str.ofString "only"):=⟨d1,ae⟩
 generalize upd (upd (upd H0 d1 (.own w1)) w1 (.ins yP d1 [])) w1 (.ins yP d1 [("called",.str (Str.ofString "only"))])=H1 at t1 y1 ⊢
 clear hw hdw hnw
 have y0:=y0.same t1
 refine fun w2 d2 hw hdw hnw=>⟨w2,d2,rfl,ae,rfl,?_⟩
 have t2:av H1 (upd (upd (upd H1 d2 (.own w2)) w2 (.ins yQ d2 [])) w2 (.ins yQ d2 [("called",.str (Str.ofString "like"))])):=((ah hdw _).upd hw).upd hw
 have y2:WyN yQ (upd (upd (upd H1 d2 (.own w2)) w2 (.ins yQ d2 [])) w2 (.ins yQ d2 [("called",.str (Str.ofString "like"))])) w2 (Str.ofString "like"):=⟨d2,ae⟩
 generalize upd (upd (upd H1 d2 (.own w2)) w2 (.ins yQ d2 [])) w2 (.ins yQ d2 [("called",.str (Str.ofString "like"))])=H2 at t2 y2 ⊢
 clear hw hdw hnw
 have y0:=y0.same t2
 have y1:=y1.same t2
 refine fun w3 d3 hw hdw hnw=>⟨w3,d3,rfl,ae,rfl,?_⟩
 have t3:av H2 (upd (upd (upd H2 d3 (.own w3)) w3 (.ins yR d3 [])) w3 (.ins yR d3 [("called",.str (Str.ofString "low"))])):=((ah hdw _).upd hw).upd hw
 have y3:WyN yR (upd (upd (upd H2 d3 (.own w3)) w3 (.ins yR d3 [])) w3 (.ins yR d3 [("called",.str (Str.ofString "low"))])) w3 (Str.ofString "low"):=⟨d3,ae⟩
 generalize upd (upd (upd H2 d3 (.own w3)) w3 (.ins yR d3 [])) w3 (.ins yR d3 [("called",.str (Str.ofString "low"))])=H3 at t3 y3 ⊢
 clear hw hdw hnw
 have y0:=y0.same t3
 have y1:=y1.same t3
 have y2:=y2.same t3
 refine fun w4 d4 hw hdw hnw=>⟨w4,d4,rfl,ae,rfl,?_⟩
 have t4:av H3 (upd (upd (upd H3 d4 (.own w4)) w4 (.ins yS d4 [])) w4 (.ins yS d4 [("called",.str (Str.ofString "high"))])):=((ah hdw _).upd hw).upd hw
 have y4:WyN yS (upd (upd (upd H3 d4 (.own w4)) w4 (.ins yS d4 [])) w4 (.ins yS d4 [("called",.str (Str.ofString "high"))])) w4 (Str.ofString "high"):=⟨d4,ae⟩
 generalize upd (upd (upd H3 d4 (.own w4)) w4 (.ins yS d4 [])) w4 (.ins yS d4 [("called",.str (Str.ofString "high"))])=H4 at t4 y4 ⊢
 clear hw hdw hnw
 have y0:=y0.same t4
 have y1:=y1.same t4
 have y2:=y2.same t4
 have y3:=y3.same t4
 refine fun w5 d5 hw hdw hnw=>⟨w5,d5,rfl,ae,rfl,?_⟩
 have t5:av H4 (upd (upd (upd H4 d5 (.own w5)) w5 (.ins yT d5 [])) w5 (.ins yT d5 [("called",.str (Str.ofString "sum"))])):=((ah hdw _).upd hw).upd hw
 have y5:WyN yT (upd (upd (upd H4 d5 (.own w5)) w5 (.ins yT d5 [])) w5 (.ins yT d5 [("called",.str (Str.ofString "sum"))])) w5 (Str.ofString "sum"):=⟨d5,ae⟩
 generalize upd (upd (upd H4 d5 (.own w5)) w5 (.ins yT d5 [])) w5 (.ins yT d5 [("called",.str (Str.ofString "sum"))])=H5 at t5 y5 ⊢
 clear hw hdw hnw
 have y0:=y0.same t5
 have y1:=y1.same t5
 have y2:=y2.same t5
 have y3:=y3.same t5
 have y4:=y4.same t5
 have s5:av H H5:=((((t0.trans t1).trans t2).trans t3).trans t4).trans t5
 refine ⟨(by show 6<=sizeLine;decide),fun l hl=>?_⟩
 have sl:av H5 (upd H5 l (.lst [V.ref w0,.ref w1,.ref w2,.ref w3,.ref w4,.ref w5])):=ah hl _
 have el:upd H5 l (.lst [V.ref w0,.ref w1,.ref w2,.ref w3,.ref w4,.ref w5]) l=some (.lst [V.ref w0,.ref w1,.ref w2,.ref w3,.ref w4,.ref w5]):=ae
 generalize upd H5 l (.lst [V.ref w0,.ref w1,.ref w2,.ref w3,.ref w4,.ref w5])=H6 at sl el ⊢
 have y0:=y0.same sl
 have y1:=y1.same sl
 have y2:=y2.same sl
 have y3:=y3.same sl
 have y4:=y4.same sl
 have y5:=y5.same sl
 have sA:=s5.trans sl
 have key:∀ (i:Nat) (x:V),[V.ref w0,.ref w1,.ref w2,.ref w3,.ref w4,.ref w5][i]?=some x->∃ (a C:Addr) (y:Str),x=.ref a/\(cl6 yO yP yQ yR yS yT)[i]?=some C/\six[i]?=some y/\WyN C H6 a y/\Cls K C/\bc K C (Str.ofString "called"):=fun i x e=>by
  match i,e with
  | 0,e=>cases e;exact ⟨w0,yO,_,rfl,rfl,rfl,y0,bl.k_First,bl.na_First_called⟩
  | 1,e=>cases e;exact ⟨w1,yP,_,rfl,rfl,rfl,y1,bl.k_Only,bl.na_Only_called⟩
  | 2,e=>cases e;exact ⟨w2,yQ,_,rfl,rfl,rfl,y2,bl.k_Like,bl.na_Like_called⟩
  | 3,e=>cases e;exact ⟨w3,yR,_,rfl,rfl,rfl,y3,bl.k_Low,bl.na_Low_called⟩
  | 4,e=>cases e;exact ⟨w4,yS,_,rfl,rfl,rfl,y4,bl.k_High,bl.na_High_called⟩
  | 5,e=>cases e;exact ⟨w5,yT,_,rfl,rfl,rfl,y5,bl.k_Sum,bl.na_Sum_called⟩
  | n+6,e=>simp at e
 refine ⟨l,rfl,⟨_,SqL.of el⟩,bY (xs:=[V.ref w0,.ref w1,.ref w2,.ref w3,.ref w4,.ref w5]) (fun i σ H'=>(∃ c1:Option V,σ=[some (.str z),c1])/\H'=H6/\∀ j:Nat,j < i->six[j]? ≠ some z) ⟨⟨_,rfl⟩,rfl,(fun j h=>absurd h (Nat.not_lt_zero j))⟩ (fun i σ H' _ h=>by rw [h.2.1];exact SqL.of el) (fun i x σ H' e h=>?_) (fun σ H' h=>?_)⟩
 ·obtain ⟨⟨c1,rfl⟩,e0,hno⟩:=h
  rw [e0]
  obtain ⟨a,C,y,rfl,eC,ey,⟨dx,ha⟩,hc,hn⟩:=key i x e
  refine ⟨_,rfl,a,_,_,_,_,rfl,ha,hc,hn,rfl,_,rfl,rfl,_,rfl,?_⟩
  refine cc (fun g=>?_) (fun g=>?_)
  ·have g' : V.str y=V.str z:=lA g
   injection g' with g'
   subst g'
   exact ⟨_,rfl,q i ey a C H6 sA eC ⟨dx,ha⟩⟩
  ·refine ⟨⟨_,rfl⟩,rfl,fun j hj=>?_⟩
   by_cases hji:j < i
   ·exact hno j hji
   ·have:j=i:=by omega
    subst this
    rw [ey]
    intro q2
    exact (oE g) (by injection q2 with q2;rw [q2])
 ·obtain ⟨⟨c1,rfl⟩,e0,hno⟩:=h
  rw [e0]
  refine ⟨_,rfl,z,rfl,hz.len,hz.low,(by decide +kernel),fun z2=>⟨(by show 1<=sizeLine;decide),qE (fun hm=>?_) H6 sA⟩⟩
  obtain ⟨j,hj,ej⟩:=List.getElem_of_mem hm
  exact hno j hj (by rw [List.getElem?_eq_getElem hj,ej])
theorem Fg (F:Fun K "_law_stacked_so" "_law_stacked_so" Y56 f fd) (bl:Bl K mg yA yH yI yJ yK yG yN yO yP yQ yR yS yT yU yV yW yX yY yZ) (eV:Callee P w K mg base 3 "_law_points" ["columns"] (J51 K)) (fF:Callee P w K mg base 3 "_law_codes" ["columns", "point", "turn"] (J43 K)) (lY:Callee P w K mg base 3 "alike" ["one", "other"] (J31 K yV yW)) (nj:Callee P w K mg base 3 "mask" ["table", "codes"] (J61 K yV yW yX)):aR P w K mg base CX0 4 f fd ["table", "other", "found", "columns", "turn"] (J56 K yV yW yX):=by
 refine F.ok Z56 (fun vs H Q E h=>?_) (fun cdv A outer s H vs Q E hr h=>?_)
 ·obtain ⟨t,u,x,cl,tn,nm,wy,ou,zs,dv,rx,rws,ds,d,nm2,pu,ev,rx2,aW,xr,xs,cs,wi,rfl,hT,hU,hF,h60,hwi,hcl,hcs,hok,hc4,hcz,q⟩:=h
  rfl
 obtain ⟨t,u,x,cl,tn,nm,wy,ou,zs,dv,rx,rws,ds,d,nm2,pu,ev,rx2,aW,xr,xs,cs,wi,rfl,hT,hU,hF,h60,hwi,hcl,hcs,hok,hc4,hcz,q⟩:=h
 refine ⟨_,(ak (aQ (PW.pt (eE (bV (bC (aw bH rfl bl.isinstance_ PyProof.Rows.boot_isinstance (aa (pv 2) (aa (bz (v:=.ref yX) rfl bl.Table_ rfl) af))))) (eE (aG fL (ar (pv 2) rfl) (ar (pv 0) rfl) (aJ _)) (dP (aG (uH hr) (ar (pv 2) rfl) (ar (pv 0) rfl) (aJ _))))))
  (aj (ay bU))
  aD)
  (ak (aQ (PW.pt (eE (aG fL (ar (pv 2) rfl) (ar (pv 0) rfl) (aJ _)) (eE (aG (pE hr) (ar (pv 2) rfl) (ao dA (ar (pv 0) rfl) (ar (pv 1) rfl)) (aJ _)) (dP (bV (bC (aT lY hr rfl (aa (ar (pv 2) rfl) (aa (ar (pv 0) rfl) af)))))))))
  (aj (ay bU))
  aD)
  (aL (bM PassesOwn.never rfl (iD rfl bl.zip_ (aa (ar (pv 2) rfl) (aa (ar (pv 0) rfl) af))) (dz rfl (aN (aK (i:=5) Z56.nd rfl (Or.inl rfl)) (aN (aK (i:=6) Z56.nd rfl (Or.inl rfl)) bD)))
  (aj (aQ (bV (bC (aT lY hr rfl (aa (pv 5) (aa (pv 6) af)))))
  (aj (ay bU))
  aD)))
  (ak (bM PassesOwn.never rfl (bq (aT eV hr rfl (aa (pv 3) af))) (aK (i:=7) Z56.nd rfl (Or.inl rfl))
  (ak (aM (i:=8) Z56.nd rfl (Or.inl rfl) (aT fF hr rfl (aa (pv 3) (aa (pv 7) (aa (pv 4) af)))))
  (ak (aM (i:=9) Z56.nd rfl (Or.inl rfl) (ao bE (aT nj hr rfl (aa (pv 0) (aa (pv 8) af))) (ao rm (aT nj hr rfl (aa (pv 1) (aa (pv 8) af))) (aw aE rfl bl.len_ PySem.boot_len (aa (ar (pv 0) rfl) af)))))
  (aj (aQ (aG fL (aT nj hr rfl (aa (pv 2) (aa (pv 8) af))) (pv 9) (aJ _))
  (aj (ay bU))
  aD)))))
  (aj (ay bU)))))),?_⟩
 obtain ⟨dx,na,dl,rl,fs,ht,f2,f3,f4,f5,f6,f1,ena,edl,erl⟩:=id hT.tr
 obtain ⟨dx3,na3,dl3,rl3,fs3,ht3,g2,g3,g4,g5,g6,g1,Fh,Bt,Fi⟩:=id hF.tr
 obtain ⟨dx4,na4,dl4,rl4,fs4,ht4,i2,i3,i4,i5,i6,i1,QW,QX,Fj⟩:=id hU.tr
 refine ⟨_,rfl,_,_,_,_,true,rfl,.ref _,bl.t_Table.ty ht3,bl.f_tt,_,rfl,bf ?_⟩
 refine ⟨_,rfl,x,_,_,_,_,rfl,ht3,bl.k_Table,bl.na_Table_name,g2,_,rfl,t,_,_,_,_,rfl,ht,bl.k_Table,bl.na_Table_name,f2,rfl,_,rfl,fS rfl ?_⟩
 refine ⟨_,rfl,x,_,_,_,_,rfl,ht3,bl.k_Table,bl.na_Table_names,g5,_,rfl,t,_,_,_,_,rfl,ht,bl.k_Table,bl.na_Table_names,f5,tK (SqL.of Fh) (SqL.of ena) (fun x hx=>.inl (List.all_eq_true.mp (tV zs) x hx)) ⟨_,rfl,bf ?_⟩⟩
 refine ⟨_,rfl,x,_,_,_,_,rfl,ht3,bl.k_Table,bl.na_Table_way,g3,_,rfl,t,_,_,_,_,rfl,ht,bl.k_Table,bl.na_Table_way,f3,rfl,_,rfl,fS rfl ?_⟩
 refine ⟨_,rfl,x,_,_,_,_,rfl,ht3,bl.k_Table,bl.na_Table_rows,g1,_,rfl,t,_,_,_,_,rfl,ht,bl.k_Table,bl.na_Table_rows,f1,_,rfl,u,_,_,_,_,rfl,ht4,bl.k_Table,bl.na_Table_rows,i1,rl,rl4,_,_,rfl,rfl,erl,Fj,Nat.le_of_lt (aH (by have:=hT.o.ct.2.2;rw [hT.rl.1,hU.rl.1];omega)),fun p1 hp1=>?_⟩
 have u1:=ah hp1 (.lst (rx ++ rx2))
 have e1:upd H p1 (.lst (rx ++ rx2)) p1=some (.lst (rx ++ rx2)):=ae
 generalize upd H p1 (.lst (rx ++ rx2))=H1 at u1 e1 ⊢
 have hRR:RL NT H1 (rx ++ rx2) (rws ++ aW):=az.append (hT.rl.same u1) (hU.rl.same u1)
 have hFR:RL NT H1 xr (rws ++ aW):=hF.rl.same u1
 refine kv (SqL.of (u1 _ _ Fi)) (SqL.of e1) (by rw [hFR.1,hRR.1]) (mX hFR hRR) ⟨_,rfl,bf ?_⟩
 refine ⟨_,rfl,x,_,_,_,_,rfl,u1 _ _ ht3,bl.k_Table,bl.na_Table_outcome,g4,_,rfl,t,_,_,_,_,rfl,u1 _ _ ht,bl.k_Table,bl.na_Table_outcome,f4,ou,ou,d,d,true,rfl,hT.out.same u1,hT.out.same u1,by simp,_,rfl,bf ?_⟩
 refine ⟨fun σ' H'=>av H H'/\∃ c5 c6:Option V,σ'=[some (.ref t),some (.ref u),some (.ref x),some (.ref cl),some (.int tn),c5,c6,none,none,none],?_,?_⟩
 ·refine ⟨_,rfl,x,_,_,_,_,rfl,u1 _ _ ht3,bl.k_Table,bl.na_Table_domains,g6,_,rfl,t,_,_,_,_,rfl,u1 _ _ ht,bl.k_Table,bl.na_Table_domains,f6,dl3,dl,rfl,⟨_,SqL.of (u1 _ _ Bt)⟩,⟨_,SqL.of (u1 _ _ edl)⟩,lQ (xs:=dv) (ys:=dv) (fun i σ H'=>av H1 H'/\∃ c5 c6:Option V,σ=[some (.ref t),some (.ref u),some (.ref x),some (.ref cl),some (.int tn),c5,c6,none,none,none]) ⟨av.refl _,_,_,rfl⟩ (fun i σ H' h=>⟨SqL.of (h.1 _ _ (u1 _ _ Bt)),SqL.of (h.1 _ _ (u1 _ _ edl))⟩) (fun i y y2 σ H' T ex ey h hT_=>?_) (fun σ H' h=>⟨u1.trans h.1,h.2⟩)⟩
  obtain ⟨sm,c4,c5,rfl⟩:=h
  rw [ex] at ey
  cases ey
  have s2:=sm.trans (ah hT_ (.tup [y,y]))
  have eT:upd H' T (.tup [y,y]) T=some (.tup [y,y]):=ae
  generalize upd H' T (.tup [y,y])=H2 at s2 eT ⊢
  obtain ⟨a,c,rfl,ec,ha⟩:=az.get hT.doms ex
  have ha2:=(ha.same u1).same s2
  refine ⟨T,_,rfl,SqT.of eT,rfl,_,_,rfl,_,_,rfl,rfl,?_⟩
  exact ⟨_,rfl,_,rfl,a,a,c,c,true,rfl,ha2,ha2,by simp,_,rfl,bf ⟨s2,_,_,rfl⟩⟩
 rintro σ3 H3 ⟨s3,c5,c6,rfl⟩
 refine ⟨_,rfl,cl,xs,cs,rfl,s3 _ _ hcl,hcs.same s3,hok,hc4,fun pl pz H4 s4 e4 hpt=>?_⟩
 have hT4:=(hT.same s3).same s4
 have hU4:=(hU.same s3).same s4
 have hF4:=(hF.same s3).same s4
 have Fl:=s4 _ _ (s3 _ _ hcl)
 have Fm:=(hcs.same s3).same s4
 refine ⟨pl,rfl,⟨_,SqL.of e4⟩,bY (xs:=pz) (fun i σ H'=>av H4 H'/\∃ c7 c8 c9:Option V,σ=[some (.ref t),some (.ref u),some (.ref x),some (.ref cl),some (.int tn),c5,c6,c7,c8,c9]) ⟨av.refl _,_,_,_,rfl⟩ (fun i σ H' _ hh=>SqL.of (hh.1 _ _ e4)) (fun i y σ H' ey hh=>?_) (fun σ H' hh=>q H' ((s3.trans s4).trans hh.1))⟩
 obtain ⟨sm,c7,c8,c9,rfl⟩:=hh
 obtain ⟨r,p,rfl,ep,_,hr_⟩:=az.get (hpt.same sm) ey
 have hpo:=m8.iff.mp (List.mem_of_getElem? ep)
 refine ⟨_,rfl,_,rfl,_,rfl,cl,r,xs,cs,p,tn,rfl,sm _ _ Fl,Fm.same sm,hok,hc4,hr_,hpo,fun l cd H5 s5 e5 hat=>?_⟩
 have sA:=sm.trans s5
 have cdl:cd.length=cs.length:=hat.1
 have wl:∀ (rw_:List Rw),(∀ w ∈ rw_,cz (ds.map Dm.b) (Dm.b d) w)->∀ w ∈ rw_,w.1.length=cd.length:=fun rw_ h w hw=>by rw [(h w hw).len,List.length_map,hT.o.len,cdl,hcz]
 refine ⟨_,rfl,_,rfl,t,l,rws,wi,_,cd,rfl,(hT4.same sA).tbl hwi,SqL.of e5,wl rws hT.o.rows,fun H6 s6=>?_⟩
 have sB:=sA.trans s6
 refine ⟨_,rfl,_,rfl,u,l,aW,wi,_,cd,rfl,(hU4.same sB).tbl hwi,SqL.of (s6 _ _ e5),wl aW hU.o.rows,fun H7 s7=>?_⟩
 have sC:=sB.trans s7
 have sD:=(s3.trans s4).trans sC
 have hm2:=pH (fO aW cd) aW.length
 have QY:2 ^ aW.length<=2 ^ 60:=Nat.pow_le_pow_right (by decide) h60
 have Qi:rws.length<=200:=hT.o.ct.2.2
 refine ⟨_,rfl,t,_,_,_,_,rfl,sD _ _ ht,bl.k_Table,bl.na_Table_rows,f1,rl,_,rfl,.inl (SqL.of (sD _ _ erl)),_,_,rfl,rfl,⟨by omega,by rw [hT.rl.1];omega,?_⟩,_,_,rfl,rfl,?_⟩
 ·have:2 ^ 60 < 2 ^ 64:=by decide
  rw [Int.natAbs_natCast]
  omega
 refine ⟨_,rfl,_,rfl,x,l,rws ++ aW,wi,_,cd,rfl,(hF4.same sC).tbl hwi,SqL.of (s7 _ _ (s6 _ _ e5)),wl _ hF.o.rows,fun H8 s8=>⟨_,rfl,rfl,_,rfl,fS ?_ ⟨sC.trans s8,_,_,_,rfl⟩⟩⟩
 rw [vh,hT.rl.1,Int.toNat_natCast]
theorem Fn (F:Fun K "refuse_way" "refuse_way" Y68 f fd) (bl:Bl K mg yA yH yI yJ yK yG yN yO yP yQ yR yS yT yU yV yW yX yY yZ) (nq:aZ P w K mg base 4 "way_by" ["name"] (J72 K yJ yO yP yQ yR yS yT)):aR P w K mg base (CX1 P w) 5 f fd ["way", "outcome"] (J68 K yJ yV yW):=by
 refine F.okE Z68 (fun vs H Q E h=>?_) (fun cdv A outer s H vs Q E hr h=>?_)
 ·obtain ⟨z,ou,b,rfl,hz,hO,q,qE⟩:=h
  rfl
 obtain ⟨z,ou,b,rfl,hz,hO,q,qE⟩:=h
 refine ⟨_,(aj (aQ (PW.pt (fA (aG bJ (ar (eO nq jz hr rfl (aa (pv 0) af)) rfl) aI (aJ _)) (dG (bC (aw bH rfl bl.isinstance_ PyProof.Rows.boot_isinstance (aa (pv 1) (aa (bz (v:=.ref yW) rfl bl.Words_ rfl) af)))))))
  (aj (bO bl.x_BadWay hr.hd rfl bl.BadWay_ (aa aI af)))
  aD)),?_⟩
 refine ⟨_,rfl,z,rfl,hz,fun i ei x C H' s' eC hw=>?_,fun hn H' s'=>qE (fun g=>hn g.1) H' s'⟩
 have hF:Cls K C/\bc K C (Str.ofString "called"):=by
  match i,eC with
  | 0,eC=>cases eC;exact ⟨bl.k_First,bl.na_First_called⟩
  | 1,eC=>cases eC;exact ⟨bl.k_Only,bl.na_Only_called⟩
  | 2,eC=>cases eC;exact ⟨bl.k_Like,bl.na_Like_called⟩
  | 3,eC=>cases eC;exact ⟨bl.k_Low,bl.na_Low_called⟩
  | 4,eC=>cases eC;exact ⟨bl.k_High,bl.na_High_called⟩
  | 5,eC=>cases eC;exact ⟨bl.k_Sum,bl.na_Sum_called⟩
  | n+6,eC=>simp [cl6] at eC
 obtain ⟨dx,hx⟩:=hw
 have mem:z ∈ six:=List.mem_of_getElem? ei
 refine ⟨x,_,_,_,_,rfl,hx,hF.1,hF.2,rfl,rfl,_,rfl,?_⟩
 by_cases hs:z=Str.ofString "sum"
 ·obtain ⟨dy,fs,ho⟩:=hO.same s'
  cases b with
  | false=>exact dD (by rw [hs]) ⟨_,rfl,_,_,_,_,false,rfl,.ref _,bl.t_Numbers.ty ho,bl.f_nw,_,rfl,bf (q ⟨mem,fun g=>by cases g.2⟩ _ s')⟩
  | true=>exact dD (by rw [hs]) ⟨_,rfl,_,_,_,_,true,rfl,.ref _,bl.t_Words.ty ho,bl.f_ww,_,rfl,bR ⟨(by show 1<=sizeLine;decide),qE (fun g=>g.2 ⟨hs,rfl⟩) _ s'⟩⟩
 ·exact bL (fun e=>by injection e with e;exact hs e) (bf (q ⟨mem,fun g=>hs g.1⟩ _ s'))
theorem Fo (F:Fun K "judged" "judged" Y37 f fd) (bl:Bl K mg yA yH yI yJ yK yG yN yO yP yQ yR yS yT yU yV yW yX yY yZ) (gX:aV CX0 P w K mg base 4 yO "verdict" ["self", "codes", "outcome"] (J24 K yO yV yW)) (iK:aV CX0 P w K mg base 4 yP "verdict" ["self", "codes", "outcome"] (J28 K yP yV yW)) (iL:aV CX0 P w K mg base 4 yQ "verdict" ["self", "codes", "outcome"] (J26 K yQ yV yW)) (jM:aV CX0 P w K mg base 4 yR "verdict" ["self", "codes", "outcome"] (J27 K yR yV yW)) (iM:aV CX0 P w K mg base 4 yS "verdict" ["self", "codes", "outcome"] (J25 K yS yV yW)) (jN:aV CX0 P w K mg base 4 yT "verdict" ["self", "codes", "outcome"] (J29 K yT yV yW)) (nq:aZ P w K mg base 4 "way_by" ["name"] (J72 K yJ yO yP yQ yR yS yT)):aR P w K mg base CX0 5 f fd ["table", "rows"] (J37 K yV yW yX):=by
 refine F.ok Z37 (fun vs H Q E h=>?_) (fun cdv A outer s H vs Q E hr h=>?_)
 ·obtain ⟨t,rws,wi,o,m,rfl,⟨rl,ou,dx,fs,xs,wy,ht,hf,hfw,hfo,erl,hR,hwi,hou,hole,gk⟩,q⟩:=h
  rfl
 obtain ⟨t,rws,wi,o,m,rfl,⟨rl,ou,dx,fs,xs,wy,ht,hf,hfw,hfo,erl,hR,hwi,hou,hole,gk⟩,q⟩:=h
 refine ⟨_,(ak (mS (i:=2) Z37.nd rfl (Or.inl rfl) (lR rfl bl.enumerate_ (aa (ar (pv 0) rfl) af)) (fY (N:=["k", "row", "rows"]) (k:=2) (fr:=[1]) (cl:=[("rows",s.heap.objs.size+1)]) rfl rfl (by decide +kernel) (by decide +kernel) rfl rfl (List.forall_mem_cons.mpr ⟨rfl,List.forall_mem_nil _⟩) rfl) rfl (fun _ _ _ _=>(lC (K:=K) (n:=2) rfl rfl (aN (aK (i:=0) (show (["k", "row", "rows"]:List Str).Nodup by decide +kernel) rfl (Or.inl rfl) (Or.inr rfl)) (aN (aK (i:=1) (show (["k", "row", "rows"]:List Str).Nodup by decide +kernel) rfl (Or.inl rfl) (Or.inr rfl)) bD)))) (fun _ _ _ _=>(pA (tT (K:=K) rfl (ao pd (ao pb (pv 2) (pv 0)) ai)))) (fun _ _ _ _=>(aO (pw (K:=K) rfl) (pv 1) ai (fun _ _=>rfl))))
  (aj (ay (uO (qQ gX bl.k_First (qQ iK bl.k_Only (qQ iL bl.k_Like (qQ jM bl.k_Low (qQ iM bl.k_High (qQ jN bl.k_Sum A2)))))) bK hr (eO nq ig hr rfl (aa (ar (pv 0) rfl) af)) (aa (pv 2) (aa (ar (pv 0) rfl) af)))))),?_⟩
 have hxl:xs.length=rws.length:=hR.1
 refine ⟨_,rfl,t,_,_,_,_,rfl,ht,bl.k_Table,bl.na_Table_rows,hf,rl,rfl,⟨_,SqL.of erl⟩,rO (xs:=xs) (fun D i zs H'=>av H H'/\H' D=some (.lst zs)/\zs=(pkF rws (gj m) i).map V.int)
  (fun D hD=>⟨ah hD _,ae,rfl⟩) (fun D i zs H' hD _ h=>SqL.of (h.1 _ _ erl)) (fun D i x zs H' T hD ex h hT ts hts=>?_) (fun D zs H' hD h=>?_)⟩
 ·obtain ⟨sm,eD,rfl⟩:=h
  have s2:=sm.trans (ah hT (.tup [.int i,x]))
  have eT:upd H' T (.tup [.int i,x]) T=some (.tup [.int i,x]):=ae
  have eD2:=ah hT (.tup [.int i,x]) _ _ eD
  generalize upd H' T (.tup [.int i,x])=H2 at s2 eT eD2 ⊢
  obtain ⟨r,w_,rfl,ew,ce,cv,g1,_,g2,g3⟩:=az.get (hR.same s2) ex
  have hi:i < xs.length:=(List.getElem?_eq_some_iff.mp ex).1
  have hg:rws.getD i ([],0)=w_:=getD_at ew
  have hpl:=sW rws (gj m) i
  obtain ⟨t0,t1,rfl⟩:∃ t0 t1,ts=[t0,t1]:=by
   match ts,hts with
   | [t0,t1],_=>exact ⟨t0,t1,rfl⟩
  refine ⟨T,_,rfl,SqT.of eT,rfl,_,_,rfl,_,_,rfl,rfl,⟨[some (.int i),some (.ref r)],rfl,rfl⟩,?_⟩
  refine ⟨_,rfl,_,rfl,_,_,rfl,rfl,Int.natCast_nonneg _,_,_,rfl,rfl,gj m i,rfl,?_⟩
  have hs:=qU rws (gj m) i
  rw [hg] at hs
  cases hb:gj m i with
  | true =>
   rw [hb] at hs
   refine bR ⟨_,rfl,r,_,_,_,rfl,rfl,SqT.of g1,rfl,dB.mk hi eD2 (aH (by rw [List.length_map];omega)) ⟨s2.upd hD,ae,?_⟩⟩
   rw [hs,List.map_append];rfl
  | false =>
   rw [hb] at hs
   refine bf (fV.mk (zs:=(pkF rws (gj m) i).map V.int) hi ⟨s2,eD2,?_⟩)
   rw [hs];simp
 ·obtain ⟨sm,eD,rfl⟩:=h
  rw [hxl] at eD
  have hwy:wy ∈ six:=List.mem_of_getElem? hwi
  refine ⟨_,rfl,t,_,_,_,_,rfl,sm _ _ ht,bl.k_Table,bl.na_Table_way,hfw,wy,rfl,pN hwy,fun i2 ei2 x C H2 s2 eC hw=>?_,fun hn=>absurd hwy hn⟩
  have ii:i2=wi:=wK ei2 hwi
  subst ii
  have sA:=sm.trans s2
  obtain ⟨dw,hx⟩:=hw
  have hpl:=sW rws (gj m) rws.length
  have key:(C,jJ K C yV yW i2) ∈ [(yO,jJ K yO yV yW 0),(yP,jJ K yP yV yW 1),(yQ,jJ K yQ yV yW 2),(yR,jJ K yR yV yW 3),(yS,jJ K yS yV yW 4),(yT,jJ K yT yV yW 5)]:=by
   match i2,eC with
   | 0,eC=>cases eC;exact .head _
   | 1,eC=>cases eC;exact .tail _ (.head _)
   | 2,eC=>cases eC;exact .tail _ (.tail _ (.head _))
   | 3,eC=>cases eC;exact .tail _ (.tail _ (.tail _ (.head _)))
   | 4,eC=>cases eC;exact .tail _ (.tail _ (.tail _ (.tail _ (.head _))))
   | 5,eC=>cases eC;exact .tail _ (.tail _ (.tail _ (.tail _ (.tail _ (.head _)))))
   | n+6,eC=>simp [cl6] at eC
  refine ⟨x,(C,jJ K C yV yW i2),dw,_,rfl,key,hx,rfl,_,rfl,_,rfl,t,_,_,_,_,rfl,sA _ _ ht,bl.k_Table,bl.na_Table_outcome,hfo,x,D,ou,_,o,rfl,⟨dw,_,hx⟩,hou.same sA,hole,SqL.of (s2 _ _ eD),by omega,fun r H3 s3 h3=>q r H3 (sA.trans s3) h3⟩
theorem Fp (F:Fun K "_law_domain" "_law_domain" Y45 f fd) (bl:Bl K mg yA yH yI yJ yK yG yN yO yP yQ yR yS yT yU yV yW yX yY yZ) (k_Numbers:aP CX0 P w K mg base 3 "Numbers" yV ["self", "low", "high"] (J12 K yV)) (k_Words:aP CX0 P w K mg base 3 "Words" yW ["self", "words"] (J30 K yW)) (eI:Callee P w K mg base 4 "_law_word" ["cell", "k"] (J60 K)):aR P w K mg base CX0 5 f fd ["column"] (J45 K yV yW):=by
 refine F.ok Z45 (fun vs H Q E h=>?_) (fun cdv A outer s H vs Q E hr h=>?_)
 ·obtain ⟨l,c,rfl,⟨pl,ts,_,_,hl,hpl,hp⟩,ok,q⟩:=h
  rfl
 obtain ⟨l,c,rfl,⟨pl,ts,_,_,hl,hpl,hp⟩,ok,q⟩:=h
 refine ⟨_,(ak (aQ (bC (aO aS (pv 0) ai (fun _ _=>rfl)))
  (aj (ay (dU k_Words bK hr rfl (aa (pD (dJ rfl bl.range_ (aa (ao bE (aO bI (aO aS (aO aS (pv 0) ai (fun _ _=>rfl)) (qG mx ai) (fun _ _=>rfl)) ai (fun _ _=>rfl)) ai) af)) (cY (N:=["k", "column"]) (fr:=[0]) (cl:=[("column",s.heap.objs.size+1)]) rfl rfl (by decide +kernel) (by decide +kernel) rfl (by decide +kernel) rfl rfl rfl (List.forall_mem_cons.mpr ⟨rfl,List.forall_mem_nil _⟩) rfl) rfl (fun _ _ _ _=>bX) (fun _ _ _ _=>(aT eI hr rfl (aa (aO (dr (K:=K) rfl) (pv 1) ai (fun _ _=>rfl)) (aa (pv 0) af))))) af))))
  aD)
  (aj (ay (dU k_Numbers bK hr rfl (aa (aO bI (aO aS (aO aS (pv 0) ai (fun _ _=>rfl)) ai (fun _ _=>rfl)) ai (fun _ _=>rfl)) (aa (aO bI (aO aS (aO aS (pv 0) ai (fun _ _=>rfl)) (qG mx ai) (fun _ _=>rfl)) ai (fun _ _=>rfl)) af)))))),?_⟩
 have h1:=ok.some_
 obtain ⟨ts',r,ps',p,ets,eps,hp',er⟩:=hp.last (by intro z;rw [z] at hp;have:=hp.length;simp at this;omega)
 have il:atI ts (-1)=some (.ref r):=by rw [ets];exact mE _ _
 have hhi:c.hi=p.2:=by unfold Col.hi;rw [eps];simp
 obtain ⟨p0,ep0,hlo⟩:=ok.first
 obtain ⟨r0,er0,hr0⟩:∃ r0,ts[0]?=some (.ref r0)/\H r0=some (.tup [.int p0.1,.int p0.2]):=by
  obtain ⟨x,ex⟩:∃ x,ts[0]?=some x:=⟨_,List.getElem?_eq_getElem (by rw [hp.length];omega)⟩
  obtain ⟨p2,r2,f1,rfl,f2⟩:=hp.get ex
  rw [ep0] at f1;cases f1
  exact ⟨r2,ex,f2⟩
 have hle:=ok.le
 refine ⟨_,rfl,l,_,_,_,rfl,rfl,SqL.of hl,rfl,_,rfl,?_⟩
 cases hw:c.w with
 | false =>
  refine bf ?_
  refine ⟨_,rfl,l,_,_,_,rfl,rfl,SqL.of hl,rfl,pl,_,_,_,rfl,rfl,SqL.of hpl,bS (j:=0) er0,r0,_,_,_,rfl,rfl,SqT.of hr0,z0 _ _,_,rfl,l,_,_,_,rfl,rfl,SqL.of hl,rfl,_,rfl,pl,_,_,_,rfl,rfl,SqL.of hpl,il,r,_,_,_,rfl,rfl,SqT.of er,z1 _ _,fun x dx hx hdx hne=>⟨x,dx,p0.1,p.2,rfl,ae,by rw [hlo,← hhi];exact hle,rfl,?_⟩⟩
  refine q x _ ?_ (.inl ⟨hw,dx,_,ae,?_,?_,rfl⟩)
  ·unfold mkd
   exact (((ah hdx _).upd hx).upd hx).upd hx
  ·show some (V.int p0.1)=some (V.int c.lo)
   rw [hlo]
  ·show some (V.int p.2)=some (V.int c.hi)
   rw [hhi]
 | true =>
  refine bR ?_
  have z0':=ok.w0 hw p0 ep0
  have z40:p.2 < 40:=by
   obtain ⟨pl_,e1,e2⟩:=ok.last
   have:=ok.wl hw _ _ e1
   omega
  have Fq:c.lo=0:=by omega
  have hb:0<=p.2:=by omega
  refine ⟨_,rfl,l,_,_,_,rfl,rfl,SqL.of hl,rfl,_,rfl,pl,_,_,_,rfl,rfl,SqL.of hpl,il,r,_,_,_,rfl,rfl,SqT.of er,z1 _ _,_,_,rfl,rfl,_,rfl,(by show -(2 ^ 62)<=p.2+1;omega),(by show p.2+1 < 2 ^ 62;omega),fB (fun D i zs H'=>av H H'/\H' D=some (.lst zs)/\zs=(wds c.sd i).map V.str) (fun D hD=>⟨ah hD _,ae,rfl⟩) (fun D i zs H' hD hi h=>?_) (fun D zs H' hD h=>?_)⟩
  ·obtain ⟨sm,eD,rfl⟩:=h
   have hlz:((wds c.sd i).map V.str).length=i:=by unfold wds;simp
   refine ⟨_,rfl,l,_,_,_,rfl,rfl,SqL.of (sm _ _ hl),rfl,_,rfl,_,_,rfl,dB.mk hi eD (aH (by rw [hlz];omega)) ⟨sm.upd hD,ae,?_⟩⟩
   rw [u9,List.map_append,Int.zero_add]
   rfl
  ·obtain ⟨sm,eD,rfl⟩:=h
   intro x dx hx hdx hne
   have s3:av H' (upd (upd H' dx (.own x)) x (.ins yW dx [])):=(ah hdx _).upd hx
   have wl:(wds c.sd (p.2+1).toNat).length=(p.2+1).toNat:=by unfold wds;simp
   refine ⟨x,dx,D,wds c.sd (p.2+1).toNat,rfl,ae,s3 _ _ eD,qT (by omega) (by omega),fun H4 l4 k1 k2 k3=>⟨rfl,q x H4 (fun b o e=>k1 b o (ba (sm _ _ e) hx) (s3 _ _ (sm _ _ e))) ?_⟩⟩
   refine .inr ⟨hw,dx,_,l4,k2,?_,?_,rfl,rfl,by rw [k3,hhi]⟩
   ·show some (V.int 0)=some (V.int c.lo)
    rw [Fq]
   ·show some (V.int (hiW (wds c.sd (p.2+1).toNat)))=some (V.int c.hi)
    rw [hhi]
    unfold hiW
    rw [wl,Int.toNat_of_nonneg (by omega)]
    congr 2
    omega
theorem Fs (F:Fun K "_law_other_domain" "_law_other_domain" Y50 f fd) (bl:Bl K mg yA yH yI yJ yK yG yN yO yP yQ yR yS yT yU yV yW yX yY yZ) (k_Words:aP CX0 P w K mg base 3 "Words" yW ["self", "words"] (J30 K yW)) (k_Numbers:aP CX0 P w K mg base 3 "Numbers" yV ["self", "low", "high"] (J12 K yV)):aR P w K mg base CX0 5 f fd ["domain", "turn"] (J50 K yV yW):=by
 refine F.ok Z50 (fun vs H Q E h=>?_) (fun cdv A outer s H vs Q E hr h=>?_)
 ·obtain ⟨a,tn,d,rfl,hd,ok,q⟩:=h
  rfl
 obtain ⟨a,tn,d,rfl,hd,ok,q⟩:=h
 refine ⟨_,(ak (aQ (PW.pt (eE (bC (aw bH rfl bl.isinstance_ PyProof.Rows.boot_isinstance (aa (pv 0) (aa (bz (v:=.ref yV) rfl bl.Numbers_ rfl) af)))) (dP (aG bJ (ao aU (pv 1) ai) ai (aJ _)))))
  (aj (ay (dU k_Numbers bK hr rfl (aa (ao fR (ar (pv 0) rfl) ai) (aa (ar (pv 0) rfl) af)))))
  aD)
  (ak (aQ (PW.pt (eE (aG bJ (ao aU (pv 1) ai) ai (aJ _)) (dP (aG bJ (ar (pv 0) rfl) ai (aJ _)))))
  (aj (ay (dU k_Numbers bK hr rfl (aa (ar (pv 0) rfl) (aa (ar (pv 0) rfl) af)))))
  aD)
  (aj (ay (dU k_Words bK hr rfl (aa (ao dA (bQ ck (ar (pv 0) rfl) (cj ai) cg) (bQ ck (ar (pv 0) rfl) cg (cj ai))) af)))))),?_⟩
 have hle:=ok.le
 cases d with
 | inl p =>
  obtain ⟨lo,hg⟩:=p
  obtain ⟨dx0,fs,ha,f1,f2,_⟩:=hd
  refine ⟨_,rfl,_,_,_,_,true,rfl,.ref _,bl.t_Numbers.ty ha,bl.f_nn,_,rfl,bR (bR ?_)⟩
  refine ⟨_,rfl,a,_,_,_,_,rfl,ha,bl.k_Numbers,bl.na_Numbers_low,f1,_,_,rfl,rfl,_,rfl,a,_,_,_,_,rfl,ha,bl.k_Numbers,bl.na_Numbers_high,f2,fun x dx hx hdx hne=>?_⟩
  refine ⟨x,dx,lo - 1,hg,rfl,ae,by have:lo<=hg:=hle;omega,rfl,q x (.inl (lo - 1,hg)) _ (fj hx hdx) gN (fun z=>?_) ?_ ?_ ?_⟩
  ·injection z with z
   injection z with z _
   omega
  ·show lo - 1<=hg
   have:lo<=hg:=hle
   omega
  ·show lo - 1<=lo
   omega
  ·exact Int.le_refl _
 | inr zs =>
  have g:Good zs:=ok
  obtain ⟨dx0,fs,l,ha,f0,hl,f1,f2,_⟩:=hd
  have hn1:=g.some_
  have hn4:=g.few
  refine ⟨_,rfl,_,_,_,_,false,rfl,.ref _,bl.t_Words.ty ha,bl.f_wn,_,rfl,bf ?_⟩
  refine ⟨_,rfl,_,_,rfl,rfl,(by show (0:Int) < 3;decide),rfl,_,rfl,?_⟩
  refine cc (fun g0=>?_) (fun g0=>?_)
  ·refine ⟨_,rfl,a,_,_,_,_,rfl,ha,bl.k_Words,bl.na_Words_low,f1,_,_,rfl,rfl,_,rfl,a,_,_,_,_,rfl,ha,bl.k_Words,bl.na_Words_high,f2,fun x dx hx hdx hne=>?_⟩
   refine ⟨x,dx,_,_,rfl,ae,by have:(0:Int)<=hiW zs:=hle;omega,rfl,q x (.inl (0 - 1,hiW zs)) _ (fj hx hdx) gN (fun z=>by cases z) ?_ ?_ ?_⟩
   ·show (0:Int) - 1<=hiW zs
    have:(0:Int)<=hiW zs:=hle
    omega
   ·show (0:Int) - 1<=0
    decide
   ·exact Int.le_refl _
  have num:∀ (x dx:Addr),H x=none->H dx=none->Q (.ref x) (mkd yV (upd (upd H dx (.own x)) x (.ins yV dx [])) x dx 0 (hiW zs)):=fun x dx hx hdx=>by
   refine q x (.inl (0,hiW zs)) _ (fj hx hdx) gN (fun z=>by cases z) hle (Int.le_refl _) (Int.le_refl _)
  refine ⟨_,rfl,_,_,rfl,rfl,(by show (0:Int) < 3;decide),rfl,_,rfl,?_⟩
  refine cc (fun g1=>?_) (fun g1=>?_)
  ·refine bR ⟨_,rfl,a,_,_,_,_,rfl,ha,bl.k_Words,bl.na_Words_low,f1,_,rfl,a,_,_,_,_,rfl,ha,bl.k_Words,bl.na_Words_high,f2,fun x dx hx hdx hne=>?_⟩
   exact ⟨x,dx,_,_,rfl,ae,hle,rfl,num x dx hx hdx⟩
  refine ⟨_,rfl,a,_,_,_,_,rfl,ha,bl.k_Words,bl.na_Words_high,f2,rfl,_,rfl,?_⟩
  refine cc (fun g2=>?_) (fun g2=>?_)
  ·refine ⟨_,rfl,a,_,_,_,_,rfl,ha,bl.k_Words,bl.na_Words_low,f1,_,rfl,a,_,_,_,_,rfl,ha,bl.k_Words,bl.na_Words_high,f2,fun x dx hx hdx hne=>?_⟩
   exact ⟨x,dx,_,_,rfl,ae,hle,rfl,num x dx hx hdx⟩
  have h2:2<=zs.length:=by
   have:¬ (hiW zs=0):=fun z=>g2 (by rw [z];rfl)
   unfold hiW at this
   omega
  refine ⟨_,rfl,a,_,_,_,_,rfl,ha,bl.k_Words,bl.na_Words_words,f0,_,rfl,l,_,rfl,SqL.of hl,fun c1 hc1=>?_⟩
  rw [show (some (1:Int))=some ((1:Nat):Int) from rfl,lU]
  have s1:=ah hc1 (.lst ((zs.map V.str).drop 1))
  have e1:upd H c1 (.lst ((zs.map V.str).drop 1)) c1=some (.lst ((zs.map V.str).drop 1)):=ae
  generalize upd H c1 (.lst ((zs.map V.str).drop 1))=H1 at s1 e1 ⊢
  refine ⟨_,rfl,a,_,_,_,_,rfl,s1 _ _ ha,bl.k_Words,bl.na_Words_words,f0,_,rfl,l,_,rfl,SqL.of (s1 _ _ hl),fun c2 hc2=>?_⟩
  rw [show (some (1:Int))=some ((1:Nat):Int) from rfl,dI]
  have s2:=ah hc2 (.lst ((zs.map V.str).take 1))
  have e2:upd H1 c2 (.lst ((zs.map V.str).take 1)) c2=some (.lst ((zs.map V.str).take 1)):=ae
  generalize upd H1 c2 (.lst ((zs.map V.str).take 1))=H2 at s2 e2 ⊢
  have hlen:((zs.map V.str).drop 1).length+((zs.map V.str).take 1).length<=1000:=by
   rw [List.length_drop,List.length_take,List.length_map];omega
  refine ⟨c1,c2,_,_,rfl,rfl,s2 _ _ e1,e2,Nat.le_of_lt (aH hlen),fun c3 hc3=>?_⟩
  have s3:=ah hc3 (.lst ((zs.map V.str).drop 1 ++ (zs.map V.str).take 1))
  have e3:upd H2 c3 (.lst ((zs.map V.str).drop 1 ++ (zs.map V.str).take 1)) c3=some (.lst ((zs.drop 1 ++ zs.take 1).map V.str)):=by
   rw [ae,List.map_append,List.map_drop,List.map_take]
  generalize upd H2 c3 (.lst ((zs.map V.str).drop 1 ++ (zs.map V.str).take 1))=H3 at s3 e3 ⊢
  intro x dx hx hdx hne
  have s4:av H3 (upd (upd H3 dx (.own x)) x (.ins yW dx [])):=(ah hdx _).upd hx
  have sA:=(s1.trans s2).trans s3
  have gr:=vf g
  refine ⟨x,dx,c3,zs.drop 1 ++ zs.take 1,rfl,ae,s4 _ _ e3,gr,fun H5 l5 k1 k2 k3=>⟨rfl,?_⟩⟩
  refine q x (.inr (zs.drop 1 ++ zs.take 1)) H5 (fun b o e=>k1 b o (ba (sA _ _ e) hx) (s4 _ _ (sA _ _ e))) ⟨dx,_,l5,k2,rfl,k3,rfl,rfl,rfl⟩ (fun z=>zl g h2 (Sum.inr.inj z)) gr (Int.le_refl _) ?_
  show hiW zs<=hiW (zs.drop 1 ++ zs.take 1)
  unfold hiW
  rw [wY]
  exact Int.le_refl _
theorem Ft (F:Fun K "verdict" "verdict" Y71 f fd) (bl:Bl K mg yA yH yI yJ yK yG yN yO yP yQ yR yS yT yU yV yW yX yY yZ) (vp:Callee P w K mg base 5 "judged" ["table", "rows"] (J37 K yV yW yX)) (nj:Callee P w K mg base 5 "mask" ["table", "codes"] (J61 K yV yW yX)):aR P w K mg base CX0 6 f fd ["table", "codes"] (J71 K yV yW yX):=by
 refine F.ok Z71 (fun vs H Q E h=>?_) (fun cdv A outer s H vs Q E hr h=>?_)
 ·obtain ⟨t,c,rws,wi,o,cs,rfl,hT,hS,hlen,q⟩:=h
  rfl
 obtain ⟨t,c,rws,wi,o,cs,rfl,hT,hS,hlen,q⟩:=h
 refine ⟨_,(aj (ay (aT vp hr rfl (aa (pv 0) (aa (aT nj hr rfl (aa (pv 0) (aa (pv 1) af))) af))))),?_⟩
 refine ⟨_,rfl,_,rfl,_,rfl,t,c,rws,wi,o,cs,rfl,hT,hS,hlen,fun H2 s2=>?_⟩
 refine ⟨t,rws,wi,o,_,rfl,hT.same s2,fun r H3 s3 h3=>q r H3 (s2.trans s3) ?_⟩
 rw [wL] at h3
 exact h3
theorem Fu (F:Fun K "__init__" "Table.__init__" Y17 f fd) (bl:Bl K mg yA yH yI yJ yK yG yN yO yP yQ yR yS yT yU yV yW yX yY yZ) (nr:aZ P w K mg base 5 "refuse_names" ["names"] (J64 K yH)) (lK:aZ P w K mg base 5 "refuse_counts" ["names", "rows"] (J63 K yI)) (pR:aZ P w K mg base 5 "refuse_way" ["way", "outcome"] (J68 K yJ yV yW)) (pS:aZ P w K mg base 5 "refuse_row" ["domains", "outcome", "cells", "code"] (J65 K yK yV yW)) (ug:Callee P w K mg base 5 "own_row" ["cells", "code"] (J62 K)):aR P w K mg base (CX1 P w) 6 f fd ["self", "name", "names", "domains", "outcome", "way", "rows"] (J17 K yH yI yJ yK yV yW yX):=by
 refine F.okE Z17 (fun vs H Q E h=>?_) (fun cdv A outer s H vs Q E hr h=>?_)
 ·obtain ⟨x,dx,na,dl,ou,rl,nm,wy,zs,dv,rx,bs,o,rws,bw,kk,rfl,hx,hna,hsm,h50,q8,hbo,hdl,hdv,hou,hrl,hR,hb5,hbn,hk,q,qE⟩:=h
  rfl
 obtain ⟨x,dx,na,dl,ou,rl,nm,wy,zs,dv,rx,bs,o,rws,bw,kk,rfl,hx,hna,hsm,h50,q8,hbo,hdl,hdv,hou,hrl,hR,hb5,hbn,hk,q,qE⟩:=h
 refine ⟨_,(ak (bx (eO nr jz hr rfl (aa (ao dA (aX (aa (pv 1) af)) (pv 2)) af)))
  (ak (bx (eO lK jz hr rfl (aa (pv 2) (aa (pv 6) af))))
  (ak (bx (eO pR jz hr rfl (aa (pv 5) (aa (pv 4) af))))
  (aL (bM (dM rfl rfl rfl) rfl (bq (pv 6)) (dz rfl (aN (aK (i:=7) Z17.nd rfl (Or.inl rfl)) (aN (aK (i:=8) Z17.nd rfl (Or.inl rfl)) bD)))
  (aj (bx (eO pS jz hr rfl (aa (pv 3) (aa (pv 4) (aa (pv 7) (aa (pv 8) af))))))))
  (ak (cy (pv 0) (pv 1) rfl)
  (ak (cy (pv 0) (bN cB rfl bl.list_ PyProof.Rows.boot_list (aa (pv 2) af)) rfl)
  (ak (cy (pv 0) (bN cB rfl bl.list_ PyProof.Rows.boot_list (aa (pv 3) af)) rfl)
  (ak (cy (pv 0) (pv 4) rfl)
  (ak (cy (pv 0) (pv 5) rfl)
  (aj (cy (pv 0) (fW (bq (pv 6)) (dh (N:=["cells", "code"]) (k:=2) rfl rfl (by decide +kernel) (by decide +kernel) (by decide +kernel)) rfl (fun _ _ _ _=>(lC (K:=K) (n:=2) rfl rfl (aN (aK (i:=0) (show (["cells", "code"]:List Str).Nodup by decide +kernel) rfl (Or.inl rfl) (Or.inr rfl)) (aN (aK (i:=1) (show (["cells", "code"]:List Str).Nodup by decide +kernel) rfl (Or.inl rfl) (Or.inr rfl)) bD)))) (fun _ _ _ _=>bX) (fun _ _ _ _=>(aT ug hr rfl (aa (pv 0) (aa (pv 1) af))))) rfl))))))))))),?_⟩
 have hzl:(zs.map V.str).length=zs.length:=List.length_map _
 refine ⟨_,rfl,(by show 1<=sizeLine;decide),fun l1 hl1=>?_⟩
 have s1:=ah hl1 (.lst [.str nm])
 have e1:upd H l1 (.lst [.str nm]) l1=some (.lst [.str nm]):=ae
 generalize upd H l1 (.lst [.str nm])=H1 at s1 e1 ⊢
 refine ⟨_,rfl,l1,na,_,_,rfl,rfl,e1,s1 _ _ hna,(by rw [hzl];show 1+zs.length<=sizeLine;exact big (by omega)),fun l2 hl2=>?_⟩
 have s2:=s1.trans (ah hl2 (.lst ([V.str nm] ++ zs.map V.str)))
 have e2:upd H1 l2 (.lst ([V.str nm] ++ zs.map V.str)) l2=some (.lst ((nm :: zs).map V.str)):=ae
 generalize upd H1 l2 (.lst ([V.str nm] ++ zs.map V.str))=H2 at s2 e2 ⊢
 refine ⟨l2,nm :: zs,rfl,SqL.of e2,hsm,by rw [List.length_cons];omega,fun hnm H3 t3=>?_,fun g H3 t3=>qE _ (by rw [hk.k1 g];rfl) _ (s2.trans t3)⟩
 have s3:=s2.trans t3
 refine ⟨_,rfl,_,rfl,na,rl,_,_,rfl,SqL.of (s3 _ _ hna),SqL.of (s3 _ _ hrl),fun hct=>?_,fun g=>qE _ (by rw [hk.k2 hnm (by rw [hzl] at g;exact g)];rfl) _ s3⟩
 rw [hzl] at hct
 have h1:=hct.1
 have h4:=hct.2.1
 have gk:=hct.2.2
 refine ⟨_,rfl,_,rfl,wy,ou,bw,rfl,q8,hbo.same s3,fun hwy H4 t4=>?_,fun g H4 t4=>qE _ (by rw [hk.k3 hnm hct g];rfl) _ (s3.trans t4)⟩
 have s4:=s3.trans t4
 refine ⟨fun σ' H'=>av H H'/\(∃ c7 c8:Option V,σ'=[some (.ref x),some (.str nm),some (.ref na),some (.ref dl),some (.ref ou),some (.str wy),some (.ref rl),c7,c8])/\∀ w ∈ rws,cz bs o w,?_,?_⟩
 ·refine ⟨_,rfl,rl,rfl,⟨_,SqL.of (s4 _ _ hrl)⟩,bY (xs:=rx) (fun i σ H'=>av H H'/\(∃ c7 c8:Option V,σ=[some (.ref x),some (.str nm),some (.ref na),some (.ref dl),some (.ref ou),some (.str wy),some (.ref rl),c7,c8])/\∀ w ∈ rws.take i,cz bs o w) ⟨s4,⟨_,_,rfl⟩,(fun w hw=>by simp at hw)⟩ (fun i σ H' _ h=>SqL.of (h.1 _ _ hrl)) (fun i y σ H' e h=>?_) (fun σ H' h=>?_)⟩
  ·obtain ⟨sm,⟨c7,c8,rfl⟩,gO⟩:=h
   obtain ⟨r,w_,rfl,ew,ce,cv,g1,_,g2,g3⟩:=az.get (hR.same sm) e
   have Bu:=List.mem_of_getElem? ew
   refine ⟨r,_,rfl,SqT.of g1,rfl,_,_,rfl,_,_,rfl,rfl,?_⟩
   exact ⟨_,rfl,_,rfl,_,rfl,_,rfl,dl,ou,ce,dv,cv,bs,o,w_,rfl,SqL.of (sm _ _ hdl),az.mono hdv fun _ _ p=>p.same sm,hou.same sm,g2,g3,hbn w_ Bu,fun ok H2 t2=>⟨sm.trans t2,⟨_,_,rfl⟩,take_all ew gO ok⟩,fun g H2 t2=>qE _ (by rw [hk.k4 hnm hct hwy fun h=>g (h w_ Bu)];rfl) _ (sm.trans t2)⟩
  ·obtain ⟨sm,hσ,gO⟩:=h
   rw [hR.1,List.take_length] at gO
   exact ⟨sm,hσ,gO⟩
 rintro σ5 H5 ⟨s5,⟨c7,c8,rfl⟩,hok⟩
 have q:=q (hk.k0 hnm hct hwy hok)
 have x5:=s5 _ _ hx
 have nax:na ≠ x:=dO hna hx (by intro z;cases z)
 have dlx:dl ≠ x:=dO hdl hx (by intro z;cases z)
 have rlx:rl ≠ x:=dO hrl hx (by intro z;cases z)
 have k5:∀ b o,b ≠ x->H b=some o->H5 b=some o:=fun b o _ e=>s5 b o e
 have R5:=RL.hide x5 (hR.same s5)
 refine ⟨_,rfl,_,rfl,x,_,dx,_,rfl,x5,bl.k_Table,bl.na_Table_name,(by show 0 < 1000;decide),?_⟩
 have k6:∀ b o,b ≠ x->H5 b=some o->upd H5 x (.ins yX dx [(Str.ofString "name",.str nm)]) b=some o:=fun b o hb e=>(aC hb).trans e
 have x6:upd H5 x (.ins yX dx [(Str.ofString "name",.str nm)]) x=some (.ins yX dx [(Str.ofString "name",.str nm)]):=ae
 have g6:upd H5 x (.ins yX dx (bp (Str.ofString "name") (.str nm) []))=upd H5 x (.ins yX dx [(Str.ofString "name",.str nm)]):=rfl
 rw [g6]
 clear g6
 generalize upd H5 x (.ins yX dx [(Str.ofString "name",.str nm)])=H6 at k6 x6 ⊢
 refine ⟨_,rfl,na,_,rfl,.inl (SqL.of (k6 _ _ nax (s5 _ _ hna))),fun m1 hm1=>⟨_,rfl,x,_,dx,_,rfl,dc x6 hm1,bl.k_Table,bl.na_Table_names,(by show 1 < 1000;decide),?_⟩⟩
 have g7:upd (upd H6 m1 (.lst (zs.map V.str))) x (.ins yX dx (bp (Str.ofString "names") (V.ref m1) [(Str.ofString "name",V.str nm)]))=upd (upd H6 m1 (.lst (zs.map V.str))) x (.ins yX dx [(Str.ofString "name",V.str nm),(Str.ofString "names",V.ref m1)]):=by rw [pf1]
 rw [g7]
 clear g7
 have k7:∀ b o,b ≠ x->H5 b=some o->upd (upd H6 m1 (.lst (zs.map V.str))) x (.ins yX dx [(Str.ofString "name",V.str nm),(Str.ofString "names",V.ref m1)]) b=some o:=fun b o hb e=>(aC hb).trans (dc (k6 b o hb e) hm1)
 have x7:upd (upd H6 m1 (.lst (zs.map V.str))) x (.ins yX dx [(Str.ofString "name",V.str nm),(Str.ofString "names",V.ref m1)]) x=some (.ins yX dx [(Str.ofString "name",V.str nm),(Str.ofString "names",V.ref m1)]):=ae
 have m1x:m1 ≠ x:=fun z=>by rw [z,x6] at hm1;cases hm1
 have j7:upd (upd H6 m1 (.lst (zs.map V.str))) x (.ins yX dx [(Str.ofString "name",V.str nm),(Str.ofString "names",V.ref m1)]) m1=some (.lst (zs.map V.str)):=(aC m1x).trans ae
 generalize upd (upd H6 m1 (.lst (zs.map V.str))) x (.ins yX dx [(Str.ofString "name",V.str nm),(Str.ofString "names",V.ref m1)])=H7 at k7 x7 j7 ⊢
 refine ⟨_,rfl,dl,_,rfl,.inl (SqL.of (k7 _ _ dlx (s5 _ _ hdl))),fun m2 hm2=>⟨_,rfl,x,_,dx,_,rfl,dc x7 hm2,bl.k_Table,bl.na_Table_domains,(by show 2 < 1000;decide),?_⟩⟩
 have g8:upd (upd H7 m2 (.lst dv)) x (.ins yX dx (bp (Str.ofString "domains") (V.ref m2) [(Str.ofString "name",V.str nm),(Str.ofString "names",V.ref m1)]))=upd (upd H7 m2 (.lst dv)) x (.ins yX dx [(Str.ofString "name",V.str nm),(Str.ofString "names",V.ref m1),(Str.ofString "domains",V.ref m2)]):=by rw [pf2]
 rw [g8]
 clear g8
 have k8:∀ b o,b ≠ x->H5 b=some o->upd (upd H7 m2 (.lst dv)) x (.ins yX dx [(Str.ofString "name",V.str nm),(Str.ofString "names",V.ref m1),(Str.ofString "domains",V.ref m2)]) b=some o:=fun b o hb e=>(aC hb).trans (dc (k7 b o hb e) hm2)
 have x8:upd (upd H7 m2 (.lst dv)) x (.ins yX dx [(Str.ofString "name",V.str nm),(Str.ofString "names",V.ref m1),(Str.ofString "domains",V.ref m2)]) x=some (.ins yX dx [(Str.ofString "name",V.str nm),(Str.ofString "names",V.ref m1),(Str.ofString "domains",V.ref m2)]):=ae
 have m2x:m2 ≠ x:=fun z=>by rw [z,x7] at hm2;cases hm2
 have j8:upd (upd H7 m2 (.lst dv)) x (.ins yX dx [(Str.ofString "name",V.str nm),(Str.ofString "names",V.ref m1),(Str.ofString "domains",V.ref m2)]) m1=some (.lst (zs.map V.str)):=(aC m1x).trans (dc j7 hm2)
 have i8:upd (upd H7 m2 (.lst dv)) x (.ins yX dx [(Str.ofString "name",V.str nm),(Str.ofString "names",V.ref m1),(Str.ofString "domains",V.ref m2)]) m2=some (.lst dv):=(aC m2x).trans ae
 generalize upd (upd H7 m2 (.lst dv)) x (.ins yX dx [(Str.ofString "name",V.str nm),(Str.ofString "names",V.ref m1),(Str.ofString "domains",V.ref m2)])=H8 at k8 x8 j8 i8 ⊢
 refine ⟨_,rfl,_,rfl,x,_,dx,_,rfl,x8,bl.k_Table,bl.na_Table_outcome,(by show 3 < 1000;decide),?_⟩
 have g9:upd H8 x (.ins yX dx (bp (Str.ofString "outcome") (V.ref ou) [(Str.ofString "name",V.str nm),(Str.ofString "names",V.ref m1),(Str.ofString "domains",V.ref m2)]))=upd H8 x (.ins yX dx [(Str.ofString "name",V.str nm),(Str.ofString "names",V.ref m1),(Str.ofString "domains",V.ref m2),(Str.ofString "outcome",V.ref ou)]):=by rw [pf3]
 rw [g9]
 clear g9
 have k9:∀ b o,b ≠ x->H5 b=some o->upd H8 x (.ins yX dx [(Str.ofString "name",V.str nm),(Str.ofString "names",V.ref m1),(Str.ofString "domains",V.ref m2),(Str.ofString "outcome",V.ref ou)]) b=some o:=fun b o hb e=>(aC hb).trans (k8 b o hb e)
 have x9:upd H8 x (.ins yX dx [(Str.ofString "name",V.str nm),(Str.ofString "names",V.ref m1),(Str.ofString "domains",V.ref m2),(Str.ofString "outcome",V.ref ou)]) x=some (.ins yX dx [(Str.ofString "name",V.str nm),(Str.ofString "names",V.ref m1),(Str.ofString "domains",V.ref m2),(Str.ofString "outcome",V.ref ou)]):=ae
 have j9:upd H8 x (.ins yX dx [(Str.ofString "name",V.str nm),(Str.ofString "names",V.ref m1),(Str.ofString "domains",V.ref m2),(Str.ofString "outcome",V.ref ou)]) m1=some (.lst (zs.map V.str)):=(aC m1x).trans j8
 have i9:upd H8 x (.ins yX dx [(Str.ofString "name",V.str nm),(Str.ofString "names",V.ref m1),(Str.ofString "domains",V.ref m2),(Str.ofString "outcome",V.ref ou)]) m2=some (.lst dv):=(aC m2x).trans i8
 generalize upd H8 x (.ins yX dx [(Str.ofString "name",V.str nm),(Str.ofString "names",V.ref m1),(Str.ofString "domains",V.ref m2),(Str.ofString "outcome",V.ref ou)])=H9 at k9 x9 j9 i9 ⊢
 refine ⟨_,rfl,_,rfl,x,_,dx,_,rfl,x9,bl.k_Table,bl.na_Table_way,(by show 4 < 1000;decide),?_⟩
 have g10:upd H9 x (.ins yX dx (bp (Str.ofString "way") (V.str wy) [(Str.ofString "name",V.str nm),(Str.ofString "names",V.ref m1),(Str.ofString "domains",V.ref m2),(Str.ofString "outcome",V.ref ou)]))=upd H9 x (.ins yX dx [(Str.ofString "name",V.str nm),(Str.ofString "names",V.ref m1),(Str.ofString "domains",V.ref m2),(Str.ofString "outcome",V.ref ou),(Str.ofString "way",V.str wy)]):=by rw [pf4]
 rw [g10]
 clear g10
 have k10:∀ b o,b ≠ x->H5 b=some o->upd H9 x (.ins yX dx [(Str.ofString "name",V.str nm),(Str.ofString "names",V.ref m1),(Str.ofString "domains",V.ref m2),(Str.ofString "outcome",V.ref ou),(Str.ofString "way",V.str wy)]) b=some o:=fun b o hb e=>(aC hb).trans (k9 b o hb e)
 have x10:upd H9 x (.ins yX dx [(Str.ofString "name",V.str nm),(Str.ofString "names",V.ref m1),(Str.ofString "domains",V.ref m2),(Str.ofString "outcome",V.ref ou),(Str.ofString "way",V.str wy)]) x=some (.ins yX dx [(Str.ofString "name",V.str nm),(Str.ofString "names",V.ref m1),(Str.ofString "domains",V.ref m2),(Str.ofString "outcome",V.ref ou),(Str.ofString "way",V.str wy)]):=ae
 have j10:upd H9 x (.ins yX dx [(Str.ofString "name",V.str nm),(Str.ofString "names",V.ref m1),(Str.ofString "domains",V.ref m2),(Str.ofString "outcome",V.ref ou),(Str.ofString "way",V.str wy)]) m1=some (.lst (zs.map V.str)):=(aC m1x).trans j9
 have i10:upd H9 x (.ins yX dx [(Str.ofString "name",V.str nm),(Str.ofString "names",V.ref m1),(Str.ofString "domains",V.ref m2),(Str.ofString "outcome",V.ref ou),(Str.ofString "way",V.str wy)]) m2=some (.lst dv):=(aC m2x).trans i9
 generalize upd H9 x (.ins yX dx [(Str.ofString "name",V.str nm),(Str.ofString "names",V.ref m1),(Str.ofString "domains",V.ref m2),(Str.ofString "outcome",V.ref ou),(Str.ofString "way",V.str wy)])=H10 at k10 x10 j10 i10 ⊢
 have R10:RL NT H10 rx rws:=RL.same R5 (oQ k10)
 have xJ:=k10 _ _ rlx (s5 _ _ hrl)
 refine ⟨_,rfl,rl,rfl,⟨_,SqL.of xJ⟩,dS (xs:=rx) (fun D i zs H'=>av H10 H'/\H' D=some (.lst zs)/\RL (Fr H10 D) H' zs (rws.take i))
  (fun D hD=>⟨ah hD _,ae,az.nil⟩) (fun D i zs H' hD _ h=>SqL.of (h.1 _ _ xJ)) (fun D i y zs H' hD e h ts hts=>?_) (fun D zs H' hD h=>?_)⟩
 ·obtain ⟨sm,eD,hz⟩:=h
  obtain ⟨r,w_,rfl,ew,ce,cv,g1,_,g2,g3⟩:=az.get (R10.same sm) e
  have hi:i < rx.length:=(List.getElem?_eq_some_iff.mp e).1
  obtain ⟨t0,t1,rfl⟩:∃ t0 t1,ts=[t0,t1]:=by
   match ts,hts with
   | [t0,t1],_=>exact ⟨t0,t1,rfl⟩
  refine ⟨r,_,rfl,SqT.of g1,rfl,_,_,rfl,_,_,rfl,rfl,⟨[some (.ref ce),some (.int w_.2)],rfl,rfl⟩,?_⟩
  refine ⟨_,rfl,_,rfl,ce,cv,w_,rfl,g2,g3,by rw [(hok w_ (List.mem_of_getElem? ew)).len];omega,fun r2 H2 t2 hr2 gR=>?_⟩
  have eD2:=t2 _ _ eD
  have hlz:zs.length<=200:=by
   have:=hz.1
   rw [List.length_take] at this
   omega
  refine dB.mk hi eD2 (aH (by omega)) ⟨(sm.trans t2).upd hD,ae,?_⟩
  rw [take_snoc ew]
  exact RL.updN (az.snoc (hz.same t2) (gR.wk fun a h=>⟨sm.free h,fun z=>by rw [z,eD] at h;cases h⟩)) Fr.out eD2
 ·obtain ⟨sm,eD,hz⟩:=h
  rw [hR.1,List.take_length] at hz
  refine ⟨_,rfl,x,_,dx,_,rfl,sm _ _ x10,bl.k_Table,bl.na_Table_rows,(by show 5 < 1000;decide),?_⟩
  have g11:upd H' x (.ins yX dx (bp (Str.ofString "rows") (V.ref D) [(Str.ofString "name",V.str nm),(Str.ofString "names",V.ref m1),(Str.ofString "domains",V.ref m2),(Str.ofString "outcome",V.ref ou),(Str.ofString "way",V.str wy)]))=upd H' x (.ins yX dx [(Str.ofString "name",V.str nm),(Str.ofString "names",V.ref m1),(Str.ofString "domains",V.ref m2),(Str.ofString "outcome",V.ref ou),(Str.ofString "way",V.str wy),(Str.ofString "rows",V.ref D)]):=by rw [pf5]
  rw [g11]
  have nDx:D ≠ x:=fun z=>by rw [z,x10] at hD;cases hD
  refine q _ _ D zs (fun b o hb e=>(aC hb).trans (sm _ _ (k10 b o hb (s5 _ _ e)))) ae rfl rfl rfl rfl ⟨m1,m2,rfl,rfl,(aC m1x).trans (sm _ _ j10),(aC m2x).trans (sm _ _ i10)⟩ ((aC nDx).trans eD) ?_
  exact RL.same (RL.hide (sm _ _ x10) hz.any) (oQ fun b o hb e=>(aC hb).trans e)
theorem Fv (F:Fun K "with_rows" "with_rows" Y73 f fd) (bl:Bl K mg yA yH yI yJ yK yG yN yO yP yQ yR yS yT yU yV yW yX yY yZ) (k_Table:aP (CX1 P w) P w K mg base 6 "Table" yX ["self", "name", "names", "domains", "outcome", "way", "rows"] (J17 K yH yI yJ yK yV yW yX)):aR P w K mg base (CX1 P w) 8 f fd ["table", "rows"] (J73 K yH yI yJ yK yV yW yX):=by
 refine F.okE Z73 (fun vs H Q E h=>?_) (fun cdv A outer s H vs Q E hr h=>?_)
 ·obtain ⟨t,rl,ou,nm,wy,zs,dv,r0,rx,bs,o,rws,bw,kk,rfl,⟨dt,na,dl,rl0,ft,ht,f1,f2,f3,f4,f5,f6,hna,hdl,_⟩,hsm,h50,q8,hbo,hdv,hou,hrl,hR,hb5,hbn,hk,q,qE⟩:=h
  rfl
 obtain ⟨t,rl,ou,nm,wy,zs,dv,r0,rx,bs,o,rws,bw,kk,rfl,⟨dt,na,dl,rl0,ft,ht,f1,f2,f3,f4,f5,f6,hna,hdl,_⟩,hsm,h50,q8,hbo,hdv,hou,hrl,hR,hb5,hbn,hk,q,qE⟩:=h
 refine ⟨_,(aj (ay (yL k_Table jz hr rfl (aa (ar (pv 0) rfl) (aa (ar (pv 0) rfl) (aa (ar (pv 0) rfl) (aa (ar (pv 0) rfl) (aa (ar (pv 0) rfl) (aa (pv 1) af))))))))),?_⟩
 refine ⟨_,rfl,t,_,_,_,_,rfl,ht,bl.k_Table,bl.na_Table_name,f1,_,rfl,t,_,_,_,_,rfl,ht,bl.k_Table,bl.na_Table_names,f4,_,rfl,t,_,_,_,_,rfl,ht,bl.k_Table,bl.na_Table_domains,f5,_,rfl,t,_,_,_,_,rfl,ht,bl.k_Table,bl.na_Table_outcome,f3,_,rfl,t,_,_,_,_,rfl,ht,bl.k_Table,bl.na_Table_way,f2,_,rfl,fun x dx hx hdx hne=>?_⟩
 have s10:av H (upd (upd H dx (.own x)) x (.ins yX dx [])):=(ah hdx _).upd hx
 refine ⟨x,dx,na,dl,ou,rl,_,_,zs,dv,rx,bs,o,rws,bw,kk,rfl,ae,s10 _ _ hna,hsm,h50,q8,hbo.same s10,s10 _ _ hdl,az.mono hdv fun _ _ p=>p.same s10,hou.same s10,s10 _ _ hrl,hR.same s10,hb5,hbn,hk,fun h0 H' fs rl' xs' k1 k2 k3 k4 k5 k6 k7 k8 k9=>?_,fun C hC H' s'=>qE C hC H' (s10.trans s')⟩
 obtain ⟨na2,dl2,m1,m2,m3,m4⟩:=k7
 exact ⟨rfl,q h0 x xs' H' (fun b u e=>k1 b u (ba e hx) (s10 _ _ e)) ⟨dx,na2,dl2,rl',fs,k2,k6,k4,k5,m1,m2,k3,m3,m4,k8⟩ k9⟩
theorem Fw (F:Fun K "turned" "turned" Y70 f fd) (bl:Bl K mg yA yH yI yJ yK yG yN yO yP yQ yR yS yT yU yV yW yX yY yZ) (k_Table:aP (CX1 P w) P w K mg base 6 "Table" yX ["self", "name", "names", "domains", "outcome", "way", "rows"] (J17 K yH yI yJ yK yV yW yX)):aR P w K mg base CX0 8 f fd ["table", "order"] (J70 K yV yW yX):=by
 refine F.ok Z70 (fun vs H Q E h=>?_) (fun cdv A outer s H vs Q E hr h=>?_)
 ·obtain ⟨t,ol,ou,os,nm,wy,zs,dv,xs,rws,ds,d,rfl,hol,hX,pm,q⟩:=h
  rfl
 obtain ⟨t,ol,ou,os,nm,wy,zs,dv,xs,rws,ds,d,rfl,hol,hX,pm,q⟩:=h
 refine ⟨_,(aL (gC (i:=2) Z70.nd rfl (Or.inl rfl) (bq (pv 1)) (cY (N:=["column", "table"]) (fr:=[0]) (cl:=[("table",s.heap.objs.size+1)]) rfl rfl (by decide +kernel) (by decide +kernel) rfl (by decide +kernel) rfl rfl rfl (List.forall_mem_cons.mpr ⟨rfl,List.forall_mem_nil _⟩) rfl) rfl (fun _ _ _ _=>bX) (fun _ _ _ _=>(aO (dr (K:=K) rfl) (sQ (K:=K) rfl (pv 1) rfl) (pv 0) (fun _ _=>rfl))))
  (aL (gC (i:=3) Z70.nd rfl (Or.inl rfl) (bq (pv 1)) (cY (N:=["column", "table"]) (fr:=[0]) (cl:=[("table",s.heap.objs.size+1)]) rfl rfl (by decide +kernel) (by decide +kernel) rfl (by decide +kernel) rfl rfl rfl (List.forall_mem_cons.mpr ⟨rfl,List.forall_mem_nil _⟩) rfl) rfl (fun _ _ _ _=>bX) (fun _ _ _ _=>(aO (dr (K:=K) rfl) (sQ (K:=K) rfl (pv 1) rfl) (pv 0) (fun _ _=>rfl))))
  (aL (uU (i:=4) Z70.nd rfl (Or.inl rfl) (bq (ar (pv 0) rfl)) (tU (N:=["cells", "code", "order"]) (k:=2) (fr:=[1]) (cl:=[("order",s.heap.objs.size+1+1)]) rfl rfl (by decide +kernel) rfl ⟨⟨_,_,rfl,rfl,rfl,rfl,rfl,fun _=>rfl⟩,trivial⟩ (List.forall_mem_cons.mpr ⟨rfl,List.forall_mem_nil _⟩) (fun _=>rfl)) rfl (fun _ C1 _ _=>(lC (K:=K) (n:=2) rfl rfl (aN (aK (i:=0) (show (["cells", "code", "order"]:List Str).Nodup by decide +kernel) rfl (Or.inr rfl) (Or.inl rfl)) (aN (aK (i:=1) (show (["cells", "code", "order"]:List Str).Nodup by decide +kernel) rfl (Or.inl rfl) (Or.inr rfl)) bD)))) (fun _ C1 _ _=>bX) (fun _ C1 _ _=>(bB (aa (fW (uT (K:=K) rfl (pv 2)) (fY (N:=["column", "cells"]) (k:=1) (fr:=[0]) (cl:=[("cells",C1+1)]) rfl rfl (by decide +kernel) (by decide +kernel) rfl rfl (List.forall_mem_cons.mpr ⟨rfl,List.forall_mem_nil _⟩) rfl) rfl (fun _ C2 _ _=>(aK (i:=0) (show (["column", "cells"]:List Str).Nodup by decide +kernel) rfl (Or.inl rfl) (Or.inr rfl))) (fun _ C2 _ _=>bX) (fun _ C2 _ _=>(aO (dr (K:=K) rfl) (pv 1) (pv 0) (fun _ _=>rfl)))) (aa (pv 1) af)))))
  (aj (ay (dU k_Table ig hr rfl (aa (ar (pv 0) rfl) (aa (pv 2) (aa (pv 3) (aa (ar (pv 0) rfl) (aa (ar (pv 0) rfl) (aa (pv 4) af)))))))))))),?_⟩
 obtain ⟨dx,na,dl,rl,fs,ht,f2,f3,f4,f5,f6,f1,ena,edl,erl⟩:=hX.tr
 have hR:=hX.rl
 have gk:xs.length<=200:=by rw [hR.1];exact hX.o.ct.2.2
 have hn4:=hX.o.ct.2.1
 have okr:∀ x ∈ rws,x.1.length=zs.length:=fun x hx=>by rw [(hX.o.rows x hx).len,List.length_map,hX.o.len]
 have QZ:os.length=zs.length:=pm.len
 have hdl:dv.length=zs.length:=by rw [hX.doms.1,hX.o.len]
 have hvl:(vN os).length=os.length:=dC os
 refine ⟨fun σ' H'=>av H H'/\∃ n2:Addr,H' n2=some (.lst ((prm os zs).map V.str))/\σ'=[some (.ref t),some (.ref ol),some (.ref n2),none,none],?_,?_⟩
 ·refine ⟨_,rfl,ol,rfl,⟨_,SqL.of hol⟩,eX (xs:=vN os) (fun D i ys H'=>av H H'/\H' D=some (.lst ys)/\ys=(prm (os.take i) zs).map V.str) (fun D hD=>⟨ah hD _,ae,rfl⟩) (fun D i ys H' hD _ h=>SqL.of (h.1 _ _ hol)) (fun D i y ys H' hD e h=>?_) (fun D ys H' hD h=>?_)⟩
  ·obtain ⟨sm,eD,rfl⟩:=h
   obtain ⟨k,rfl,ek⟩:=mZ e
   have hk:=pm.lt k (List.mem_of_getElem? ek)
   have ez:=List.getElem?_eq_getElem hk
   have hi:i < (vN os).length:=(List.getElem?_eq_some_iff.mp e).1
   refine ⟨_,rfl,t,_,_,_,_,rfl,sm _ _ ht,bl.k_Table,bl.na_Table_names,f5,_,rfl,na,_,_,_,rfl,rfl,SqL.of (sm _ _ ena),bS (jF ez),dB.mk hi eD (aH ?_) ⟨sm.upd hD,ae,?_⟩⟩
   ·rw [List.length_map,(cw (os:=os.take i) (xs:=zs) fun k hk=>pm.lt k (List.mem_of_mem_take hk)).1,List.length_take];omega
   ·rw [take_snoc ek,nc ez,List.map_append];rfl
  ·obtain ⟨sm,eD,rfl⟩:=h
   rw [hvl,List.take_length] at eD
   exact ⟨sm,D,eD,rfl⟩
 rintro σ1 H1 ⟨s1,n2,en2,rfl⟩
 refine ⟨fun σ' H'=>av H1 H'/\∃ d2:Addr,H' d2=some (.lst (prm os dv))/\σ'=[some (.ref t),some (.ref ol),some (.ref n2),some (.ref d2),none],?_,?_⟩
 ·refine ⟨_,rfl,ol,rfl,⟨_,SqL.of (s1 _ _ hol)⟩,eX (xs:=vN os) (fun D i ys H'=>av H1 H'/\H' D=some (.lst ys)/\ys=prm (os.take i) dv) (fun D hD=>⟨ah hD _,ae,rfl⟩) (fun D i ys H' hD _ h=>SqL.of (h.1 _ _ (s1 _ _ hol))) (fun D i y ys H' hD e h=>?_) (fun D ys H' hD h=>?_)⟩
  ·obtain ⟨sm,eD,rfl⟩:=h
   obtain ⟨k,rfl,ek⟩:=mZ e
   have hk:=pm.lt k (List.mem_of_getElem? ek)
   have ez:=List.getElem?_eq_getElem (l:=dv) (i:=k) (by rw [hdl];exact hk)
   have hi:i < (vN os).length:=(List.getElem?_eq_some_iff.mp e).1
   have sA:=s1.trans sm
   refine ⟨_,rfl,t,_,_,_,_,rfl,sA _ _ ht,bl.k_Table,bl.na_Table_domains,f6,_,rfl,dl,_,_,_,rfl,rfl,SqL.of (sA _ _ edl),bS ez,dB.mk hi eD (aH ?_) ⟨sm.upd hD,ae,?_⟩⟩
   ·rw [(cw (os:=os.take i) (xs:=dv) fun k hk=>by rw [hdl];exact pm.lt k (List.mem_of_mem_take hk)).1,List.length_take];omega
   ·rw [take_snoc ek,nc ez]
  ·obtain ⟨sm,eD,rfl⟩:=h
   rw [hvl,List.take_length] at eD
   exact ⟨sm,D,eD,rfl⟩
 rintro σ2 H2 ⟨t2,d2,ed2,rfl⟩
 have s2:=s1.trans t2
 have R2:=hR.same s2
 have zt:=s2 _ _ erl
 refine ⟨fun σ' H'=>av H2 H'/\∃ (r2:Addr) (zx:List V),H' r2=some (.lst zx)/\RL NT H' zx (rws.map (trn os))/\σ'=[some (.ref t),some (.ref ol),some (.ref n2),some (.ref d2),some (.ref r2)],?_,?_⟩
 ·refine ⟨_,rfl,t,_,_,_,_,rfl,s2 _ _ ht,bl.k_Table,bl.na_Table_rows,f1,rl,rfl,⟨_,SqL.of zt⟩,dS (xs:=xs) (fun D i ys H'=>av H2 H'/\H' D=some (.lst ys)/\RL NT (hide H' D) ys ((rws.take i).map (trn os))) (fun D hD=>⟨ah hD _,ae,az.nil⟩) (fun D i ys H' hD _ h=>SqL.of (h.1 _ _ zt)) (fun D i y ys H' hD e h ts hts=>?_) (fun D ys H' hD h=>?_)⟩
  ·obtain ⟨sm,eD,hz⟩:=h
   obtain ⟨r,x,rfl,ex,ce,cs,g1,_,g2,g3⟩:=az.get R2 e
   have hi:i < xs.length:=(List.getElem?_eq_some_iff.mp e).1
   obtain ⟨t0,t1,rfl⟩:∃ t0 t1,ts=[t0,t1]:=by
    match ts,hts with
    | [t0,t1],_=>exact ⟨t0,t1,rfl⟩
   have hcl:cs.length=zs.length:=by rw [g3.1,okr x (List.mem_of_getElem? ex)]
   refine ⟨r,_,rfl,SqT.of (sm _ _ g1),rfl,_,_,rfl,_,_,rfl,rfl,⟨[some (.ref ce),some (.int x.2)],rfl,rfl⟩,?_⟩
   have sA:=s2.trans sm
   refine ⟨_,rfl,ol,rfl,⟨_,SqL.of (sA _ _ hol)⟩,dS (xs:=vN os) (fun D2 j ws H3=>av H' H3/\H3 D2=some (.lst ws)/\ws=prm (os.take j) cs) (fun D2 hD2=>⟨ah hD2 _,ae,rfl⟩) (fun D2 j ws H3 hD2 _ h=>SqL.of (h.1 _ _ (sA _ _ hol))) (fun D2 j y2 ws H3 hD2 e2 h ts2 Fx=>?_) (fun D2 ws H3 hD2 h=>?_)⟩
   ·obtain ⟨s3,eD2,rfl⟩:=h
    obtain ⟨k,rfl,ek⟩:=mZ e2
    have hk:=pm.lt k (List.mem_of_getElem? ek)
    have ez:=List.getElem?_eq_getElem (l:=cs) (i:=k) (by rw [hcl];exact hk)
    have hj:j < (vN os).length:=(List.getElem?_eq_some_iff.mp e2).1
    obtain ⟨u0,rfl⟩:∃ u0,ts2=[u0]:=by
     match ts2,Fx with
     | [u0],_=>exact ⟨u0,rfl⟩
    refine ⟨⟨[some (.int (k:Int))],rfl,rfl⟩,?_⟩
    refine ⟨_,rfl,_,rfl,ce,_,_,_,rfl,rfl,SqL.of (s3 _ _ (sm _ _ g2)),bS ez,dB.mk hj eD2 (aH ?_) ⟨s3.upd hD2,ae,?_⟩⟩
    ·rw [(cw (os:=os.take j) (xs:=cs) fun k hk=>by rw [hcl];exact pm.lt k (List.mem_of_mem_take hk)).1,List.length_take];omega
    ·rw [take_snoc ek,nc ez]
   ·obtain ⟨s3,eD2,rfl⟩:=h
    rw [hvl,List.take_length] at eD2
    have nD2:D2 ≠ D:=fun z=>by rw [z,eD] at hD2;cases hD2
    refine ⟨_,rfl,bg,fun tt_ htt=>?_⟩
    have s4:=ah htt (.tup [.ref D2,.int x.2])
    have eT:upd H3 tt_ (.tup [.ref D2,.int x.2]) tt_=some (.tup [.ref D2,.int x.2]):=ae
    have eD4:=s4 _ _ (s3 _ _ eD)
    have nT:tt_ ≠ D:=fun z=>by rw [z,s3 _ _ eD] at htt;cases htt
    generalize upd H3 tt_ (.tup [.ref D2,.int x.2])=H4 at s4 eT eD4 ⊢
    have sB:=(sm.trans s3).trans s4
    have gR:fe NT (hide H4 D) tt_ (trn os x):=⟨D2,prm os cs,bT eT nT,trivial,bT (s4 _ _ eD2) nD2,CL.same (az.prm g3 fun k hk=>by rw [← g3.1,hcl];exact pm.lt k hk) (ky sB hD)⟩
    refine dB.mk hi eD4 (aH (by have:=hz.1;rw [List.length_map,List.length_take] at this;omega)) ⟨sB.upd hD,ae,?_⟩
    rw [jK,take_snoc ex,List.map_append]
    exact az.snoc (az.mono hz fun _ _ p=>p.same (gM (s3.trans s4))) gR
  ·obtain ⟨sm,eD,hz⟩:=h
   rw [hR.1,List.take_length] at hz
   exact ⟨sm,D,ys,eD,az.mono hz fun _ _ p=>p.same (lV H' D),rfl⟩
 rintro σ3 H3 ⟨t3,r2,zx,er2,hz2,rfl⟩
 have s3:=s2.trans t3
 have ht3:=s3 _ _ ht
 refine ⟨_,rfl,t,_,_,_,_,rfl,ht3,bl.k_Table,bl.na_Table_name,f2,_,rfl,_,rfl,_,rfl,t,_,_,_,_,rfl,ht3,bl.k_Table,bl.na_Table_outcome,f4,_,rfl,t,_,_,_,_,rfl,ht3,bl.k_Table,bl.na_Table_way,f3,_,rfl,fun x dx' hx hdx hne=>?_⟩
 exact cO rfl (t3 _ _ (t2 _ _ en2)) (t3 _ _ ed2) er2 hz2 (az.prm (az.mono hX.doms fun _ _ p=>p.same s3) fun k hk=>by rw [hX.o.len];exact pm.lt k hk) (hX.out.same s3) (hX.o.trn pm) hx hdx fun H' xs' s' hT=>⟨rfl,q x xs' H' (s3.trans s') hT⟩
theorem Fy (F:Fun K "_law_table" "_law_table" Y57 f fd) (bl:Bl K mg yA yH yI yJ yK yG yN yO yP yQ yR yS yT yU yV yW yX yY yZ) (k_Table:aP (CX1 P w) P w K mg base 6 "Table" yX ["self", "name", "names", "domains", "outcome", "way", "rows"] (J17 K yH yI yJ yK yV yW yX)) (eI:Callee P w K mg base 7 "_law_word" ["cell", "k"] (J60 K)) (iq:Callee P w K mg base 7 "_law_domain" ["column"] (J45 K yV yW)) (gp:Callee P w K mg base 7 "_law_rows" ["bit_rows", "columns"] (J52 K)):aR P w K mg base CX0 8 f fd ["head", "columns", "out", "way", "bit_rows", "own"] (J57 K yV yW yX):=by
 refine F.ok Z57 (fun vs H Q E h=>?_) (fun cdv A outer s H vs Q E hr h=>?_)
 ·obtain ⟨h,cl,ol,bl_,wy,xs,zs,cs,oc,ws,wi,ow,rfl,how,hcl,hcs,hok,hb1,hb4,hol,ook,hwy,nh,Bv,hz,gk,hbo,q⟩:=h
  rfl
 obtain ⟨h,cl,ol,bl_,wy,xs,zs,cs,oc,ws,wi,ow,rfl,how,hcl,hcs,hok,hb1,hb4,hol,ook,hwy,nh,Bv,hz,gk,hbo,q⟩:=h
 refine ⟨_,(aL (gC (i:=6) Z57.nd rfl (Or.inl rfl) (dJ rfl bl.range_ (aa (aw aE rfl bl.len_ PySem.boot_len (aa (pv 1) af)) af)) (cY (N:=["j", "head"]) (fr:=[0]) (cl:=[("head",s.heap.objs.size+1)]) rfl rfl (by decide +kernel) (by decide +kernel) rfl (by decide +kernel) rfl rfl rfl (List.forall_mem_cons.mpr ⟨rfl,List.forall_mem_nil _⟩) rfl) rfl (fun _ _ _ _=>bX) (fun _ _ _ _=>(aT eI hr rfl (aa (ao aY (pv 1) ai) (aa (ao bE ai (pv 0)) af)))))
  (aL (gC (i:=7) Z57.nd rfl (Or.inl rfl) (bq (pv 1)) (lB rfl (by decide +kernel) (by decide +kernel) (by decide +kernel) rfl) rfl (fun _ _ _ _=>bX) (fun _ _ _ _=>(aT iq hr rfl (aa (pv 0) af))))
  (aj (ay (dU k_Table ig hr rfl (aa (aT eI hr rfl (aa (ao aY (pv 0) ai) (aa (pv 5) af))) (aa (pv 6) (aa (pv 7) (aa (aT iq hr rfl (aa (pv 2) af)) (aa (pv 3) (aa (aT gp hr rfl (aa (pv 4) (aa (pv 1) af))) af))))))))))),?_⟩
 have hxl:xs.length=cs.length:=hcs.1
 refine ⟨fun σ' H'=>av H H'/\∃ na:Addr,H' na=some (.lst (((List.range cs.length).map fun j:Nat=>wd (h / 16) (1+(0+(j:Int)))).map V.str))/\σ'=[some (.int h),some (.ref cl),some (.ref ol),some (.str wy),some (.ref bl_),some (.int ow),some (.ref na),none],?_,?_⟩
 ·refine ⟨_,rfl,cl,_,rfl,.inl (SqL.of hcl),_,rfl,(by show -(2 ^ 62)<=((xs.length:Nat):Int);omega),(by show ((xs.length:Nat):Int) < 2 ^ 62;omega),fB (fun D i zs H'=>av H H'/\H' D=some (.lst zs)/\zs=((List.range i).map fun j:Nat=>wd (h / 16) (1+(0+(j:Int)))).map V.str) (fun D hD=>⟨ah hD _,ae,rfl⟩) (fun D i zs H' hD hi hh=>?_) (fun D zs H' hD hh=>?_)⟩
  ·obtain ⟨sm,eD,rfl⟩:=hh
   refine ⟨_,rfl,_,_,rfl,rfl,⟨by decide,by decide⟩,_,rfl,_,_,rfl,rfl,_,_,rfl,dB.mk hi eD (aH (by rw [List.length_map,List.length_map,List.length_range];omega)) ⟨sm.upd hD,ae,?_⟩⟩
   rw [List.range_succ,List.map_append,List.map_append]
   rfl
  ·obtain ⟨sm,eD,rfl⟩:=hh
   refine ⟨sm,D,?_,rfl⟩
   rw [eD,← hxl]
   rfl
 rintro σ5 H5 ⟨t5,na,ena,rfl⟩
 have xa:=t5 _ _ hcl
 have zu:=hcs.same t5
 refine ⟨fun σ' H'=>av H5 H'/\∃ (dl:Addr) (dv:List V),H' dl=some (.lst dv)/\az dv cs (kx yV yW H')/\σ'=[some (.int h),some (.ref cl),some (.ref ol),some (.str wy),some (.ref bl_),some (.int ow),some (.ref na),some (.ref dl)],?_,?_⟩
 ·refine ⟨_,rfl,cl,rfl,⟨_,SqL.of xa⟩,eX (xs:=xs) (fun D i zs H'=>av H5 H'/\H' D=some (.lst zs)/\az zs (cs.take i) (kx yV yW (hide H' D))) (fun D hD=>⟨ah hD _,ae,az.nil⟩) (fun D i zs H' hD _ hh=>SqL.of (hh.1 _ _ xa)) (fun D i y zs H' hD e hh=>?_) (fun D zs H' hD hh=>?_)⟩
  ·obtain ⟨sm,eD,hz⟩:=hh
   obtain ⟨l,c,rfl,ec,hc⟩:=az.get (zu.same sm) e
   have hi:i < xs.length:=(List.getElem?_eq_some_iff.mp e).1
   have ok:=hok c (List.mem_of_getElem? ec)
   refine ⟨_,rfl,l,c,rfl,hc,hok c (List.mem_of_getElem? ec),fun d H2 s' hd=>?_⟩
   have eD2:=s' _ _ eD
   have hlz:zs.length<=4:=by have:=hz.1;rw [List.length_take] at this;omega
   have hd2:kx yV yW (hide H2 D) d c:=hd.hide eD2 (fun x hx=>by
    obtain ⟨j,ej⟩:=List.getElem?_of_mem hx
    obtain ⟨r,_,er,_⟩:=az.get hz ej
    exact ⟨r,er⟩) (fun hw=>by
    obtain ⟨p0,e0,l0⟩:=ok.first
    have:=ok.w0 hw p0 e0
    have:=ok.le
    omega)
   refine dB.mk hi eD2 (aH (by omega)) ⟨(sm.trans s').upd hD,ae,?_⟩
   rw [take_snoc ec,jK]
   exact az.snoc (az.mono hz fun _ _ p=>p.same (gM s')) hd2
  ·obtain ⟨sm,eD,hz⟩:=hh
   rw [hxl,List.take_length] at hz
   exact ⟨sm,D,zs,eD,az.mono hz fun _ _ p=>p.same (lV H' D),rfl⟩
 rintro σ6 H6 ⟨t6,dl,dv,edl,hdl,rfl⟩
 have s6:=t5.trans t6
 have Fz:=t6 _ _ ena
 refine ⟨_,rfl,_,_,rfl,rfl,⟨by decide,by decide⟩,_,rfl,_,_,rfl,_,rfl,_,rfl,_,rfl,ol,oc,rfl,hol.same s6,ook,fun ou H7 s7 FA=>?_⟩
 have sA:=s6.trans s7
 refine ⟨_,rfl,_,rfl,_,rfl,bl_,cl,zs,xs,ws,cs,rfl,sA _ _ Bv,hz.same sA,gk,sA _ _ hcl,hcs.same sA,hok,hb4,fun w hw=>(hbo w hw).len,fun rl rx rws H8 s8 erl hrl hof=>?_⟩
 intro x dx hx hdx hne
 have s6':=s7.trans s8
 have Bw:rws.length<=200:=by rw [hof.1];exact gk
 have o:TXo (wd (h / 16) ow) wy (nmz h cs.length) rws (cs.map Col.dm) oc.dm:=⟨zk how hb4,⟨by rw [lW];exact hb1,by rw [lW];exact hb4,Bw⟩,⟨List.mem_of_getElem? hwy,fun g=>by rw [Col.dm_w,nh g.1] at g;cases g.2⟩,by rw [Bg hok,Col.dm_b ook];exact hof.rowOk hbo hok,by rw [List.length_map,lW],fun e he=>by
  rcases List.mem_cons.mp he with rfl | he
  ·exact Col.dm_ok ook
  ·obtain ⟨c,hc,rfl⟩:=List.mem_map.mp he
   exact Col.dm_ok (hok c hc)⟩
 exact cO rfl (s6' _ _ Fz) (s6' _ _ edl) erl (RL.any hrl) (wX (az.mono hdl fun _ _ p=>p.same s6') hok) ((FA.dmx ook).same s8) o hx hdx fun H' xs' s' hT=>⟨rfl,q x ou dv xs' rws H' ((sA.trans s8).trans s') hT hof⟩
theorem FC (F:Fun K "_law_other_count" "_law_other_count" Y49 f fd) (bl:Bl K mg yA yH yI yJ yK yG yN yO yP yQ yR yS yT yU yV yW yX yY yZ) (k_Table:aP (CX1 P w) P w K mg base 6 "Table" yX ["self", "name", "names", "domains", "outcome", "way", "rows"] (J17 K yH yI yJ yK yV yW yX)) (k_Numbers:aP CX0 P w K mg base 6 "Numbers" yV ["self", "low", "high"] (J12 K yV)):aR P w K mg base CX0 8 f fd ["other"] (J49 K yV yW yX):=by
 refine F.ok Z49 (fun vs H Q E h=>?_) (fun cdv A outer s H vs Q E hr h=>?_)
 ·obtain ⟨t,nm,wy,ou,zs,dv,rx,rws,ds,d,rfl,hX,hh,q⟩:=h
  rfl
 obtain ⟨t,nm,wy,ou,zs,dv,rx,rws,ds,d,rfl,hX,hh,q⟩:=h
 refine ⟨_,(ak (aQ (aG om (aw aE rfl bl.len_ PySem.boot_len (aa (ar (pv 0) rfl) af)) ai (aJ _))
  (ak (mS (i:=1) Z49.nd rfl (Or.inl rfl) (bq (ar (pv 0) rfl)) (dh (N:=["cells", "code"]) (k:=2) rfl rfl (by decide +kernel) (by decide +kernel) (by decide +kernel)) rfl (fun _ _ _ _=>(lC (K:=K) (n:=2) rfl rfl (aN (aK (i:=0) (show (["cells", "code"]:List Str).Nodup by decide +kernel) rfl (Or.inl rfl) (Or.inr rfl)) (aN (aK (i:=1) (show (["cells", "code"]:List Str).Nodup by decide +kernel) rfl (Or.inl rfl) (Or.inr rfl)) bD)))) (fun _ _ _ _=>bX) (fun _ _ _ _=>(bB (aa (ao dA (pv 0) (aX (aa (aX (aa (bB (aa ai (aa ai af))) af)) af))) (aa (pv 1) af)))))
  (ak (aM (i:=2) Z49.nd rfl (Or.inl rfl) (ao dA (ar (pv 0) rfl) (aX (aa (ao dR (aO aS (ar (pv 0) rfl) ai (fun _ _=>rfl)) aI) af))))
  (aj (ay (dU k_Table ig hr rfl (aa (ar (pv 0) rfl) (aa (pv 2) (aa (ao dA (ar (pv 0) rfl) (aX (aa (dU k_Numbers bK hr rfl (aa ai (aa ai af))) af))) (aa (ar (pv 0) rfl) (aa (ar (pv 0) rfl) (aa (pv 1) af)))))))))))
  aD)
  (ak (mS (i:=1) Z49.nd rfl (Or.inl rfl) (bq (ar (pv 0) rfl)) (dh (N:=["cells", "code"]) (k:=2) rfl rfl (by decide +kernel) (by decide +kernel) (by decide +kernel)) rfl (fun _ _ _ _=>(lC (K:=K) (n:=2) rfl rfl (aN (aK (i:=0) (show (["cells", "code"]:List Str).Nodup by decide +kernel) rfl (Or.inl rfl) (Or.inr rfl)) (aN (aK (i:=1) (show (["cells", "code"]:List Str).Nodup by decide +kernel) rfl (Or.inl rfl) (Or.inr rfl)) bD)))) (fun _ _ _ _=>bX) (fun _ _ _ _=>(bB (aa (bQ (uS (K:=K) rfl) (pv 0) cg (cj ai)) (aa (pv 1) af)))))
  (aj (ay (dU k_Table ig hr rfl (aa (ar (pv 0) rfl) (aa (bQ ck (ar (pv 0) rfl) cg (cj ai)) (aa (bQ ck (ar (pv 0) rfl) cg (cj ai)) (aa (ar (pv 0) rfl) (aa (ar (pv 0) rfl) (aa (pv 1) af))))))))))),?_⟩
 obtain ⟨dx,na,dl,rl,fs,ht,f2,f3,f4,f5,f6,f1,ena,edl,erl⟩:=hX.tr
 have hR:=hX.rl
 have gk:rx.length<=200:=by rw [hR.1];exact hX.o.ct.2.2
 have hn1:=hX.o.ct.1
 have hn4:=hX.o.ct.2.1
 have hzl:=List.length_map (f:=V.str) (as:=zs)
 have okr:∀ x ∈ rws,x.1.length=zs.length:=fun x hx=>by rw [(hX.o.rows x hx).len,List.length_map,hX.o.len]
 refine ⟨_,rfl,t,_,_,_,_,rfl,ht,bl.k_Table,bl.na_Table_names,f5,na,_,rfl,.inl (SqL.of ena),_,_,rfl,rfl,_,rfl,?_⟩
 refine cc (fun g=>?_) (fun g=>?_)
 ·refine ⟨_,rfl,t,_,_,_,_,rfl,ht,bl.k_Table,bl.na_Table_rows,f1,rl,rfl,⟨_,SqL.of erl⟩,dS (xs:=rx) (fun D i ys H'=>av H H'/\H' D=some (.lst ys)/\RL NT (hide H' D) ys ((rws.take i).map wdn)) (fun D hD=>⟨ah hD _,ae,az.nil⟩) (fun D i ys H' hD _ h=>SqL.of (h.1 _ _ erl)) (fun D i y ys H' hD e h ts hts=>?_) (fun D ys H' hD h=>?_)⟩
  ·obtain ⟨sm,eD,hz⟩:=h
   obtain ⟨r,x,rfl,ex,ce,cs,g1,_,g2,g3⟩:=az.get hR e
   have hi:i < rx.length:=(List.getElem?_eq_some_iff.mp e).1
   obtain ⟨t0,t1,rfl⟩:∃ t0 t1,ts=[t0,t1]:=by
    match ts,hts with
    | [t0,t1],_=>exact ⟨t0,t1,rfl⟩
   have hcl:cs.length=zs.length:=by rw [g3.1,okr x (List.mem_of_getElem? ex)]
   refine ⟨r,_,rfl,SqT.of (sm _ _ g1),rfl,_,_,rfl,_,_,rfl,rfl,⟨[some (.ref ce),some (.int x.2)],rfl,rfl⟩,?_⟩
   refine ⟨_,rfl,bg,fun p1 hp1=>?_⟩
   have u1:=ah hp1 (.tup [.int 0,.int 1])
   have e1:upd H' p1 (.tup [.int 0,.int 1]) p1=some (.tup [.int 0,.int 1]):=ae
   have n1:p1 ≠ D:=fun z=>by rw [z,eD] at hp1;cases hp1
   generalize upd H' p1 (.tup [.int 0,.int 1])=H1 at u1 e1 ⊢
   refine ⟨(by show 1<=sizeLine;decide),fun p2 hp2=>?_⟩
   have u2:=ah hp2 (.lst [.ref p1])
   have e2:upd H1 p2 (.lst [.ref p1]) p2=some (.lst [.ref p1]):=ae
   have n2:p2 ≠ D:=fun z=>by rw [z,u1 _ _ eD] at hp2;cases hp2
   generalize upd H1 p2 (.lst [.ref p1])=H2 at u2 e2 ⊢
   refine ⟨(by show 1<=sizeLine;decide),fun p3 hp3=>?_⟩
   have u3:=ah hp3 (.lst [.ref p2])
   have e3:upd H2 p3 (.lst [.ref p2]) p3=some (.lst [.ref p2]):=ae
   generalize upd H2 p3 (.lst [.ref p2])=H3 at u3 e3 ⊢
   have zv:=(u1.trans u2).trans u3
   refine ⟨ce,p3,_,_,rfl,rfl,zv _ _ (sm _ _ g2),e3,Nat.le_of_lt (aH (by show cs.length+1<=1000;omega)),fun p4 hp4=>?_⟩
   have u4:=ah hp4 (.lst (cs ++ [.ref p2]))
   have e4:upd H3 p4 (.lst (cs ++ [.ref p2])) p4=some (.lst (cs ++ [.ref p2])):=ae
   have n4:p4 ≠ D:=fun z=>by rw [z,zv _ _ eD] at hp4;cases hp4
   generalize upd H3 p4 (.lst (cs ++ [.ref p2]))=H4 at u4 e4 ⊢
   refine ⟨_,rfl,bg,fun p5 hp5=>?_⟩
   have u5:=ah hp5 (.tup [.ref p4,.int x.2])
   have e5:upd H4 p5 (.tup [.ref p4,.int x.2]) p5=some (.tup [.ref p4,.int x.2]):=ae
   have u14:=zv.trans u4
   have n5:p5 ≠ D:=fun z=>by rw [z,u14 _ _ eD] at hp5;cases hp5
   generalize upd H4 p5 (.tup [.ref p4,.int x.2])=H5 at u5 e5 ⊢
   have uA:=u14.trans u5
   have sB:=sm.trans uA
   have hsp:SpA NT (hide H5 D) p2 [(0,1)]:=⟨trivial,_,bT (u5 _ _ (u4 _ _ (u3 _ _ e2))) n2,.cons ⟨p1,rfl,bT (u5 _ _ (u4 _ _ (u3 _ _ (u2 _ _ e1)))) n1⟩ .nil⟩
   have gR:fe NT (hide H5 D) p5 (wdn x):=⟨p4,cs ++ [V.ref p2],bT e5 n5,trivial,bT (u5 _ _ e4) n4,(az.snoc (CL.same g3 (ky sB hD)) hsp:az (cs ++ [V.ref p2]) (x.1 ++ [[(0,1)]]) (SpA NT (hide H5 D)))⟩
   refine dB.mk hi (uA _ _ eD) (aH (by have:=hz.1;rw [List.length_map,List.length_take] at this;omega)) ⟨sB.upd hD,ae,?_⟩
   rw [jK,take_snoc ex,List.map_append]
   exact az.snoc (az.mono hz fun _ _ p=>p.same (gM uA)) gR
  ·obtain ⟨sm,eD,hz⟩:=h
   rw [hR.1,List.take_length] at hz
   have hz:RL NT H' ys (rws.map wdn):=az.mono hz fun _ _ p=>p.same (lV H' D)
   have hn:zs.length < 4:=by
    have g':=of_decide_eq_true g
    rw [hzl] at g'
    omega
   obtain ⟨z0,e0⟩:∃ z0,zs[0]?=some z0:=⟨_,List.getElem?_eq_getElem (by omega)⟩
   have i0:=(hh z0 (List.mem_of_getElem? e0)).1
   have ht1:=sm _ _ ht
   refine ⟨_,rfl,t,_,_,_,_,rfl,ht1,bl.k_Table,bl.na_Table_names,f5,_,rfl,t,_,_,_,_,rfl,ht1,bl.k_Table,bl.na_Table_names,f5,na,_,_,_,rfl,rfl,SqL.of (sm _ _ ena),bS (j:=0) (jF e0),_,_,rfl,rfl,Nat.le_of_lt (aH (by have:=(kz (hX.o.nmo.1 z0 (List.mem_cons_of_mem _ (List.mem_of_getElem? e0)))).len;show z0.length+1<=1000;omega)),(by show 1<=sizeLine;decide),fun p6 hp6=>?_⟩
   have v1:=ah hp6 (.lst [.str (z0 ++ Str.ofString "h")])
   have w1:upd H' p6 (.lst [.str (z0 ++ Str.ofString "h")]) p6=some (.lst [.str (z0 ++ Str.ofString "h")]):=ae
   generalize upd H' p6 (.lst [.str (z0 ++ Str.ofString "h")])=H6 at v1 w1 ⊢
   refine ⟨na,p6,_,_,rfl,rfl,v1 _ _ (sm _ _ ena),w1,Nat.le_of_lt (aH (by show (zs.map V.str).length+1<=1000;omega)),fun p7 hp7=>?_⟩
   have v2:=ah hp7 (.lst (zs.map V.str ++ [.str (z0 ++ Str.ofString "h")]))
   have w2:upd H6 p7 (.lst (zs.map V.str ++ [.str (z0 ++ Str.ofString "h")])) p7=some (.lst ((zs ++ [z0 ++ Str.ofString "h"]).map V.str)):=by
    rw [ae,List.map_append];rfl
   generalize upd H6 p7 (.lst (zs.map V.str ++ [.str (z0 ++ Str.ofString "h")]))=H7 at v2 w2 ⊢
   have v12:=v1.trans v2
   have sC:=sm.trans v12
   have ht7:=sC _ _ ht
   refine ⟨_,rfl,t,_,_,_,_,rfl,ht7,bl.k_Table,bl.na_Table_name,f2,_,rfl,_,rfl,t,_,_,_,_,rfl,ht7,bl.k_Table,bl.na_Table_domains,f6,fun x8 dx8 hx8 vq _=>⟨x8,dx8,0,1,rfl,ae,by decide,rfl,?_⟩⟩
   have v3:=fj (C:=yV) (lo:=0) (hi:=1) hx8 vq
   have w3:DmX yV yW (mkd yV (upd (upd H7 dx8 (.own x8)) x8 (.ins yV dx8 [])) x8 dx8 0 1) x8 (.inl (0,1)):=gN
   generalize mkd yV (upd (upd H7 dx8 (.own x8)) x8 (.ins yV dx8 [])) x8 dx8 0 1=H8 at v3 w3 ⊢
   refine ⟨(by show 1<=sizeLine;decide),fun p9 hp9=>?_⟩
   have v4:=ah hp9 (.lst [.ref x8])
   have w4:upd H8 p9 (.lst [.ref x8]) p9=some (.lst [.ref x8]):=ae
   generalize upd H8 p9 (.lst [.ref x8])=H9 at v4 w4 ⊢
   have sD:=sC.trans (v3.trans v4)
   refine ⟨dl,p9,_,_,rfl,rfl,sD _ _ edl,w4,Nat.le_of_lt (aH (by show dv.length+1<=1000;rw [hX.doms.1,hX.o.len];omega)),fun p10 FD=>?_⟩
   have v5:=ah FD (.lst (dv ++ [.ref x8]))
   have w5:upd H9 p10 (.lst (dv ++ [.ref x8])) p10=some (.lst (dv ++ [.ref x8])):=ae
   generalize upd H9 p10 (.lst (dv ++ [.ref x8]))=H10 at v5 w5 ⊢
   have sE:=sD.trans v5
   have sF:=(v3.trans v4).trans v5
   have vt:=sE _ _ ht
   refine ⟨_,rfl,t,_,_,_,_,rfl,vt,bl.k_Table,bl.na_Table_outcome,f4,_,rfl,t,_,_,_,_,rfl,vt,bl.k_Table,bl.na_Table_way,f3,_,rfl,fun x dx' hx hdx hne=>?_⟩
   refine cO rfl (sF _ _ w2) w5 ((v12.trans sF) _ _ eD) (RL.same hz (v12.trans sF)) (az.snoc (az.mono hX.doms fun _ _ p=>p.same sE) (w3.same (v4.trans v5))) (hX.out.same sE) (hX.o.wdn hn hh e0) hx hdx fun H' xs' s' hT=>⟨rfl,q x _ _ xs' _ _ H' (sE.trans s') hT fun z=>?_⟩
   have:=congrArg List.length z
   rw [List.length_append,List.length_singleton] at this
   omega
 ·have hn:4<=zs.length:=by
   have g' : ¬ ((zs.map V.str).length:Int) < 4:=fun h=>g (decide_eq_true h)
   rw [hzl] at g'
   omega
  refine ⟨_,rfl,t,_,_,_,_,rfl,ht,bl.k_Table,bl.na_Table_rows,f1,rl,rfl,⟨_,SqL.of erl⟩,dS (xs:=rx) (fun D i ys H'=>av H H'/\H' D=some (.lst ys)/\RL NT (hide H' D) ys ((rws.take i).map ct3)) (fun D hD=>⟨ah hD _,ae,az.nil⟩) (fun D i ys H' hD _ h=>SqL.of (h.1 _ _ erl)) (fun D i y ys H' hD e h ts hts=>?_) (fun D ys H' hD h=>?_)⟩
  ·obtain ⟨sm,eD,hz⟩:=h
   obtain ⟨r,x,rfl,ex,ce,cs,g1,_,g2,g3⟩:=az.get hR e
   have hi:i < rx.length:=(List.getElem?_eq_some_iff.mp e).1
   obtain ⟨t0,t1,rfl⟩:∃ t0 t1,ts=[t0,t1]:=by
    match ts,hts with
    | [t0,t1],_=>exact ⟨t0,t1,rfl⟩
   refine ⟨r,_,rfl,SqT.of (sm _ _ g1),rfl,_,_,rfl,_,_,rfl,rfl,⟨[some (.ref ce),some (.int x.2)],rfl,rfl⟩,?_⟩
   refine ⟨_,rfl,_,rfl,ce,_,rfl,SqL.of (sm _ _ g2),fun p4 hp4=>?_⟩
   rw [show (some (3:Int))=some ((3:Nat):Int) from rfl,dI]
   have u4:=ah hp4 (.lst (cs.take 3))
   have e4:upd H' p4 (.lst (cs.take 3)) p4=some (.lst (cs.take 3)):=ae
   have n4:p4 ≠ D:=fun z=>by rw [z,eD] at hp4;cases hp4
   generalize upd H' p4 (.lst (cs.take 3))=H4 at u4 e4 ⊢
   refine ⟨_,rfl,bg,fun p5 hp5=>?_⟩
   have u5:=ah hp5 (.tup [.ref p4,.int x.2])
   have e5:upd H4 p5 (.tup [.ref p4,.int x.2]) p5=some (.tup [.ref p4,.int x.2]):=ae
   have n5:p5 ≠ D:=fun z=>by rw [z,u4 _ _ eD] at hp5;cases hp5
   generalize upd H4 p5 (.tup [.ref p4,.int x.2])=H5 at u5 e5 ⊢
   have uA:=u4.trans u5
   have sB:=sm.trans uA
   have gR:fe NT (hide H5 D) p5 (ct3 x):=⟨p4,cs.take 3,bT e5 n5,trivial,bT (u5 _ _ e4) n4,(az.take (CL.same g3 (ky sB hD)) 3:az (cs.take 3) (x.1.take 3) (SpA NT (hide H5 D)))⟩
   refine dB.mk hi (uA _ _ eD) (aH (by have:=hz.1;rw [List.length_map,List.length_take] at this;omega)) ⟨sB.upd hD,ae,?_⟩
   rw [jK,take_snoc ex,List.map_append]
   exact az.snoc (az.mono hz fun _ _ p=>p.same (gM uA)) gR
  ·obtain ⟨sm,eD,hz⟩:=h
   rw [hR.1,List.take_length] at hz
   have hz:RL NT H' ys (rws.map ct3):=az.mono hz fun _ _ p=>p.same (lV H' D)
   have ht1:=sm _ _ ht
   refine ⟨_,rfl,t,_,_,_,_,rfl,ht1,bl.k_Table,bl.na_Table_name,f2,_,rfl,t,_,_,_,_,rfl,ht1,bl.k_Table,bl.na_Table_names,f5,_,rfl,na,_,rfl,SqL.of (sm _ _ ena),fun p6 hp6=>?_⟩
   rw [show (some (3:Int))=some ((3:Nat):Int) from rfl,dI]
   have v1:=ah hp6 (.lst ((zs.map V.str).take 3))
   have w1:upd H' p6 (.lst ((zs.map V.str).take 3)) p6=some (.lst ((zs.take 3).map V.str)):=by rw [ae,List.map_take]
   generalize upd H' p6 (.lst ((zs.map V.str).take 3))=H6 at v1 w1 ⊢
   have sC:=sm.trans v1
   refine ⟨_,rfl,t,_,_,_,_,rfl,sC _ _ ht,bl.k_Table,bl.na_Table_domains,f6,_,rfl,dl,_,rfl,SqL.of (sC _ _ edl),fun p7 hp7=>?_⟩
   rw [show (some (3:Int))=some ((3:Nat):Int) from rfl,dI]
   have v2:=ah hp7 (.lst (dv.take 3))
   have w2:upd H6 p7 (.lst (dv.take 3)) p7=some (.lst (dv.take 3)):=ae
   generalize upd H6 p7 (.lst (dv.take 3))=H7 at v2 w2 ⊢
   have sE:=sC.trans v2
   have vt:=sE _ _ ht
   refine ⟨_,rfl,t,_,_,_,_,rfl,vt,bl.k_Table,bl.na_Table_outcome,f4,_,rfl,t,_,_,_,_,rfl,vt,bl.k_Table,bl.na_Table_way,f3,_,rfl,fun x dx' hx hdx hne=>?_⟩
   refine cO rfl (v2 _ _ w1) w2 ((v1.trans v2) _ _ eD) (RL.same hz (v1.trans v2)) (az.take (az.mono hX.doms fun _ _ p=>p.same sE) 3) (hX.out.same sE) (hX.o.ct3 hn) hx hdx fun H' xs' s' hT=>⟨rfl,q x _ _ xs' _ _ H' (sE.trans s') hT fun z=>?_⟩
   have:=congrArg List.length z
   rw [List.length_take] at this
   omega
theorem FE (F:Fun K "stacked" "stacked" Y69 f fd) (bl:Bl K mg yA yH yI yJ yK yG yN yO yP yQ yR yS yT yU yV yW yX yY yZ) (lL:aZ P w K mg base 8 "refuse_unlike" ["one", "other"] (J66 K yG yV yW yX)) (gq:aZ P w K mg base 8 "with_rows" ["table", "rows"] (J73 K yH yI yJ yK yV yW yX)):aR P w K mg base (CX1 P w) 9 f fd ["one", "other"] (J69 K yH yI yJ yK yG yV yW yX):=by
 refine F.okE Z69 (fun vs H Q E h=>?_) (fun cdv A outer s H vs Q E hr h=>?_)
 ·obtain ⟨t,u,nm,wy,ou,zs,dv,rx,nm2,wy2,pu,zs2,ev,rx2,ds,es,d,e,bs,o,rws,aW,bw,rfl,hT,hU,hds,hes,hd,he,l1,l2,hsm,h50,q8,hbo,hdv,hou,hR,hR2,n1,n2,hb5,hq⟩:=h
  rfl
 obtain ⟨t,u,nm,wy,ou,zs,dv,rx,nm2,wy2,pu,zs2,ev,rx2,ds,es,d,e,bs,o,rws,aW,bw,rfl,hT,hU,hds,hes,hd,he,l1,l2,hsm,h50,q8,hbo,hdv,hou,hR,hR2,n1,n2,hb5,hq⟩:=h
 refine ⟨_,(ak (aQ (PW.pt (eE (aG (uH hr) (ar (pv 0) rfl) (ar (pv 1) rfl) (aJ _)) (dP (aG fL (ar (pv 0) rfl) (ar (pv 1) rfl) (aJ _)))))
  (aj (bO bl.x_Unlike hr.hd rfl bl.Unlike_ (aa aI af)))
  aD)
  (ak (bx (eO lL jz hr rfl (aa (pv 0) (aa (pv 1) af))))
  (aj (ay (eO gq jz hr rfl (aa (pv 0) (aa (ao dA (ar (pv 0) rfl) (ar (pv 1) rfl)) af))))))),?_⟩
 obtain ⟨dx,na,dl,rl,fs,a1,a2,a3,a4,a5,a6,a7,a8,a9,a10⟩:=id hT
 obtain ⟨dy,nb,el,sl,gs,b1,b2,b3,b4,b5,b6,b7,b8,b9,b10⟩:=id hU
 have bad:¬ (zs=zs2/\wy=wy2/\ds=es/\d=e)->∀ H',av H H'->E (.ref yG) none H':=fun hn=>by
  rcases hq with ⟨c1,c2,c3,c4,_⟩ | ⟨_,q⟩
  ·exact absurd ⟨c1,c2,c3,c4⟩ hn
  ·exact q
 refine ⟨_,rfl,t,_,_,_,_,rfl,a1,bl.k_Table,bl.na_Table_names,a5,_,rfl,u,_,_,_,_,rfl,b1,bl.k_Table,bl.na_Table_names,b5,ud (r:=decide (zs=zs2)) (SqL.of a8) (SqL.of b8) (by rw [decide_eq_true_iff]) ⟨_,rfl,?_⟩⟩
 by_cases c1:zs=zs2
 rotate_left
 ·rw [decide_eq_false c1]
  exact bR (bR ⟨(by show 1<=sizeLine;decide),bad (fun h=>c1 h.1) H (av.refl H)⟩)
 rw [decide_eq_true c1]
 refine bf ⟨_,rfl,t,_,_,_,_,rfl,a1,bl.k_Table,bl.na_Table_way,a3,_,rfl,u,_,_,_,_,rfl,b1,bl.k_Table,bl.na_Table_way,b3,rfl,_,rfl,?_⟩
 by_cases c2:wy=wy2
 rotate_left
 ·refine cc (fun _=>⟨(by show 1<=sizeLine;decide),bad (fun h=>c2 h.2.1) H (av.refl H)⟩) (fun g=>absurd ?_ g)
  rw [decide_eq_false (fun e=>c2 (by injection e))]
  rfl
 refine fS (by rw [c2]) ?_
 refine ⟨_,rfl,_,rfl,t,u,dv,ev,ou,pu,ds,es,d,e,rfl,hT.td,hU.td,hds,hes,hd,he,l1,l2,fun c3 H1 s1=>?_,fun c3 H1 s1=>bad (fun h=>c3 h.2.2) H1 s1⟩
 rcases hq with ⟨_,_,_,_,hok,k,hk,q,qE⟩ | ⟨n,_⟩
 rotate_left
 ·exact absurd ⟨c1,c2,c3⟩ n
 have a11:=s1 _ _ a1
 have b11:=s1 _ _ b1
 refine ⟨_,rfl,_,rfl,t,_,_,_,_,rfl,a11,bl.k_Table,bl.na_Table_rows,a7,_,rfl,u,_,_,_,_,rfl,b11,bl.k_Table,bl.na_Table_rows,b7,rl,sl,_,_,rfl,rfl,s1 _ _ a10,s1 _ _ b10,Nat.le_of_lt (aH (by omega)),fun p hp=>?_⟩
 have t2:=ah hp (.lst (rx ++ rx2))
 have s2:=s1.trans t2
 refine ⟨t,p,ou,nm,wy,zs,dv,rx,rx ++ rx2,bs,o,rws ++ aW,bw,k,rfl,hT.same s2,hsm,h50,q8,hbo.same s2,az.mono hdv fun _ _ p=>p.same s2,hou.same s2,ae,az.append (RL.same hR s2) (RL.same hR2 s2),hb5,(fun w hw=>.inl (hok w hw)),by rw [List.length_append];exact hk,fun k0 x xs' H3 s3 hx hr=>q k0 x xs' H3 (s2.trans s3) hx hr,fun C hC H3 s3=>qE C hC H3 (s2.trans s3)⟩
theorem FF (F:Fun K "_law_altered" "_law_altered" Y39 f fd) (bl:Bl K mg yA yH yI yJ yK yG yN yO yP yQ yR yS yT yU yV yW yX yY yZ) (k_Table:aP (CX1 P w) P w K mg base 7 "Table" yX ["self", "name", "names", "domains", "outcome", "way", "rows"] (J17 K yH yI yJ yK yV yW yX)) (iN:Callee P w K mg base 8 "_law_other_count" ["other"] (J49 K yV yW yX)) (k_Numbers:aP CX0 P w K mg base 7 "Numbers" yV ["self", "low", "high"] (J12 K yV)) (gY:Callee P w K mg base 8 "_law_other_domain" ["domain", "turn"] (J50 K yV yW)) (vv:Callee P w K mg base 8 "turned" ["table", "order"] (J70 K yV yW yX)):aR P w K mg base CX0 9 f fd ["other", "turn"] (J39 K yV yW yX):=by
 refine F.ok Z39 (fun vs H Q E h=>?_) (fun cdv A outer s H vs Q E hr h=>?_)
 ·obtain ⟨t,tn,nm,wy,ou,zs,dv,rx,rws,ds,d,rfl,hX,hh,q⟩:=h
  rfl
 obtain ⟨t,tn,nm,wy,ou,zs,dv,rx,rws,ds,d,rfl,hX,hh,q⟩:=h
 refine ⟨_,(ak (aM (i:=2) Z39.nd rfl (Or.inl rfl) (bN cB rfl bl.list_ PyProof.Rows.boot_list (aa (ar (pv 0) rfl) af)))
  (ak (aM (i:=3) Z39.nd rfl (Or.inl rfl) (bN cB rfl bl.list_ PyProof.Rows.boot_list (aa (ar (pv 0) rfl) af)))
  (ak (aM (i:=4) Z39.nd rfl (Or.inl rfl) (ao aU (ao aY (pv 1) ai) (aw aE rfl bl.len_ PySem.boot_len (aa (pv 3) af))))
  (ak (aQ (aG bJ (ao aU (pv 1) ai) ai (aJ _))
  (aj (ay (aT iN hr rfl (aa (pv 0) af))))
  aD)
  (ak (aQ (aG bJ (ao aU (pv 1) ai) ai (aJ _))
  (ak (aM (i:=5) Z39.nd rfl (Or.inl rfl) (aO aS (aX (aa aI (aa aI (aa aI (aa aI af))))) (bN kf rfl bl.int_ PyProof.Rows.boot_int (aa (df bJ (ar (pv 0) rfl) aI (aJ _)) af)) (fun _ _=>rfl)))
  (aj (ay (dU k_Table ig hr rfl (aa (ar (pv 0) rfl) (aa (pv 3) (aa (pv 2) (aa (ar (pv 0) rfl) (aa (pv 5) (aa (ar (pv 0) rfl) af))))))))))
  aD)
  (ak (aQ (aG bJ (ao aU (pv 1) ai) ai (aJ _))
  (ak (aM (i:=6) Z39.nd rfl (Or.inl rfl) (dU k_Numbers bK hr rfl (aa (ar (ar (pv 0) rfl) rfl) (aa (ao bE (ar (ar (pv 0) rfl) rfl) ai) af))))
  (aj (ay (dU k_Table ig hr rfl (aa (ar (pv 0) rfl) (aa (pv 3) (aa (pv 2) (aa (pv 6) (aa (ar (pv 0) rfl) (aa (ar (pv 0) rfl) af))))))))))
  aD)
  (ak (aQ (aG bJ (ao aU (pv 1) ai) ai (aJ _))
  (ak (o8 (aT gY hr rfl (aa (aO aS (pv 2) (pv 4) (fun _ _=>rfl)) (aa (ao aY (pv 1) ai) af))) (o7 (pv 2) (pv 4) set_list))
  (aj (ay (dU k_Table ig hr rfl (aa (ar (pv 0) rfl) (aa (pv 3) (aa (pv 2) (aa (ar (pv 0) rfl) (aa (ar (pv 0) rfl) (aa (ar (pv 0) rfl) af))))))))))
  aD)
  (ak (aQ (PW.pt (fA (aG bJ (ao aU (pv 1) ai) ai (aJ _)) (dG (aG jv (aw aE rfl bl.len_ PySem.boot_len (aa (pv 3) af)) ai (aJ _)))))
  (aj (ay (aT vv hr rfl (aa (pv 0) (aa (qS rfl rfl bl.list_ rfl bl.reversed_ rfl bl.range_ (aa (aw aE rfl bl.len_ PySem.boot_len (aa (pv 3) af)) af)) af)))))
  aD)
  (ak (o8 (ao dR (aO aS (pv 3) (pv 4) (fun _ _=>rfl)) aI) (o7 (pv 3) (pv 4) set_list))
  (aj (ay (dU k_Table ig hr rfl (aa (ar (pv 0) rfl) (aa (pv 3) (aa (pv 2) (aa (ar (pv 0) rfl) (aa (ar (pv 0) rfl) (aa (ar (pv 0) rfl) af)))))))))))))))))),?_⟩
 obtain ⟨dx,na,dl,rl,fs,ht,f2,f3,f4,f5,f6,f1,ena,edl,erl⟩:=hX.tr
 have hn1:=hX.o.ct.1
 have hn4:=hX.o.ct.2.1
 have hzl:=List.length_map (f:=V.str) (as:=zs)
 have hdl:dv.length=zs.length:=by rw [hX.doms.1,hX.o.len]
 refine ⟨_,rfl,t,_,_,_,_,rfl,ht,bl.k_Table,bl.na_Table_domains,f6,dl,_,rfl,.inl (SqL.of edl),fun D hD=>?_⟩
 have u1:=ah hD (.lst dv)
 have eD1:upd H D (.lst dv) D=some (.lst dv):=ae
 generalize upd H D (.lst dv)=H1 at u1 eD1 ⊢
 refine ⟨_,rfl,t,_,_,_,_,rfl,u1 _ _ ht,bl.k_Table,bl.na_Table_names,f5,na,_,rfl,.inl (SqL.of (u1 _ _ ena)),fun N hN=>?_⟩
 have u2:=ah hN (.lst (zs.map V.str))
 have eN:upd H1 N (.lst (zs.map V.str)) N=some (.lst (zs.map V.str)):=ae
 generalize upd H1 N (.lst (zs.map V.str))=H2 at u2 eN ⊢
 have eD:=u2 _ _ eD1
 have s2:=u1.trans u2
 have hN0:H N=none:=by
  cases e:H N with
  | none=>rfl
  | some o=>rw [u1 _ _ e] at hN;cases hN
 have hX2:=hX.same s2
 have ht2:=s2 _ _ ht
 have zt:=s2 _ _ erl
 have rY:(0:Int) < ((zs.map V.str).length:Int):=by rw [hzl];omega
 refine ⟨_,rfl,_,_,rfl,rfl,⟨by decide,by decide⟩,_,rfl,N,_,rfl,.inl (SqL.of eN),_,_,rfl,rfl,rY,?_⟩
 have at0:=Int.emod_nonneg (tn / 5) (Int.ne_of_gt rY)
 have at1:=Int.emod_lt_of_pos (tn / 5) rY
 obtain ⟨i,ei⟩:∃ i:Nat,tn / 5 % ((zs.map V.str).length:Int)=(i:Int):=⟨_,(Int.toNat_of_nonneg at0).symm⟩
 have hi:i < zs.length:=by rw [hzl] at at1;rw [hzl] at ei;omega
 have ezi:=List.getElem?_eq_getElem hi
 have edi:=List.getElem?_eq_getElem (l:=dv) (i:=i) (by omega)
 have xb:=List.getElem?_eq_getElem (l:=ds) (i:=i) (by rw [hX.o.len];exact hi)
 refine ⟨_,rfl,_,_,rfl,rfl,(by show (0:Int) < 7;decide),rfl,_,rfl,?_⟩
 refine cc (fun g=>?_) (fun g=>?_)
 ·exact ⟨_,rfl,t,nm,wy,ou,zs,dv,rx,rws,ds,d,rfl,hX2,hh,fun t' zs2 ev rx2 aW es H' s' hT hne=>q t' wy ou zs2 ev rx2 aW es d H' (s2.trans s') hT fun g=>hne g.1.symm⟩
 refine ⟨_,rfl,_,_,rfl,rfl,(by show (0:Int) < 5;decide),rfl,_,rfl,?_⟩
 clear g
 refine cc (fun g=>?_) (fun g=>?_)
 ·refine ⟨(by show 4<=sizeLine;decide),fun p1 hp1=>?_⟩
  have u3:=ah hp1 (.lst [V.str (Str.ofString "first"),.str (Str.ofString "only"),.str (Str.ofString "like"),.str (Str.ofString "low")])
  have e3:upd H2 p1 (.lst [V.str (Str.ofString "first"),.str (Str.ofString "only"),.str (Str.ofString "like"),.str (Str.ofString "low")]) p1=some (.lst [V.str (Str.ofString "first"),.str (Str.ofString "only"),.str (Str.ofString "like"),.str (Str.ofString "low")]):=ae
  generalize upd H2 p1 (.lst [V.str (Str.ofString "first"),.str (Str.ofString "only"),.str (Str.ofString "like"),.str (Str.ofString "low")])=H3 at u3 e3 ⊢
  have s3:=s2.trans u3
  have ht3:=s3 _ _ ht
  obtain ⟨wy2,ew,m6,ms,mn⟩:∃ wy2:Str,atI [V.str (Str.ofString "first"),.str (Str.ofString "only"),.str (Str.ofString "like"),.str (Str.ofString "low")] (if decide (V.str wy=V.str (Str.ofString "first"))=true then 1 else 0)=some (.str wy2)/\wy2 ∈ six/\wy2 ≠ Str.ofString "sum" /\ wy ≠ wy2:=by
   by_cases hw:wy=Str.ofString "first"
   ·rw [if_pos (decide_eq_true (by rw [hw]))]
    exact ⟨Str.ofString "only",rfl,by unfold six;simp,by decide +kernel,by rw [hw];decide +kernel⟩
   ·rw [if_neg (fun h=>hw (by have:=of_decide_eq_true h;injection this))]
    exact ⟨Str.ofString "first",rfl,by unfold six;simp,by decide +kernel,hw⟩
  refine ⟨_,rfl,t,_,_,_,_,rfl,ht3,bl.k_Table,bl.na_Table_way,f3,rfl,.inr ⟨_,rfl,p1,_,_,_,rfl,rfl,SqL.of e3,ew,?_⟩⟩
  refine ⟨_,rfl,t,_,_,_,_,rfl,ht3,bl.k_Table,bl.na_Table_name,f2,_,rfl,_,rfl,_,rfl,t,_,_,_,_,rfl,ht3,bl.k_Table,bl.na_Table_outcome,f4,_,rfl,_,rfl,t,_,_,_,_,rfl,ht3,bl.k_Table,bl.na_Table_rows,f1,fun x dx' hx hdx hne=>?_⟩
  exact cO rfl (u3 _ _ eN) (u3 _ _ eD) (s3 _ _ erl) (RL.same hX.rl s3) (az.mono hX.doms fun _ _ p=>p.same s3) (hX.out.same s3) (hX.o.way_to m6 ms) hx hdx fun H' xs' s' hT=>⟨rfl,q x wy2 ou zs dv xs' rws ds d H' (s3.trans s') hT fun g=>mn g.2.1⟩
 refine ⟨_,rfl,_,_,rfl,rfl,(by show (0:Int) < 5;decide),rfl,_,rfl,?_⟩
 clear g
 refine cc (fun g=>?_) (fun g=>?_)
 ·obtain ⟨Co,dxo,fso,ho,o1,o2,hCo⟩:=hX2.out.lohi
  have hle:(Dm.b d).1<=(Dm.b d).2+1:=by have:=(hX.o.fine d List.mem_cons_self).le;omega
  have Bx:d ≠ .inl ((Dm.b d).1,(Dm.b d).2+1):=fun z=>by
   have:=congrArg (fun e=>(Dm.b e).2) z
   have:(Dm.b d).2=(Dm.b d).2+1:=this
   omega
  rcases hCo with hC | hC
  ·rw [hC] at ho
   refine ⟨_,rfl,t,_,_,_,_,rfl,ht2,bl.k_Table,bl.na_Table_outcome,f4,ou,_,_,_,_,rfl,ho,bl.k_Numbers,bl.na_Numbers_low,o1,_,rfl,t,_,_,_,_,rfl,ht2,bl.k_Table,bl.na_Table_outcome,f4,ou,_,_,_,_,rfl,ho,bl.k_Numbers,bl.na_Numbers_high,o2,_,_,rfl,rfl,fun x8 dx8 hx8 vq _=>⟨x8,dx8,_,_,rfl,ae,hle,rfl,?_⟩⟩
   have v3:=fj (C:=yV) (lo:=(Dm.b d).1) (hi:=(Dm.b d).2+1) hx8 vq
   have w3:DmX yV yW (mkd yV (upd (upd H2 dx8 (.own x8)) x8 (.ins yV dx8 [])) x8 dx8 (Dm.b d).1 ((Dm.b d).2+1)) x8 (.inl ((Dm.b d).1,(Dm.b d).2+1)):=gN
   generalize mkd yV (upd (upd H2 dx8 (.own x8)) x8 (.ins yV dx8 [])) x8 dx8 (Dm.b d).1 ((Dm.b d).2+1)=H3 at v3 w3 ⊢
   have s3:=s2.trans v3
   have ht3:=s3 _ _ ht
   refine ⟨_,rfl,t,_,_,_,_,rfl,ht3,bl.k_Table,bl.na_Table_name,f2,_,rfl,_,rfl,_,rfl,_,rfl,t,_,_,_,_,rfl,ht3,bl.k_Table,bl.na_Table_way,f3,_,rfl,t,_,_,_,_,rfl,ht3,bl.k_Table,bl.na_Table_rows,f1,fun x dx' hx hdx hne=>?_⟩
   exact cO rfl (v3 _ _ eN) (v3 _ _ eD) (s3 _ _ erl) (RL.same hX.rl s3) (az.mono hX.doms fun _ _ p=>p.same s3) w3 hX.o.out_to hx hdx fun H' xs' s' hT=>⟨rfl,q x wy x8 zs dv xs' rws ds _ H' (s3.trans s') hT fun g=>Bx g.2.2.2⟩
  ·rw [hC] at ho
   refine ⟨_,rfl,t,_,_,_,_,rfl,ht2,bl.k_Table,bl.na_Table_outcome,f4,ou,_,_,_,_,rfl,ho,bl.k_Words,bl.na_Words_low,o1,_,rfl,t,_,_,_,_,rfl,ht2,bl.k_Table,bl.na_Table_outcome,f4,ou,_,_,_,_,rfl,ho,bl.k_Words,bl.na_Words_high,o2,_,_,rfl,rfl,fun x8 dx8 hx8 vq _=>⟨x8,dx8,_,_,rfl,ae,hle,rfl,?_⟩⟩
   have v3:=fj (C:=yV) (lo:=(Dm.b d).1) (hi:=(Dm.b d).2+1) hx8 vq
   have w3:DmX yV yW (mkd yV (upd (upd H2 dx8 (.own x8)) x8 (.ins yV dx8 [])) x8 dx8 (Dm.b d).1 ((Dm.b d).2+1)) x8 (.inl ((Dm.b d).1,(Dm.b d).2+1)):=gN
   generalize mkd yV (upd (upd H2 dx8 (.own x8)) x8 (.ins yV dx8 [])) x8 dx8 (Dm.b d).1 ((Dm.b d).2+1)=H3 at v3 w3 ⊢
   have s3:=s2.trans v3
   have ht3:=s3 _ _ ht
   refine ⟨_,rfl,t,_,_,_,_,rfl,ht3,bl.k_Table,bl.na_Table_name,f2,_,rfl,_,rfl,_,rfl,_,rfl,t,_,_,_,_,rfl,ht3,bl.k_Table,bl.na_Table_way,f3,_,rfl,t,_,_,_,_,rfl,ht3,bl.k_Table,bl.na_Table_rows,f1,fun x dx' hx hdx hne=>?_⟩
   exact cO rfl (v3 _ _ eN) (v3 _ _ eD) (s3 _ _ erl) (RL.same hX.rl s3) (az.mono hX.doms fun _ _ p=>p.same s3) w3 hX.o.out_to hx hdx fun H' xs' s' hT=>⟨rfl,q x wy x8 zs dv xs' rws ds _ H' (s3.trans s') hT fun g=>Bx g.2.2.2⟩
 refine ⟨_,rfl,_,_,rfl,rfl,(by show (0:Int) < 5;decide),rfl,_,rfl,?_⟩
 clear g
 refine cc (fun g=>?_) (fun g=>?_)
 ·have hok:=hX.o.fine _ (List.mem_cons_of_mem _ (List.mem_of_getElem? xb))
  obtain ⟨r0,er0,hr0⟩:=hX2.doms.2 i _ xb
  rw [er0] at edi
  refine ⟨_,rfl,_,rfl,D,_,_,_,rfl,rfl,SqL.of eD,by rw [ei];exact bS er0,_,rfl,_,_,rfl,rfl,⟨by decide,by decide⟩,r0,_,_,rfl,hr0,hok,fun b e H' s' hb hne ok' l1 l2=>?_⟩
  have eD':=s' _ _ eD
  have refs:∀ x ∈ dv,∃ r,x=.ref r:=fun x hx=>by
   obtain ⟨j,ej⟩:=List.getElem?_of_mem hx
   obtain ⟨r,_,er,_⟩:=az.get hX.doms ej
   exact ⟨r,er⟩
  refine ⟨_,rfl,_,rfl,D,_,_,i,rfl,rfl,eD',by rw [ei];exact pO (by omega),?_⟩
  have s3:av H (upd H' D (.lst (dv.set i (.ref b)))):=(s2.trans s').upd hD
  have nND:N ≠ D:=fun z=>by rw [z,eD1] at hN;cases hN
  have eN3:upd H' D (.lst (dv.set i (.ref b))) N=some (.lst (zs.map V.str)):=(aC nND).trans (s' _ _ eN)
  have eD3:upd H' D (.lst (dv.set i (.ref b))) D=some (.lst (dv.set i (.ref b))):=ae
  have hb3:DmX yV yW (upd H' D (.lst (dv.set i (.ref b)))) b e:=hb.put ok' eD' refs
  generalize upd H' D (.lst (dv.set i (.ref b)))=H3 at s3 eN3 eD3 hb3 ⊢
  have ht3:=s3 _ _ ht
  refine ⟨_,rfl,t,_,_,_,_,rfl,ht3,bl.k_Table,bl.na_Table_name,f2,_,rfl,_,rfl,_,rfl,t,_,_,_,_,rfl,ht3,bl.k_Table,bl.na_Table_outcome,f4,_,rfl,t,_,_,_,_,rfl,ht3,bl.k_Table,bl.na_Table_way,f3,_,rfl,t,_,_,_,_,rfl,ht3,bl.k_Table,bl.na_Table_rows,f1,fun x dx' hx hdx By=>?_⟩
  exact cO rfl eN3 eD3 (s3 _ _ erl) (RL.same hX.rl s3) (az.set (az.mono hX.doms fun _ _ p=>p.same s3) hb3) (hX.out.same s3) (hX.o.dom_to xb ok' l1 l2) hx hdx fun H' xs' s' hT=>⟨rfl,q x wy ou zs _ xs' rws _ d H' (s3.trans s') hT fun g=>rW xb (Ne.symm hne) g.2.2.1⟩
 refine ⟨_,rfl,_,_,rfl,rfl,(by show (0:Int) < 5;decide),rfl,_,rfl,?_⟩
 clear g
 refine cc (fun g=>?_) (fun g=>?_)
 ·refine ⟨_,rfl,N,_,rfl,.inl (SqL.of eN),_,_,rfl,rfl,_,rfl,?_⟩
  refine cc (fun g2=>?_) (fun g2=>?_)
  ·have h2:2<=zs.length:=by
    have:=of_decide_eq_true g2
    rw [hzl] at this
    omega
   have hnd:=(List.nodup_cons.mp hX.o.nmo.2).2
   refine ⟨_,rfl,_,rfl,N,_,rfl,.inl (SqL.of eN),zs.length,by rw [hzl],by omega,fun ol hol=>?_⟩
   have u3:=ah hol (.lst (dwn zs.length))
   have s3:=s2.trans u3
   refine ⟨t,ol,ou,(List.range zs.length).map (fun j=>zs.length - 1 - j),nm,wy,zs,dv,rx,rws,ds,d,rfl,by rw [ae,zm],hX.same s3,vg _,fun t' xs' H' s' hT=>q t' wy ou _ _ xs' _ _ d H' (s3.trans s') hT fun g=>zo hnd h2 g.1⟩
  ·refine ⟨_,rfl,_,rfl,N,_,_,_,rfl,rfl,SqL.of eN,by rw [ei];exact bS (jF ezi),_,_,rfl,rfl,Nat.le_of_lt (aH (by have:=(kz (hX.o.nmo.1 _ (List.mem_cons_of_mem _ (List.mem_of_getElem? ezi)))).len;show zs[i].length+1<=1000;omega)),_,rfl,_,rfl,N,_,_,i,rfl,rfl,eN,by rw [ei,hzl];exact pO hi,?_⟩
   have s3:av H (upd H2 N (.lst ((zs.map V.str).set i (.str (zs[i] ++ Str.ofString "h"))))):=s2.upd hN0
   have nND:D ≠ N:=fun z=>by rw [← z,eD1] at hN;cases hN
   have eD3:upd H2 N (.lst ((zs.map V.str).set i (.str (zs[i] ++ Str.ofString "h")))) D=some (.lst dv):=(aC nND).trans eD
   have eN3:upd H2 N (.lst ((zs.map V.str).set i (.str (zs[i] ++ Str.ofString "h")))) N=some (.lst ((zs.set i (zs[i] ++ Str.ofString "h")).map V.str)):=by rw [ae,List.map_set]
   generalize upd H2 N (.lst ((zs.map V.str).set i (.str (zs[i] ++ Str.ofString "h"))))=H3 at s3 eN3 eD3 ⊢
   have ht3:=s3 _ _ ht
   refine ⟨_,rfl,t,_,_,_,_,rfl,ht3,bl.k_Table,bl.na_Table_name,f2,_,rfl,_,rfl,_,rfl,t,_,_,_,_,rfl,ht3,bl.k_Table,bl.na_Table_outcome,f4,_,rfl,t,_,_,_,_,rfl,ht3,bl.k_Table,bl.na_Table_way,f3,_,rfl,t,_,_,_,_,rfl,ht3,bl.k_Table,bl.na_Table_rows,f1,fun x dx' hx hdx By=>?_⟩
   exact cO rfl eN3 eD3 (s3 _ _ erl) (RL.same hX.rl s3) (az.mono hX.doms fun _ _ p=>p.same s3) (hX.out.same s3) (hX.o.name_to hh ezi) hx hdx fun H' xs' s' hT=>⟨rfl,q x wy ou _ dv xs' rws ds d H' (s3.trans s') hT fun g=>rW ezi ((hh _ (List.mem_of_getElem? ezi)).2 _ (List.mem_cons_of_mem _ (List.mem_of_getElem? ezi))) g.1⟩
 ·refine ⟨_,rfl,_,rfl,N,_,_,_,rfl,rfl,SqL.of eN,by rw [ei];exact bS (jF ezi),_,_,rfl,rfl,Nat.le_of_lt (aH (by have:=(kz (hX.o.nmo.1 _ (List.mem_cons_of_mem _ (List.mem_of_getElem? ezi)))).len;show zs[i].length+1<=1000;omega)),_,rfl,_,rfl,N,_,_,i,rfl,rfl,eN,by rw [ei,hzl];exact pO hi,?_⟩
  have s3:av H (upd H2 N (.lst ((zs.map V.str).set i (.str (zs[i] ++ Str.ofString "h"))))):=s2.upd hN0
  have nND:D ≠ N:=fun z=>by rw [← z,eD1] at hN;cases hN
  have eD3:upd H2 N (.lst ((zs.map V.str).set i (.str (zs[i] ++ Str.ofString "h")))) D=some (.lst dv):=(aC nND).trans eD
  have eN3:upd H2 N (.lst ((zs.map V.str).set i (.str (zs[i] ++ Str.ofString "h")))) N=some (.lst ((zs.set i (zs[i] ++ Str.ofString "h")).map V.str)):=by rw [ae,List.map_set]
  generalize upd H2 N (.lst ((zs.map V.str).set i (.str (zs[i] ++ Str.ofString "h"))))=H3 at s3 eN3 eD3 ⊢
  have ht3:=s3 _ _ ht
  refine ⟨_,rfl,t,_,_,_,_,rfl,ht3,bl.k_Table,bl.na_Table_name,f2,_,rfl,_,rfl,_,rfl,t,_,_,_,_,rfl,ht3,bl.k_Table,bl.na_Table_outcome,f4,_,rfl,t,_,_,_,_,rfl,ht3,bl.k_Table,bl.na_Table_way,f3,_,rfl,t,_,_,_,_,rfl,ht3,bl.k_Table,bl.na_Table_rows,f1,fun x dx' hx hdx By=>?_⟩
  exact cO rfl eN3 eD3 (s3 _ _ erl) (RL.same hX.rl s3) (az.mono hX.doms fun _ _ p=>p.same s3) (hX.out.same s3) (hX.o.name_to hh ezi) hx hdx fun H' xs' s' hT=>⟨rfl,q x wy ou _ dv xs' rws ds d H' (s3.trans s') hT fun g=>rW ezi ((hh _ (List.mem_of_getElem? ezi)).2 _ (List.mem_cons_of_mem _ (List.mem_of_getElem? ezi))) g.1⟩
theorem FG (F:Fun K "_law_told" "_law_told" Y58 f fd) (bl:Bl K mg yA yH yI yJ yK yG yN yO yP yQ yR yS yT yU yV yW yX yY yZ) (uh:aZ P w K mg base 9 "stacked" ["one", "other"] (J69 K yH yI yJ yK yG yV yW yX)):aR P w K mg base CX0 10 f fd ["one", "other"] (J58 K yV yW yX):=by
 refine F.ok Z58 (fun vs H Q E h=>?_) (fun cdv A outer s H vs Q E hr h=>?_)
 ·obtain ⟨t,u,nm,wy,ou,zs,dv,rx,rws,ds,d,nm2,wy2,pu,zs2,ev,rx2,aW,es,e,rfl,hX,hY,q1,q2,q3⟩:=h
  rfl
 obtain ⟨t,u,nm,wy,ou,zs,dv,rx,rws,ds,d,nm2,wy2,pu,zs2,ev,rx2,aW,es,e,rfl,hX,hY,q1,q2,q3⟩:=h
 refine ⟨_,(ak (aM (i:=2) Z58.nd rfl (Or.inl rfl) o6)
  (ak (aM (i:=3) Z58.nd rfl (Or.inl rfl) (aX af))
  (aL (yC (G:=fun C=>dH K C) (i:=4) (wD (i:=2) Z58.nd rfl (Or.inl rfl) (yB uh hr rfl rfl (aa (pv 0) (aa (pv 1) af)))) rfl rfl rfl rfl bl.TableError_ Z58.nd rfl rfl (fun C e oe hG hc=>(aj (aM (i:=3) Z58.nd rfl (Or.inl rfl) (aX (aa (aw (eY hc hG) rfl bl.isinstance_ PyProof.Rows.boot_isinstance (aa (pv 4) (aa (fz (v:=.ty "ValueError") rfl bl.ValueError_ PyProof.Rows.Boot.ValueError rfl) af))) (aa (aw (eY hc hG) rfl bl.isinstance_ PyProof.Rows.boot_isinstance (aa (pv 4) (aa (bz (v:=.ref yG) rfl bl.Unlike_ rfl) af))) (aa (aw (eY hc hG) rfl bl.isinstance_ PyProof.Rows.boot_isinstance (aa (pv 4) (aa (bz (v:=.ref yI) rfl bl.TooMany_ rfl) af))) (aa (aw (eY hc hG) rfl bl.isinstance_ PyProof.Rows.boot_isinstance (aa (pv 4) (aa (bz (v:=.ref yK) rfl bl.BadRow_ rfl) af))) (aa (aw (eY hc hG) rfl bl.isinstance_ PyProof.Rows.boot_isinstance (aa (pv 4) (aa (bz (v:=.ref yH) rfl bl.BadName_ rfl) af))) af))))))))))
  (ak (aQ (aG (pq hr) (pv 3) (aX af) (aJ _))
  (aj (ay (bB (aa aI (aa (pv 2) af)))))
  aD)
  (ak (aQ (aG (pq hr) (pv 3) (aX (aa bU (aa bU (aa bU (aa bU (aa bU af)))))) (aJ _))
  (aj (ay (bB (aa aI (aa o6 af)))))
  aD)
  (ak (aQ (aG (pq hr) (pv 3) (aX (aa bU (aa bU (aa bU (aa bU (aa bU af)))))) (aJ _))
  (aj (ay (bB (aa aI (aa o6 af)))))
  aD)
  (aj (ay (bB (aa aI (aa o6 af))))))))))),?_⟩
 refine ⟨(by show 0<=sizeLine;decide),fun l hl=>?_⟩
 have s1:=ah hl (.lst [])
 have el:upd H l (.lst []) l=some (.lst []):=ae
 generalize upd H l (.lst [])=H1 at s1 el ⊢
 have hX1:=hX.same s1
 have hY1:=hY.same s1
 refine ⟨fun σ' H'=>av H H'/\∃ (mv:V) (kl:Addr),σ'=[some (.ref t),some (.ref u),some mv,some (.ref kl),none]/\((Alk zs zs2 wy wy2 ds es d e/\rws.length+aW.length<=200/\(∃ x xs',mv=.ref x/\TX yX yV yW H' x nm wy ou zs dv xs' (rws ++ aW) ds d)/\H' kl=some (.lst []))\/(Alk zs zs2 wy wy2 ds es d e/\200 < rws.length+aW.length/\mv=.non/\H' kl=some (.lst ([true,false,true,false,false].map V.bl)))\/(¬ Alk zs zs2 wy wy2 ds es d e/\mv=.non/\H' kl=some (.lst ([true,true,false,false,false].map V.bl)))),?_,?_⟩
 ·have c4:=hX.o.ct.2.1
  have c5:=hY.o.ct.2.1
  have c6:=hX.o.len
  have c7:=hY.o.len
  have c8:=hX.o.ct.2.2
  have c9:=hY.o.ct.2.2
  refine ⟨_,rfl,_,rfl,t,u,nm,wy,ou,zs,dv,rx,nm2,wy2,pu,zs2,ev,rx2,ds,es,d,e,ds.map Dm.b,Dm.b d,rws,aW,Dm.w d,rfl,hX1.tr,hY1.tr,hX1.doms,hY1.doms,hX1.out,hY1.out,by omega,by omega,(fun z hz=>kz (hX.o.nmo.1 z hz)),by omega,pN hX.o.way.1,hX1.out.ouc,rV hX1.doms,hX1.out.dom,hX1.rl,hY1.rl,by rw [hX.rl.1];omega,by rw [hY.rl.1];omega,by rw [List.length_map];omega,?_⟩
  by_cases hA:Alk zs zs2 wy wy2 ds es d e
  ·refine .inl ⟨hA.1,hA.2.1,hA.2.2.1,hA.2.2.2,?_,?_⟩
   ·intro w hw
    rcases List.mem_append.mp hw with hw | hw
    ·exact hX.o.rows w hw
    ·obtain ⟨_,_,h3,h4⟩:=hA
     rw [h3,h4]
     exact hY.o.rows w hw
   have gR:∀ w ∈ rws ++ aW,cz (ds.map Dm.b) (Dm.b d) w:=by
    intro w hw
    rcases List.mem_append.mp hw with hw | hw
    ·exact hX.o.rows w hw
    ·obtain ⟨_,_,h3,h4⟩:=hA
     rw [h3,h4]
     exact hY.o.rows w hw
   by_cases hl2:rws.length+aW.length<=200
   ·refine ⟨0,cA.made hX.o.nmo ⟨hX.o.ct.1,hX.o.ct.2.1,by rw [hX.rl.1,hY.rl.1];exact hl2⟩ hX.o.way gR,fun _ x xs' H2 s2 hT hR=>?_,fun C hC=>by cases hC⟩
    refine ⟨s1.trans s2,_,l,rfl,.inl ⟨hA,hl2,⟨x,xs',rfl,hT,hR,az.mono hX1.doms fun _ _ p=>p.same s2,hX1.out.same s2,?_⟩,s2 _ _ el⟩⟩
    obtain ⟨h1,h2,h3,h4⟩:=hA
    subst h1 h2 h3 h4
    exact hX.o.both hY.o hl2
   ·refine ⟨2,cA.many hX.o.nmo (fun g=>hl2 (by have:=g.2.2;rw [hX.rl.1,hY.rl.1] at this;exact this)),(fun h=>by cases h),fun C hC H2 s2=>?_⟩
    cases hC
    refine ⟨_,rfl,bl.e_TooMany,bl.l_TooMany,fun e=>?_⟩
    refine ⟨_,rfl,_,true,rfl,.inr (.inl ⟨_,rfl,bl.v_TooMany⟩),_,rfl,_,false,rfl,.inl ⟨_,rfl,bl.g_TooMany_Unlike⟩,_,rfl,_,true,rfl,.inl ⟨_,rfl,bl.g_TooMany_TooMany⟩,_,rfl,_,false,rfl,.inl ⟨_,rfl,bl.g_TooMany_BadRow⟩,_,rfl,_,false,rfl,.inl ⟨_,rfl,bl.g_TooMany_BadName⟩,(by show 5<=sizeLine;decide),fun p hp=>?_⟩
    exact ⟨(s1.trans s2).trans (ah hp _),.non,p,rfl,.inr (.inl ⟨hA,by omega,rfl,ae⟩)⟩
  ·refine .inr ⟨hA,fun H2 s2=>?_⟩
   refine ⟨_,rfl,bl.e_Unlike,bl.l_Unlike,fun e=>?_⟩
   refine ⟨_,rfl,_,true,rfl,.inr (.inl ⟨_,rfl,bl.v_Unlike⟩),_,rfl,_,true,rfl,.inl ⟨_,rfl,bl.g_Unlike_Unlike⟩,_,rfl,_,false,rfl,.inl ⟨_,rfl,bl.g_Unlike_TooMany⟩,_,rfl,_,false,rfl,.inl ⟨_,rfl,bl.g_Unlike_BadRow⟩,_,rfl,_,false,rfl,.inl ⟨_,rfl,bl.g_Unlike_BadName⟩,(by show 5<=sizeLine;decide),fun p hp=>?_⟩
   exact ⟨(s1.trans s2).trans (ah hp _),.non,p,rfl,.inr (.inr ⟨hA,rfl,ae⟩)⟩
 rintro σ2 H2 ⟨s2,mv,kl,rfl,hk⟩
 rcases hk with ⟨hA,hl2,⟨x,xs',rfl,hT⟩,ek⟩ | ⟨hA,hl2,rfl,ek⟩ | ⟨hA,rfl,ek⟩
 ·refine ⟨_,rfl,(by show 0<=sizeLine;decide),fun p hp=>fi (xs:=[]) (ys:=[]) (r:=true) (SqL.of (ah hp _ _ _ ek)) (SqL.of ae) (by simp) ⟨_,rfl,bR ?_⟩⟩
  exact ⟨_,rfl,bg,fun r hr=>q1 hA hl2 r x xs' _ ((s2.trans (ah hp _)).trans (ah hr _)) ae (hT.same ((ah hp _).trans (ah hr _)))⟩
 ·refine ⟨_,rfl,(by show 0<=sizeLine;decide),fun p hp=>fi (xs:=[true,false,true,false,false]) (ys:=[]) (r:=false) (SqL.of (ah hp _ _ _ ek)) (SqL.of ae) (by simp) ⟨_,rfl,bf ?_⟩⟩
  have s3:=ah hp (.lst [])
  have ek3:=s3 _ _ ek
  generalize upd H2 p (.lst [])=H3 at s3 ek3 ⊢
  refine ⟨_,rfl,(by show 5<=sizeLine;decide),fun p2 hp2=>fi (xs:=[true,false,true,false,false]) (ys:=[true,true,false,false,false]) (r:=false) (SqL.of (ah hp2 _ _ _ ek3)) (SqL.of ae) (by simp) ⟨_,rfl,bf ?_⟩⟩
  have s4:=ah hp2 (.lst ([true,true,false,false,false].map V.bl))
  have ek4:=s4 _ _ ek3
  refine ⟨_,rfl,(by show 5<=sizeLine;decide),fun p3 hp3=>fi (xs:=[true,false,true,false,false]) (ys:=[true,false,true,false,false]) (r:=true) (SqL.of (ah hp3 _ _ _ ek4)) (SqL.of ae) (by simp) ⟨_,rfl,bR ?_⟩⟩
  exact ⟨bg,fun r hr=>q2 hA hl2 r _ ((((s2.trans s3).trans s4).trans (ah hp3 _)).trans (ah hr _)) ae⟩
 ·refine ⟨_,rfl,(by show 0<=sizeLine;decide),fun p hp=>fi (xs:=[true,true,false,false,false]) (ys:=[]) (r:=false) (SqL.of (ah hp _ _ _ ek)) (SqL.of ae) (by simp) ⟨_,rfl,bf ?_⟩⟩
  have s3:=ah hp (.lst [])
  have ek3:=s3 _ _ ek
  generalize upd H2 p (.lst [])=H3 at s3 ek3 ⊢
  refine ⟨_,rfl,(by show 5<=sizeLine;decide),fun p2 hp2=>fi (xs:=[true,true,false,false,false]) (ys:=[true,true,false,false,false]) (r:=true) (SqL.of (ah hp2 _ _ _ ek3)) (SqL.of ae) (by simp) ⟨_,rfl,bR ?_⟩⟩
  exact ⟨bg,fun r hr=>q3 hA r _ (((s2.trans s3).trans (ah hp2 _)).trans (ah hr _)) ae⟩
theorem FH (F:Fun K "law" "law" Y38 f fd) (bl:Bl K mg yA yH yI yJ yK yG yN yO yP yQ yR yS yT yU yV yW yX yY yZ) (dX:Callee P w K mg base 10 "_law_cell_at" ["script", "k"] (J42 K)) (ir:Callee P w K mg base 10 "_law_column" ["m", "most"] (J44 K)) (rZ:Callee P w K mg base 10 "_law_way" ["turn", "out"] (J59 K)) (lM:Callee P w K mg base 10 "_law_bit_rows" ["seeds", "columns", "out"] (J41 K)) (jO:Callee P w K mg base 10 "_law_table" ["head", "columns", "out", "way", "bit_rows", "own"] (J57 K yV yW yX)) (gp:Callee P w K mg base 10 "_law_rows" ["bit_rows", "columns"] (J52 K)) (eJ:Callee P w K mg base 10 "_law_told" ["one", "other"] (J58 K yV yW yX)) (eV:Callee P w K mg base 10 "_law_points" ["columns"] (J51 K)) (gu:Callee P w K mg base 10 "_law_altered" ["other", "turn"] (J39 K yV yW yX)) (gq:aZ P w K mg base 10 "with_rows" ["table", "rows"] (J73 K yH yI yJ yK yV yW yX)) (bG:Callee P w K mg base 10 "_law_mixed" ["cell", "k"] (J48 K)) (pT:Callee P w K mg base 10 "_law_seeds" ["cells", "most"] (J54 K)) (ui:Callee P w K mg base 10 "verdict" ["table", "codes"] (J71 K yV yW yX)) (jP:Callee P w K mg base 10 "_law_stacked_so" ["table", "other", "found", "columns", "turn"] (J56 K yV yW yX)) (fF:Callee P w K mg base 10 "_law_codes" ["columns", "point", "turn"] (J43 K)) (q9:Callee P w K mg base 10 "_law_same" ["found", "due"] (J53 K)) (r6:Callee P w K mg base 10 "_law_due" ["way", "bit_rows", "out", "point"] (J46 K)):aR P w K mg base CX0 11 f fd ["script"] (J38 K):=by
 refine F.ok Z38 (fun vs H Q E h=>?_) (fun cdv A outer s H vs Q E hr h=>?_)
 ·obtain ⟨a,ns,rfl,hS,h63,q⟩:=h
  rfl
 obtain ⟨a,ns,rfl,hS,h63,q⟩:=h
 refine ⟨_,(aL (aM (i:=1) Z38.nd rfl (Or.inr rfl) (aT dX hr rfl (aa (pv 0) (aa ai af))))
  (aL (aM (i:=2) Z38.nd rfl (Or.inl rfl) (aT dX hr rfl (aa (pv 0) (aa ai af))))
  (aL (aM (i:=3) Z38.nd rfl (Or.inr rfl) (ao bE ai (ao aU (pv 1) ai)))
  (aL (gC (i:=4) Z38.nd rfl (Or.inl rfl) (dJ rfl bl.range_ (aa (pv 3) af)) (cY (N:=["j", "head", "count"]) (fr:=[1,3]) (cl:=[("head",s.heap.objs.size+1),("count",s.heap.objs.size+1+1)]) rfl rfl (by decide +kernel) (by decide +kernel) rfl (by decide +kernel) rfl rfl rfl (List.forall_mem_cons.mpr ⟨rfl,List.forall_mem_cons.mpr ⟨rfl,List.forall_mem_nil _⟩⟩) rfl) rfl (fun _ _ _ _=>bX) (fun _ _ _ _=>(aT ir hr rfl (aa (aT bG hr rfl (aa (pv 1) (aa (ao bE ai (pv 0)) af))) (aa (aO (dr (K:=K) rfl) (aX (aa ai (aa ai (aa ai (aa ai af))))) (ao fR (pv 2) ai) (fun _ _=>rfl)) af)))))
  (aL (aM (i:=5) Z38.nd rfl (Or.inl rfl) (aT ir hr rfl (aa (aT bG hr rfl (aa (aT dX hr rfl (aa (pv 0) (aa ai af))) (aa ai af))) (aa ai af))))
  (aL (aM (i:=6) Z38.nd rfl (Or.inl rfl) (aT rZ hr rfl (aa (pv 2) (aa (pv 5) af))))
  (aL (aM (i:=7) Z38.nd rfl (Or.inl rfl) (aT lM hr rfl (aa (aT pT hr rfl (aa (bQ ck (pv 0) (cj ai) cg) (aa ai af))) (aa (pv 4) (aa (pv 5) af)))))
  (aL (aM (i:=8) Z38.nd rfl (Or.inl rfl) (ao aU (ao aY (pv 2) ai) (ao bE (aw aE rfl bl.len_ PySem.boot_len (aa (pv 7) af)) ai)))
  (aL (aM (i:=9) Z38.nd rfl (Or.inl rfl) (aT jO hr rfl (aa (pv 1) (aa (pv 4) (aa (pv 5) (aa (pv 6) (aa (bQ ck (pv 7) cg (cj (pv 8))) (aa ai af))))))))
  (aL (aM (i:=10) Z38.nd rfl (Or.inl rfl) (aT jO hr rfl (aa (pv 1) (aa (pv 4) (aa (pv 5) (aa (pv 6) (aa (bQ ck (pv 7) (cj (pv 8)) cg) (aa ai af))))))))
  (aL (aM (i:=11) Z38.nd rfl (Or.inl rfl) (aT gp hr rfl (aa (pv 7) (aa (pv 4) af))))
  (aL (aM (i:=12) Z38.nd rfl (Or.inl rfl) (aT eJ hr rfl (aa (pv 9) (aa (pv 10) af))))
  (aL (aQ (PW.pt (eE (aG fL (aO bI (pv 12) ai (fun _ _=>rfl)) aI (aJ _)) (dP (bV (bC (aT jP hr rfl (aa (pv 9) (aa (pv 10) (aa (aO bI (pv 12) ai (fun _ _=>rfl)) (aa (pv 4) (aa (ao aY (pv 2) ai) af)))))))))))
  (aj (ay bU))
  aD)
  (aL (bM PassesOwn.never rfl (bq (aT eV hr rfl (aa (pv 4) af))) (aK (i:=13) Z38.nd rfl (Or.inl rfl))
  (ak (aM (i:=14) Z38.nd rfl (Or.inl rfl) (aT ui hr rfl (aa (aO bI (pv 12) ai (fun _ _=>rfl)) (aa (aT fF hr rfl (aa (pv 4) (aa (pv 13) (aa (ao aY (pv 2) ai) af)))) af))))
  (aj (aQ (bV (bC (aT q9 hr rfl (aa (pv 14) (aa (aT r6 hr rfl (aa (pv 6) (aa (pv 7) (aa (pv 5) (aa (pv 13) af))))) af)))))
  (aj (ay bU))
  aD))))
  (aL (aM (i:=15) Z38.nd rfl (Or.inl rfl) (aT gu hr rfl (aa (pv 10) (aa (ao aY (pv 2) ai) af))))
  (aL (aM (i:=16) Z38.nd rfl (Or.inl rfl) (eO gq ig hr rfl (aa (pv 9) (aa (bQ ck (ao yt (aO aS (aX (aa (bQ ck (pv 11) cg (cj ai)) (aa (pv 11) af))) (bN kf rfl bl.int_ PyProof.Rows.boot_int (aa (df bJ (ao aU (pv 2) ai) ai (aJ _)) af)) (fun _ _=>rfl)) ai) cg (cj ai)) af))))
  (ak (aQ (PW.pt (eE (aG fL (aO bI (aT eJ hr rfl (aa (pv 9) (aa (pv 15) af))) ai (fun _ _=>rfl)) aI (aJ _)) (dP (aG fL (aO bI (aT eJ hr rfl (aa (pv 16) (aa (aT gu hr rfl (aa (pv 16) (aa (ao aY (pv 2) ai) af))) af))) ai (fun _ _=>rfl)) aI (aJ _)))))
  (aj (ay bU))
  aD)
  (ak (aQ (PW.pt (eE (aG (pE hr) (ar (pv 9) rfl) (bQ ck (pv 11) cg (cj (pv 8))) (aJ _)) (dP (aG (pE hr) (ar (pv 10) rfl) (bQ ck (pv 11) (cj (pv 8)) cg) (aJ _)))))
  (aj (ay bU))
  aD)
  (aj (ay (df bJ (aO bI (aT eJ hr rfl (aa (pv 16) (aa (pv 16) af))) ai (fun _ _=>rfl)) (aO aS (aX (aa aI (aa aI af))) (bN kf rfl bl.int_ PyProof.Rows.boot_int (aa (df jv (aw aE rfl bl.len_ PySem.boot_len (aa (ar (pv 16) rfl) af)) ai (aJ _)) af)) (fun _ _=>rfl)) (aJ _)))))))))))))))))))))),?_⟩
 refine ⟨fun σ' H'=>H'=H/\∃ h:Int,σ'=[some (.ref a),some (.int h),none,none,none,none,none,none,none,none,none,none,none,none,none,none,none],⟨_,rfl,a,ns,0,rfl,hS,Int.le_refl _,fun r=>⟨rfl,r,rfl⟩⟩,?_⟩
 rintro σ1 H1 ⟨rfl,h,rfl⟩
 refine ⟨fun σ' H'=>H'=H1/\∃ tn:Int,σ'=[some (.ref a),some (.int h),some (.int tn),none,none,none,none,none,none,none,none,none,none,none,none,none,none],⟨_,rfl,a,ns,2,rfl,hS,by decide,fun r=>⟨rfl,r,rfl⟩⟩,?_⟩
 rintro σ2 H2 ⟨rfl,tn,rfl⟩
 refine ⟨fun σ' H'=>H'=H2/\σ'=[some (.ref a),some (.int h),some (.int tn),some (.int (1+h % 4)),none,none,none,none,none,none,none,none,none,none,none,none,none],⟨_,rfl,_,_,rfl,rfl,(by show (0:Int) < 4;decide),_,_,rfl,rfl,rfl,rfl⟩,?_⟩
 rintro σ3 H3 ⟨rfl,rfl⟩
 have h0:=Int.emod_nonneg h (show (4:Int) ≠ 0 by decide)
 have h1:=Int.emod_lt_of_pos h (show (0:Int) < 4 by decide)
 obtain ⟨v4,hv4,hv1,hv6⟩:=Bf (h:=h)
 refine ⟨fun σ' H'=>av H3 H'/\∃ (co:Addr) (xs:List V) (cs:List Col),H' co=some (.lst xs)/\dj NT H' xs cs/\(∀ c ∈ cs,bu c)/\cs.length=(1+h % 4).toNat/\σ'=[some (.ref a),some (.int h),some (.int tn),some (.int (1+h % 4)),some (.ref co),none,none,none,none,none,none,none,none,none,none,none,none],?_,?_⟩
 ·refine ⟨_,rfl,_,rfl,(by show -(2 ^ 62)<=1+h % 4;omega),(by show 1+h % 4 < 2 ^ 62;omega),fB (fun D i zs H'=>av H3 H'/\H' D=some (.lst zs)/\∃ cs:List Col,dj (· ≠ D) H' zs cs/\cs.length=i/\∀ c ∈ cs,bu c) (fun D hD=>⟨ah hD _,ae,[],az.nil,rfl,(fun c hc=>by cases hc)⟩) (fun D i zs H' hD hi hh=>?_) (fun D zs H' hD hh=>?_)⟩
  ·obtain ⟨sm,eD,cs,hz,hl,hok⟩:=hh
   refine ⟨_,rfl,_,rfl,_,_,rfl,rfl,_,_,rfl,(by show 0<=1+(0+(i:Int));omega),(by show 1+(0+(i:Int))<=100;omega),fun r _=>?_⟩
   refine ⟨(by show 4<=sizeLine;decide),fun p hp=>?_⟩
   have u1:=ah hp (.lst [V.int 6,.int 4,.int 3,.int 2])
   have e1:upd H' p (.lst [V.int 6,.int 4,.int 3,.int 2]) p=some (.lst [V.int 6,.int 4,.int 3,.int 2]):=ae
   generalize upd H' p (.lst [V.int 6,.int 4,.int 3,.int 2])=H5 at u1 e1 ⊢
   refine ⟨_,rfl,_,_,rfl,rfl,p,_,_,_,rfl,rfl,SqL.of e1,hv4,r,v4,rfl,hv1,hv6,fun l c H6 s6 hc ok=>?_⟩
   have eD5:=u1 _ _ eD
   have eD6:=s6 _ _ eD5
   have hlz:zs.length=i:=by rw [hz.1,hl]
   have hc2:dY (· ≠ D) H6 l c:=hc.wk fun x hx z=>by rw [z,eD5] at hx;cases hx
   have hz2:dj (· ≠ D) H6 (zs ++ [.ref l]) (cs ++ [c]):=az.snoc (hz.same (u1.trans s6)) hc2
   refine dB.mk hi eD6 (aH (by omega)) ⟨((sm.trans u1).trans s6).upd hD,ae,cs ++ [c],hz2.updN (fun z=>z rfl) eD6,by rw [List.length_append,List.length_singleton,hl],fun c' hc'=>?_⟩
   rcases List.mem_append.mp hc' with hc' | hc'
   ·exact hok c' hc'
   ·rw [show c'=c by simpa using hc'];exact ok
  ·obtain ⟨sm,eD,cs,hz,hl,hok⟩:=hh
   exact ⟨sm,D,zs,cs,eD,hz.any,hok,hl,rfl⟩
 rintro σ4 H4 ⟨s4,co,xs,cs,eco,hco,hok,hcn,rfl⟩
 have hc1:1<=cs.length:=by omega
 have hc4:cs.length<=4:=by omega
 have hcI:(1+h % 4)=(cs.length:Int):=by omega
 refine ⟨fun σ' H'=>av H4 H'/\∃ (ol:Addr) (oc:Col),dY NT H' ol oc/\bu oc/\σ'=[some (.ref a),some (.int h),some (.int tn),some (.int (1+h % 4)),some (.ref co),some (.ref ol),none,none,none,none,none,none,none,none,none,none,none],⟨_,rfl,a,ns,1,rfl,s4.seq hS,by decide,fun r=>⟨r,0,rfl,by decide,by decide,fun r2 _=>⟨r2,3,rfl,by decide,by decide,fun l c H5 s5 hc ok=>⟨s5,l,c,hc.any,ok,rfl⟩⟩⟩⟩,?_⟩
 rintro σ5 H5 ⟨t5,ol,oc,hol,ook,rfl⟩
 have s5:=s4.trans t5
 have xa:=t5 _ _ eco
 have zu:=hco.same t5
 refine ⟨fun σ' H'=>av H5 H'/\∃ (wy:Str) (wi:Nat),six[wi]?=some wy/\(wy=Str.ofString "sum" -> oc.w=false)/\σ'=[some (.ref a),some (.int h),some (.int tn),some (.int (1+h % 4)),some (.ref co),some (.ref ol),some (.str wy),none,none,none,none,none,none,none,none,none,none],⟨_,rfl,_,rfl,tn,ol,oc,rfl,hol,fun wy i H6 s6 hi hs=>⟨s6,wy,i,hi,hs,rfl⟩⟩,?_⟩
 rintro σ6 H6 ⟨t6,wy,wi,hwi,nh,rfl⟩
 have s6:=s5.trans t6
 have Bz:=t6 _ _ xa
 have BA:=zu.same t6
 have BB:=hol.same t6
 refine ⟨fun σ' H'=>av H6 H'/\∃ (bl_:Addr) (zs:List V) (ws:List BW),H' bl_=some (.lst zs)/\BRL NT H' zs ws/\ws.length<=24/\(∀ w ∈ ws,du cs oc w)/\σ'=[some (.ref a),some (.int h),some (.int tn),some (.int (1+h % 4)),some (.ref co),some (.ref ol),some (.str wy),some (.ref bl_),none,none,none,none,none,none,none,none,none],?_,?_⟩
 ·obtain ⟨ms,em,lm⟩:=uW ns 3 none
  refine ⟨_,rfl,_,rfl,a,_,rfl,s6.seq hS,fun c1 pU=>?_⟩
  rw [show (some (3:Int))=some ((3:Nat):Int) from rfl,em]
  have u1:=ah pU (.lst (ms.map V.int))
  have e1:upd H6 c1 (.lst (ms.map V.int)) c1=some (.lst (ms.map V.int)):=ae
  generalize upd H6 c1 (.lst (ms.map V.int))=H7 at u1 e1 ⊢
  refine ⟨c1,ms,24,rfl,SqL.of e1,by omega,by decide,by decide,fun l ss H8 s8 e8 hss _ hnn=>?_⟩
  have u8:=u1.trans s8
  exact ⟨_,rfl,_,rfl,l,co,ol,ss,xs,cs,oc,rfl,e8,by omega,hnn,u8 _ _ Bz,BA.same u8,hok,hc1,hc4,BB.same u8,ook,fun bl_ zs ws H9 s9 e9 hz hwl hbo=>⟨u8.trans s9,bl_,zs,ws,e9,hz.wk fun _ _=>trivial,by omega,hbo,rfl⟩⟩
 rintro σ7 H7 ⟨t7,bl_,zs,ws,ebl,hz,hwl,hbo,rfl⟩
 have BC:=t7 _ _ Bz
 have BD:=BA.same t7
 have zw:=BB.same t7
 have vw:∀ w ∈ ws,w.1.length=cs.length:=fun w hw=>(hbo w hw).len
 have Q1:zs.length=ws.length:=hz.1
 have rY:(0:Int) < ((zs.length:Nat):Int)+1:=by omega
 obtain ⟨k,ek⟩:∃ k:Nat,tn / 6 % (((zs.length:Nat):Int)+1)=(k:Int):=⟨_,(Int.toNat_of_nonneg (Int.emod_nonneg _ (Int.ne_of_gt rY))).symm⟩
 have hk:k<=ws.length:=by have:=Int.emod_lt_of_pos (tn / 6) rY;omega
 refine ⟨fun σ' H'=>H'=H7/\σ'=[some (.ref a),some (.int h),some (.int tn),some (.int (1+h % 4)),some (.ref co),some (.ref ol),some (.str wy),some (.ref bl_),some (.int (k:Int)),none,none,none,none,none,none,none,none],⟨_,rfl,_,_,rfl,rfl,⟨by decide,by decide⟩,_,rfl,bl_,_,rfl,.inl (SqL.of ebl),_,_,rfl,rfl,_,_,rfl,rfl,rY,rfl,by rw [← ek];rfl⟩,?_⟩
 rintro σ8 H8 ⟨rfl,rfl⟩
 have FI:∀ w ∈ ws.take k,du cs oc w:=fun w hw=>hbo w (List.mem_of_mem_take hw)
 have FJ:∀ w ∈ ws.drop k,du cs oc w:=fun w hw=>hbo w (List.mem_of_mem_drop hw)
 refine ⟨fun σ' H'=>av H8 H'/\∃ (t ou:Addr) (dv rx:List V) (rws:List Rw),TX yX yV yW H' t (wd (h / 16) 0) wy ou (nmz h cs.length) dv rx rws (cs.map Col.dm) oc.dm/\cq cs (ws.take k) rws/\σ'=[some (.ref a),some (.int h),some (.int tn),some (.int (1+h % 4)),some (.ref co),some (.ref ol),some (.str wy),some (.ref bl_),some (.int (k:Int)),some (.ref t),none,none,none,none,none,none,none],?_,?_⟩
 ·refine ⟨_,rfl,_,rfl,_,rfl,_,rfl,_,rfl,_,rfl,_,rfl,bl_,_,rfl,SqL.of ebl,fun c1 pU=>?_⟩
  rw [dI]
  have u1:=ah pU (.lst (zs.take k))
  have e1:upd H8 c1 (.lst (zs.take k)) c1=some (.lst (zs.take k)):=ae
  generalize upd H8 c1 (.lst (zs.take k))=H9 at u1 e1 ⊢
  exact ⟨h,co,ol,c1,wy,xs,zs.take k,cs,oc,ws.take k,wi,0,rfl,.inl rfl,u1 _ _ BC,BD.same u1,hok,hc1,hc4,zw.same u1,ook,hwi,nh,e1,az.take (hz.same u1) k,by rw [List.length_take];omega,FI,fun t ou dv rx rws H10 s10 hT hof=>⟨u1.trans s10,t,ou,dv,rx,rws,hT,hof,rfl⟩⟩
 rintro σ9 H9 ⟨t9,t,ou,dv,rx,rws,hT,hof,rfl⟩
 have BE:=t9 _ _ ebl
 have BF:=t9 _ _ BC
 have BG:=BD.same t9
 refine ⟨fun σ' H'=>av H9 H'/\∃ (u pu:Addr) (ev rx2:List V) (aW:List Rw),TX yX yV yW H' u (wd (h / 16) 5) wy pu (nmz h cs.length) ev rx2 aW (cs.map Col.dm) oc.dm/\cq cs (ws.drop k) aW/\σ'=[some (.ref a),some (.int h),some (.int tn),some (.int (1+h % 4)),some (.ref co),some (.ref ol),some (.str wy),some (.ref bl_),some (.int (k:Int)),some (.ref t),some (.ref u),none,none,none,none,none,none],?_,?_⟩
 ·refine ⟨_,rfl,_,rfl,_,rfl,_,rfl,_,rfl,_,rfl,_,rfl,bl_,_,rfl,SqL.of BE,fun c1 pU=>?_⟩
  rw [lU]
  have u1:=ah pU (.lst (zs.drop k))
  have e1:upd H9 c1 (.lst (zs.drop k)) c1=some (.lst (zs.drop k)):=ae
  generalize upd H9 c1 (.lst (zs.drop k))=H10 at u1 e1 ⊢
  exact ⟨h,co,ol,c1,wy,xs,zs.drop k,cs,oc,ws.drop k,wi,5,rfl,.inr rfl,u1 _ _ BF,BG.same u1,hok,hc1,hc4,(zw.same t9).same u1,ook,hwi,nh,e1,az.drop ((hz.same t9).same u1) k,by rw [List.length_drop];omega,FJ,fun t ou dv rx rws H11 s11 hT hof=>⟨u1.trans s11,t,ou,dv,rx,rws,hT,hof,rfl⟩⟩
 rintro σ10 H10 ⟨t10,u,pu,ev,rx2,aW,hU,FK,rfl⟩
 have FL:=hT.same t10
 have zy:cq cs ws (rws ++ aW):=by
  have:=cq.app hof FK
  rw [List.take_append_drop] at this
  exact this
 have hlA:(rws ++ aW).length=ws.length:=zy.1
 have hlT:rws.length=k:=by rw [hof.1,List.length_take];omega
 have hlen:rws.length+aW.length<=24:=by rw [List.length_append] at hlA;omega
 have xK:=t10 _ _ BF
 have xM:=BG.same t10
 have xN:=t10 _ _ BE
 have BH:=(hz.same t9).same t10
 have BI:=(zw.same t9).same t10
 refine ⟨fun σ' H'=>av H10 H'/\∃ (rl:Addr) (rz:List V),H' rl=some (.lst rz)/\RL NT H' rz (rws ++ aW)/\σ'=[some (.ref a),some (.int h),some (.int tn),some (.int (1+h % 4)),some (.ref co),some (.ref ol),some (.str wy),some (.ref bl_),some (.int (k:Int)),some (.ref t),some (.ref u),some (.ref rl),none,none,none,none,none],⟨_,rfl,_,rfl,bl_,co,zs,xs,ws,cs,rfl,xN,BH,by omega,xK,xM,hok,hc4,vw,fun rl rz wV H11 s11 e11 hR FN=>⟨s11,rl,rz,e11,?_,rfl⟩⟩,?_⟩
 ·rw [zy.eq FN vw]
  exact RL.any hR
 rintro σ11 H11 ⟨t11,rl,rz,erl,hrl,rfl⟩
 have zz:=FL.same t11
 have zA:=hU.same t11
 have FO:rz.length=ws.length:=by rw [hrl.1,hlA]
 refine ⟨fun σ' H'=>av H11 H'/\∃ (tr x:Addr) (xr:List V),H' tr=some (.tup [.str (Str.ofString "made"),.ref x])/\TX yX yV yW H' x (wd (h / 16) 0) wy ou (nmz h cs.length) dv xr (rws ++ aW) (cs.map Col.dm) oc.dm/\σ'=[some (.ref a),some (.int h),some (.int tn),some (.int (1+h % 4)),some (.ref co),some (.ref ol),some (.str wy),some (.ref bl_),some (.int (k:Int)),some (.ref t),some (.ref u),some (.ref rl),some (.ref tr),none,none,none,none],⟨_,rfl,_,rfl,t,u,_,_,_,_,_,_,_,_,_,_,_,_,_,_,_,_,_,_,rfl,zz,zA,fun _ _ r x xs' H12 s12 er hF=>⟨s12,r,x,xs',er,hF,rfl⟩,(fun _ hgt=>by omega),fun hn=>absurd ⟨rfl,rfl,rfl,rfl⟩ hn⟩,?_⟩
 rintro σ12 H12 ⟨t12,tr,x,xr,etr,hF,rfl⟩
 have vx:=t11.trans t12
 have xO:=vx _ _ xK
 have xP:=xM.same vx
 refine ⟨fun σ' H'=>av H12 H'/\σ'=[some (.ref a),some (.int h),some (.int tn),some (.int (1+h % 4)),some (.ref co),some (.ref ol),some (.str wy),some (.ref bl_),some (.int (k:Int)),some (.ref t),some (.ref u),some (.ref rl),some (.ref tr),none,none,none,none],?_,?_⟩
 ·refine ⟨_,rfl,tr,_,_,_,rfl,rfl,SqT.of etr,rfl,rfl,_,rfl,fS rfl ?_⟩
  exact ⟨_,rfl,_,rfl,_,rfl,tr,_,_,_,rfl,rfl,SqT.of etr,rfl,_,rfl,_,rfl,_,_,rfl,rfl,⟨by decide,by decide⟩,t,u,x,co,_,_,_,_,_,_,_,_,_,_,_,_,_,_,_,_,xs,cs,wi,rfl,zz.same t12,zA.same t12,hF,by omega,hwi,xO,xP,hok,hc4,by rw [lW],fun H13 s13=>⟨_,rfl,bf ⟨s13,rfl⟩⟩⟩
 rintro σ13 H13 ⟨t13,rfl⟩
 have vy:=vx.trans t13
 have xQ:=t13 _ _ xO
 have xR:=xP.same t13
 have FP:=hF.same t13
 have BJ:=vy _ _ xN
 have FQ:=BH.same vy
 have BK:=BI.same vy
 have BL:=t13 _ _ etr
 have FR:∀ w ∈ rws ++ aW,w.1.length=cs.length:=fun w hw=>by rw [(hF.o.rows w hw).len,List.length_map,List.length_map]
 refine ⟨fun σ' H'=>av H13 H'/\∃ c13 c14:Option V,σ'=[some (.ref a),some (.int h),some (.int tn),some (.int (1+h % 4)),some (.ref co),some (.ref ol),some (.str wy),some (.ref bl_),some (.int (k:Int)),some (.ref t),some (.ref u),some (.ref rl),some (.ref tr),c13,c14,none,none],?_,?_⟩
 ·refine ⟨_,rfl,co,xs,cs,rfl,xQ,xR,hok,hc4,fun pl pz H17 s17 e17 hpt=>?_⟩
  refine ⟨pl,rfl,⟨_,SqL.of e17⟩,bY (xs:=pz) (fun i σ H'=>av H17 H'/\∃ c13 c14:Option V,σ=[some (.ref a),some (.int h),some (.int tn),some (.int (1+h % 4)),some (.ref co),some (.ref ol),some (.str wy),some (.ref bl_),some (.int (k:Int)),some (.ref t),some (.ref u),some (.ref rl),some (.ref tr),c13,c14,none,none]) ⟨av.refl _,_,_,rfl⟩ (fun i σ H' _ hh=>SqL.of (hh.1 _ _ e17)) (fun i y σ H' ey hh=>?_) (fun σ H' hh=>⟨s17.trans hh.1,hh.2⟩)⟩
  obtain ⟨sm,c15,c16,rfl⟩:=hh
  obtain ⟨r,p,rfl,ep,_,hr_⟩:=az.get (hpt.same sm) ey
  have hpo:=m8.iff.mp (List.mem_of_getElem? ep)
  have lp:p.length=cs.length:=by rw [hpo.1,qY]
  have v:=s17.trans sm
  refine ⟨_,rfl,tr,_,_,_,rfl,rfl,SqT.of (v _ _ BL),rfl,_,rfl,_,rfl,_,rfl,_,_,rfl,rfl,⟨by decide,by decide⟩,co,r,xs,cs,p,_,rfl,v _ _ xQ,xR.same v,hok,hc4,hr_,hpo,fun l cd H18 s18 e18 hat=>?_⟩
  have cdl:cd.length=cs.length:=hat.1
  have w1:=v.trans s18
  refine ⟨x,l,rws ++ aW,wi,_,cd,rfl,(FP.same w1).tbl hwi,SqL.of e18,fun w hw=>by rw [FR w hw,cdl],fun r1 H20 s20 hr1=>?_⟩
  rw [ze,Bi zy hbo hok hpo hat,Col.dm_b ook] at hr1
  have w2:=w1.trans s20
  refine ⟨_,rfl,_,rfl,_,rfl,_,rfl,_,rfl,wy,wi,bl_,ol,r,zs,ws,oc,p,rfl,hwi,w2 _ _ BJ,FQ.same w2,by omega,BK.same w2,ook,s20 _ _ (s18 _ _ hr_),(fun w hw=>by rw [vw w hw,lp]),by omega,fun r2 H21 s21 e21=>?_⟩
  exact ⟨r1,r2,_,rfl,s21.seqT hr1,SqT.of e21,_,rfl,bf ⟨((sm.trans s18).trans s20).trans s21,_,_,rfl⟩⟩
 rintro σ14 H14 ⟨t14,c13,c14,rfl⟩
 have vz:=(t12.trans t13).trans t14
 have FT:=zz.same vz
 have BM:=zA.same vz
 refine ⟨fun σ' H'=>av H14 H'/\∃ (al:Addr) (wy2:Str) (pu2:Addr) (zs2:List Str) (ev2 rx3:List V) (xc:List Rw) (es:List Dm) (e:Dm),TX yX yV yW H' al (wd (h / 16) 5) wy2 pu2 zs2 ev2 rx3 xc es e/\¬ Alk (nmz h cs.length) zs2 wy wy2 (cs.map Col.dm) es oc.dm e/\σ'=[some (.ref a),some (.int h),some (.int tn),some (.int (1+h % 4)),some (.ref co),some (.ref ol),some (.str wy),some (.ref bl_),some (.int (k:Int)),some (.ref t),some (.ref u),some (.ref rl),some (.ref tr),c13,c14,some (.ref al),none],⟨_,rfl,_,rfl,_,_,rfl,rfl,⟨by decide,by decide⟩,u,_,_,_,_,_,_,_,_,_,_,rfl,BM,vk (.inr rfl) hc4,fun t' wy2 pu2 zs2 ev2 rx3 xc es e H' s' hA hn=>⟨s',t',wy2,pu2,zs2,ev2,rx3,xc,es,e,hA,hn,rfl⟩⟩,?_⟩
 rintro σ15 H15 ⟨t15,al,wy2,pu2,zs2,ev2,rx3,xc,es,e,hA,hnA,rfl⟩
 have zB:=FT.same t15
 have xS:=vz.trans t15
 have tm:=xS _ _ erl
 have xT:=hrl.same xS
 refine ⟨fun σ' H'=>av H15 H'/\∃ (g:Addr) (gx:List V) (rwg:List Rw),TX yX yV yW H' g (wd (h / 16) 0) wy ou (nmz h cs.length) dv gx rwg (cs.map Col.dm) oc.dm/\σ'=[some (.ref a),some (.int h),some (.int tn),some (.int (1+h % 4)),some (.ref co),some (.ref ol),some (.str wy),some (.ref bl_),some (.int (k:Int)),some (.ref t),some (.ref u),some (.ref rl),some (.ref tr),c13,c14,some (.ref al),some (.ref g)],?_,?_⟩
 ·refine ⟨_,rfl,_,rfl,_,rfl,rl,_,rfl,SqL.of tm,fun c1 pU=>?_⟩
  rw [show (some (1:Int))=some ((1:Nat):Int) from rfl,dI]
  have u1:=ah pU (.lst (rz.take 1))
  have e1:upd H15 c1 (.lst (rz.take 1)) c1=some (.lst (rz.take 1)):=ae
  generalize upd H15 c1 (.lst (rz.take 1))=H16 at u1 e1 ⊢
  refine ⟨_,rfl,bg,fun p2 hp2=>?_⟩
  have u2:=ah hp2 (.lst [V.ref c1,.ref rl])
  have e2:upd H16 p2 (.lst [V.ref c1,.ref rl]) p2=some (.lst [V.ref c1,.ref rl]):=ae
  generalize upd H16 p2 (.lst [V.ref c1,.ref rl])=H17 at u2 e2 ⊢
  have u12:=u1.trans u2
  have xU:=xT.same u12
  obtain ⟨q_,qx,qw,eq_,hq_,hqR,hqm⟩:∃ (q_:Addr) (qx:List V) (qw:List Rw),atI [V.ref c1,.ref rl] (if decide (V.int (tn % 2)=V.int 1)=true then 1 else 0)=some (.ref q_)/\H17 q_=some (.lst qx)/\RL NT H17 qx qw/\∀ w ∈ qw,w ∈ rws ++ aW:=by
   by_cases hc:decide (V.int (tn % 2)=V.int 1)=true
   ·rw [if_pos hc]
    exact ⟨rl,rz,rws ++ aW,rfl,u12 _ _ tm,xU,fun w hw=>hw⟩
   ·rw [if_neg hc]
    exact ⟨c1,rz.take 1,(rws ++ aW).take 1,rfl,u2 _ _ e1,az.take xU 1,fun w hw=>List.mem_of_mem_take hw⟩
  have hql:qx.length<=24:=by
   rw [hqR.1]
   by_cases hc:decide (V.int (tn % 2)=V.int 1)=true
   ·rw [if_pos hc] at eq_
    cases eq_
    rw [u12 _ _ tm] at hq_
    cases hq_
    rw [← hqR.1,FO]
    exact hwl
   ·rw [if_neg hc] at eq_
    cases eq_
    rw [u2 _ _ e1] at hq_
    cases hq_
    rw [← hqR.1,List.length_take]
    omega
  refine ⟨_,rfl,_,_,rfl,rfl,(by show (0:Int) < 2;decide),rfl,.inr ⟨_,rfl,p2,_,_,_,rfl,rfl,SqL.of e2,eq_,q_,_,_,rfl,rfl,hq_,by decide,by decide,?_,fun p3 hp3=>?_⟩⟩
  ·refine Nat.le_of_lt (Nat.lt_of_le_of_lt (Nat.mul_le_mul hql (Nat.le_refl (150:Int).toNat)) ?_)
   decide
  rw [show ((150:Int).toNat)=150 from rfl]
  have u3:=ah hp3 (.lst (List.replicate 150 qx).flatten)
  have e3:upd H17 p3 (.lst (List.replicate 150 qx).flatten) p3=some (.lst (List.replicate 150 qx).flatten):=ae
  generalize upd H17 p3 (.lst (List.replicate 150 qx).flatten)=H18 at u3 e3 ⊢
  refine ⟨_,rfl,p3,_,rfl,SqL.of e3,fun c4 FU=>?_⟩
  rw [show (some (150:Int))=some ((150:Nat):Int) from rfl,dI]
  have u4:=ah FU (.lst ((List.replicate 150 qx).flatten.take 150))
  have e4:upd H18 c4 (.lst ((List.replicate 150 qx).flatten.take 150)) c4=some (.lst ((List.replicate 150 qx).flatten.take 150)):=ae
  generalize upd H18 c4 (.lst ((List.replicate 150 qx).flatten.take 150))=H19 at u4 e4 ⊢
  have hgR:RL NT H19 ((List.replicate 150 qx).flatten.take 150) ((List.replicate 150 qw).flatten.take 150):=az.take (az.reps (hqR.same (u3.trans u4)) 150) 150
  generalize (List.replicate 150 qx).flatten.take 150=gx0 at e4 hgR ⊢
  have hgm:∀ w ∈ (List.replicate 150 qw).flatten.take 150,w ∈ rws ++ aW:=fun w hw=>hqm w (vm (List.mem_of_mem_take hw))
  have hgl:((List.replicate 150 qw).flatten.take 150).length<=150:=by rw [List.length_take];omega
  generalize (List.replicate 150 qw).flatten.take 150=rwg at hgR hgm hgl
  have u14:=u12.trans (u3.trans u4)
  have pV:=zB.same u14
  have oG:TXo (wd (h / 16) 0) wy (nmz h cs.length) rwg (cs.map Col.dm) oc.dm:=⟨hT.o.nmo,⟨hT.o.ct.1,hT.o.ct.2.1,by omega⟩,hT.o.way,fun w hw=>hF.o.rows w (hgm w hw),hT.o.len,hT.o.fine⟩
  have c4_:=oG.ct.2.1
  refine ⟨t,c4,ou,_,wy,_,dv,_,gx0,(cs.map Col.dm).map Dm.b,Dm.b oc.dm,rwg,Dm.w oc.dm,0,rfl,pV.tr,(fun z hz=>kz (oG.nmo.1 z hz)),by omega,pN oG.way.1,pV.out.ouc,rV pV.doms,pV.out.dom,e4,hgR,by rw [List.length_map,oG.len];omega,(fun w hw=>.inl (oG.rows w hw)),cA.made oG.nmo (by rw [hgR.1];exact oG.ct) oG.way oG.rows,fun _ g gx H20 s20 hg hgr=>?_,fun C hC=>by cases hC⟩
  exact ⟨u14.trans s20,g,gx,rwg,⟨hg,hgr,az.mono pV.doms fun _ _ p=>p.same s20,pV.out.same s20,oG⟩,rfl⟩
 rintro σ16 H16 ⟨t16,g,gx,rwg,hG,rfl⟩
 have FV:=zB.same t16
 have FW:=hA.same t16
 refine ⟨_,rfl,_,rfl,t,al,_,_,_,_,_,_,_,_,_,_,_,_,_,_,_,_,_,_,rfl,FV,FW,(fun hk=>absurd hk hnA),(fun hk=>absurd hk hnA),fun _ r1 H17 s17 e17=>⟨r1,_,_,_,rfl,rfl,SqT.of e17,rfl,rfl,_,rfl,fS rfl ?_⟩⟩
 have BN:=hG.same s17
 refine ⟨_,rfl,_,rfl,_,rfl,_,_,rfl,rfl,⟨by decide,by decide⟩,g,_,_,_,_,_,_,_,_,_,_,rfl,BN,vk (.inl rfl) hc4,fun b wy3 pu3 zs3 ev3 rx4 Q3 es3 e3 H18 s18 hB hnB=>?_⟩
 refine ⟨g,b,_,_,_,_,_,_,_,_,_,_,_,_,_,_,_,_,_,_,rfl,BN.same s18,hB,(fun hk=>absurd hk hnB),(fun hk=>absurd hk hnB),fun _ r2 H19 s19 e19=>⟨r2,_,_,_,rfl,rfl,SqT.of e19,rfl,rfl,_,rfl,fS rfl ?_⟩⟩
 have v19:=(s17.trans s18).trans s19
 have w19:=t16.trans v19
 have pV:=zB.same w19
 have BO:=(BM.same t15).same w19
 have xV:=w19 _ _ tm
 have xW:=xT.same w19
 obtain ⟨dx5,na5,dl5,rl5,fs5,a1,a2,a3,a4,a5,a6,a7,a8,a9,a10⟩:=id pV.tr
 obtain ⟨dx6,na6,dl6,rl6,fs6,b1,b2,b3,b4,b5,b6,b7,b8,b9,b10⟩:=id BO.tr
 refine ⟨_,rfl,t,_,_,_,_,rfl,a1,bl.k_Table,bl.na_Table_rows,a7,_,rfl,_,rfl,_,rfl,rl,_,rfl,SqL.of xV,fun c1 pU=>?_⟩
 rw [dI]
 have u1:=ah pU (.lst (rz.take k))
 have e1:upd H19 c1 (.lst (rz.take k)) c1=some (.lst (rz.take k)):=ae
 generalize upd H19 c1 (.lst (rz.take k))=H20 at u1 e1 ⊢
 have hr1:RL NT H20 (rz.take k) rws:=by
  have:=az.take (xW.same u1) k
  rw [show (rws ++ aW).take k=rws by rw [← hlT];simp] at this
  exact this
 have hrT:=pV.rl.same u1
 refine kv (SqL.of (u1 _ _ a10)) (SqL.of e1) (by rw [hrT.1,hr1.1]) (mX hrT hr1) ⟨_,rfl,bf ?_⟩
 refine ⟨_,rfl,u,_,_,_,_,rfl,u1 _ _ b1,bl.k_Table,bl.na_Table_rows,b7,_,rfl,_,rfl,_,rfl,rl,_,rfl,SqL.of (u1 _ _ xV),fun c2 FX=>?_⟩
 rw [lU]
 have u2:=ah FX (.lst (rz.drop k))
 have e2:upd H20 c2 (.lst (rz.drop k)) c2=some (.lst (rz.drop k)):=ae
 generalize upd H20 c2 (.lst (rz.drop k))=H21 at u2 e2 ⊢
 have u12:=u1.trans u2
 have hr2:RL NT H21 (rz.drop k) aW:=by
  have:=az.drop (xW.same u12) k
  rw [show (rws ++ aW).drop k=aW by rw [← hlT];simp] at this
  exact this
 have hrU:=BO.rl.same u12
 refine kv (SqL.of (u12 _ _ b10)) (SqL.of e2) (by rw [hrU.1,hr2.1]) (mX hrU hr2) ⟨_,rfl,bf ?_⟩
 have xf:=(hG.same v19).same u12
 refine ⟨_,rfl,_,rfl,g,g,_,_,_,_,_,_,_,_,_,_,_,_,_,_,_,_,_,_,rfl,xf,xf,fun _ hle r x2 xs2 H22 s22 e22 _=>?_,fun _ hgt r H22 s22 e22=>?_,fun hn=>absurd ⟨rfl,rfl,rfl,rfl⟩ hn⟩
 ·refine ⟨r,_,_,_,rfl,rfl,SqT.of e22,rfl,bg,fun p3 hp3=>?_⟩
  have u3:=ah hp3 (.lst [V.str (Str.ofString "made"),.str (Str.ofString "TooMany")])
  have e3:upd H22 p3 (.lst [V.str (Str.ofString "made"),.str (Str.ofString "TooMany")]) p3=some (.lst [V.str (Str.ofString "made"),.str (Str.ofString "TooMany")]):=ae
  generalize upd H22 p3 (.lst [V.str (Str.ofString "made"),.str (Str.ofString "TooMany")])=H23 at u3 e3 ⊢
  have vA:=(xf.same s22).same u3
  obtain ⟨dx7,na7,dl7,rl7,fs7,d1,d2,d3,d4,d5,d6,d7,d8,d9,d10⟩:=id vA.tr
  have ev:atI [V.str (Str.ofString "made"),.str (Str.ofString "TooMany")] (if decide ((100:Int) < ((gx.length:Nat):Int))=true then 1 else 0)=some (.str (Str.ofString "made")):=by
   rw [if_neg (fun h=>by have:=of_decide_eq_true h;rw [vA.rl.1] at this;omega)]
   rfl
  exact ⟨_,rfl,g,_,_,_,_,rfl,d1,bl.k_Table,bl.na_Table_rows,d7,rl7,_,rfl,.inl (SqL.of d10),_,_,rfl,rfl,.inr ⟨_,rfl,p3,_,_,_,rfl,rfl,SqL.of e3,ev,rfl,q _⟩⟩
 ·refine ⟨r,_,_,_,rfl,rfl,SqT.of e22,rfl,bg,fun p3 hp3=>?_⟩
  have u3:=ah hp3 (.lst [V.str (Str.ofString "made"),.str (Str.ofString "TooMany")])
  have e3:upd H22 p3 (.lst [V.str (Str.ofString "made"),.str (Str.ofString "TooMany")]) p3=some (.lst [V.str (Str.ofString "made"),.str (Str.ofString "TooMany")]):=ae
  generalize upd H22 p3 (.lst [V.str (Str.ofString "made"),.str (Str.ofString "TooMany")])=H23 at u3 e3 ⊢
  have vA:=(xf.same s22).same u3
  obtain ⟨dx7,na7,dl7,rl7,fs7,d1,d2,d3,d4,d5,d6,d7,d8,d9,d10⟩:=id vA.tr
  have ev:atI [V.str (Str.ofString "made"),.str (Str.ofString "TooMany")] (if decide ((100:Int) < ((gx.length:Nat):Int))=true then 1 else 0)=some (.str (Str.ofString "TooMany")):=by
   rw [if_pos (decide_eq_true (by rw [vA.rl.1];omega))]
   rfl
  exact ⟨_,rfl,g,_,_,_,_,rfl,d1,bl.k_Table,bl.na_Table_rows,d7,rl7,_,rfl,.inl (SqL.of d10),_,_,rfl,rfl,.inr ⟨_,rfl,p3,_,_,_,rfl,rfl,SqL.of e3,ev,rfl,q _⟩⟩
end
theorem all_mk {l:W.OpenLaw} {w:World} {K:W.Frag} {h:Heap} {mg:Str->Option Value} {fa f0 f1 f2 f3 f4 f5 f6 f7 f8 f9 f10 f11 f12 f13 f14 f15 f16 f17 f18 f19 f20 f21 f22 f23 f24 f25 f26 f27 f28 f29 f30 f31 f32 f33 f34 f35 f36 f37 f38 f39 f40 f41 f42 f43 f44 f45 f46 f47 f48 f49 f50 f51 f52 f53 f54 f55 f56 f57 f58 f59 f60 f61 f62 f63 f64 f65 f66 f67 f68 f69 f70 f71 f72 f73:Addr} (X:K.In h) (G:h.Ns mainGlobals mg) (hfa:mg "law" = some (.ref fa))
  {od0 an0 od1 an1 od2 an2 od3 an3 od4 an4 od5 an5 od6 an6 od7 an7 od8 an8 od9 an9 FY FZ Ga Gb Gd Ge Gf Gg Gh Gi Gj Gk Gm Gn Gp Gq Gr Gs Gu Gv Gw Gx Gy Gz GA GB GC GD GF GG GH GI GJ GK GL GN GO GP GQ GR GS GU GV GW GX GY GZ G0 G1 G2 G3 G4 G5 G6 G7 G8 G9 Ha Hb Hc Hd He Hf Hg Hh Hi Hj Hk Hl Hm Hn Ho Hq Hr Hs Ht Hu Hv Hw Hx Hy Hz HA HB HC HD HE HF HG HH HI HJ HK HL HM HN HP HQ HR HU HV HW HX HY HZ Ia Ib Ic Ie Ig Ih Ii Ij Ik Il Im Io Ip Iq Ir Iu Iv Iw Iy Iz IA IB BP:Option Addr} {sl0 sl1 sl2 sl3 sl4 sl5 sl6 sl7 sl8 sl9 IC ID IE IF IG IH II IJ IK IL IM IP IQ IS IT IU IV IW IX IY IZ I0 Ja Jb Jc Jd Je Jf Jg Jh Ji Jj Jk Jl Jm Jn Jo Jp Jq Jr Js Jt Ju Jv Jw Jx Jy Jz JA JB JC JD JE JF JG JH JI JJ JK JL JM JN JO JP:Array (Option Value)} {oc0 kV0 dc0 pm0 cd0 ct0 oc1 kV1 dc1 pm1 cd1 ct1 oc2 kV2 dc2 pm2 cd2 ct2 oc3 kV3 dc3 pm3 cd3 ct3 oc4 kV4 dc4 pm4 cd4 ct4 oc5 kV5 dc5 pm5 cd5 ct5 oc6 kV6 dc6 pm6 cd6 ct6 oc7 kV7 dc7 pm7 cd7 ct7 oc8 kV8 dc8 pm8 cd8 ct8 oc9 kV9 dc9 pm9 cd9 ct9 JQ JR JS JT BQ JU JV JW JX JY BR JZ Ka Kb Kc Kd BS Ke Kf Kg Kh Ki BU Kj Kk Kl Km Kn BV Ko Kp Kq Kr Ks BX Kt Ku Kv Kw Kx BY Ky Kz KA KC KD BZ KG KH KJ KL KN B1 KO KP KQ KR KS B2 KU KW KY KZ K0 B3 K1 K2 K3 K4 K5 B4 K6 K7 K8 K9 La B5 Lb Lc Ld Le Lf B6 Lg Lh Li Lj Lk B7 Ll Lm Ln Lo Lp B8 Lq Lr Ls Lu Lv B9 Lw Lx Ly Lz LA Ca LB LC LD LF LG Cb LH LI LJ LK LL Cc LM LN LO LP LQ Cd LR LS LU LV LW Ce LX LY LZ L3 L4 Cf L5 L6 L7 L8 L9 Cg Ma Mb Mc Md Me Ci Mf Mg Mh Mi Mj Cj Ml Mm Mn Mo Mp Ck Mq Mr Ms Mt Mu Cm Mv Mw Mx Mz MA Cn MB MC MD ME MF Cp MG MH MI MJ MK Cq ML MM MN MO MP Cr MQ MR MS MT MU Cs MV MW MX MY MZ Ct M0 M1 M3 M4 M5 Cu M6 M7 M8 M9 Na Cv Nb Nc Nd Nf Ng Cw Nh Ni Nj Nk Nl Cy Nm Nn Np Nq Nr Cz Nt Nu Nv Nw Nx CA Ny Nz NB NC ND CB NF NG NH NI NJ CC NK NL NN NO NP CD NQ NR NS NU NV CF NW NX NY NZ N0 CG N1 N2 N3 N4 N5 CH N6 N7 N8 N9 Oa CI Ob Oc Od Oe Of CJ Og Oh Oi Oj Ol CK Om Oo Oq Ot Ou CM Ov Ow Ox Oy Oz CN OA OB OC OD OE CO OF OG OH OI OJ CP OK OL OM ON OO CQ OP OQ OR OS OT CS OV OW OX OY OZ CT Pa Pb Pc Pd Pe CU Pf Pg Ph Pj Pk CV Pl Pn Po Pp Pq CW Pt Pu Pw Px Py CY Pz PB PD PF PH CZ PJ PM PN PQ PR C0 PU PV PX PY PZ C3 P0 P1 C4 C5 C6 zC C7:Value}
  {yA yH yI yJ yK yG yN yO yP yQ yR yS yT yU yV yW yX yY yZ:Addr}
  (di:W.nsIn K mainGlobals "TableError" = some (some (.ref yA)))
  (eZ:W.nsIn K mainGlobals "BadName" = some (some (.ref yH)))
  (fb:W.nsIn K mainGlobals "TooMany" = some (some (.ref yI)))
  (fZ:W.nsIn K mainGlobals "BadWay" = some (some (.ref yJ)))
  (gc:W.nsIn K mainGlobals "BadRow" = some (some (.ref yK)))
  (gf:W.nsIn K mainGlobals "Unlike" = some (some (.ref yG)))
  (gh:W.nsIn K mainGlobals "Way" = some (some (.ref yN)))
  (gG:W.nsIn K mainGlobals "First" = some (some (.ref yO)))
  (ko:W.nsIn K mainGlobals "Only" = some (some (.ref yP)))
  (kq:W.nsIn K mainGlobals "Like" = some (some (.ref yQ)))
  (oO:W.nsIn K mainGlobals "Low" = some (some (.ref yR)))
  (kr:W.nsIn K mainGlobals "High" = some (some (.ref yS)))
  (oP:W.nsIn K mainGlobals "Sum" = some (some (.ref yT)))
  (dW:W.nsIn K mainGlobals "Domain" = some (some (.ref yU)))
  (dN:W.nsIn K mainGlobals "Numbers" = some (some (.ref yV)))
  (gH:W.nsIn K mainGlobals "Words" = some (some (.ref yW)))
  (gJ:W.nsIn K mainGlobals "Table" = some (some (.ref yX)))
  {xg:Option Addr} {pW:Array Value} {xh:Nat} {xi:Array (Option Value)} (r9:W.nsIn K mainGlobals "NONE" = some (some (.ref yY))) (pX:K.lookup yY=some ⟨.type "tuple",xg,.seq pW xh,xi⟩) (pY:pW.size<=sizeLine) (pZ:Vals [.str "none",.int (0)] pW.toList)
  {vB:Option Addr} {nt:Array Value} {vC:Nat} {vD:Array (Option Value)} (p8:W.nsIn K mainGlobals "CLASH" = some (some (.ref yZ))) (nu:K.lookup yZ=some ⟨.type "tuple",vB,.seq nt vC,vD⟩) (nv:nt.size<=sizeLine) (nA:Vals [.str "clash",.int (0)] nt.toList)
  (a0:W.nsIn K mainGlobals "all_among" = some (some (.ref f0))) (l0:K.lookup f0=some ⟨oc0,od0,.func (W.fnOf "all_among" "all_among" (au Y32) (aq Y32) (ag Y32) .none kV0 dc0 pm0 an0 cd0 ct0),sl0⟩) (c0:W.codeIn K cd0 "all_among" = true) (k0:W.keepIn K (.ref f0)=true)
  (a1:W.nsIn K mainGlobals "is_word" = some (some (.ref f1))) (l1:K.lookup f1=some ⟨oc1,od1,.func (W.fnOf "is_word" "is_word" (au Y36) (aq Y36) (ag Y36) .none kV1 dc1 pm1 an1 cd1 ct1),sl1⟩) (c1:W.codeIn K cd1 "is_word" = true) (k1:W.keepIn K (.ref f1)=true)
  (a2:W.nsIn K mainGlobals "is_whole" = some (some (.ref f2))) (l2:K.lookup f2=some ⟨oc2,od2,.func (W.fnOf "is_whole" "is_whole" (au Y35) (aq Y35) (ag Y35) .none kV2 dc2 pm2 an2 cd2 ct2),sl2⟩) (c2:W.codeIn K cd2 "is_whole" = true) (k2:W.keepIn K (.ref f2)=true)
  (a3:W.nsIn K mainGlobals "alike" = some (some (.ref f3))) (l3:K.lookup f3=some ⟨oc3,od3,.func (W.fnOf "alike" "alike" (au Y31) (aq Y31) (ag Y31) .none kV3 dc3 pm3 an3 cd3 ct3),sl3⟩) (c3:W.codeIn K cd3 "alike" = true) (k3:W.keepIn K (.ref f3)=true)
  (a4:W.nsIn K mainGlobals "holds" = some (some (.ref f4))) (l4:K.lookup f4=some ⟨oc4,od4,.func (W.fnOf "holds" "holds" (au Y34) (aq Y34) (ag Y34) .none kV4 dc4 pm4 an4 cd4 ct4),sl4⟩) (c4:W.codeIn K cd4 "holds" = true) (k4:W.keepIn K (.ref f4)=true)
  (a5:W.nsIn K mainGlobals "way_by" = some (some (.ref f5))) (l5:K.lookup f5=some ⟨oc5,od5,.func (W.fnOf "way_by" "way_by" (au Y72) (aq Y72) (ag Y72) .none kV5 dc5 pm5 an5 cd5 ct5),sl5⟩) (c5:W.codeIn K cd5 "way_by" = true) (k5:W.keepIn K (.ref f5)=true)
  (a6:W.nsIn K mainGlobals "refuse_names" = some (some (.ref f6))) (l6:K.lookup f6=some ⟨oc6,od6,.func (W.fnOf "refuse_names" "refuse_names" (au Y64) (aq Y64) (ag Y64) .none kV6 dc6 pm6 an6 cd6 ct6),sl6⟩) (c6:W.codeIn K cd6 "refuse_names" = true) (k6:W.keepIn K (.ref f6)=true)
  (a7:W.nsIn K mainGlobals "refuse_counts" = some (some (.ref f7))) (l7:K.lookup f7=some ⟨oc7,od7,.func (W.fnOf "refuse_counts" "refuse_counts" (au Y63) (aq Y63) (ag Y63) .none kV7 dc7 pm7 an7 cd7 ct7),sl7⟩) (c7:W.codeIn K cd7 "refuse_counts" = true) (k7:W.keepIn K (.ref f7)=true)
  (a8:W.nsIn K mainGlobals "refuse_way" = some (some (.ref f8))) (l8:K.lookup f8=some ⟨oc8,od8,.func (W.fnOf "refuse_way" "refuse_way" (au Y68) (aq Y68) (ag Y68) .none kV8 dc8 pm8 an8 cd8 ct8),sl8⟩) (c8:W.codeIn K cd8 "refuse_way" = true) (k8:W.keepIn K (.ref f8)=true)
  (a9:W.nsIn K mainGlobals "refuse_row" = some (some (.ref f9))) (l9:K.lookup f9=some ⟨oc9,od9,.func (W.fnOf "refuse_row" "refuse_row" (au Y65) (aq Y65) (ag Y65) .none kV9 dc9 pm9 an9 cd9 ct9),sl9⟩) (c9:W.codeIn K cd9 "refuse_row" = true) (k9:W.keepIn K (.ref f9)=true)
  (a10:W.nsIn K mainGlobals "own_row" = some (some (.ref f10))) (l10:K.lookup f10=some ⟨JQ,FY,.func (W.fnOf "own_row" "own_row" (au Y62) (aq Y62) (ag Y62) .none JR JS JT FZ BQ JU),IC⟩) (c10:W.codeIn K BQ "own_row" = true) (k10:W.keepIn K (.ref f10)=true)
  (a11:W.nsIn K mainGlobals "fits" = some (some (.ref f11))) (l11:K.lookup f11=some ⟨JV,Ga,.func (W.fnOf "fits" "fits" (au Y33) (aq Y33) (ag Y33) .none JW JX JY Gb BR JZ),ID⟩) (c11:W.codeIn K BR "fits" = true) (k11:W.keepIn K (.ref f11)=true)
  (a12:W.nsIn K mainGlobals "mask" = some (some (.ref f12))) (l12:K.lookup f12=some ⟨Ka,Gd,.func (W.fnOf "mask" "mask" (au Y61) (aq Y61) (ag Y61) .none Kb Kc Kd Ge BS Ke),IE⟩) (c12:W.codeIn K BS "mask" = true) (k12:W.keepIn K (.ref f12)=true)
  (a13:W.nsIn K mainGlobals "judged" = some (some (.ref f13))) (l13:K.lookup f13=some ⟨Kf,Gf,.func (W.fnOf "judged" "judged" (au Y37) (aq Y37) (ag Y37) .none Kg Kh Ki Gg BU Kj),IF⟩) (c13:W.codeIn K BU "judged" = true) (k13:W.keepIn K (.ref f13)=true)
  (a14:W.nsIn K mainGlobals "verdict" = some (some (.ref f14))) (l14:K.lookup f14=some ⟨Kk,Gh,.func (W.fnOf "verdict" "verdict" (au Y71) (aq Y71) (ag Y71) .none Kl Km Kn Gi BV Ko),IG⟩) (c14:W.codeIn K BV "verdict" = true) (k14:W.keepIn K (.ref f14)=true)
  (a15:W.nsIn K mainGlobals "with_rows" = some (some (.ref f15))) (l15:K.lookup f15=some ⟨Kp,Gj,.func (W.fnOf "with_rows" "with_rows" (au Y73) (aq Y73) (ag Y73) .none Kq Kr Ks Gk BX Kt),IH⟩) (c15:W.codeIn K BX "with_rows" = true) (k15:W.keepIn K (.ref f15)=true)
  (a16:W.nsIn K mainGlobals "refuse_unlike" = some (some (.ref f16))) (l16:K.lookup f16=some ⟨Ku,Gm,.func (W.fnOf "refuse_unlike" "refuse_unlike" (au Y66) (aq Y66) (ag Y66) .none Kv Kw Kx Gn BY Ky),II⟩) (c16:W.codeIn K BY "refuse_unlike" = true) (k16:W.keepIn K (.ref f16)=true)
  (a17:W.nsIn K mainGlobals "refuse_unlike_domains" = some (some (.ref f17))) (l17:K.lookup f17=some ⟨Kz,Gp,.func (W.fnOf "refuse_unlike_domains" "refuse_unlike_domains" (au Y67) (aq Y67) (ag Y67) .none KA KC KD Gq BZ KG),IJ⟩) (c17:W.codeIn K BZ "refuse_unlike_domains" = true) (k17:W.keepIn K (.ref f17)=true)
  (a18:W.nsIn K mainGlobals "stacked" = some (some (.ref f18))) (l18:K.lookup f18=some ⟨KH,Gr,.func (W.fnOf "stacked" "stacked" (au Y69) (aq Y69) (ag Y69) .none KJ KL KN Gs B1 KO),IK⟩) (c18:W.codeIn K B1 "stacked" = true) (k18:W.keepIn K (.ref f18)=true)
  (a19:W.nsIn K mainGlobals "turned" = some (some (.ref f19))) (l19:K.lookup f19=some ⟨KP,Gu,.func (W.fnOf "turned" "turned" (au Y70) (aq Y70) (ag Y70) .none KQ KR KS Gv B2 KU),IL⟩) (c19:W.codeIn K B2 "turned" = true) (k19:W.keepIn K (.ref f19)=true)
  (a20:W.nsIn K mainGlobals "_law_cell_at" = some (some (.ref f20))) (l20:K.lookup f20=some ⟨KW,Gw,.func (W.fnOf "_law_cell_at" "_law_cell_at" (au Y42) (aq Y42) (ag Y42) .none KY KZ K0 Gx B3 K1),IM⟩) (c20:W.codeIn K B3 "_law_cell_at" = true) (k20:W.keepIn K (.ref f20)=true)
  (a21:W.nsIn K mainGlobals "_law_mixed" = some (some (.ref f21))) (l21:K.lookup f21=some ⟨K2,Gy,.func (W.fnOf "_law_mixed" "_law_mixed" (au Y48) (aq Y48) (ag Y48) .none K3 K4 K5 Gz B4 K6),IP⟩) (c21:W.codeIn K B4 "_law_mixed" = true) (k21:W.keepIn K (.ref f21)=true)
  (a22:W.nsIn K mainGlobals "_law_seeds" = some (some (.ref f22))) (l22:K.lookup f22=some ⟨K7,GA,.func (W.fnOf "_law_seeds" "_law_seeds" (au Y54) (aq Y54) (ag Y54) .none K8 K9 La GB B5 Lb),IQ⟩) (c22:W.codeIn K B5 "_law_seeds" = true) (k22:W.keepIn K (.ref f22)=true)
  (a23:W.nsIn K mainGlobals "_law_word" = some (some (.ref f23))) (l23:K.lookup f23=some ⟨Lc,GC,.func (W.fnOf "_law_word" "_law_word" (au Y60) (aq Y60) (ag Y60) .none Ld Le Lf GD B6 Lg),IS⟩) (c23:W.codeIn K B6 "_law_word" = true) (k23:W.keepIn K (.ref f23)=true)
  (a24:W.nsIn K mainGlobals "_law_column" = some (some (.ref f24))) (l24:K.lookup f24=some ⟨Lh,GF,.func (W.fnOf "_law_column" "_law_column" (au Y44) (aq Y44) (ag Y44) .none Li Lj Lk GG B7 Ll),IT⟩) (c24:W.codeIn K B7 "_law_column" = true) (k24:W.keepIn K (.ref f24)=true)
  (a25:W.nsIn K mainGlobals "_law_domain" = some (some (.ref f25))) (l25:K.lookup f25=some ⟨Lm,GH,.func (W.fnOf "_law_domain" "_law_domain" (au Y45) (aq Y45) (ag Y45) .none Ln Lo Lp GI B8 Lq),IU⟩) (c25:W.codeIn K B8 "_law_domain" = true) (k25:W.keepIn K (.ref f25)=true)
  (a26:W.nsIn K mainGlobals "_law_spans" = some (some (.ref f26))) (l26:K.lookup f26=some ⟨Lr,GJ,.func (W.fnOf "_law_spans" "_law_spans" (au Y55) (aq Y55) (ag Y55) .none Ls Lu Lv GK B9 Lw),IV⟩) (c26:W.codeIn K B9 "_law_spans" = true) (k26:W.keepIn K (.ref f26)=true)
  (a27:W.nsIn K mainGlobals "_law_bit_row" = some (some (.ref f27))) (l27:K.lookup f27=some ⟨Lx,GL,.func (W.fnOf "_law_bit_row" "_law_bit_row" (au Y40) (aq Y40) (ag Y40) .none Ly Lz LA GN Ca LB),IW⟩) (c27:W.codeIn K Ca "_law_bit_row" = true) (k27:W.keepIn K (.ref f27)=true)
  (a28:W.nsIn K mainGlobals "_law_bit_rows" = some (some (.ref f28))) (l28:K.lookup f28=some ⟨LC,GO,.func (W.fnOf "_law_bit_rows" "_law_bit_rows" (au Y41) (aq Y41) (ag Y41) .none LD LF LG GP Cb LH),IX⟩) (c28:W.codeIn K Cb "_law_bit_rows" = true) (k28:W.keepIn K (.ref f28)=true)
  (a29:W.nsIn K mainGlobals "_law_rows" = some (some (.ref f29))) (l29:K.lookup f29=some ⟨LI,GQ,.func (W.fnOf "_law_rows" "_law_rows" (au Y52) (aq Y52) (ag Y52) .none LJ LK LL GR Cc LM),IY⟩) (c29:W.codeIn K Cc "_law_rows" = true) (k29:W.keepIn K (.ref f29)=true)
  (a30:W.nsIn K mainGlobals "_law_table" = some (some (.ref f30))) (l30:K.lookup f30=some ⟨LN,GS,.func (W.fnOf "_law_table" "_law_table" (au Y57) (aq Y57) (ag Y57) .none LO LP LQ GU Cd LR),IZ⟩) (c30:W.codeIn K Cd "_law_table" = true) (k30:W.keepIn K (.ref f30)=true)
  (a31:W.nsIn K mainGlobals "_law_points" = some (some (.ref f31))) (l31:K.lookup f31=some ⟨LS,GV,.func (W.fnOf "_law_points" "_law_points" (au Y51) (aq Y51) (ag Y51) .none LU LV LW GW Ce LX),I0⟩) (c31:W.codeIn K Ce "_law_points" = true) (k31:W.keepIn K (.ref f31)=true)
  (a32:W.nsIn K mainGlobals "_law_codes" = some (some (.ref f32))) (l32:K.lookup f32=some ⟨LY,GX,.func (W.fnOf "_law_codes" "_law_codes" (au Y43) (aq Y43) (ag Y43) .none LZ L3 L4 GY Cf L5),Ja⟩) (c32:W.codeIn K Cf "_law_codes" = true) (k32:W.keepIn K (.ref f32)=true)
  (a33:W.nsIn K mainGlobals "_law_fit" = some (some (.ref f33))) (l33:K.lookup f33=some ⟨L6,GZ,.func (W.fnOf "_law_fit" "_law_fit" (au Y47) (aq Y47) (ag Y47) .none L7 L8 L9 G0 Cg Ma),Jb⟩) (c33:W.codeIn K Cg "_law_fit" = true) (k33:W.keepIn K (.ref f33)=true)
  (a34:W.nsIn K mainGlobals "_law_way" = some (some (.ref f34))) (l34:K.lookup f34=some ⟨Mb,G1,.func (W.fnOf "_law_way" "_law_way" (au Y59) (aq Y59) (ag Y59) .none Mc Md Me G2 Ci Mf),Jc⟩) (c34:W.codeIn K Ci "_law_way" = true) (k34:W.keepIn K (.ref f34)=true)
  (a35:W.nsIn K mainGlobals "_law_due" = some (some (.ref f35))) (l35:K.lookup f35=some ⟨Mg,G3,.func (W.fnOf "_law_due" "_law_due" (au Y46) (aq Y46) (ag Y46) .none Mh Mi Mj G4 Cj Ml),Jd⟩) (c35:W.codeIn K Cj "_law_due" = true) (k35:W.keepIn K (.ref f35)=true)
  (a36:W.nsIn K mainGlobals "_law_same" = some (some (.ref f36))) (l36:K.lookup f36=some ⟨Mm,G5,.func (W.fnOf "_law_same" "_law_same" (au Y53) (aq Y53) (ag Y53) .none Mn Mo Mp G6 Ck Mq),Je⟩) (c36:W.codeIn K Ck "_law_same" = true) (k36:W.keepIn K (.ref f36)=true)
  (a37:W.nsIn K mainGlobals "_law_told" = some (some (.ref f37))) (l37:K.lookup f37=some ⟨Mr,G7,.func (W.fnOf "_law_told" "_law_told" (au Y58) (aq Y58) (ag Y58) .none Ms Mt Mu G8 Cm Mv),Jf⟩) (c37:W.codeIn K Cm "_law_told" = true) (k37:W.keepIn K (.ref f37)=true)
  (a38:W.nsIn K mainGlobals "_law_other_count" = some (some (.ref f38))) (l38:K.lookup f38=some ⟨Mw,G9,.func (W.fnOf "_law_other_count" "_law_other_count" (au Y49) (aq Y49) (ag Y49) .none Mx Mz MA Ha Cn MB),Jg⟩) (c38:W.codeIn K Cn "_law_other_count" = true) (k38:W.keepIn K (.ref f38)=true)
  (a39:W.nsIn K mainGlobals "_law_other_domain" = some (some (.ref f39))) (l39:K.lookup f39=some ⟨MC,Hb,.func (W.fnOf "_law_other_domain" "_law_other_domain" (au Y50) (aq Y50) (ag Y50) .none MD ME MF Hc Cp MG),Jh⟩) (c39:W.codeIn K Cp "_law_other_domain" = true) (k39:W.keepIn K (.ref f39)=true)
  (a40:W.nsIn K mainGlobals "_law_altered" = some (some (.ref f40))) (l40:K.lookup f40=some ⟨MH,Hd,.func (W.fnOf "_law_altered" "_law_altered" (au Y39) (aq Y39) (ag Y39) .none MI MJ MK He Cq ML),Ji⟩) (c40:W.codeIn K Cq "_law_altered" = true) (k40:W.keepIn K (.ref f40)=true)
  (a41:W.nsIn K mainGlobals "_law_stacked_so" = some (some (.ref f41))) (l41:K.lookup f41=some ⟨MM,Hf,.func (W.fnOf "_law_stacked_so" "_law_stacked_so" (au Y56) (aq Y56) (ag Y56) .none MN MO MP Hg Cr MQ),Jj⟩) (c41:W.codeIn K Cr "_law_stacked_so" = true) (k41:W.keepIn K (.ref f41)=true)
  (i42:W.findIn K (.ref yX) "__init__" = some (some (.ref f42))) (zD:W.isFn K (.ref f42)=true) (zE:W.makesIn K yX=true) (zF:W.keepIn K (.ref yX)=true) (l42:K.lookup f42=some ⟨MR,Hh,.func (W.fnOf "__init__" "Table.__init__" (au Y17) (aq Y17) (ag Y17) .none MS MT MU Hi Cs MV),Jk⟩) (c42:W.codeIn K Cs "Table.__init__" = true) (k42:W.keepIn K (.ref f42)=true)
  (i43:W.findIn K (.ref yO) "__init__" = some (some (.ref f43))) (zG:W.isFn K (.ref f43)=true) (zH:W.makesIn K yO=true) (zI:W.keepIn K (.ref yO)=true) (l43:K.lookup f43=some ⟨MW,Hj,.func (W.fnOf "__init__" "First.__init__" (au Y4) (aq Y4) (ag Y4) .none MX MY MZ Hk Ct M0),Jl⟩) (c43:W.codeIn K Ct "First.__init__" = true) (k43:W.keepIn K (.ref f43)=true)
  (vE:W.specialIn K (.ref yN) "__getattribute__" = some (some (.builtin "type.__getattribute__"))) (vF:W.readsIn K yN (.type "type")=true) (vG:W.findCls K (.ref yN) (.type "type") "__init__" = some (.val (.ref f44))) (l44:K.lookup f44=some ⟨M1,Hl,.func (W.fnOf "__init__" "Way.__init__" (au Y18) (aq Y18) (ag Y18) .none M3 M4 M5 Hm Cu M6),Jm⟩) (c44:W.codeIn K Cu "Way.__init__" = true) (k44:W.keepIn K (.ref f44)=true)
  (i45:W.findIn K (.ref yP) "__init__" = some (some (.ref f45))) (zJ:W.isFn K (.ref f45)=true) (zK:W.makesIn K yP=true) (zL:W.keepIn K (.ref yP)=true) (l45:K.lookup f45=some ⟨M7,Hn,.func (W.fnOf "__init__" "Only.__init__" (au Y13) (aq Y13) (ag Y13) .none M8 M9 Na Ho Cv Nb),Jn⟩) (c45:W.codeIn K Cv "Only.__init__" = true) (k45:W.keepIn K (.ref f45)=true)
  (vH:W.specialIn K (.ref yN) "__getattribute__" = some (some (.builtin "type.__getattribute__"))) (vI:W.readsIn K yN (.type "type")=true) (vJ:W.findCls K (.ref yN) (.type "type") "__init__" = some (.val (.ref f46))) (l46:K.lookup f46=some ⟨Nc,Hq,.func (W.fnOf "__init__" "Way.__init__" (au Y22) (aq Y22) (ag Y22) .none Nd Nf Ng Hr Cw Nh),Jo⟩) (c46:W.codeIn K Cw "Way.__init__" = true) (k46:W.keepIn K (.ref f46)=true)
  (i47:W.findIn K (.ref yQ) "__init__" = some (some (.ref f47))) (zM:W.isFn K (.ref f47)=true) (zN:W.makesIn K yQ=true) (zO:W.keepIn K (.ref yQ)=true) (l47:K.lookup f47=some ⟨Ni,Hs,.func (W.fnOf "__init__" "Like.__init__" (au Y8) (aq Y8) (ag Y8) .none Nj Nk Nl Ht Cy Nm),Jp⟩) (c47:W.codeIn K Cy "Like.__init__" = true) (k47:W.keepIn K (.ref f47)=true)
  (vK:W.specialIn K (.ref yN) "__getattribute__" = some (some (.builtin "type.__getattribute__"))) (vL:W.readsIn K yN (.type "type")=true) (vM:W.findCls K (.ref yN) (.type "type") "__init__" = some (.val (.ref f48))) (l48:K.lookup f48=some ⟨Nn,Hu,.func (W.fnOf "__init__" "Way.__init__" (au Y20) (aq Y20) (ag Y20) .none Np Nq Nr Hv Cz Nt),Jq⟩) (c48:W.codeIn K Cz "Way.__init__" = true) (k48:W.keepIn K (.ref f48)=true)
  (i49:W.findIn K (.ref yR) "__init__" = some (some (.ref f49))) (zP:W.isFn K (.ref f49)=true) (zQ:W.makesIn K yR=true) (zR:W.keepIn K (.ref yR)=true) (l49:K.lookup f49=some ⟨Nu,Hw,.func (W.fnOf "__init__" "Low.__init__" (au Y10) (aq Y10) (ag Y10) .none Nv Nw Nx Hx CA Ny),Jr⟩) (c49:W.codeIn K CA "Low.__init__" = true) (k49:W.keepIn K (.ref f49)=true)
  (vO:W.specialIn K (.ref yN) "__getattribute__" = some (some (.builtin "type.__getattribute__"))) (vP:W.readsIn K yN (.type "type")=true) (vQ:W.findCls K (.ref yN) (.type "type") "__init__" = some (.val (.ref f50))) (l50:K.lookup f50=some ⟨Nz,Hy,.func (W.fnOf "__init__" "Way.__init__" (au Y21) (aq Y21) (ag Y21) .none NB NC ND Hz CB NF),Js⟩) (c50:W.codeIn K CB "Way.__init__" = true) (k50:W.keepIn K (.ref f50)=true)
  (i51:W.findIn K (.ref yS) "__init__" = some (some (.ref f51))) (zS:W.isFn K (.ref f51)=true) (zT:W.makesIn K yS=true) (zU:W.keepIn K (.ref yS)=true) (l51:K.lookup f51=some ⟨NG,HA,.func (W.fnOf "__init__" "High.__init__" (au Y6) (aq Y6) (ag Y6) .none NH NI NJ HB CC NK),Jt⟩) (c51:W.codeIn K CC "High.__init__" = true) (k51:W.keepIn K (.ref f51)=true)
  (vR:W.specialIn K (.ref yN) "__getattribute__" = some (some (.builtin "type.__getattribute__"))) (vS:W.readsIn K yN (.type "type")=true) (vT:W.findCls K (.ref yN) (.type "type") "__init__" = some (.val (.ref f52))) (l52:K.lookup f52=some ⟨NL,HC,.func (W.fnOf "__init__" "Way.__init__" (au Y19) (aq Y19) (ag Y19) .none NN NO NP HD CD NQ),Ju⟩) (c52:W.codeIn K CD "Way.__init__" = true) (k52:W.keepIn K (.ref f52)=true)
  (i53:W.findIn K (.ref yT) "__init__" = some (some (.ref f53))) (zV:W.isFn K (.ref f53)=true) (zW:W.makesIn K yT=true) (zX:W.keepIn K (.ref yT)=true) (l53:K.lookup f53=some ⟨NR,HE,.func (W.fnOf "__init__" "Sum.__init__" (au Y15) (aq Y15) (ag Y15) .none NS NU NV HF CF NW),Jv⟩) (c53:W.codeIn K CF "Sum.__init__" = true) (k53:W.keepIn K (.ref f53)=true)
  (vU:W.specialIn K (.ref yN) "__getattribute__" = some (some (.builtin "type.__getattribute__"))) (vV:W.readsIn K yN (.type "type")=true) (vW:W.findCls K (.ref yN) (.type "type") "__init__" = some (.val (.ref f54))) (l54:K.lookup f54=some ⟨NX,HG,.func (W.fnOf "__init__" "Way.__init__" (au Y23) (aq Y23) (ag Y23) .none NY NZ N0 HH CG N1),Jw⟩) (c54:W.codeIn K CG "Way.__init__" = true) (k54:W.keepIn K (.ref f54)=true)
  (m55:W.findIn K (.ref yV) "has_code" = some (some (.ref f55))) (zY:W.isFn K (.ref f55)=true) (l55:K.lookup f55=some ⟨N2,HI,.func (W.fnOf "has_code" "Domain.has_code" (au Y2) (aq Y2) (ag Y2) .none N3 N4 N5 HJ CH N6),Jx⟩) (c55:W.codeIn K CH "Domain.has_code" = true) (k55:W.keepIn K (.ref f55)=true)
  (m56:W.findIn K (.ref yW) "has_code" = some (some (.ref f56))) (zZ:W.isFn K (.ref f56)=true) (l56:K.lookup f56=some ⟨N7,HK,.func (W.fnOf "has_code" "Domain.has_code" (au Y3) (aq Y3) (ag Y3) .none N8 N9 Oa HL CI Ob),Jy⟩) (c56:W.codeIn K CI "Domain.has_code" = true) (k56:W.keepIn K (.ref f56)=true)
  (i57:W.findIn K (.ref yV) "__init__" = some (some (.ref f57))) (Aa:W.isFn K (.ref f57)=true) (Ab:W.makesIn K yV=true) (Ac:W.keepIn K (.ref yV)=true) (l57:K.lookup f57=some ⟨Oc,HM,.func (W.fnOf "__init__" "Numbers.__init__" (au Y12) (aq Y12) (ag Y12) .none Od Oe Of HN CJ Og),Jz⟩) (c57:W.codeIn K CJ "Numbers.__init__" = true) (k57:W.keepIn K (.ref f57)=true)
  (vX:W.specialIn K (.ref yU) "__getattribute__" = some (some (.builtin "type.__getattribute__"))) (vY:W.readsIn K yU (.type "type")=true) (vZ:W.findCls K (.ref yU) (.type "type") "__init__" = some (.val (.ref f58))) (l58:K.lookup f58=some ⟨Oh,HP,.func (W.fnOf "__init__" "Domain.__init__" (au Y0) (aq Y0) (ag Y0) .none Oi Oj Ol HQ CK Om),JA⟩) (c58:W.codeIn K CK "Domain.__init__" = true) (k58:W.keepIn K (.ref f58)=true)
  (i59:W.findIn K (.ref yW) "__init__" = some (some (.ref f59))) (Ad:W.isFn K (.ref f59)=true) (Ae:W.makesIn K yW=true) (Af:W.keepIn K (.ref yW)=true) (l59:K.lookup f59=some ⟨Oo,HR,.func (W.fnOf "__init__" "Words.__init__" (au Y30) (aq Y30) (ag Y30) .none Oq Ot Ou HU CM Ov),JB⟩) (c59:W.codeIn K CM "Words.__init__" = true) (k59:W.keepIn K (.ref f59)=true)
  (v9:W.specialIn K (.ref yU) "__getattribute__" = some (some (.builtin "type.__getattribute__"))) (wa:W.readsIn K yU (.type "type")=true) (wb:W.findCls K (.ref yU) (.type "type") "__init__" = some (.val (.ref f60))) (l60:K.lookup f60=some ⟨Ow,HV,.func (W.fnOf "__init__" "Domain.__init__" (au Y1) (aq Y1) (ag Y1) .none Ox Oy Oz HW CN OA),JC⟩) (c60:W.codeIn K CN "Domain.__init__" = true) (k60:W.keepIn K (.ref f60)=true)
  (m61:W.findIn K (.ref yO) "verdict" = some (some (.ref f61))) (Ag:W.isFn K (.ref f61)=true) (l61:K.lookup f61=some ⟨OB,HX,.func (W.fnOf "verdict" "Way.verdict" (au Y24) (aq Y24) (ag Y24) .none OC OD OE HY CO OF),JD⟩) (c61:W.codeIn K CO "Way.verdict" = true) (k61:W.keepIn K (.ref f61)=true)
  (m62:W.findIn K (.ref yO) "chosen" = some (some (.ref f62))) (Ah:W.isFn K (.ref f62)=true) (l62:K.lookup f62=some ⟨OG,HZ,.func (W.fnOf "chosen" "First.chosen" (au Y5) (aq Y5) (ag Y5) .none OH OI OJ Ia CP OK),JE⟩) (c62:W.codeIn K CP "First.chosen" = true) (k62:W.keepIn K (.ref f62)=true)
  (m63:W.findIn K (.ref yP) "verdict" = some (some (.ref f63))) (Ai:W.isFn K (.ref f63)=true) (l63:K.lookup f63=some ⟨OL,Ib,.func (W.fnOf "verdict" "Way.verdict" (au Y28) (aq Y28) (ag Y28) .none OM ON OO Ic CQ OP),JF⟩) (c63:W.codeIn K CQ "Way.verdict" = true) (k63:W.keepIn K (.ref f63)=true)
  (m64:W.findIn K (.ref yP) "chosen" = some (some (.ref f64))) (Aj:W.isFn K (.ref f64)=true) (l64:K.lookup f64=some ⟨OQ,Ie,.func (W.fnOf "chosen" "Only.chosen" (au Y14) (aq Y14) (ag Y14) .none OR OS OT Ig CS OV),JG⟩) (c64:W.codeIn K CS "Only.chosen" = true) (k64:W.keepIn K (.ref f64)=true)
  (m65:W.findIn K (.ref yQ) "verdict" = some (some (.ref f65))) (Ak:W.isFn K (.ref f65)=true) (l65:K.lookup f65=some ⟨OW,Ih,.func (W.fnOf "verdict" "Way.verdict" (au Y26) (aq Y26) (ag Y26) .none OX OY OZ Ii CT Pa),JH⟩) (c65:W.codeIn K CT "Way.verdict" = true) (k65:W.keepIn K (.ref f65)=true)
  (m66:W.findIn K (.ref yQ) "chosen" = some (some (.ref f66))) (Al:W.isFn K (.ref f66)=true) (l66:K.lookup f66=some ⟨Pb,Ij,.func (W.fnOf "chosen" "Like.chosen" (au Y9) (aq Y9) (ag Y9) .none Pc Pd Pe Ik CU Pf),JI⟩) (c66:W.codeIn K CU "Like.chosen" = true) (k66:W.keepIn K (.ref f66)=true)
  (m67:W.findIn K (.ref yR) "verdict" = some (some (.ref f67))) (Am:W.isFn K (.ref f67)=true) (l67:K.lookup f67=some ⟨Pg,Il,.func (W.fnOf "verdict" "Way.verdict" (au Y27) (aq Y27) (ag Y27) .none Ph Pj Pk Im CV Pl),JJ⟩) (c67:W.codeIn K CV "Way.verdict" = true) (k67:W.keepIn K (.ref f67)=true)
  (m68:W.findIn K (.ref yR) "chosen" = some (some (.ref f68))) (An:W.isFn K (.ref f68)=true) (l68:K.lookup f68=some ⟨Pn,Io,.func (W.fnOf "chosen" "Low.chosen" (au Y11) (aq Y11) (ag Y11) .none Po Pp Pq Ip CW Pt),JK⟩) (c68:W.codeIn K CW "Low.chosen" = true) (k68:W.keepIn K (.ref f68)=true)
  (m69:W.findIn K (.ref yS) "verdict" = some (some (.ref f69))) (Ao:W.isFn K (.ref f69)=true) (l69:K.lookup f69=some ⟨Pu,Iq,.func (W.fnOf "verdict" "Way.verdict" (au Y25) (aq Y25) (ag Y25) .none Pw Px Py Ir CY Pz),JL⟩) (c69:W.codeIn K CY "Way.verdict" = true) (k69:W.keepIn K (.ref f69)=true)
  (m70:W.findIn K (.ref yS) "chosen" = some (some (.ref f70))) (Ap:W.isFn K (.ref f70)=true) (l70:K.lookup f70=some ⟨PB,Iu,.func (W.fnOf "chosen" "High.chosen" (au Y7) (aq Y7) (ag Y7) .none PD PF PH Iv CZ PJ),JM⟩) (c70:W.codeIn K CZ "High.chosen" = true) (k70:W.keepIn K (.ref f70)=true)
  (m71:W.findIn K (.ref yT) "verdict" = some (some (.ref f71))) (Aq:W.isFn K (.ref f71)=true) (l71:K.lookup f71=some ⟨PM,Iw,.func (W.fnOf "verdict" "Way.verdict" (au Y29) (aq Y29) (ag Y29) .none PN PQ PR Iy C0 PU),JN⟩) (c71:W.codeIn K C0 "Way.verdict" = true) (k71:W.keepIn K (.ref f71)=true)
  (m72:W.findIn K (.ref yT) "chosen" = some (some (.ref f72))) (Ar:W.isFn K (.ref f72)=true) (l72:K.lookup f72=some ⟨PV,Iz,.func (W.fnOf "chosen" "Sum.chosen" (au Y16) (aq Y16) (ag Y16) .none PX PY PZ IA C3 P0),JO⟩) (c72:W.codeIn K C3 "Sum.chosen" = true) (k72:W.keepIn K (.ref f72)=true)
  (a73:W.nsIn K mainGlobals "law" = some (some (.ref f73))) (l73:K.lookup f73=some ⟨P1,IB,.func (W.fnOf "law" "law" (au Y38) (aq Y38) (ag Y38) .none C4 C5 C6 BP zC C7),JP⟩) (c73:W.codeIn K zC "law" = true) (k73:W.keepIn K (.ref f73)=true)
  (z0:W.nsIn K mainGlobals "len" = some none)
  (z1:W.nsIn K mainGlobals "isinstance" = some none)
  (z2:W.nsIn K mainGlobals "int" = some none)
  (z3:W.nsIn K mainGlobals "bool" = some none)
  (z4:W.nsIn K mainGlobals "set" = some none)
  (z5:W.nsIn K mainGlobals "zip" = some none)
  (z6:W.nsIn K mainGlobals "list" = some none)
  (z7:W.nsIn K mainGlobals "sum" = some none)
  (z8:W.nsIn K mainGlobals "range" = some none)
  (z9:W.nsIn K mainGlobals "enumerate" = some none)
  (z10:W.nsIn K mainGlobals "all" = some none)
  (z11:W.nsIn K mainGlobals "min" = some none)
  (z12:W.nsIn K mainGlobals "max" = some none)
  (z13:W.nsIn K mainGlobals "tuple" = some none)
  (z14:W.nsIn K mainGlobals "str" = some none)
  (z15:W.nsIn K mainGlobals "ValueError" = some none)
  (z16:W.nsIn K mainGlobals "reversed" = some none)
  {w0:Value} (y0:W.nsIn K mainGlobals "MOST_SIGNS" = some (some w0)) (x0:RelV (V.int 12) w0)
  {w1:Value} (y1:W.nsIn K mainGlobals "SMALL_LETTERS" = some (some w1)) (x1:RelV (V.str "abcdefghijklmnopqrstuvwxyz") w1)
  {w2:Value} (y2:W.nsIn K mainGlobals "MOST_ROWS" = some (some w2)) (x2:RelV (V.int 200) w2)
  {w3:Value} (y3:W.nsIn K mainGlobals "MOST_COLUMNS" = some (some w3)) (x3:RelV (V.int 4) w3)
  {w4:Value} (y4:W.nsIn K mainGlobals "MOST_WORDS" = some (some w4)) (x4:RelV (V.int 40) w4)
  (x_BadName:W.excIn K yH [.type "ValueError",.type "Exception",.type "BaseException",.type "object"] "ValueError.__new__" = true)
  (iO:W.findIn K (.ref yH) "__getattribute__" = some (some (.builtin "BaseException.__getattribute__")))
  (iP:W.findIn K (.ref yH) "__getattr__" = some none)
  (iQ:W.findIn K (.ref yH) "__class__" = some (some (.builtin "object.__class__")))
  (iR:W.specialIn K (.builtin "object.__class__") "__get__" = some (some (.builtin "getset_descriptor.__get__")))
  (iS:W.takesIn K (.builtin "object.__class__")=some true)
  (iT:W.mroIn K yH (.type "object")=some true)
  (iU:W.mroIn K yH (.type "BaseException")=some true)
  (iV:W.kitCls K (.ref yH) (.ref yH)=some true)
  (x_TooMany:W.excIn K yI [.type "ValueError",.type "Exception",.type "BaseException",.type "object"] "ValueError.__new__" = true)
  (iW:W.findIn K (.ref yI) "__getattribute__" = some (some (.builtin "BaseException.__getattribute__")))
  (iX:W.findIn K (.ref yI) "__getattr__" = some none)
  (iY:W.findIn K (.ref yI) "__class__" = some (some (.builtin "object.__class__")))
  (iZ:W.specialIn K (.builtin "object.__class__") "__get__" = some (some (.builtin "getset_descriptor.__get__")))
  (i7:W.takesIn K (.builtin "object.__class__")=some true)
  (ja:W.mroIn K yI (.type "object")=some true)
  (jb:W.mroIn K yI (.type "BaseException")=some true)
  (jc:W.kitCls K (.ref yI) (.ref yI)=some true)
  (x_BadWay:W.excIn K yJ [.type "ValueError",.type "Exception",.type "BaseException",.type "object"] "ValueError.__new__" = true)
  (kD:W.findIn K (.ref yJ) "__getattribute__" = some (some (.builtin "BaseException.__getattribute__")))
  (kE:W.findIn K (.ref yJ) "__getattr__" = some none)
  (kF:W.findIn K (.ref yJ) "__class__" = some (some (.builtin "object.__class__")))
  (kG:W.specialIn K (.builtin "object.__class__") "__get__" = some (some (.builtin "getset_descriptor.__get__")))
  (kH:W.takesIn K (.builtin "object.__class__")=some true)
  (kI:W.mroIn K yJ (.type "object")=some true)
  (kJ:W.mroIn K yJ (.type "BaseException")=some true)
  (kK:W.kitCls K (.ref yJ) (.ref yJ)=some true)
  (x_BadRow:W.excIn K yK [.type "ValueError",.type "Exception",.type "BaseException",.type "object"] "ValueError.__new__" = true)
  (kL:W.findIn K (.ref yK) "__getattribute__" = some (some (.builtin "BaseException.__getattribute__")))
  (kM:W.findIn K (.ref yK) "__getattr__" = some none)
  (kN:W.findIn K (.ref yK) "__class__" = some (some (.builtin "object.__class__")))
  (kO:W.specialIn K (.builtin "object.__class__") "__get__" = some (some (.builtin "getset_descriptor.__get__")))
  (kP:W.takesIn K (.builtin "object.__class__")=some true)
  (kQ:W.mroIn K yK (.type "object")=some true)
  (kR:W.mroIn K yK (.type "BaseException")=some true)
  (kS:W.kitCls K (.ref yK) (.ref yK)=some true)
  (x_Unlike:W.excIn K yG [.type "ValueError",.type "Exception",.type "BaseException",.type "object"] "ValueError.__new__" = true)
  (kT:W.findIn K (.ref yG) "__getattribute__" = some (some (.builtin "BaseException.__getattribute__")))
  (kU:W.findIn K (.ref yG) "__getattr__" = some none)
  (kW:W.findIn K (.ref yG) "__class__" = some (some (.builtin "object.__class__")))
  (kX:W.specialIn K (.builtin "object.__class__") "__get__" = some (some (.builtin "getset_descriptor.__get__")))
  (kY:W.takesIn K (.builtin "object.__class__")=some true)
  (kZ:W.mroIn K yG (.type "object")=some true)
  (lg:W.mroIn K yG (.type "BaseException")=some true)
  (lh:W.kitCls K (.ref yG) (.ref yG)=some true)
  (jQ:W.plainGet K yO Str.empty=true) (jR:W.hasDictIn K yO=true) (jS:W.plainOver K yO=true) (jT:W.findIn K (.ref yO) "__setattr__" = some (some (.builtin "object.__setattr__")))
  (lZ:W.plainGet K yP Str.empty=true) (ma:W.hasDictIn K yP=true) (md:W.plainOver K yP=true) (mf:W.findIn K (.ref yP) "__setattr__" = some (some (.builtin "object.__setattr__")))
  (mh:W.plainGet K yQ Str.empty=true) (mi:W.hasDictIn K yQ=true) (mj:W.plainOver K yQ=true) (ml:W.findIn K (.ref yQ) "__setattr__" = some (some (.builtin "object.__setattr__")))
  (qc:W.plainGet K yR Str.empty=true) (qd:W.hasDictIn K yR=true) (qe:W.plainOver K yR=true) (qf:W.findIn K (.ref yR) "__setattr__" = some (some (.builtin "object.__setattr__")))
  (mm:W.plainGet K yS Str.empty=true) (mq:W.hasDictIn K yS=true) (mr:W.plainOver K yS=true) (mw:W.findIn K (.ref yS) "__setattr__" = some (some (.builtin "object.__setattr__")))
  (qg:W.plainGet K yT Str.empty=true) (qh:W.hasDictIn K yT=true) (qi:W.plainOver K yT=true) (qj:W.findIn K (.ref yT) "__setattr__" = some (some (.builtin "object.__setattr__")))
  (fG:W.plainGet K yV Str.empty=true) (fH:W.hasDictIn K yV=true) (fI:W.plainOver K yV=true) (fJ:W.findIn K (.ref yV) "__setattr__" = some (some (.builtin "object.__setattr__")))
  (jU:W.plainGet K yW Str.empty=true) (jV:W.hasDictIn K yW=true) (jW:W.plainOver K yW=true) (jX:W.findIn K (.ref yW) "__setattr__" = some (some (.builtin "object.__setattr__")))
  (jY:W.plainGet K yX Str.empty=true) (jZ:W.hasDictIn K yX=true) (j3:W.plainOver K yX=true) (j4:W.findIn K (.ref yX) "__setattr__" = some (some (.builtin "object.__setattr__")))
  (nB:W.findIn K (.ref yO) "__class__" = some (some (.builtin "object.__class__"))) (nC:W.specialIn K (.builtin "object.__class__") "__get__" = some (some (.builtin "getset_descriptor.__get__"))) (nE:W.takesIn K (.builtin "object.__class__")=some true) (nF:W.mroIn K yO (.type "object")=some true)
  (qk:W.findIn K (.ref yP) "__class__" = some (some (.builtin "object.__class__"))) (ql:W.specialIn K (.builtin "object.__class__") "__get__" = some (some (.builtin "getset_descriptor.__get__"))) (qm:W.takesIn K (.builtin "object.__class__")=some true) (qo:W.mroIn K yP (.type "object")=some true)
  (qp:W.findIn K (.ref yQ) "__class__" = some (some (.builtin "object.__class__"))) (qq:W.specialIn K (.builtin "object.__class__") "__get__" = some (some (.builtin "getset_descriptor.__get__"))) (qr:W.takesIn K (.builtin "object.__class__")=some true) (qt:W.mroIn K yQ (.type "object")=some true)
  (se:W.findIn K (.ref yR) "__class__" = some (some (.builtin "object.__class__"))) (sf:W.specialIn K (.builtin "object.__class__") "__get__" = some (some (.builtin "getset_descriptor.__get__"))) (si:W.takesIn K (.builtin "object.__class__")=some true) (sj:W.mroIn K yR (.type "object")=some true)
  (qu:W.findIn K (.ref yS) "__class__" = some (some (.builtin "object.__class__"))) (qv:W.specialIn K (.builtin "object.__class__") "__get__" = some (some (.builtin "getset_descriptor.__get__"))) (qy:W.takesIn K (.builtin "object.__class__")=some true) (qz:W.mroIn K yS (.type "object")=some true)
  (sk:W.findIn K (.ref yT) "__class__" = some (some (.builtin "object.__class__"))) (sr:W.specialIn K (.builtin "object.__class__") "__get__" = some (some (.builtin "getset_descriptor.__get__"))) (sv:W.takesIn K (.builtin "object.__class__")=some true) (sx:W.mroIn K yT (.type "object")=some true)
  (jd:W.findIn K (.ref yV) "__class__" = some (some (.builtin "object.__class__"))) (je:W.specialIn K (.builtin "object.__class__") "__get__" = some (some (.builtin "getset_descriptor.__get__"))) (jf:W.takesIn K (.builtin "object.__class__")=some true) (jg:W.mroIn K yV (.type "object")=some true)
  (nG:W.findIn K (.ref yW) "__class__" = some (some (.builtin "object.__class__"))) (nH:W.specialIn K (.builtin "object.__class__") "__get__" = some (some (.builtin "getset_descriptor.__get__"))) (nI:W.takesIn K (.builtin "object.__class__")=some true) (nJ:W.mroIn K yW (.type "object")=some true)
  (nK:W.findIn K (.ref yX) "__class__" = some (some (.builtin "object.__class__"))) (nM:W.specialIn K (.builtin "object.__class__") "__get__" = some (some (.builtin "getset_descriptor.__get__"))) (nN:W.takesIn K (.builtin "object.__class__")=some true) (nO:W.mroIn K yX (.type "object")=some true)
  (na_First_called:W.findIn K (.ref yO) "called" = some none)
  (na_Only_called:W.findIn K (.ref yP) "called" = some none)
  (na_Like_called:W.findIn K (.ref yQ) "called" = some none)
  (na_Low_called:W.findIn K (.ref yR) "called" = some none)
  (na_High_called:W.findIn K (.ref yS) "called" = some none)
  (na_Sum_called:W.findIn K (.ref yT) "called" = some none)
  (na_Numbers_low:W.findIn K (.ref yV) "low" = some none)
  (na_Numbers_high:W.findIn K (.ref yV) "high" = some none)
  (cC:W.findIn K (.ref yV) "words" = some none)
  (na_Words_low:W.findIn K (.ref yW) "low" = some none)
  (na_Words_high:W.findIn K (.ref yW) "high" = some none)
  (na_Words_words:W.findIn K (.ref yW) "words" = some none)
  (na_Table_name:W.findIn K (.ref yX) "name" = some none)
  (na_Table_names:W.findIn K (.ref yX) "names" = some none)
  (na_Table_domains:W.findIn K (.ref yX) "domains" = some none)
  (na_Table_outcome:W.findIn K (.ref yX) "outcome" = some none)
  (na_Table_way:W.findIn K (.ref yX) "way" = some none)
  (na_Table_rows:W.findIn K (.ref yX) "rows" = some none)
  (f_nn:W.kitOne K (.ref yV) (.ref yV)=some true)
  (f_wn:W.kitOne K (.ref yW) (.ref yV)=some false)
  (f_ww:W.kitOne K (.ref yW) (.ref yW)=some true)
  (f_tt:W.kitOne K (.ref yX) (.ref yX)=some true)
  (f_nw:W.kitOne K (.ref yV) (.ref yW)=some false)
  (gK:W.exmOne K (.ref yH) (.ref yA)=some true)
  (gL:W.kitOne K (.ref yH) (.type "ValueError")=some true)
  (cm:W.kitOne K (.ref yH) (.ref yH)=some true)
  (cn:W.kitOne K (.ref yH) (.ref yI)=some false)
  (cD:W.kitOne K (.ref yH) (.ref yJ)=some false)
  (cE:W.kitOne K (.ref yH) (.ref yK)=some false)
  (cF:W.kitOne K (.ref yH) (.ref yG)=some false)
  (e_TooMany:W.exmOne K (.ref yI) (.ref yA)=some true)
  (v_TooMany:W.kitOne K (.ref yI) (.type "ValueError")=some true)
  (g_TooMany_BadName:W.kitOne K (.ref yI) (.ref yH)=some false)
  (g_TooMany_TooMany:W.kitOne K (.ref yI) (.ref yI)=some true)
  (cG:W.kitOne K (.ref yI) (.ref yJ)=some false)
  (g_TooMany_BadRow:W.kitOne K (.ref yI) (.ref yK)=some false)
  (g_TooMany_Unlike:W.kitOne K (.ref yI) (.ref yG)=some false)
  (jB:W.exmOne K (.ref yJ) (.ref yA)=some true)
  (jC:W.kitOne K (.ref yJ) (.type "ValueError")=some true)
  (cH:W.kitOne K (.ref yJ) (.ref yH)=some false)
  (cI:W.kitOne K (.ref yJ) (.ref yI)=some false)
  (cP:W.kitOne K (.ref yJ) (.ref yJ)=some true)
  (cQ:W.kitOne K (.ref yJ) (.ref yK)=some false)
  (cR:W.kitOne K (.ref yJ) (.ref yG)=some false)
  (jD:W.exmOne K (.ref yK) (.ref yA)=some true)
  (jE:W.kitOne K (.ref yK) (.type "ValueError")=some true)
  (cJ:W.kitOne K (.ref yK) (.ref yH)=some false)
  (cK:W.kitOne K (.ref yK) (.ref yI)=some false)
  (cS:W.kitOne K (.ref yK) (.ref yJ)=some false)
  (cU:W.kitOne K (.ref yK) (.ref yK)=some true)
  (cV:W.kitOne K (.ref yK) (.ref yG)=some false)
  (e_Unlike:W.exmOne K (.ref yG) (.ref yA)=some true)
  (v_Unlike:W.kitOne K (.ref yG) (.type "ValueError")=some true)
  (g_Unlike_BadName:W.kitOne K (.ref yG) (.ref yH)=some false)
  (g_Unlike_TooMany:W.kitOne K (.ref yG) (.ref yI)=some false)
  (cX:W.kitOne K (.ref yG) (.ref yJ)=some false)
  (g_Unlike_BadRow:W.kitOne K (.ref yG) (.ref yK)=some false)
  (g_Unlike_Unlike:W.kitOne K (.ref yG) (.ref yG)=some true)
  : ∃ fd:FuncData,(∀ (s:Shared) (v:Value),BindsTo s fd ⟨[v],[]⟩ [("script",v)])/\∀ base:Heap,K.In base->base.Ns mainGlobals mg->aR l.prog w K mg base CX0 11 fa fd ["script"] (J38 K):=by
 have e:=hfa.symm.trans (W.mg_of X G a73)
 cases e
 have F0:=aF (st:=Y32) l0 c0 k0
 have b0:=F0.binds (ps:=["text", "signs"]) fun _ _ _ _ _ _ us hl=>match us,hl with | [_,_],_=>rfl
 have F1:=aF (st:=Y36) l1 c1 k1
 have b1:=F1.binds (ps:=["text"]) fun _ _ _ _ _ _ us hl=>match us,hl with | [_],_=>rfl
 have F2:=aF (st:=Y35) l2 c2 k2
 have b2:=F2.binds (ps:=["value"]) fun _ _ _ _ _ _ us hl=>match us,hl with | [_],_=>rfl
 have F3:=aF (st:=Y31) l3 c3 k3
 have b3:=F3.binds (ps:=["one", "other"]) fun _ _ _ _ _ _ us hl=>match us,hl with | [_,_],_=>rfl
 have F4:=aF (st:=Y34) l4 c4 k4
 have b4:=F4.binds (ps:=["spans", "number"]) fun _ _ _ _ _ _ us hl=>match us,hl with | [_,_],_=>rfl
 have F5:=aF (st:=Y72) l5 c5 k5
 have b5:=F5.binds (ps:=["name"]) fun _ _ _ _ _ _ us hl=>match us,hl with | [_],_=>rfl
 have F6:=aF (st:=Y64) l6 c6 k6
 have b6:=F6.binds (ps:=["names"]) fun _ _ _ _ _ _ us hl=>match us,hl with | [_],_=>rfl
 have F7:=aF (st:=Y63) l7 c7 k7
 have b7:=F7.binds (ps:=["names", "rows"]) fun _ _ _ _ _ _ us hl=>match us,hl with | [_,_],_=>rfl
 have F8:=aF (st:=Y68) l8 c8 k8
 have b8:=F8.binds (ps:=["way", "outcome"]) fun _ _ _ _ _ _ us hl=>match us,hl with | [_,_],_=>rfl
 have F9:=aF (st:=Y65) l9 c9 k9
 have b9:=F9.binds (ps:=["domains", "outcome", "cells", "code"]) fun _ _ _ _ _ _ us hl=>match us,hl with | [_,_,_,_],_=>rfl
 have F10:=aF (st:=Y62) l10 c10 k10
 have b10:=F10.binds (ps:=["cells", "code"]) fun _ _ _ _ _ _ us hl=>match us,hl with | [_,_],_=>rfl
 have F11:=aF (st:=Y33) l11 c11 k11
 have b11:=F11.binds (ps:=["table", "k", "codes"]) fun _ _ _ _ _ _ us hl=>match us,hl with | [_,_,_],_=>rfl
 have F12:=aF (st:=Y61) l12 c12 k12
 have b12:=F12.binds (ps:=["table", "codes"]) fun _ _ _ _ _ _ us hl=>match us,hl with | [_,_],_=>rfl
 have F13:=aF (st:=Y37) l13 c13 k13
 have b13:=F13.binds (ps:=["table", "rows"]) fun _ _ _ _ _ _ us hl=>match us,hl with | [_,_],_=>rfl
 have F14:=aF (st:=Y71) l14 c14 k14
 have b14:=F14.binds (ps:=["table", "codes"]) fun _ _ _ _ _ _ us hl=>match us,hl with | [_,_],_=>rfl
 have F15:=aF (st:=Y73) l15 c15 k15
 have b15:=F15.binds (ps:=["table", "rows"]) fun _ _ _ _ _ _ us hl=>match us,hl with | [_,_],_=>rfl
 have F16:=aF (st:=Y66) l16 c16 k16
 have b16:=F16.binds (ps:=["one", "other"]) fun _ _ _ _ _ _ us hl=>match us,hl with | [_,_],_=>rfl
 have F17:=aF (st:=Y67) l17 c17 k17
 have b17:=F17.binds (ps:=["ones", "others"]) fun _ _ _ _ _ _ us hl=>match us,hl with | [_,_],_=>rfl
 have F18:=aF (st:=Y69) l18 c18 k18
 have b18:=F18.binds (ps:=["one", "other"]) fun _ _ _ _ _ _ us hl=>match us,hl with | [_,_],_=>rfl
 have F19:=aF (st:=Y70) l19 c19 k19
 have b19:=F19.binds (ps:=["table", "order"]) fun _ _ _ _ _ _ us hl=>match us,hl with | [_,_],_=>rfl
 have F20:=aF (st:=Y42) l20 c20 k20
 have b20:=F20.binds (ps:=["script", "k"]) fun _ _ _ _ _ _ us hl=>match us,hl with | [_,_],_=>rfl
 have F21:=aF (st:=Y48) l21 c21 k21
 have b21:=F21.binds (ps:=["cell", "k"]) fun _ _ _ _ _ _ us hl=>match us,hl with | [_,_],_=>rfl
 have F22:=aF (st:=Y54) l22 c22 k22
 have b22:=F22.binds (ps:=["cells", "most"]) fun _ _ _ _ _ _ us hl=>match us,hl with | [_,_],_=>rfl
 have F23:=aF (st:=Y60) l23 c23 k23
 have b23:=F23.binds (ps:=["cell", "k"]) fun _ _ _ _ _ _ us hl=>match us,hl with | [_,_],_=>rfl
 have F24:=aF (st:=Y44) l24 c24 k24
 have b24:=F24.binds (ps:=["m", "most"]) fun _ _ _ _ _ _ us hl=>match us,hl with | [_,_],_=>rfl
 have F25:=aF (st:=Y45) l25 c25 k25
 have b25:=F25.binds (ps:=["column"]) fun _ _ _ _ _ _ us hl=>match us,hl with | [_],_=>rfl
 have F26:=aF (st:=Y55) l26 c26 k26
 have b26:=F26.binds (ps:=["pairs", "bits"]) fun _ _ _ _ _ _ us hl=>match us,hl with | [_,_],_=>rfl
 have F27:=aF (st:=Y40) l27 c27 k27
 have b27:=F27.binds (ps:=["m", "columns", "out", "last"]) fun _ _ _ _ _ _ us hl=>match us,hl with | [_,_,_,_],_=>rfl
 have F28:=aF (st:=Y41) l28 c28 k28
 have b28:=F28.binds (ps:=["seeds", "columns", "out"]) fun _ _ _ _ _ _ us hl=>match us,hl with | [_,_,_],_=>rfl
 have F29:=aF (st:=Y52) l29 c29 k29
 have b29:=F29.binds (ps:=["bit_rows", "columns"]) fun _ _ _ _ _ _ us hl=>match us,hl with | [_,_],_=>rfl
 have F30:=aF (st:=Y57) l30 c30 k30
 have b30:=F30.binds (ps:=["head", "columns", "out", "way", "bit_rows", "own"]) fun _ _ _ _ _ _ us hl=>match us,hl with | [_,_,_,_,_,_],_=>rfl
 have F31:=aF (st:=Y51) l31 c31 k31
 have b31:=F31.binds (ps:=["columns"]) fun _ _ _ _ _ _ us hl=>match us,hl with | [_],_=>rfl
 have F32:=aF (st:=Y43) l32 c32 k32
 have b32:=F32.binds (ps:=["columns", "point", "turn"]) fun _ _ _ _ _ _ us hl=>match us,hl with | [_,_,_],_=>rfl
 have F33:=aF (st:=Y47) l33 c33 k33
 have b33:=F33.binds (ps:=["bit_row", "point"]) fun _ _ _ _ _ _ us hl=>match us,hl with | [_,_],_=>rfl
 have F34:=aF (st:=Y59) l34 c34 k34
 have b34:=F34.binds (ps:=["turn", "out"]) fun _ _ _ _ _ _ us hl=>match us,hl with | [_,_],_=>rfl
 have F35:=aF (st:=Y46) l35 c35 k35
 have b35:=F35.binds (ps:=["way", "bit_rows", "out", "point"]) fun _ _ _ _ _ _ us hl=>match us,hl with | [_,_,_,_],_=>rfl
 have F36:=aF (st:=Y53) l36 c36 k36
 have b36:=F36.binds (ps:=["found", "due"]) fun _ _ _ _ _ _ us hl=>match us,hl with | [_,_],_=>rfl
 have F37:=aF (st:=Y58) l37 c37 k37
 have b37:=F37.binds (ps:=["one", "other"]) fun _ _ _ _ _ _ us hl=>match us,hl with | [_,_],_=>rfl
 have F38:=aF (st:=Y49) l38 c38 k38
 have b38:=F38.binds (ps:=["other"]) fun _ _ _ _ _ _ us hl=>match us,hl with | [_],_=>rfl
 have F39:=aF (st:=Y50) l39 c39 k39
 have b39:=F39.binds (ps:=["domain", "turn"]) fun _ _ _ _ _ _ us hl=>match us,hl with | [_,_],_=>rfl
 have F40:=aF (st:=Y39) l40 c40 k40
 have b40:=F40.binds (ps:=["other", "turn"]) fun _ _ _ _ _ _ us hl=>match us,hl with | [_,_],_=>rfl
 have F41:=aF (st:=Y56) l41 c41 k41
 have b41:=F41.binds (ps:=["table", "other", "found", "columns", "turn"]) fun _ _ _ _ _ _ us hl=>match us,hl with | [_,_,_,_,_],_=>rfl
 have F42:=aF (st:=Y17) l42 c42 k42
 have b42:=F42.binds (ps:=["self", "name", "names", "domains", "outcome", "way", "rows"]) fun _ _ _ _ _ _ us hl=>match us,hl with | [_,_,_,_,_,_,_],_=>rfl
 have F43:=aF (st:=Y4) l43 c43 k43
 have b43:=F43.binds (ps:=["self"]) fun _ _ _ _ _ _ us hl=>match us,hl with | [_],_=>rfl
 have F44:=aF (st:=Y18) l44 c44 k44
 have b44:=F44.binds (ps:=["self", "called"]) fun _ _ _ _ _ _ us hl=>match us,hl with | [_,_],_=>rfl
 have F45:=aF (st:=Y13) l45 c45 k45
 have b45:=F45.binds (ps:=["self"]) fun _ _ _ _ _ _ us hl=>match us,hl with | [_],_=>rfl
 have F46:=aF (st:=Y22) l46 c46 k46
 have b46:=F46.binds (ps:=["self", "called"]) fun _ _ _ _ _ _ us hl=>match us,hl with | [_,_],_=>rfl
 have F47:=aF (st:=Y8) l47 c47 k47
 have b47:=F47.binds (ps:=["self"]) fun _ _ _ _ _ _ us hl=>match us,hl with | [_],_=>rfl
 have F48:=aF (st:=Y20) l48 c48 k48
 have b48:=F48.binds (ps:=["self", "called"]) fun _ _ _ _ _ _ us hl=>match us,hl with | [_,_],_=>rfl
 have F49:=aF (st:=Y10) l49 c49 k49
 have b49:=F49.binds (ps:=["self"]) fun _ _ _ _ _ _ us hl=>match us,hl with | [_],_=>rfl
 have F50:=aF (st:=Y21) l50 c50 k50
 have b50:=F50.binds (ps:=["self", "called"]) fun _ _ _ _ _ _ us hl=>match us,hl with | [_,_],_=>rfl
 have F51:=aF (st:=Y6) l51 c51 k51
 have b51:=F51.binds (ps:=["self"]) fun _ _ _ _ _ _ us hl=>match us,hl with | [_],_=>rfl
 have F52:=aF (st:=Y19) l52 c52 k52
 have b52:=F52.binds (ps:=["self", "called"]) fun _ _ _ _ _ _ us hl=>match us,hl with | [_,_],_=>rfl
 have F53:=aF (st:=Y15) l53 c53 k53
 have b53:=F53.binds (ps:=["self"]) fun _ _ _ _ _ _ us hl=>match us,hl with | [_],_=>rfl
 have F54:=aF (st:=Y23) l54 c54 k54
 have b54:=F54.binds (ps:=["self", "called"]) fun _ _ _ _ _ _ us hl=>match us,hl with | [_,_],_=>rfl
 have F55:=aF (st:=Y2) l55 c55 k55
 have b55:=F55.binds (ps:=["self", "value"]) fun _ _ _ _ _ _ us hl=>match us,hl with | [_,_],_=>rfl
 have F56:=aF (st:=Y3) l56 c56 k56
 have b56:=F56.binds (ps:=["self", "value"]) fun _ _ _ _ _ _ us hl=>match us,hl with | [_,_],_=>rfl
 have F57:=aF (st:=Y12) l57 c57 k57
 have b57:=F57.binds (ps:=["self", "low", "high"]) fun _ _ _ _ _ _ us hl=>match us,hl with | [_,_,_],_=>rfl
 have F58:=aF (st:=Y0) l58 c58 k58
 have b58:=F58.binds (ps:=["self", "low", "high"]) fun _ _ _ _ _ _ us hl=>match us,hl with | [_,_,_],_=>rfl
 have F59:=aF (st:=Y30) l59 c59 k59
 have b59:=F59.binds (ps:=["self", "words"]) fun _ _ _ _ _ _ us hl=>match us,hl with | [_,_],_=>rfl
 have F60:=aF (st:=Y1) l60 c60 k60
 have b60:=F60.binds (ps:=["self", "low", "high"]) fun _ _ _ _ _ _ us hl=>match us,hl with | [_,_,_],_=>rfl
 have F61:=aF (st:=Y24) l61 c61 k61
 have b61:=F61.binds (ps:=["self", "codes", "outcome"]) fun _ _ _ _ _ _ us hl=>match us,hl with | [_,_,_],_=>rfl
 have F62:=aF (st:=Y5) l62 c62 k62
 have b62:=F62.binds (ps:=["self", "codes", "outcome"]) fun _ _ _ _ _ _ us hl=>match us,hl with | [_,_,_],_=>rfl
 have F63:=aF (st:=Y28) l63 c63 k63
 have b63:=F63.binds (ps:=["self", "codes", "outcome"]) fun _ _ _ _ _ _ us hl=>match us,hl with | [_,_,_],_=>rfl
 have F64:=aF (st:=Y14) l64 c64 k64
 have b64:=F64.binds (ps:=["self", "codes", "outcome"]) fun _ _ _ _ _ _ us hl=>match us,hl with | [_,_,_],_=>rfl
 have F65:=aF (st:=Y26) l65 c65 k65
 have b65:=F65.binds (ps:=["self", "codes", "outcome"]) fun _ _ _ _ _ _ us hl=>match us,hl with | [_,_,_],_=>rfl
 have F66:=aF (st:=Y9) l66 c66 k66
 have b66:=F66.binds (ps:=["self", "codes", "outcome"]) fun _ _ _ _ _ _ us hl=>match us,hl with | [_,_,_],_=>rfl
 have F67:=aF (st:=Y27) l67 c67 k67
 have b67:=F67.binds (ps:=["self", "codes", "outcome"]) fun _ _ _ _ _ _ us hl=>match us,hl with | [_,_,_],_=>rfl
 have F68:=aF (st:=Y11) l68 c68 k68
 have b68:=F68.binds (ps:=["self", "codes", "outcome"]) fun _ _ _ _ _ _ us hl=>match us,hl with | [_,_,_],_=>rfl
 have F69:=aF (st:=Y25) l69 c69 k69
 have b69:=F69.binds (ps:=["self", "codes", "outcome"]) fun _ _ _ _ _ _ us hl=>match us,hl with | [_,_,_],_=>rfl
 have F70:=aF (st:=Y7) l70 c70 k70
 have b70:=F70.binds (ps:=["self", "codes", "outcome"]) fun _ _ _ _ _ _ us hl=>match us,hl with | [_,_,_],_=>rfl
 have F71:=aF (st:=Y29) l71 c71 k71
 have b71:=F71.binds (ps:=["self", "codes", "outcome"]) fun _ _ _ _ _ _ us hl=>match us,hl with | [_,_,_],_=>rfl
 have F72:=aF (st:=Y16) l72 c72 k72
 have b72:=F72.binds (ps:=["self", "codes", "outcome"]) fun _ _ _ _ _ _ us hl=>match us,hl with | [_,_,_],_=>rfl
 have F73:=aF (st:=Y38) l73 c73 k73
 have b73:=F73.binds (ps:=["script"]) fun _ _ _ _ _ _ us hl=>match us,hl with | [_],_=>rfl
 have bl:Bl K mg yA yH yI yJ yK yG yN yO yP yQ yR yS yT yU yV yW yX yY yZ:=⟨W.mg_of X G di,di,W.mg_of X G eZ,eZ,W.mg_of X G fb,fb,W.mg_of X G fZ,fZ,W.mg_of X G gc,gc,W.mg_of X G gf,gf,W.mg_of X G gh,gh,W.mg_of X G gG,gG,W.mg_of X G ko,ko,W.mg_of X G kq,kq,W.mg_of X G oO,oO,W.mg_of X G kr,kr,W.mg_of X G oP,oP,W.mg_of X G dW,dW,W.mg_of X G dN,dN,W.mg_of X G gH,gH,W.mg_of X G gJ,gJ,cZ.value x_BadName,⟨iO,iP,iQ,iR,iS,iT,iU,iV⟩,cZ.value x_TooMany,⟨iW,iX,iY,iZ,i7,ja,jb,jc⟩,cZ.value x_BadWay,⟨kD,kE,kF,kG,kH,kI,kJ,kK⟩,cZ.value x_BadRow,⟨kL,kM,kN,kO,kP,kQ,kR,kS⟩,cZ.value x_Unlike,⟨kT,kU,kW,kX,kY,kZ,lg,lh⟩,⟨jQ,jR,jS,jT⟩,⟨lZ,ma,md,mf⟩,⟨mh,mi,mj,ml⟩,⟨qc,qd,qe,qf⟩,⟨mm,mq,mr,mw⟩,⟨qg,qh,qi,qj⟩,⟨fG,fH,fI,fJ⟩,⟨jU,jV,jW,jX⟩,⟨jY,jZ,j3,j4⟩,⟨⟨jQ,jR,jS,jT⟩,nB,nC,nE,nF⟩,⟨⟨lZ,ma,md,mf⟩,qk,ql,qm,qo⟩,⟨⟨mh,mi,mj,ml⟩,qp,qq,qr,qt⟩,⟨⟨qc,qd,qe,qf⟩,se,sf,si,sj⟩,⟨⟨mm,mq,mr,mw⟩,qu,qv,qy,qz⟩,⟨⟨qg,qh,qi,qj⟩,sk,sr,sv,sx⟩,⟨⟨fG,fH,fI,fJ⟩,jd,je,jf,jg⟩,⟨⟨jU,jV,jW,jX⟩,nG,nH,nI,nJ⟩,⟨⟨jY,jZ,j3,j4⟩,nK,nM,nN,nO⟩,W.mg_of X G r9,ModT.mk pX pY pZ,W.mg_of X G p8,ModT.mk nu nv nA,na_First_called,na_Only_called,na_Like_called,na_Low_called,na_High_called,na_Sum_called,na_Numbers_low,na_Numbers_high,cC,na_Words_low,na_Words_high,na_Words_words,na_Table_name,na_Table_names,na_Table_domains,na_Table_outcome,na_Table_way,na_Table_rows,f_nn,f_wn,f_ww,f_tt,f_nw,gK,gL,cm,cn,cD,cE,cF,e_TooMany,v_TooMany,g_TooMany_BadName,g_TooMany_TooMany,cG,g_TooMany_BadRow,g_TooMany_Unlike,jB,jC,cH,cI,cP,cQ,cR,jD,jE,cJ,cK,cS,cU,cV,e_Unlike,v_Unlike,g_Unlike_BadName,g_Unlike_TooMany,cX,g_Unlike_BadRow,g_Unlike_Unlike,W.mg_none_of X G z0,W.mg_none_of X G z1,W.mg_none_of X G z2,W.mg_none_of X G z3,W.mg_none_of X G z4,W.mg_none_of X G z5,W.mg_none_of X G z6,W.mg_none_of X G z7,W.mg_none_of X G z8,W.mg_none_of X G z9,W.mg_none_of X G z10,W.mg_none_of X G z11,W.mg_none_of X G z12,W.mg_none_of X G z13,W.mg_none_of X G z14,W.mg_none_of X G z15,W.mg_none_of X G z16,⟨_,W.mg_of X G y0,x0⟩,⟨_,W.mg_of X G y1,x1⟩,⟨_,W.mg_of X G y2,x2⟩,⟨_,W.mg_of X G y3,x3⟩,⟨_,W.mg_of X G y4,x4⟩⟩
 refine ⟨W.fnOf "law" "law" (au Y38) (aq Y38) (ag Y38) .none C4 C5 C6 BP zC C7,fun s v=>.of_eq rfl,fun base _ _=>?_⟩
 have O0:=Ei (P:=l.prog) (w:=w) (base:=base) F0 bl
 have ra:Callee l.prog w K mg base 1 "all_among" ["text", "signs"] (J32 K):=⟨_,_,O0,b0,k0,W.mg_of X G a0⟩
 have O2:=Ej (P:=l.prog) (w:=w) (base:=base) F2 bl
 have nP:Callee l.prog w K mg base 1 "is_whole" ["value"] (J35 K):=⟨_,_,O2,b2,k2,W.mg_of X G a2⟩
 have O3:=Ek (P:=l.prog) (w:=w) (base:=base) F3 bl
 have tq:Callee l.prog w K mg base 1 "alike" ["one", "other"] (J31 K yV yW):=⟨_,_,O3,b3,k3,W.mg_of X G a3⟩
 have O4:=El (P:=l.prog) (w:=w) (base:=base) F4 bl
 have xj:Callee l.prog w K mg base 1 "holds" ["spans", "number"] (J34 K):=⟨_,_,O4,b4,k4,W.mg_of X G a4⟩
 have O7:=Em (P:=l.prog) (w:=w) (base:=base) F7 bl
 have lN:aZ l.prog w K mg base 1 "refuse_counts" ["names", "rows"] (J63 K yI):=⟨_,_,O7,b7,k7,W.mg_of X G a7⟩
 have O10:=En (P:=l.prog) (w:=w) (base:=base) F10 bl
 have uj:Callee l.prog w K mg base 1 "own_row" ["cells", "code"] (J62 K):=⟨_,_,O10,b10,k10,W.mg_of X G a10⟩
 have O20:=Eo (P:=l.prog) (w:=w) (base:=base) F20 bl
 have og:Callee l.prog w K mg base 1 "_law_cell_at" ["script", "k"] (J42 K):=⟨_,_,O20,b20,k20,W.mg_of X G a20⟩
 have O21:=Ep (P:=l.prog) (w:=w) (base:=base) F21 bl
 have eK:Callee l.prog w K mg base 1 "_law_mixed" ["cell", "k"] (J48 K):=⟨_,_,O21,b21,k21,W.mg_of X G a21⟩
 have O23:=Er (P:=l.prog) (w:=w) (base:=base) F23 bl
 have nQ:Callee l.prog w K mg base 1 "_law_word" ["cell", "k"] (J60 K):=⟨_,_,O23,b23,k23,W.mg_of X G a23⟩
 have O26:=Es (P:=l.prog) (w:=w) (base:=base) F26 bl
 have rb:Callee l.prog w K mg base 1 "_law_spans" ["pairs", "bits"] (J55 K):=⟨_,_,O26,b26,k26,W.mg_of X G a26⟩
 have O31:=Et (P:=l.prog) (w:=w) (base:=base) F31 bl
 have j5:Callee l.prog w K mg base 1 "_law_points" ["columns"] (J51 K):=⟨_,_,O31,b31,k31,W.mg_of X G a31⟩
 have O32:=Eu (P:=l.prog) (w:=w) (base:=base) F32 bl
 have lF:Callee l.prog w K mg base 1 "_law_codes" ["columns", "point", "turn"] (J43 K):=⟨_,_,O32,b32,k32,W.mg_of X G a32⟩
 have O33:=Ew (P:=l.prog) (w:=w) (base:=base) F33 bl
 have uk:Callee l.prog w K mg base 1 "_law_fit" ["bit_row", "point"] (J47 K):=⟨_,_,O33,b33,k33,W.mg_of X G a33⟩
 have O34:=Ex (P:=l.prog) (w:=w) (base:=base) F34 bl
 have um:Callee l.prog w K mg base 1 "_law_way" ["turn", "out"] (J59 K):=⟨_,_,O34,b34,k34,W.mg_of X G a34⟩
 have O36:=Ey (P:=l.prog) (w:=w) (base:=base) F36 bl
 have sy:Callee l.prog w K mg base 1 "_law_same" ["found", "due"] (J53 K):=⟨_,_,O36,b36,k36,W.mg_of X G a36⟩
 have O44:=Ez (P:=l.prog) (w:=w) (base:=base) F44 bl
 have gv:bA CX0 l.prog w K mg base 1 "Way" "__init__" ["self", "called"] (J18 K yO):=⟨_,_,_,⟨vE,vF,vG,k44⟩,O44,b44,W.mg_of X G gh⟩
 have O46:=EA (P:=l.prog) (w:=w) (base:=base) F46 bl
 have gZ:bA CX0 l.prog w K mg base 1 "Way" "__init__" ["self", "called"] (J22 K yP):=⟨_,_,_,⟨vH,vI,vJ,k46⟩,O46,b46,W.mg_of X G gh⟩
 have O48:=EB (P:=l.prog) (w:=w) (base:=base) F48 bl
 have hV:bA CX0 l.prog w K mg base 1 "Way" "__init__" ["self", "called"] (J20 K yQ):=⟨_,_,_,⟨vK,vL,vM,k48⟩,O48,b48,W.mg_of X G gh⟩
 have O50:=EC (P:=l.prog) (w:=w) (base:=base) F50 bl
 have jh:bA CX0 l.prog w K mg base 1 "Way" "__init__" ["self", "called"] (J21 K yR):=⟨_,_,_,⟨vO,vP,vQ,k50⟩,O50,b50,W.mg_of X G gh⟩
 have O52:=ED (P:=l.prog) (w:=w) (base:=base) F52 bl
 have hZ:bA CX0 l.prog w K mg base 1 "Way" "__init__" ["self", "called"] (J19 K yS):=⟨_,_,_,⟨vR,vS,vT,k52⟩,O52,b52,W.mg_of X G gh⟩
 have O54:=EE (P:=l.prog) (w:=w) (base:=base) F54 bl
 have ji:bA CX0 l.prog w K mg base 1 "Way" "__init__" ["self", "called"] (J23 K yT):=⟨_,_,_,⟨vU,vV,vW,k54⟩,O54,b54,W.mg_of X G gh⟩
 have O58:=O_0 (P:=l.prog) (w:=w) (base:=base) F58 bl
 have eA:bA CX0 l.prog w K mg base 1 "Domain" "__init__" ["self", "low", "high"] (J0 K yV):=⟨_,_,_,⟨vX,vY,vZ,k58⟩,O58,b58,W.mg_of X G dW⟩
 have O60:=O_1 (P:=l.prog) (w:=w) (base:=base) F60 bl
 have fq:bA CX0 l.prog w K mg base 1 "Domain" "__init__" ["self", "low", "high"] (J1 K yW):=⟨_,_,_,⟨v9,wa,wb,k60⟩,O60,b60,W.mg_of X G dW⟩
 have O62:=O_5 (P:=l.prog) (w:=w) (base:=base) F62 bl
 have gw:aV CX0 l.prog w K mg base 1 yO "chosen" ["self", "codes", "outcome"] (J5 K yO yV yW):=⟨_,_,⟨m62,Ah,k62⟩,O62,b62⟩
 have O64:=EF (P:=l.prog) (w:=w) (base:=base) F64 bl
 have jj:aV CX0 l.prog w K mg base 1 yP "chosen" ["self", "codes", "outcome"] (J14 K yP yV yW):=⟨_,_,⟨m64,Aj,k64⟩,O64,b64⟩
 have O66:=O_9 (P:=l.prog) (w:=w) (base:=base) F66 bl
 have jk:aV CX0 l.prog w K mg base 1 yQ "chosen" ["self", "codes", "outcome"] (J9 K yQ yV yW):=⟨_,_,⟨m66,Al,k66⟩,O66,b66⟩
 have O68:=EG (P:=l.prog) (w:=w) (base:=base) F68 bl
 have lj:aV CX0 l.prog w K mg base 1 yR "chosen" ["self", "codes", "outcome"] (J11 K yR yV yW):=⟨_,_,⟨m68,An,k68⟩,O68,b68⟩
 have O70:=O_7 (P:=l.prog) (w:=w) (base:=base) F70 bl
 have jl:aV CX0 l.prog w K mg base 1 yS "chosen" ["self", "codes", "outcome"] (J7 K yS yV yW):=⟨_,_,⟨m70,Ap,k70⟩,O70,b70⟩
 have O72:=EH (P:=l.prog) (w:=w) (base:=base) F72 bl
 have ll:aV CX0 l.prog w K mg base 1 yT "chosen" ["self", "codes", "outcome"] (J16 K yT yV yW):=⟨_,_,⟨m72,Ar,k72⟩,O72,b72⟩
 have O1:=EI (P:=l.prog) (w:=w) (base:=base) F1 bl (ra.mono (by decide))
 have oX:Callee l.prog w K mg base 2 "is_word" ["text"] (J36 K):=⟨_,_,O1,b1,k1,W.mg_of X G a1⟩
 have O11:=EJ (P:=l.prog) (w:=w) (base:=base) F11 bl (xj.mono (by decide))
 have As:Callee l.prog w K mg base 2 "fits" ["table", "k", "codes"] (J33 K yX):=⟨_,_,O11,b11,k11,W.mg_of X G a11⟩
 have O17:=EK (P:=l.prog) (w:=w) (base:=base) F17 bl (tq.mono (by decide))
 have fu:aZ l.prog w K mg base 2 "refuse_unlike_domains" ["ones", "others"] (J67 K yG yV yW):=⟨_,_,O17,b17,k17,W.mg_of X G a17⟩
 have O22:=EL (P:=l.prog) (w:=w) (base:=base) F22 bl (eK.mono (by decide))
 have rf:Callee l.prog w K mg base 2 "_law_seeds" ["cells", "most"] (J54 K):=⟨_,_,O22,b22,k22,W.mg_of X G a22⟩
 have O24:=EN (P:=l.prog) (w:=w) (base:=base) F24 bl (eK.mono (by decide))
 have qA:Callee l.prog w K mg base 2 "_law_column" ["m", "most"] (J44 K):=⟨_,_,O24,b24,k24,W.mg_of X G a24⟩
 have O27:=ER (P:=l.prog) (w:=w) (base:=base) F27 bl (eK.mono (by decide))
 have oh:Callee l.prog w K mg base 2 "_law_bit_row" ["m", "columns", "out", "last"] (J40 K):=⟨_,_,O27,b27,k27,W.mg_of X G a27⟩
 have O29:=ES (P:=l.prog) (w:=w) (base:=base) F29 bl (rb.mono (by decide))
 have nR:Callee l.prog w K mg base 2 "_law_rows" ["bit_rows", "columns"] (J52 K):=⟨_,_,O29,b29,k29,W.mg_of X G a29⟩
 have O35:=EU (P:=l.prog) (w:=w) (base:=base) F35 bl (uk.mono (by decide))
 have uo:Callee l.prog w K mg base 2 "_law_due" ["way", "bit_rows", "out", "point"] (J46 K):=⟨_,_,O35,b35,k35,W.mg_of X G a35⟩
 have O43:=O_4 (P:=l.prog) (w:=w) (base:=base) F43 bl (gv.mono (by decide))
 have fK:aP CX0 l.prog w K mg base 2 "First" yO ["self"] (J4 K yO):=⟨_,_,⟨zH,i43,zG,zI⟩,O43,b43,W.mg_of X G gG⟩
 have O45:=EV (P:=l.prog) (w:=w) (base:=base) F45 bl (gZ.mono (by decide))
 have gy:aP CX0 l.prog w K mg base 2 "Only" yP ["self"] (J13 K yP):=⟨_,_,⟨zK,i45,zJ,zL⟩,O45,b45,W.mg_of X G ko⟩
 have O47:=O_8 (P:=l.prog) (w:=w) (base:=base) F47 bl (hV.mono (by decide))
 have gz:aP CX0 l.prog w K mg base 2 "Like" yQ ["self"] (J8 K yQ):=⟨_,_,⟨zN,i47,zM,zO⟩,O47,b47,W.mg_of X G kq⟩
 have O49:=EW (P:=l.prog) (w:=w) (base:=base) F49 bl (jh.mono (by decide))
 have jm:aP CX0 l.prog w K mg base 2 "Low" yR ["self"] (J10 K yR):=⟨_,_,⟨zQ,i49,zP,zR⟩,O49,b49,W.mg_of X G oO⟩
 have O51:=O_6 (P:=l.prog) (w:=w) (base:=base) F51 bl (hZ.mono (by decide))
 have gA:aP CX0 l.prog w K mg base 2 "High" yS ["self"] (J6 K yS):=⟨_,_,⟨zT,i51,zS,zU⟩,O51,b51,W.mg_of X G kr⟩
 have O53:=EY (P:=l.prog) (w:=w) (base:=base) F53 bl (ji.mono (by decide))
 have jn:aP CX0 l.prog w K mg base 2 "Sum" yT ["self"] (J15 K yT):=⟨_,_,⟨zW,i53,zV,zX⟩,O53,b53,W.mg_of X G oP⟩
 have O55:=O_2 (P:=l.prog) (w:=w) (base:=base) F55 bl (nP.mono (by decide))
 have eB:aV CX0 l.prog w K mg base 2 yV "has_code" ["self", "value"] (J2 K yV):=⟨_,_,⟨m55,zY,k55⟩,O55,b55⟩
 have O56:=O_3 (P:=l.prog) (w:=w) (base:=base) F56 bl (nP.mono (by decide))
 have fv:aV CX0 l.prog w K mg base 2 yW "has_code" ["self", "value"] (J3 K yW):=⟨_,_,⟨m56,zZ,k56⟩,O56,b56⟩
 have O57:=EZ (P:=l.prog) (w:=w) (base:=base) F57 bl (eA.mono (by decide))
 have bh:aP CX0 l.prog w K mg base 2 "Numbers" yV ["self", "low", "high"] (J12 K yV):=⟨_,_,⟨Ab,i57,Aa,Ac⟩,O57,b57,W.mg_of X G dN⟩
 have O61:=E1 (P:=l.prog) (w:=w) (base:=base) F61 bl (gw.mono (by decide))
 have ia:aV CX0 l.prog w K mg base 2 yO "verdict" ["self", "codes", "outcome"] (J24 K yO yV yW):=⟨_,_,⟨m61,Ag,k61⟩,O61,b61⟩
 have O63:=E3 (P:=l.prog) (w:=w) (base:=base) F63 bl (jj.mono (by decide))
 have jo:aV CX0 l.prog w K mg base 2 yP "verdict" ["self", "codes", "outcome"] (J28 K yP yV yW):=⟨_,_,⟨m63,Ai,k63⟩,O63,b63⟩
 have O65:=E4 (P:=l.prog) (w:=w) (base:=base) F65 bl (jk.mono (by decide))
 have jq:aV CX0 l.prog w K mg base 2 yQ "verdict" ["self", "codes", "outcome"] (J26 K yQ yV yW):=⟨_,_,⟨m65,Ak,k65⟩,O65,b65⟩
 have O67:=E5 (P:=l.prog) (w:=w) (base:=base) F67 bl (lj.mono (by decide))
 have j6:aV CX0 l.prog w K mg base 2 yR "verdict" ["self", "codes", "outcome"] (J27 K yR yV yW):=⟨_,_,⟨m67,Am,k67⟩,O67,b67⟩
 have O69:=E6 (P:=l.prog) (w:=w) (base:=base) F69 bl (jl.mono (by decide))
 have jr:aV CX0 l.prog w K mg base 2 yS "verdict" ["self", "codes", "outcome"] (J25 K yS yV yW):=⟨_,_,⟨m69,Ao,k69⟩,O69,b69⟩
 have O71:=E7 (P:=l.prog) (w:=w) (base:=base) F71 bl (ll.mono (by decide))
 have ka:aV CX0 l.prog w K mg base 2 yT "verdict" ["self", "codes", "outcome"] (J29 K yT yV yW):=⟨_,_,⟨m71,Aq,k71⟩,O71,b71⟩
 have O6:=E8 (P:=l.prog) (w:=w) (base:=base) F6 bl (oX.mono (by decide))
 have nS:aZ l.prog w K mg base 3 "refuse_names" ["names"] (J64 K yH):=⟨_,_,O6,b6,k6,W.mg_of X G a6⟩
 have O9:=E9 (P:=l.prog) (w:=w) (base:=base) F9 bl (eB.mono (by decide)) (fv.mono (by decide))
 have qB:aZ l.prog w K mg base 3 "refuse_row" ["domains", "outcome", "cells", "code"] (J65 K yK yV yW):=⟨_,_,O9,b9,k9,W.mg_of X G a9⟩
 have O12:=Fb (P:=l.prog) (w:=w) (base:=base) F12 bl (As.mono (by decide))
 have wc:Callee l.prog w K mg base 3 "mask" ["table", "codes"] (J61 K yV yW yX):=⟨_,_,O12,b12,k12,W.mg_of X G a12⟩
 have O16:=Fc (P:=l.prog) (w:=w) (base:=base) F16 bl (fu.mono (by decide))
 have lO:aZ l.prog w K mg base 3 "refuse_unlike" ["one", "other"] (J66 K yG yV yW yX):=⟨_,_,O16,b16,k16,W.mg_of X G a16⟩
 have O28:=Fd (P:=l.prog) (w:=w) (base:=base) F28 bl (oh.mono (by decide))
 have nU:Callee l.prog w K mg base 3 "_law_bit_rows" ["seeds", "columns", "out"] (J41 K):=⟨_,_,O28,b28,k28,W.mg_of X G a28⟩
 have O59:=Fe (P:=l.prog) (w:=w) (base:=base) F59 bl (fq.mono (by decide)) (oX.mono (by decide))
 have dk:aP CX0 l.prog w K mg base 3 "Words" yW ["self", "words"] (J30 K yW):=⟨_,_,⟨Ae,i59,Ad,Af⟩,O59,b59,W.mg_of X G gH⟩
 have O5:=Ff (P:=l.prog) (w:=w) (base:=base) F5 bl (fK.mono (by decide)) (gy.mono (by decide)) (gz.mono (by decide)) (jm.mono (by decide)) (gA.mono (by decide)) (jn.mono (by decide))
 have rg:aZ l.prog w K mg base 4 "way_by" ["name"] (J72 K yJ yO yP yQ yR yS yT):=⟨_,_,O5,b5,k5,W.mg_of X G a5⟩
 have O41:=Fg (P:=l.prog) (w:=w) (base:=base) F41 bl (j5.mono (by decide)) (lF.mono (by decide)) (tq.mono (by decide)) (wc.mono (by decide))
 have lr:Callee l.prog w K mg base 4 "_law_stacked_so" ["table", "other", "found", "columns", "turn"] (J56 K yV yW yX):=⟨_,_,O41,b41,k41,W.mg_of X G a41⟩
 have O8:=Fn (P:=l.prog) (w:=w) (base:=base) F8 bl (rg.mono (by decide))
 have qC:aZ l.prog w K mg base 5 "refuse_way" ["way", "outcome"] (J68 K yJ yV yW):=⟨_,_,O8,b8,k8,W.mg_of X G a8⟩
 have O13:=Fo (P:=l.prog) (w:=w) (base:=base) F13 bl (ia.mono (by decide)) (jo.mono (by decide)) (jq.mono (by decide)) (j6.mono (by decide)) (jr.mono (by decide)) (ka.mono (by decide)) (rg.mono (by decide))
 have we:Callee l.prog w K mg base 5 "judged" ["table", "rows"] (J37 K yV yW yX):=⟨_,_,O13,b13,k13,W.mg_of X G a13⟩
 have O25:=Fp (P:=l.prog) (w:=w) (base:=base) F25 bl (bh.mono (by decide)) (dk.mono (by decide)) (nQ.mono (by decide))
 have qD:Callee l.prog w K mg base 5 "_law_domain" ["column"] (J45 K yV yW):=⟨_,_,O25,b25,k25,W.mg_of X G a25⟩
 have O39:=Fs (P:=l.prog) (w:=w) (base:=base) F39 bl (dk.mono (by decide)) (bh.mono (by decide))
 have js:Callee l.prog w K mg base 5 "_law_other_domain" ["domain", "turn"] (J50 K yV yW):=⟨_,_,O39,b39,k39,W.mg_of X G a39⟩
 have O14:=Ft (P:=l.prog) (w:=w) (base:=base) F14 bl (we.mono (by decide)) (wc.mono (by decide))
 have uq:Callee l.prog w K mg base 6 "verdict" ["table", "codes"] (J71 K yV yW yX):=⟨_,_,O14,b14,k14,W.mg_of X G a14⟩
 have O42:=Fu (P:=l.prog) (w:=w) (base:=base) F42 bl (nS.mono (by decide)) (lN.mono (by decide)) (qC.mono (by decide)) (qB.mono (by decide)) (uj.mono (by decide))
 have bj:aP (CX1 l.prog w) l.prog w K mg base 6 "Table" yX ["self", "name", "names", "domains", "outcome", "way", "rows"] (J17 K yH yI yJ yK yV yW yX):=⟨_,_,⟨zE,i42,zD,zF⟩,O42,b42,W.mg_of X G gJ⟩
 have O15:=Fv (P:=l.prog) (w:=w) (base:=base) F15 bl (bj.mono (by decide))
 have lG:aZ l.prog w K mg base 8 "with_rows" ["table", "rows"] (J73 K yH yI yJ yK yV yW yX):=⟨_,_,O15,b15,k15,W.mg_of X G a15⟩
 have O19:=Fw (P:=l.prog) (w:=w) (base:=base) F19 bl (bj.mono (by decide))
 have wg:Callee l.prog w K mg base 8 "turned" ["table", "order"] (J70 K yV yW yX):=⟨_,_,O19,b19,k19,W.mg_of X G a19⟩
 have O30:=Fy (P:=l.prog) (w:=w) (base:=base) F30 bl (bj.mono (by decide)) (nQ.mono (by decide)) (qD.mono (by decide)) (nR.mono (by decide))
 have rh:Callee l.prog w K mg base 8 "_law_table" ["head", "columns", "out", "way", "bit_rows", "own"] (J57 K yV yW yX):=⟨_,_,O30,b30,k30,W.mg_of X G a30⟩
 have O38:=FC (P:=l.prog) (w:=w) (base:=base) F38 bl (bj.mono (by decide)) (bh.mono (by decide))
 have kb:Callee l.prog w K mg base 8 "_law_other_count" ["other"] (J49 K yV yW yX):=⟨_,_,O38,b38,k38,W.mg_of X G a38⟩
 have O18:=FE (P:=l.prog) (w:=w) (base:=base) F18 bl (lO.mono (by decide)) (lG.mono (by decide))
 have ur:aZ l.prog w K mg base 9 "stacked" ["one", "other"] (J69 K yH yI yJ yK yG yV yW yX):=⟨_,_,O18,b18,k18,W.mg_of X G a18⟩
 have O40:=FF (P:=l.prog) (w:=w) (base:=base) F40 bl (bj.mono (by decide)) (kb.mono (by decide)) (bh.mono (by decide)) (js.mono (by decide)) (wg.mono (by decide))
 have oi:Callee l.prog w K mg base 9 "_law_altered" ["other", "turn"] (J39 K yV yW yX):=⟨_,_,O40,b40,k40,W.mg_of X G a40⟩
 have O37:=FG (P:=l.prog) (w:=w) (base:=base) F37 bl (ur.mono (by decide))
 have sG:Callee l.prog w K mg base 10 "_law_told" ["one", "other"] (J58 K yV yW yX):=⟨_,_,O37,b37,k37,W.mg_of X G a37⟩
 exact FH F73 bl (og.mono (by decide)) (qA.mono (by decide)) (um.mono (by decide)) (nU.mono (by decide)) (rh.mono (by decide)) (nR.mono (by decide)) (sG.mono (by decide)) (j5.mono (by decide)) (oi.mono (by decide)) (lG.mono (by decide)) (eK.mono (by decide)) (rf.mono (by decide)) (uq.mono (by decide)) (lr.mono (by decide)) (lF.mono (by decide)) (sy.mono (by decide)) (uo.mono (by decide))
theorem walk {l:W.OpenLaw} {q:Program} {loose:List Str} {XP:(Str->Option Value)->Heap->Prop} {YP:World->Heap->Prop} {d:DefRec} {K:Params->W.Frag} (hn:l.most=some 63) (hdf:d.params.defaults=[])
  (hY:∀ (w:World) (h:Heap),YP w h->(K w.params).In h)
  (F:∀ (w:World) (mg:Str->Option Value) (fa:Addr) (h:Heap),(K w.params).In h->h.Ns mainGlobals mg->mg d.name=some (.ref fa) ->
   ∃ fd:FuncData,(∀ (s:Shared) (u:Value),BindsTo s fd ⟨[u],[]⟩ [("script",u)])/\∀ base:Heap,(K w.params).In base->base.Ns mainGlobals mg->aR l.prog w (K w.params) mg base CX0 11 fa fd ["script"] (J38 (K w.params))) :
  W.WalkO q loose XP YP l.row.toRowW d [] (fun f vs=>PySem.call f vs) :=
 L2.walk_of (n:=63) (k:=11) (x := "script") (CX:=fun _=>CX0) (sp:=fun w=>J38 (K w.params)) hn (by decide) hdf ⟨rfl,by decide,by decide⟩ hY F (fun _ _ a ns hl _ hS=>⟨a,ns,rfl,hS,hl,fun _=>rfl⟩) fun _ _ _ _ _ z=>z
end My
set_option genSizeOf false in
set_option genInjectivity false in
structure PySem.W.Fast:Prop where (tw16026320341992773066 tw17355791027004713372 tw10122869551546917987 tw8610925815071750846 tw10966188622701415764 tw15157795490915615855 tw231928384663637050 tw5314305241399014919 tw59373220827230364 tw4408137631525688111 tw2111815923163343426 tw7143779386355040144 tw8633508091717866050 tw3550245002079762504 tw18102463867866215962 tw10198929313813076431 tw18118987185975456716 tw2979916916751035122 tw12831038666196291175 tw13091091749990449419 tw10083788514163033791 tw3182693495032019385 tw13295205263984149552 tw9139432166619627071 tw16940755518319389491 tw5845344784583126480 tw9118172928685222849 tw16132960356466444550 tw8054587279452399083 tw6077644972999184824 tw2368157982230747935 tw7936579447612873113 tw3514974571812412017 tw13766912891775632121 tw10036284030840663446 tw11134667767177899581 tw11012164143670275233 tw12294770746985890288 tw18398347336227505530 tw3860481934230442768 tw11443138171872190384 tw637782804863512070 tw8083419607238484281 tw1687382720566453822 tw9723907639515584948 tw3788048424900346614 tw6172192180459709977 tw7034226293207297732 tw4510307366489567234 tw3023685184296925796 tw1347242941534667785 tw520527499825341848 tw16870888496453310553 tw6545322842968784674 tw14046213622888226201 tw16828520191412986008 tw7922670401029894243 tw11824115209492285038 tw16154063990253901333 tw14306674553673135060 tw2551489231772555595 tw460196756354832142 tw13611634138093595911 tw15130444277694080053 tw12748240471104492235 tw3496567613361794888 tw3186049482367806852 tw17221928761971692467 tw965803300075992061 tw585243452281696610 tw8150905067306070219 tw13024564986045269646 tw10254071524290272059 tw15380759468965753930 tw14551004981733996315 tw6988432633116939615 tw16673970147762223879 tw15081273917847083858 tw8606511517089759209 tw15623481438994154664 tw17647701146864292832 tw4839602755417419891 tw18136753816627038166 tw9054366748640509459 tw4204872293682871137 tw12411775960041852884 tw18020609089584417844 tw3847471595350279004 tw3717791806843965895 tw6194936413010618534 tw10612757741767687108 tw104892713937875924 tw10794544123152746817 tw12457995199777586304 tw18122020800934995493 tw10207732479879781208 tw8427209812726390888 tw13715573614281903091 tw8955174964244802681 tw10595822097446228079 tw13941296623990745337 tw8331076257227408871 tw17652009856351667515 tw2958236433160135612 tw4170804934269014890 tw8632400489504301051 tw7365976753788685604 tw1980596870726137860 tw10426916704428572546 tw11595300811895005661 tw17742451942726109413 tw3661614305001739066 tw1561957552160432436 tw1624413739405703985 tw10186124991156249611 tw14196415705755108461 tw7204414246403141542 tw16010605074116995767 tw16734153229576315300 tw586453530167037598 tw9904130972061085673 tw9697036405334322545 tw15865203568439524085 tw10770865009174232266 tw395972441138701462 tw3656752213183589627 tw9179134626666357906 tw14724139931062847894 tw15876702618721856397 tw15609876895272210539 tw15013162060299253354 tw2546510560071629796 tw18180270245724878621 tw9076909296094824219 tw8474063872039995748 tw8585775822682181518 tw8371547797216929991 tw2545906306324976868 tw14022871670913798793 tw4060663300598916527 tw15659012301867215708 tw15179638783367057583 tw17570612207031439709 tw4220973552863838815 tw78962341418253793 tw6914467234734143468 tw6632881365352970862 tw17641882896670190922 tw10761563697103017209 tw10581817322718259763 tw579993882429943330 tw16347772078439259268 tw17472924684801734710 tw742546867975199676 tw12122208336753537712 tw15312144603326278 tw12860024457080491873 tw14927129342902865574 tw14423624424198998682 tw10546590500362770818 tw10825799824232383482 tw6825265816672638878 tw10114727771913414255 tw16477306228435832173 tw12753239602432032521 tw803236205216256085 tw11317528735899553842 tw10406749271816473613 tw8382686698954585525 tw476211611906418356 tw8497958024454915773 tw12437559576128176648 tw6427585281671803482 tw8071019507295606386 tw16778748901622707529 tw8263814833002179886 tw17848612961541499963 tw11284977001361112001 tw15414060875172639038 tw9070735354510457947 tw13179231069517415679 tw13289121563064981465 tw2071355287408032024 tw1464116275752752799 tw5628174322147396741 tw9476107289209146215 tw15383070735440076213 tw16956842397034125862 tw4451235588280546417 tw16228822184282389729 tw15845758646557098505 tw6853784118110014819 tw2951467926761748144 tw17138796719056971548 tw6584239255626405434 tw7542669317306295181 tw3425126179276293132 tw13836876167759903035 tw6134357181807038041 tw7584443679009795155 tw541125659535782990 tw6683064936269777802 tw12374055360644809701 tw1613200263899223273 tw16057915718912369641 tw3653730878223746189 tw1504819600689567506 tw11069665399644900860 tw1406494351607887499 tw8895530262315938992 tw1053424355760132583 tw13792474424255076285 tw8299655195296570715 tw9332772265209241270 tw17866754164711754818 tw15357131209455185538 tw1756811710686275560 tw3590991005196573225 tw14508838524288926962 tw7650350772776257306 tw15993745761535672750 tw3132455677722398039 tw16209298900212367998 tw239575074944978359 tw11060310887992285855 tw17612814146059387727 tw12278198650342554651 tw17159963555856421157 tw10861025836854477946 tw6188050999619020761 tw1552815201590288455 tw13842565692499529028 tw998510337856908005 tw13222820589537295828 tw4792755413051724235 tw9022589576125829572 tw10225805062954583300 tw17370522675982905813 tw7679582870502476686 tw5366206609997833605 tw13876887475293691486 tw16344275590214041774 tw7790094195103503239 tw10306752113496880318 tw9167813530711997506 tw10968092499498141414 tw5364902525086172085 tw13569320806289907907 tw17817243172762509266 tw4929974148881484386 tw5021454035277633047 tw3475765103219585671 tw4891108038576731509 tw2137229521242401382 tw15286429821886684144 tw3962831874447025206 tw1304640057328992944 tw784515686223008667 tw13532891318863196539 tw14822410666639325909 tw11542967897706049844 tw18153774203006828139 tw6539081741299686171 tw8094222395095821525 tw12953822310943649414 tw3683631032953869479 tw5420066052884705240 tw17460705189303376684 tw4389376283241871508 tw8685405814183042541 tw17453737067301279795 tw6804638848508796867 tw18193231344885778943 tw191918183695727064 tw3625281920889807759 tw1863880505940309481 tw13779774674317677117 tw989109393882492947 tw17227514779107261082 tw11496974751880350214 tw6371333432837875976 tw9991916431530263844 tw3799937236819009955 tw16624198191256702247 tw3870394403303896604 tw2585763115951833190 tw3945000360956331548 tw10804044342944881259 tw15644722696122528091 tw545225345177229885 tw5981418457720320614 tw7844375923108257512 tw6305531478487614156 tw9131713462217216234 tw13380874568571388971 tw3334623026039391224 tw11249844092552863300 tw1350899736004882289 tw11808347543804132909 tw17494168561486939649 tw7754336500007818156 tw6490900548333183803 tw5378401733637039185 tw11871742945382777038 tw17923807137342625006 tw1766617285853628641 tw12981222434925819647 tw8305915149285574996 tw11187607636903770667 tw626162336920897138 tw2487849873242882700 tw17183482854903854342 tw13194756905422544421 tw4791828449524980795 tw6456568332704228467 tw12572694692831679583 tw17629584165346810509 tw13437839486896101541 tw9500185840252506118 tw15852434086966969209 tw6447908116715210645 tw1923613349092910195 tw6816921036045387845 tw15039371961519995491 tw14483067127746681461 tw8361200684749844511 tw11690238088934841252 tw8065045951690654889 tw6444293468039613501 tw11472787304252601033 tw15541167000092127231 tw15435740537859036441 tw11763159844488973712 tw10750154668062795716 tw18178684385596860238 tw13667553713531250259 tw11457565105597066214 tw12171752775381059567 tw17050533470927054884 tw3802116136473901093 tw2078006705456033377 tw8308210978594954984 tw398804652684544294 tw4106883630148585615 tw6189007038956816185 tw2534541270191256720 tw4685204545904920947 tw16216224620190285219 tw13023702046458103417 tw606349236793443729 tw11490219872171533174 tw9252565056756180120 tw13084056861249997163 tw633920587416214565 tw4181773048697877204 tw10299420694886590180 tw4223234204345809957 tw16440549080735052253 tw13074952521845194433 tw3504472121522230897 tw7928362463506378207 tw5431511506578986340 tw13092416855071845408 tw10149053485938714125 tw13184227111510326309 tw7652178722902358921 tw14797526742539363657 tw11765784099104655396 tw7976022641058478426 tw17561963428518457794 tw4904125881343669829 tw5787369080661098566 tw4630795961343490284 tw14014594963934138063 tw6607257892137264785 tw204483663303174761 tw1133206739376250315 tw10032215891722939357 tw1558090782111840662 tw13790743841170643088 tw391845733895540512 tw14265657954274136772 tw12852194891823014900 tw15963002210359405388 tw6200253298220129054 tw344548169922852745 tw17154465220567879347 tw18395795414134283731 tw16369671512578959831 tw17305761553609179492 tw9135612334220022156 tw1161602495443197824 tw12540879538807288456 tw14708873075685210732 tw2715199874674937076 tw379161595418382028 tw3435717245659563006 tw13015421246606520924 tw9190365326089378660 tw10051255466483063478 tw11543455624272521265 tw796686874381176417 tw15856963313128071219 tw9375302386122567029 tw5870600146507861637 tw9352802984975584792 tw1161181124945150100 tw17895495904631971844 tw8524595408620591096 tw17794496627961114122 tw2716268910904844825 tw2368679054345025333 tw17576370336673180722 tw4250845915134280633 tw15172583553250755560 tw5516276374747805968 tw13777878892825623213 tw8506300733983333832 tw2809121306329112906 tw4860348567092577882 tw10651755865738305247 tw6799208893534393200 tw11592103794192930519 tw7831050833410436722 tw3286670499039203132 tw3252448870540973824 tw10337148357833267922 tw12003705037637351091 tw6228985694172886908 tw2887324366793665764 tw15476408047734034415 tw16945677413481664178 tw7277954491925339452 tw6179735221954676762 tw15028433333681305010 tw16769752025768602489 tw3210217048604840177 tw7142334073283391890 tw12405444999854977193 tw1465083399938642220 tw12552287530174313291 tw4744108744908644077 tw941782258067483623 tw4553572548985629711 tw11300785114833543677 tw16938835487494984414 tw2267183884635846149 tw2518412374846542032 tw15854539927167325439 tw7332708914209974088 tw220945405002936193 tw14378254946260783209 tw5442039069802325700 tw7881443411873376708 tw9275394492208634646 tw7677279149387860118 tw10983932182516067974 tw12486748282245517778 tw16861692250577156125 tw5148252610832321351 tw14787640293221941541 tw4080039036810723245 tw7159372466343660208 tw14248636278004659976 tw10512830133030851410 tw13384325761111668475 tw11804035275928339769 tw2538310925344518408 tw14216709586042760237 tw5610981258848695496 tw618502748686830669 tw5100142858013755972 tw659402726057646623 tw2570681863386217285 tw2538501978006973830 tw3812530932621948117 tw7490131757346102616 tw18316554375873555458 tw17439032327473341826 tw17391082150835701661 tw18347395119326447972 tw13289861362282403954 tw14317265798877048988 tw3586799281433965358 tw3960481011595321049 tw2801042619029537604 tw8200644770392862119 tw9467400889649626327 tw10707581267221600906 tw10458190290688830506 tw8101322108015862291 tw9411168727355556925 tw16693710991000664344 tw11472688951835116926 tw3689484655921480242 tw186541238039268558 tw10000609375516680600 tw7709875275607084270 tw18145304113124663719 tw4077550047328562363 tw10412369198861197511 tw2529872337431326759 tw12738206565516918543 tw7599440924959971915 tw2366558099568009773 tw13902486124011377059 tw2630989275736620012 tw14669877593013885541 tw14527406169687009823 tw15910893440833921270 tw6074052623518904924 tw5871466444286181600 tw1912679083198414509 tw14425730622841028195 tw16456322974595119677 tw5432710478731691148 tw577575687753138900 tw11904355389651200565 tw11996837457564768304 tw4106607712798885432 tw13931762950350619045 tw12021003147005064434 tw16417735547089376524 tw10997770287752730508 tw17605929643548235519 tw10343454484843195589 tw16317820543552798677 tw5370427245588312033 tw10213686618022878344 tw12509743519347319269 tw2711694493768093742 tw10140142592803117889 tw16461869532240398993 tw3881871078789438346 tw18312874123666152187 tw5851194952657447117 tw18046084920903096565 tw8066273805556969010 tw4412787901522488168 tw10666757366913019748 tw8769474770462695930 tw2981209815026432780 tw5842140544557762138 tw8238300421840984665 tw15770526529087850109 tw7579326206397509443 tw17505518557767143521 tw2079855680676450436 tw2914255570448440281 tw3171022904072573012 tw12284569493789529264 tw6191973036152634671 tw10466235254021827610 tw18384218943234598201 tw4783656304045135404 tw6262262716249100191 tw5202186293283869110 tw3933368739357572190 tw13458457534069116465 tw9417215041444621356 tw9776669624699369967 tw5161924864409872822 tw13831716223543519300 tw1929984281704667564 tw17727015684017099485 tw14646852695141545203 tw16207503573137144145 tw16468648228500905262 tw7193726058833898813 tw8811183993931501418 tw16277203404416025037 tw15207567688192485763 tw5082816323216985269 tw6257835665553334399 tw8264580203662272067 tw3417172874239784772 tw9608026842284789556 tw16183608204950119325 tw666076939188333066 tw8542706074958838146 tw9690615113972409028 tw18372463066444193477 tw15036131692548802568 tw4680486776722324629 tw13659640701484427045 tw14598598761907801904 tw6338360067832343401 tw13954731218654779772 tw871869632286077127 tw14451112864567734424 tw12413323278387380525 tw14783931637204757583 tw1655742653018105756 tw16656242843533351548 tw3996007988489233463 tw13883378954399375132 tw5080018131149547593 tw17400521293950739871 tw11635945467287825196 tw9342002091961823392 tw7902747982262296228 tw3853538624708937609 tw16967085053024201864 tw8774705672778235314 tw13527563689164605444 tw7260404308026948425 tw9006442387198983643 tw15500854451321363498 tw14858939991066438212 tw8067292421319907735 tw14786761178207768860 tw5743450847856177483 tw7069042724935477739 tw17261006923429885844 tw4839747003530389080 tw1151237326833122338 tw13366370529239942881 tw12566485477703077747 tw17627607177111763482 tw13084980397305287447 tw16008312604451470526 tw2727849888591472850 tw13062162625284960514 tw14846512788593599776 tw8866077406253592378 tw9151352909769165846 tw2732050382439597933 tw9115227016719338541 tw3578389236772934088 tw14301404211616208597 tw13822767993052947182 tw4415401840912990030 tw4472747669817066162 tw11526949617271186967 tw1727054318334157187 tw12214110857763131432 tw13642175412012037765 tw2014195627482157502 tw6448618577952756868 tw13050612150615999608 tw7069133871435769033 tw7310142908774469838 tw17166093596370934063 tw6517952666884462606 tw5495315537841164805 tw13152289670086284239 tw141407259067062726 tw10624858193258593918 tw4340684127396274825 tw15443430526727548601 tw10738239962308984160 tw4400973612797285257 tw3204061425836806986 tw8736933020080993129 tw4879916783595092534 tw13170134407920077834 tw16437133997967927071 tw9688764926978933691 tw10628150083230819111 tw5779259108312107888 tw16864103800261827907 tw16386762114010180057 tw4485156874621573395 tw12061327589641614843 tw5048983183775338355 tw17057528699462515674 tw16039016185937054923 tw14055948432393955853 tw6806412073112622812 tw11461655288340361910 tw55716333520449668 tw1359434988673206075 tw12199892675021916144 tw3695523986607243551 tw977589769102579942 tw18350325872501579258 tw8374101929482813673 tw9753325433977850528 tw18124295543487150964 tw7954477209291296416 tw1094198466215080150 tw9135777922206522364 tw14692227745045513532 tw11235544777166613915 tw6863213071379138660 tw17161103783058714544 tw11950995515281004320 tw4716673720444921884 tw5214090916024861631 tw3730364031101966846 tw11199235931252574463 tw6277632666785555014 tw9115928193873374241 tw14343482342456182674 tw5418303628967170731 tw17316319179188461785 tw16918073439562852084 tw2722829467582790486 tw2938645233480629638 tw5459482524374879334 tw17123054773055347150 tw8834739331106805118 tw16848621741443570490 tw4515061218234714417 tw1802969295589490621 tw1343275442799212876 tw13970930188959284933 tw9164372731091971635 tw6969590749039456042 tw14315949454628115249 tw3836736816825532442 tw8816853740734921952 tw9692293142122808255 tw14407957053973989047 tw7689133190601884353 tw14541069461743711656 tw8469297274431351532 tw17875553056309154748 tw15629266032170741195 tw2382856717992196688 tw21575946989740283 tw17874905805576359874 tw17166042680894534513 tw2476903134520521776 tw7848692285367508709 tw10486160256408386099 tw6258248337711974170 tw2951575821329442314 tw14247384259049953533 tw16634439283523048465 tw7968899270003654965 tw6200761081039226696 tw17192820403552416975 tw8159301284077233519 tw4163675843834103905 tw6938778706147984725 tw2586524758780210767 tw10985637468808350505 tw5103058086182433396 tw8519976508944454160 tw15071833080062918196 tw17603104920930525814 tw14307738405747042794 tw17508183884235157530 tw11049692139562753131 tw17265157209183396109 tw5834037601652356409 tw7313430590897554914 tw7365220954723894937 tw16454694114503052409 tw16236872617224030826 tw16377685531561280743 tw1415261450989161873 tw17378439865287978378 tw5035116074109613376 tw390375382653642448 tw4149662776562041279 tw454914306659260864 tw1609665401007651030 tw2196736584489466477 tw8177309542205498809 tw4808574968826944208 tw7884321307685551699 tw6940734772651975753 tw15588797655440406373 tw1022942532354179461 tw5859568341188045286 tw9879778409743962658 tw12201675164750050869 tw10671837048534961597 tw1434031618384738905 tw12223154765762152381 tw3879250991501205960 tw13373769485612927608 tw7220715735444562699 tw6823940068500803430 tw3153805181837178300 tw12071072401021947764 tw8688601424776136816 tw113479580216385096 tw10899386680999734361 tw13214166609778295527 tw5580941974212800707 tw4886969586198404676 tw16983225434127931639 tw7781341657376518573 tw2098222622597426548 tw8061920722346405241 tw11292184603200743729 tw12363566312832919371 tw9466136460048766035 tw9607390187755896250 tw3468160143355126730 tw7355689756502967518 tw2663126022807478386 tw3004793665383477322 tw17731171502016306515 tw5111738768479342522 tw16315235164263660193 tw5070074867019727558 tw13855358962943596274 tw11461783057104160729 tw5962193961746610444 tw14947665839219593107 tw3317334627780365918 tw16664642652707877239 tw14424413360343006031 tw14108929615303613547 tw9074201294473839932 tw4597060946782956949 tw9402171603895662770 tw2267304336477505159 tw10606065680190334935 tw6882679835743915211 tw9878024052069732130 tw17640545374182322913 tw454355881042442559 tw2044425617580349538 tw8067011529959259654 tw10013645823950940791 tw3384149057040225269 tw3736888596602425899 tw3528797486766998192 tw8105412475175892104 tw14071786929133647029 tw5193690040878757350 tw2444234553783796760 tw15379163319724976706 tw17516731147377438889 tw12835211155661817246 tw6216157213621639257 tw2215096202580470291 tw7179572960250617137 tw15935883629820050409 tw14119431694768157962 tw5862053101666167196 tw1586821630273215404 tw10057536749775571827 tw14430517464489091665 tw6388536772554352999 tw14862765493699538254 tw1934232959127672841 tw16930587631236256505 tw6620994784096975258 tw1522434962352476046 tw13913945463926148807 tw10754586554333511464 tw11136468564889090331 tw17902650222622474484 tw7082070344472936327 tw483210711599560954 tw5785637506853487575 tw837465602853930868 tw12036789052936735224 tw5926024654912490250 tw18326316359430603960 tw7258064173526884171 tw11880083843207556646 tw1175147078185900366 tw12987896322931936730 tw12638017141092465646 tw6551998719809398493 tw13716373332975873588 tw8587252707280341423 tw1343954895618859296 tw2962756022426765867 tw17057773549324633540 tw16090472808824900570 tw15973637430810925881 tw9729757932815539620 tw15173923000822565509 tw14108804453093448379 tw1150938983959580677 tw9201991363787198376 tw12800760651933276448 tw6598527126401126931 tw14643439760063363322 tw65582729320861206 tw8301976245909979104 tw18072123647338153193 tw10002843652815078067 tw11920613560498114715 tw4514176545451734127 tw7925746300047054591:True)
open PySem PySem.W PyProof.Rows
set_option maxRecDepth 100000 in
set_option maxHeartbeats 0 in
theorem PySem.Challenge.cw_rowjudge_k64_stacked_holds : PySem.Challenge.rw_rowjudge_k64_stacked.Holds := by
 w_on;o_law;k_head;(case hw=>w_witness2)
 k_fill
 refine My.walk (l:=PySem.Challenge.rw_rowjudge_k64_stacked) rfl rfl (fun w h Y=>PySem.W.kIn_of Y) ?F
 case F =>
  intro w mg fa h KX G hmg
  refine' My.all_mk KX G hmg ?di ?eZ ?fb ?fZ ?gc ?gf ?gh ?gG ?ko ?kq ?oO ?kr ?oP ?dW ?dN ?gH ?gJ ?r9 ?pX ?pY ?pZ ?p8 ?nu ?nv ?nA ?a0 ?l0 ?c0 ?k0 ?a1 ?l1 ?c1 ?k1 ?a2 ?l2 ?c2 ?k2 ?a3 ?l3 ?c3 ?k3 ?a4 ?l4 ?c4 ?k4 ?a5 ?l5 ?c5 ?k5 ?a6 ?l6 ?c6 ?k6 ?a7 ?l7 ?c7 ?k7 ?a8 ?l8 ?c8 ?k8 ?a9 ?l9 ?c9 ?k9 ?a10 ?l10 ?c10 ?k10 ?a11 ?l11 ?c11 ?k11 ?a12 ?l12 ?c12 ?k12 ?a13 ?l13 ?c13 ?k13 ?a14 ?l14 ?c14 ?k14 ?a15 ?l15 ?c15 ?k15 ?a16 ?l16 ?c16 ?k16 ?a17 ?l17 ?c17 ?k17 ?a18 ?l18 ?c18 ?k18 ?a19 ?l19 ?c19 ?k19 ?a20 ?l20 ?c20 ?k20 ?a21 ?l21 ?c21 ?k21 ?a22 ?l22 ?c22 ?k22 ?a23 ?l23 ?c23 ?k23 ?a24 ?l24 ?c24 ?k24 ?a25 ?l25 ?c25 ?k25 ?a26 ?l26 ?c26 ?k26 ?a27 ?l27 ?c27 ?k27 ?a28 ?l28 ?c28 ?k28 ?a29 ?l29 ?c29 ?k29 ?a30 ?l30 ?c30 ?k30 ?a31 ?l31 ?c31 ?k31 ?a32 ?l32 ?c32 ?k32 ?a33 ?l33 ?c33 ?k33 ?a34 ?l34 ?c34 ?k34 ?a35 ?l35 ?c35 ?k35 ?a36 ?l36 ?c36 ?k36 ?a37 ?l37 ?c37 ?k37 ?a38 ?l38 ?c38 ?k38 ?a39 ?l39 ?c39 ?k39 ?a40 ?l40 ?c40 ?k40 ?a41 ?l41 ?c41 ?k41 ?i42 ?zD ?zE ?zF ?l42 ?c42 ?k42 ?i43 ?zG ?zH ?zI ?l43 ?c43 ?k43 ?vE ?vF ?vG ?l44 ?c44 ?k44 ?i45 ?zJ ?zK ?zL ?l45 ?c45 ?k45 ?vH ?vI ?vJ ?l46 ?c46 ?k46 ?i47 ?zM ?zN ?zO ?l47 ?c47 ?k47 ?vK ?vL ?vM ?l48 ?c48 ?k48 ?i49 ?zP ?zQ ?zR ?l49 ?c49 ?k49 ?vO ?vP ?vQ ?l50 ?c50 ?k50 ?i51 ?zS ?zT ?zU ?l51 ?c51 ?k51 ?vR ?vS ?vT ?l52 ?c52 ?k52 ?i53 ?zV ?zW ?zX ?l53 ?c53 ?k53 ?vU ?vV ?vW ?l54 ?c54 ?k54 ?m55 ?zY ?l55 ?c55 ?k55 ?m56 ?zZ ?l56 ?c56 ?k56 ?i57 ?Aa ?Ab ?Ac ?l57 ?c57 ?k57 ?vX ?vY ?vZ ?l58 ?c58 ?k58 ?i59 ?Ad ?Ae ?Af ?l59 ?c59 ?k59 ?v9 ?wa ?wb ?l60 ?c60 ?k60 ?m61 ?Ag ?l61 ?c61 ?k61 ?m62 ?Ah ?l62 ?c62 ?k62 ?m63 ?Ai ?l63 ?c63 ?k63 ?m64 ?Aj ?l64 ?c64 ?k64 ?m65 ?Ak ?l65 ?c65 ?k65 ?m66 ?Al ?l66 ?c66 ?k66 ?m67 ?Am ?l67 ?c67 ?k67 ?m68 ?An ?l68 ?c68 ?k68 ?m69 ?Ao ?l69 ?c69 ?k69 ?m70 ?Ap ?l70 ?c70 ?k70 ?m71 ?Aq ?l71 ?c71 ?k71 ?m72 ?Ar ?l72 ?c72 ?k72 ?a73 ?l73 ?c73 ?k73 ?z0 ?z1 ?z2 ?z3 ?z4 ?z5 ?z6 ?z7 ?z8 ?z9 ?z10 ?z11 ?z12 ?z13 ?z14 ?z15 ?z16 ?y0 ?x0 ?y1 ?x1 ?y2 ?x2 ?y3 ?x3 ?y4 ?x4 ?x_BadName ?iO ?iP ?iQ ?iR ?iS ?iT ?iU ?iV ?x_TooMany ?iW ?iX ?iY ?iZ ?i7 ?ja ?jb ?jc ?x_BadWay ?kD ?kE ?kF ?kG ?kH ?kI ?kJ ?kK ?x_BadRow ?kL ?kM ?kN ?kO ?kP ?kQ ?kR ?kS ?x_Unlike ?kT ?kU ?kW ?kX ?kY ?kZ ?lg ?lh ?jQ ?jR ?jS ?jT ?lZ ?ma ?md ?mf ?mh ?mi ?mj ?ml ?qc ?qd ?qe ?qf ?mm ?mq ?mr ?mw ?qg ?qh ?qi ?qj ?fG ?fH ?fI ?fJ ?jU ?jV ?jW ?jX ?jY ?jZ ?j3 ?j4 ?nB ?nC ?nE ?nF ?qk ?ql ?qm ?qo ?qp ?qq ?qr ?qt ?se ?sf ?si ?sj ?qu ?qv ?qy ?qz ?sk ?sr ?sv ?sx ?jd ?je ?jf ?jg ?nG ?nH ?nI ?nJ ?nK ?nM ?nN ?nO ?na_First_called ?na_Only_called ?na_Like_called ?na_Low_called ?na_High_called ?na_Sum_called ?na_Numbers_low ?na_Numbers_high ?cC ?na_Words_low ?na_Words_high ?na_Words_words ?na_Table_name ?na_Table_names ?na_Table_domains ?na_Table_outcome ?na_Table_way ?na_Table_rows ?f_nn ?f_wn ?f_ww ?f_tt ?f_nw ?gK ?gL ?cm ?cn ?cD ?cE ?cF ?e_TooMany ?v_TooMany ?g_TooMany_BadName ?g_TooMany_TooMany ?cG ?g_TooMany_BadRow ?g_TooMany_Unlike ?jB ?jC ?cH ?cI ?cP ?cQ ?cR ?jD ?jE ?cJ ?cK ?cS ?cU ?cV ?e_Unlike ?v_Unlike ?g_Unlike_BadName ?g_Unlike_TooMany ?cX ?g_Unlike_BadRow ?g_Unlike_Unlike
  (case di | eZ | fb | fZ | gc | gf | gh | gG | ko | kq | oO | kr | oP | dW | dN | gH | gJ | r9 | pX=>k_is)
  (case pY=>decide)
  (case pZ=>exact (.cons ⟨_,rfl⟩ (.cons ⟨_,rfl⟩ .nil)))
  (case p8 | nu=>k_is)
  (case nv=>decide)
  (case nA=>exact (.cons ⟨_,rfl⟩ (.cons ⟨_,rfl⟩ .nil)))
  (case a0=>k_is);(case l0=>k_is);(case c0=>k_is);(case k0=>k_is)
  (case a1=>k_is);(case l1=>k_is);(case c1=>k_is);(case k1=>k_is)
  (case a2=>k_is);(case l2=>k_is);(case c2=>k_is);(case k2=>k_is)
  (case a3=>k_is);(case l3=>k_is);(case c3=>k_is);(case k3=>k_is)
  (case a4=>k_is);(case l4=>k_is);(case c4=>k_is);(case k4=>k_is)
  (case a5=>k_is);(case l5=>k_is);(case c5=>k_is);(case k5=>k_is)
  (case a6=>k_is);(case l6=>k_is);(case c6=>k_is);(case k6=>k_is)
  (case a7=>k_is);(case l7=>k_is);(case c7=>k_is);(case k7=>k_is)
  (case a8=>k_is);(case l8=>k_is);(case c8=>k_is);(case k8=>k_is)
  (case a9=>k_is);(case l9=>k_is);(case c9=>k_is);(case k9=>k_is)
  (case a10=>k_is);(case l10=>k_is);(case c10=>k_is);(case k10=>k_is)
  (case a11=>k_is);(case l11=>k_is);(case c11=>k_is);(case k11=>k_is)
  (case a12=>k_is);(case l12=>k_is);(case c12=>k_is);(case k12=>k_is)
  (case a13=>k_is);(case l13=>k_is);(case c13=>k_is);(case k13=>k_is)
  (case a14=>k_is);(case l14=>k_is);(case c14=>k_is);(case k14=>k_is)
  (case a15=>k_is);(case l15=>k_is);(case c15=>k_is);(case k15=>k_is)
  (case a16=>k_is);(case l16=>k_is);(case c16=>k_is);(case k16=>k_is)
  (case a17=>k_is);(case l17=>k_is);(case c17=>k_is);(case k17=>k_is)
  (case a18=>k_is);(case l18=>k_is);(case c18=>k_is);(case k18=>k_is)
  (case a19=>k_is);(case l19=>k_is);(case c19=>k_is);(case k19=>k_is)
  (case a20=>k_is);(case l20=>k_is);(case c20=>k_is);(case k20=>k_is)
  (case a21=>k_is);(case l21=>k_is);(case c21=>k_is);(case k21=>k_is)
  (case a22=>k_is);(case l22=>k_is);(case c22=>k_is);(case k22=>k_is)
  (case a23=>k_is);(case l23=>k_is);(case c23=>k_is);(case k23=>k_is)
  (case a24=>k_is);(case l24=>k_is);(case c24=>k_is);(case k24=>k_is)
  (case a25=>k_is);(case l25=>k_is);(case c25=>k_is);(case k25=>k_is)
  (case a26=>k_is);(case l26=>k_is);(case c26=>k_is);(case k26=>k_is)
  (case a27=>k_is);(case l27=>k_is);(case c27=>k_is);(case k27=>k_is)
  (case a28=>k_is);(case l28=>k_is);(case c28=>k_is);(case k28=>k_is)
  (case a29=>k_is);(case l29=>k_is);(case c29=>k_is);(case k29=>k_is)
  (case a30=>k_is);(case l30=>k_is);(case c30=>k_is);(case k30=>k_is)
  (case a31=>k_is);(case l31=>k_is);(case c31=>k_is);(case k31=>k_is)
  (case a32=>k_is);(case l32=>k_is);(case c32=>k_is);(case k32=>k_is)
  (case a33=>k_is);(case l33=>k_is);(case c33=>k_is);(case k33=>k_is)
  (case a34=>k_is);(case l34=>k_is);(case c34=>k_is);(case k34=>k_is)
  (case a35=>k_is);(case l35=>k_is);(case c35=>k_is);(case k35=>k_is)
  (case a36=>k_is);(case l36=>k_is);(case c36=>k_is);(case k36=>k_is)
  (case a37=>k_is);(case l37=>k_is);(case c37=>k_is);(case k37=>k_is)
  (case a38=>k_is);(case l38=>k_is);(case c38=>k_is);(case k38=>k_is)
  (case a39=>k_is);(case l39=>k_is);(case c39=>k_is);(case k39=>k_is)
  (case a40=>k_is);(case l40=>k_is);(case c40=>k_is);(case k40=>k_is)
  (case a41=>k_is);(case l41=>k_is);(case c41=>k_is);(case k41=>k_is)
  (case i42=>k_is);(case zD=>k_is);(case zE=>k_is);(case zF=>k_is);(case l42=>k_is);(case c42=>k_is);(case k42=>k_is)
  (case i43=>k_is);(case zG=>k_is);(case zH=>k_is);(case zI=>k_is);(case l43=>k_is);(case c43=>k_is);(case k43=>k_is)
  (case vE=>k_is);(case vF=>k_is);(case vG=>k_is);(case l44=>k_is);(case c44=>k_is);(case k44=>k_is)
  (case i45=>k_is);(case zJ=>k_is);(case zK=>k_is);(case zL=>k_is);(case l45=>k_is);(case c45=>k_is);(case k45=>k_is)
  (case vH=>k_is);(case vI=>k_is);(case vJ=>k_is);(case l46=>k_is);(case c46=>k_is);(case k46=>k_is)
  (case i47=>k_is);(case zM=>k_is);(case zN=>k_is);(case zO=>k_is);(case l47=>k_is);(case c47=>k_is);(case k47=>k_is)
  (case vK=>k_is);(case vL=>k_is);(case vM=>k_is);(case l48=>k_is);(case c48=>k_is);(case k48=>k_is)
  (case i49=>k_is);(case zP=>k_is);(case zQ=>k_is);(case zR=>k_is);(case l49=>k_is);(case c49=>k_is);(case k49=>k_is)
  (case vO=>k_is);(case vP=>k_is);(case vQ=>k_is);(case l50=>k_is);(case c50=>k_is);(case k50=>k_is)
  (case i51=>k_is);(case zS=>k_is);(case zT=>k_is);(case zU=>k_is);(case l51=>k_is);(case c51=>k_is);(case k51=>k_is)
  (case vR=>k_is);(case vS=>k_is);(case vT=>k_is);(case l52=>k_is);(case c52=>k_is);(case k52=>k_is)
  (case i53=>k_is);(case zV=>k_is);(case zW=>k_is);(case zX=>k_is);(case l53=>k_is);(case c53=>k_is);(case k53=>k_is)
  (case vU=>k_is);(case vV=>k_is);(case vW=>k_is);(case l54=>k_is);(case c54=>k_is);(case k54=>k_is)
  (case m55=>k_is);(case zY=>k_is);(case l55=>k_is);(case c55=>k_is);(case k55=>k_is)
  (case m56=>k_is);(case zZ=>k_is);(case l56=>k_is);(case c56=>k_is);(case k56=>k_is)
  (case i57=>k_is);(case Aa=>k_is);(case Ab=>k_is);(case Ac=>k_is);(case l57=>k_is);(case c57=>k_is);(case k57=>k_is)
  (case vX=>k_is);(case vY=>k_is);(case vZ=>k_is);(case l58=>k_is);(case c58=>k_is);(case k58=>k_is)
  (case i59=>k_is);(case Ad=>k_is);(case Ae=>k_is);(case Af=>k_is);(case l59=>k_is);(case c59=>k_is);(case k59=>k_is)
  (case v9=>k_is);(case wa=>k_is);(case wb=>k_is);(case l60=>k_is);(case c60=>k_is);(case k60=>k_is)
  (case m61=>k_is);(case Ag=>k_is);(case l61=>k_is);(case c61=>k_is);(case k61=>k_is)
  (case m62=>k_is);(case Ah=>k_is);(case l62=>k_is);(case c62=>k_is);(case k62=>k_is)
  (case m63=>k_is);(case Ai=>k_is);(case l63=>k_is);(case c63=>k_is);(case k63=>k_is)
  (case m64=>k_is);(case Aj=>k_is);(case l64=>k_is);(case c64=>k_is);(case k64=>k_is)
  (case m65=>k_is);(case Ak=>k_is);(case l65=>k_is);(case c65=>k_is);(case k65=>k_is)
  (case m66=>k_is);(case Al=>k_is);(case l66=>k_is);(case c66=>k_is);(case k66=>k_is)
  (case m67=>k_is);(case Am=>k_is);(case l67=>k_is);(case c67=>k_is);(case k67=>k_is)
  (case m68=>k_is);(case An=>k_is);(case l68=>k_is);(case c68=>k_is);(case k68=>k_is)
  (case m69=>k_is);(case Ao=>k_is);(case l69=>k_is);(case c69=>k_is);(case k69=>k_is)
  (case m70=>k_is);(case Ap=>k_is);(case l70=>k_is);(case c70=>k_is);(case k70=>k_is)
  (case m71=>k_is);(case Aq=>k_is);(case l71=>k_is);(case c71=>k_is);(case k71=>k_is)
  (case m72=>k_is);(case Ar=>k_is);(case l72=>k_is);(case c72=>k_is);(case k72=>k_is)
  (case a73=>k_is);(case l73=>k_is);(case c73=>k_is);(case k73=>k_is)
  (case z0 | z1 | z2 | z3 | z4 | z5 | z6 | z7 | z8 | z9 | z10 | z11 | z12 | z13 | z14 | z15 | z16 | y0=>k_is)
  (case x0=>exact ⟨_,rfl⟩)
  (case y1=>k_is)
  (case x1=>exact ⟨_,rfl⟩)
  (case y2=>k_is)
  (case x2=>exact ⟨_,rfl⟩)
  (case y3=>k_is)
  (case x3=>exact ⟨_,rfl⟩)
  (case y4=>k_is)
  (case x4=>exact ⟨_,rfl⟩)
  (case jQ | jR | jS | jT | lZ | ma | md | mf | mh | mi | mj | ml | qc | qd | qe | qf | mm | mq | mr | mw | qg | qh | qi | qj | fG | fH | fI | fJ | jU | jV | jW | jX | jY | jZ | j3 | j4 | nB | nC | nE | nF | qk | ql | qm | qo | qp | qq | qr | qt | se | sf | si | sj | qu | qv | qy | qz | sk | sr | sv | sx | jd | je | jf | jg | nG | nH | nI | nJ | nK | nM | nN | nO | na_First_called | na_Only_called | na_Like_called | na_Low_called | na_High_called | na_Sum_called | na_Numbers_low | na_Numbers_high | cC | na_Words_low | na_Words_high | na_Words_words | na_Table_name | na_Table_names | na_Table_domains | na_Table_outcome | na_Table_way | na_Table_rows=>first | k_is | rfl | with_unfolding_all rfl)
  (case x_BadName=>first | rfl | with_unfolding_all rfl)
  (case iO | iP | iQ | iR | iS | iT | iU | iV=>first | k_is | rfl | with_unfolding_all rfl)
  (case x_TooMany=>first | rfl | with_unfolding_all rfl)
  (case iW | iX | iY | iZ | i7 | ja | jb | jc=>first | k_is | rfl | with_unfolding_all rfl)
  (case x_BadWay=>first | rfl | with_unfolding_all rfl)
  (case kD | kE | kF | kG | kH | kI | kJ | kK=>first | k_is | rfl | with_unfolding_all rfl)
  (case x_BadRow=>first | rfl | with_unfolding_all rfl)
  (case kL | kM | kN | kO | kP | kQ | kR | kS=>first | k_is | rfl | with_unfolding_all rfl)
  (case x_Unlike=>first | rfl | with_unfolding_all rfl)
  (case kT | kU | kW | kX | kY | kZ | lg | lh | f_nn | f_wn | f_ww | f_tt | f_nw | gK | gL | cm | cn | cD | cE | cF | e_TooMany | v_TooMany | g_TooMany_BadName | g_TooMany_TooMany | cG | g_TooMany_BadRow | g_TooMany_Unlike | jB | jC | cH | cI | cP | cQ | cR | jD | jE | cJ | cK | cS | cU | cV | e_Unlike | v_Unlike | g_Unlike_BadName | g_Unlike_TooMany | cX | g_Unlike_BadRow | g_Unlike_Unlike=>first | k_is | rfl | with_unfolding_all rfl)
