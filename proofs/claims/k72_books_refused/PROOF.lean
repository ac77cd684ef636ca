import PyProof.Rows.All
import Wide.All
import OpenK.AllK
import Wide.FinOn
import Lean
import PyProof.EqAt
import PyProof.EqKinds
import PyProof.TupleCall
import KE.KIntText
import KE.KTryMore
import KE.KIsAll
import PyProof.ZipIter
import KE.KRevIter
import PyProof.AttrMissHeap
import KE.KDictOf
import PyProof.DictUpdate
import PyProof.DictList
import PySem.Challenge.RW_rowjudge_k72_books_refused
open List (length_map map_append mem_map mem_append mem_cons take_length getElem?_map forall_mem_cons length_take length_append size_toArray mem_singleton mem_cons_self mem_append_right mem_cons_of_mem forall_mem_nil length_replicate nodup_cons mem_append_left length_range getElem?_of_mem mem_range length_cons getElem?_append_left all_eq_true append_nil getElem?_eq_none length_filter_le mem_filter filterMap_cons map_cons range_succ length_eq_zero_iff getElem?_append_right map_map append_assoc all_cons ext_getElem? nodup_iff_pairwise_ne mem_of_mem_take take_append_drop getElem?_set_self getElem?_replicate length_drop any_cons getElem_mem not_mem_nil pairwise_map getElem?_set_ne mem_filterMap nodup_append lookup_cons getElem?_range nodup_nil nodup_range filter_nil of_mem_zip)
open Nat (ne_of_lt le_refl lt_of_lt_of_le le_trans le_of_lt zero_le ne_of_gt le_succ lt_irrefl lt_succ_self le_of_eq lt_succ_of_lt lt_trans mod_lt)
open Int (emod_nonneg emod_lt_of_pos toNat_natCast toNat_of_nonneg zero_add)
open Bool (and_eq_true eq_false_iff or_eq_true)
open Option (isSome_iff_exists getD_none)
open Array (length_toList)
set_option Elab.async false
set_option linter.all false
set_option maxRecDepth 100000
theorem Jw{α:Type _}{l:List α}{i:Nat}(h:i<l.length):l[i]?=some l[i]:=List.getElem?_eq_getElem h
theorem Jx{α:Type _}{a:α}{l:List α}{i:Nat}:l[i]?=some a ↔ ∃h:i<l.length, l[i]=a:=List.getElem?_eq_some_iff
theorem Jy{α:Type _}{l:List α}{i:Nat}{a:α}(e:l[i]?=some a):a∈l:=List.mem_of_getElem? e
namespace L2
theorem U{α:Sort _}{a:α}:a=a:=rfl
open PySem PySem.Spec PyProof.Rows
abbrev Key:=Sum Int Str
def qI:Key->Value->Bool
 | .inl k,v=>Value.isInt k v
 | .inr x,v=>Value.isStrOf x v
def AM(w:World):Key->Int
 | .inl k=>hashInt k
 | .inr x=>hashStr w x
theorem cq:∀{k:Key}{v:Value},qI k v=true->(∃i t,k=Sum.inl i/\v=Value.int i t)\/(∃x t,k=Sum.inr x/\v=Value.str x t)
 | .inl i,v,h=>by
  obtain⟨t,e⟩:=Value.isInt_shape (k:=i) (v:=v) h;exact .inl ⟨i,t,U,e⟩
 | .inr x,v,h=>by
  obtain⟨t,e⟩:=Value.isStrOf_shape (x:=x) (v:=v) h;exact .inr ⟨x,t,U,e⟩
theorem rf(x:Str)(t:Tok):qI (.inr x) (.str x t)=true:=by simp[qI,Value.isStrOf]
theorem we(a b:Int):decide ((Sum.inl a:Key)=Sum.inl b)=(a == b):=by
 by_cases e:a=b
 ·subst e;simp
 ·have h:¬ (Sum.inl a:Key)=Sum.inl b:=λq=>e (Sum.inl.inj q)
  rw[decide_eq_false h];exact(beq_eq_false_iff_ne.mpr e).symm
theorem wg(a b:Str):decide ((Sum.inr a:Key)=Sum.inr b)=decide (a=b):=by
 by_cases e:a=b
 ·subst e;simp
 ·have h:¬ (Sum.inr a:Key)=Sum.inr b:=λq=>e (Sum.inr.inj q)
  rw[decide_eq_false h,decide_eq_false e]
theorem wj(a:Int)(b:Str):decide ((Sum.inl a:Key)=Sum.inr b)=false:=decide_eq_false (λq=>nomatch q)
theorem wm(a:Str)(b:Int):decide ((Sum.inr a:Key)=Sum.inl b)=false:=decide_eq_false (λq=>nomatch q)
def jl(prog:Program)(w:World):PySem.KeyKind prog w Key where
 is:=qI
 hash:=AM w
 inj:=λv a b ha hb=>by
  rcases cq ha with⟨i,t,rfl,rfl⟩|⟨x,t,rfl,rfl⟩
  ·rcases cq hb with⟨j,u,rfl,e⟩|⟨y,u,rfl,e⟩
   ·injection e with e1 _;rw[e1]
   ·exact nomatch e
  ·rcases cq hb with⟨j,u,rfl,e⟩|⟨y,u,rfl,e⟩
   ·exact nomatch e
   ·injection e with e1 _;rw[e1]
 byValue:=λk v h=>by
  rcases cq h with⟨i,t,rfl,rfl⟩|⟨x,t,rfl,rfl⟩ <;> rfl
 pyHash:=λhv h=>by
  rcases cq hv with⟨i,t,rfl,rfl⟩|⟨x,t,rfl,rfl⟩
  ·exact wpAny_pyHash_int h
  ·exact wpAny_pyHash_str h
 eqBool:=λhu hv h=>by
  rcases cq hu with⟨i,t,rfl,rfl⟩|⟨x,t,rfl,rfl⟩
  ·rcases cq hv with⟨j,u,rfl,rfl⟩|⟨y,u,rfl,rfl⟩
   ·rw[we]at h;exact wpAny_eqBool_int h
   ·rw[wj]at h;exact SeqAt.EqAt.int_str i t y u _ _ _ _ h
  ·rcases cq hv with⟨j,u,rfl,rfl⟩|⟨y,u,rfl,rfl⟩
   ·rw[wm]at h;exact SeqAt.EqAt.str_int x t j u _ _ _ _ h
   ·rw[wg]at h;exact wpAny_eqBool_str h
 «strs»:=λk x t v h=>by
  rcases cq h with⟨i,u,rfl,e⟩|⟨y,u,rfl,e⟩
  ·exact nomatch e
  ·injection e with e1 _;subst e1;cases v <;> rfl
theorem ko(prog:Program)(w:World)(x:Str)(t:Tok):(jl prog w).is (.inr x) (.str x t)=true:=rf x t
inductive V where
 |non|bl (b:Bool)|int (i:Int)|str (x:Str)|byt (b:Array UInt8)|flt (b:UInt64)|ref (a:Addr)|ty (n:String)
 deriving DecidableEq
def RelV:V->Value->Prop
 | .non,u=>u=Value.none
 | .bl b,u=>u=Value.bool b
 | .int i,u=>∃t,u=Value.int i t
 | .str x,u=>∃t,u=Value.str x t
 | .byt b,u=>∃t,u=Value.bytes b t
 | .flt b,u=>∃t,u=Value.float b t
 | .ref a,u=>u=Value.ref a
 | .ty n,u=>u=Value.type n
abbrev Vals:List V->List Value->Prop:=Paired RelV
theorem Vals.length{xs:List V}{us:List Value}(r:Vals xs us):xs.length=us.length:=Paired.length r
theorem Vals.get:∀{xs:List V}{us:List Value}{i:Nat}{x:V},Vals xs us->xs[i]?=some x->∃u,us[i]?=some u/\RelV x u
 |_,_,_,_,.nil,e=>by simp at e
 |_,_,0,_,.cons r _,e=>by simp at e;subst e;exact⟨_,U,r⟩
 |_,_,i+1,x,.cons _ t,e=>by
  obtain⟨u,h1,h2⟩:=Vals.get (i:=i) (x:=x) t (by simpa using e);exact⟨u,by simpa using h1,h2⟩
theorem Vals.append:∀{xs ys:List V}{us ws:List Value},Vals xs us->Vals ys ws->Vals (xs++ys) (us++ws)
 |_,_,_,_,.nil,s=>s
 |_,_,_,_,.cons r t,s=>.cons r (Vals.append t s)
theorem Vals.take:∀{xs:List V}{us:List Value}(n:Nat),Vals xs us->Vals (xs.take n) (us.take n)
 |_,_,0,_=>.nil
 |_,_,_+1,.nil=>.nil
 |_,_,n+1,.cons r t=>.cons r (Vals.take n t)
theorem Vals.drop:∀{xs:List V}{us:List Value}(n:Nat),Vals xs us->Vals (xs.drop n) (us.drop n)
 |_,_,0,r=>r
 |_,_,_+1,.nil=>.nil
 |_,_,n+1,.cons _ t=>Vals.drop n t
def mq:Option V->Option Value->Prop
 |some v,some u=>RelV v u
 |none,none=>True
 |_,_=>False
def KV{κ:Type}:List (κ×V)->List (κ×Value)->Prop:=Paired λ(p:κ×V)(q:κ×Value)=>p.1=q.1/\RelV p.2 q.2
def kV:Key->V
 | .inl i=>.int i
 | .inr x=>.str x
inductive HO where
 |lst (xs:List V)
 |tup (xs:List V)
 |dK (kvs:List (Key×V))|dT (kvs:List (List Key×V))
 |set (S:Int->Bool)(n:Nat)
 |ins (C dx:Addr)(fs:List (Str×V))
 |own (x:Addr)
 |xd (fs:List (Str×V))
 |met (f x:Addr)
 |rng (lo hi:Int)
 |frz (o:Obj)(u:HO)
 |tbl (ps:Array Value)
 |ext (φ:Heap->Prop)
abbrev Hp:=Addr->Option HO
def upd(H:Hp)(a:Addr)(o:HO):Hp:=λb=>if b=a then some o else H b
theorem ae{H:Hp}{a:Addr}{o:HO}:upd H a o a=some o:=by unfold upd;rw[if_pos U]
theorem aD{H:Hp}{a b:Addr}{o:HO}(h:b≠a):upd H a o b=H b:=by unfold upd;rw[if_neg h]
theorem bK{H:Hp}{a b:Addr}{o u:HO}(h:H a=some o)(h':H b=some u)(d:o≠u):a≠b:=by
 intro e;subst e;rw[h]at h';exact d (Option.some.inj h')
theorem aV{H:Hp}{a b:Addr}{o:HO}(h:H a=some o)(h':H b=none):a≠b:=by
 intro e;subst e;rw[h]at h';cases h'
section
variable(P:Program)(w:World)
def cX(H:Hp)(h:Heap)(a:Addr):HO->Prop
 | .lst xs=>xs.length<=sizeLine/\∃(its:List Value)(n:Nat),Vals xs its/\h.get? a=some { cls:=.type "list",data:=.seq its.toArray n }
 | .tup xs=>xs.length<=sizeLine/\∃its:List Value,Vals xs its/\IsTup h a its.toArray
 | .dK kvs=>kvs.length<=sizeLine/\(a == sysModules)=false/\∃vs,KV kvs vs/\h.DictOf (jl P w) a vs
 | .dT kvs=>kvs.length<=sizeLine/\(a == sysModules)=false/\∃xs:List (List Key×Addr×Value),
   Paired (λ(p:List Key×V)(q:List Key×Addr×Value)=>p.1=q.1/\H q.2.1=some (.tup (p.1.map kV))/\RelV p.2 q.2.2) kvs xs /\
   ∃o es ep,h.get? a=some o/\o.ExactDict/\o.data=.dict es ep/\es.toList=xs.map (entryOfKey (tupleKind (jl P w)))/\(xs.map (·.1)).Nodup
 | .set S n=>h.SetOf (intKind P w) a S n
 | .ins C dx fs=>H dx=some (.own a)/\fs.length<=1000/\dx≠a/\h.get? a=some (W.instObj C dx) /\
   ∃mA,h.Ns1 dx mA/\(∀f,mq (fs.lookup f) (mA f))/\PySem.Within mA (fs.map (·.1))
 | .own _=>∃o,h.get? a=some o
 | .xd fs=>∃mA,h.Ns1 a mA/\∀f,mq (fs.lookup f) (mA f)
 | .rng lo hi=>∃t u v,h.get? a=some { cls:=.type "range",data:=.fields #[.int lo t,.int hi u,.int 1 v] }
 | .frz o u=>h.get? a=some o/\cX H h a u
 | .tbl ps=>h.get? a=some { cls:=.none,data:=.fields ps }
 | .met f x=>h.get? a=some (W.methodObj (.ref f) (.ref x))
 | .ext φ=>φ h/\(∃o,h.get? a=some o)/\∀h1 h2:Heap,φ h1->(∀o,h1.get? a=some o->h2.get? a=some o)->φ h2
def HOk(H:Hp)(h:Heap):Prop:=∀a o,H a=some o->cX P w H h a o
end
variable{P:Program}{w:World}{H H':Hp}{h h':Heap}{a:Addr}
section
variable{o:HO}
theorem cX.lt(x:cX P w H h a o):a<h.objs.size:=by
 cases o with
 |lst xs=>obtain⟨_,_,_,_,e⟩:=x;exact Heap.lt_size e
 |tup xs=>obtain⟨_,_,_,p⟩:=x;exact p.lt
 |dK kvs=>obtain⟨_,_,_,_,o,_,_,e,_⟩:=x;exact Heap.lt_size e
 |dT kvs=>obtain⟨_,_,_,_,o,_,_,e,_⟩:=x;exact Heap.lt_size e
 |set S n=>obtain⟨o,_,_,_,e,_⟩:=x;exact Heap.lt_size e
 |ins C dx fs=>obtain⟨_,_,_,e,_⟩:=x;exact Heap.lt_size e
 |own y=>obtain⟨_,e⟩:=x;exact Heap.lt_size e
 |xd fs=>obtain⟨_,⟨_,_,_,e,_⟩,_⟩:=x;exact Heap.lt_size e
 |rng lo hi=>obtain⟨_,_,_,e⟩:=x;exact Heap.lt_size e
 |frz ob u=>obtain⟨e,_⟩:=x;exact Heap.lt_size e
 |tbl ps=>exact Heap.lt_size (show h.get? a=some _ from x)
 |met f y=>exact Heap.lt_size (show h.get? a=some _ from x)
 |ext φ=>obtain⟨_,⟨_,e⟩,_⟩:=x;exact Heap.lt_size e
theorem Paired.mapP{α β:Type}{F G:α->β->Prop}:∀{l₁:List α}{l₂:List β},Paired F l₁ l₂->(∀a b,F a b->G a b)->Paired G l₁ l₂
 |_,_,.nil,_=>.nil
 |_,_,.cons r t,f=>.cons (f _ _ r) (Paired.mapP t f)
theorem cX.stay(x:cX P w H h a o)(k:∀b u,(b=a\/H b=some (.own a))->h.get? b=some u->h'.get? b=some u)
  (ho:∀b,H b=some (.own a)->H' b=some (.own a))(ht:∀b xs,H b=some (.tup xs)->H' b=some (.tup xs)):cX P w H' h' a o:=by
 induction o with
 |lst xs=>obtain⟨z,its,n,r,e⟩:=x;exact⟨z,its,n,r,k _ _ (.inl U) e⟩
 |tup xs=>obtain⟨z,its,r,ob,e,c⟩:=x;exact⟨z,its,r,ob,k _ _ (.inl U) e,c⟩
 |dK kvs=>obtain⟨z,y,vs,r,ob,es,ep,e,c⟩:=x;exact⟨z,y,vs,r,ob,es,ep,k _ _ (.inl U) e,c⟩
 |dT kvs =>
  obtain⟨z,y,xs,r,ob,es,ep,e,c⟩:=x;exact⟨z,y,xs,Paired.mapP r λp q z=>⟨z.1,ht _ _ z.2.1,z.2.2⟩,ob,es,ep,k _ _ (.inl U) e,c⟩
 |set S n=>obtain⟨ob,es,ep,t,e,c⟩:=x;exact⟨ob,es,ep,t,k _ _ (.inl U) e,c⟩
 |ins C dx fs =>
  obtain⟨d,z,ne,e,mA,⟨od,es,ep,e2,c⟩,r⟩:=x;exact⟨ho _ d,z,ne,k _ _ (.inl U) e,mA,⟨od,es,ep,k _ _ (.inr d) e2,c⟩,r⟩
 |own y=>obtain⟨ob,e⟩:=x;exact⟨ob,k _ _ (.inl U) e⟩
 |xd fs=>obtain⟨mA,⟨od,es,ep,e,c⟩,r⟩:=x;exact⟨mA,⟨od,es,ep,k _ _ (.inl U) e,c⟩,r⟩
 |rng lo hi=>obtain⟨t,u,v,e⟩:=x;exact⟨t,u,v,k _ _ (.inl U) e⟩
 |frz ob u ih=>obtain⟨e,q⟩:=x;exact⟨k _ _ (.inl U) e,ih q⟩
 |tbl ps =>
  have e:h.get? a=some { cls:=.none,data:=.fields ps }:=x;show h'.get? a=some { cls:=.none,data:=.fields ps };exact k a _ (.inl U) e
 |met f y =>
  have e:h.get? a=some (W.methodObj (.ref f) (.ref y)):=x;show h'.get? a=some (W.methodObj (.ref f) (.ref y));exact k a _ (.inl U) e
 |ext φ=>obtain⟨p,⟨o,e⟩,st⟩:=x;exact⟨st _ _ p λo q=>k _ _ (.inl U) q,⟨o,k _ _ (.inl U) e⟩,st⟩
theorem HOk.lt(x:HOk P w H h)(e:H a=some o):a<h.objs.size:=(x a o e).lt
theorem HOk.fresh(x:HOk P w H h)(e:h.objs.size<=a):H a=none:=by
 cases q:H a with
 |none=>rfl
 |some u=>exact absurd (lt_of_lt_of_le (x.lt q) e) (lt_irrefl _)
theorem HOk.kept(x:HOk P w H h)(k:∀b u,h.get? b=some u->h'.get? b=some u):HOk P w H h':=λa o e =>
 (x a o e).stay (λb u _ q=>k b u q) (λ_ q=>q) λ_ _ q=>q
theorem HOk.laid(x:HOk P w H h)(k:∀b u,h.get? b=some u->h'.get? b=some u)(hp:h.objs.size<=a)(new:cX P w (upd H a o) h' a o):HOk P w (upd H a o) h':=λb u e=>by
 have hn:=x.fresh hp;by_cases hb:b=a
 ·subst hb;rw[ae]at e;cases e;exact new
 ·rw[aD hb]at e;exact(x b u e).stay (λc v _ q=>k c v q) (λc q=>by rw[aD (aV q hn)];exact q) λc xs q=>by rw[aD (aV q hn)];exact q
end
def Rd(H:Hp)(a:Addr)(u:HO):Prop:=H a=some u\/∃o,H a=some (.frz o u)
theorem Rd.ok{P:Program}{w:World}{H:Hp}{h:Heap}{a:Addr}{u:HO}(r:Rd H a u)(x:HOk P w H h):cX P w H h a u:=by
 rcases r with r|⟨o,r⟩
 ·exact x a u r
 ·obtain⟨_,q⟩:=x a _ r;exact q
def Mut:Option HO->Prop
 |some (.lst _)=>True
 |some (.dK _)=>True
 |some (.dT _)=>True
 |some (.set _ _)=>True
 |some (.ins _ _ _)=>True
 |some (.ext _)=>True
 |_=>False
variable{x:Addr}
section
variable{e:Addr}{o':HO}
theorem HOk.write(ok:HOk P w H h)(mu:Mut (H x))(he:e=x\/H e=some (.own x))(k:∀b u,b≠e->h.get? b=some u->h'.get? b=some u)(heo:∃u,h'.get? e=some u)
  (new:cX P w (upd H x o') h' x o'):HOk P w (upd H x o') h':=λb u q=>by
 have yd:∀c y,H c=some (.own y)->c≠x:=λc y r z=>by subst z;rw[r]at mu;exact mu
 have AN:∀c xs,H c=some (.tup xs)->c≠x:=λc xs r z=>by subst z;rw[r]at mu;exact mu
 by_cases hb:b=x
 ·subst hb;rw[ae]at q;cases q;exact new
 ·rw[aD hb]at q;by_cases hbe:b=e
  ·have q':H b=some (.own x):=by
    rcases he with z|z
    ·exact absurd (hbe.trans z) hb
    ·rw[hbe];exact z
   rw[q]at q';cases q';obtain⟨v,hv⟩:=heo;exact⟨v,by rw[hbe];exact hv⟩
  ·refine(ok b u q).stay (λc v hc r=>k c v ?_ r) (λc r=>by rw[aD (yd c b r)];exact r) λc xs r=>by rw[aD (AN c xs r)];exact r
   rcases hc with rfl|hc
   ·exact hbe
   ·rintro rfl;rcases he with z|z
    ·exact yd c b hc z
    ·rw[hc]at z;cases z;exact hb U
end
structure Un(fs ex:List Addr)(H H':Hp)(h h':Heap):Prop where
 keep:∀b o,h.get? b=some o->H b=none->b ∉ fs->b ∉ ex->h'.get? b=some o
 slot:∀b o,h.get? b=some o->H b=none->b∈fs->b ∉ ex->∃sl,h'.get? b=some { o with slots:=sl }
 free:∀b o,h.get? b=some o->H b=none->b ∉ ex->H' b=none
 there:∀b o,h.get? b=some o->b ∉ ex->∃o',h'.get? b=some o'
 tups:∀b xs,H b=some (.tup xs)->H' b=some (.tup xs)
 frzs:∀b o u,H b=some (.frz o u)->H' b=some (.frz o u)
 tbls:∀b ps,H b=some (.tbl ps)->∃more,H' b=some (.tbl (ps++more))
section
variable{fs fs' ex ex':List Addr}{H1 H2:Hp}{h1 h2:Heap}{e:Addr}{o:HO}
theorem Un.any(u:Un fs ex H H1 h h1){b:Addr}{ob:Obj}(q:h.get? b=some ob)(n:H b=none)(hx:b ∉ ex):∃sl,h1.get? b=some { ob with slots:=sl }:=by
 by_cases hb:b∈fs
 ·exact u.slot b ob q n hb hx
 ·exact⟨ob.slots,u.keep b ob q n hb hx⟩
theorem Un.kept(k:∀b u,h.get? b=some u->h'.get? b=some u):Un fs ex H H h h' :=
 ⟨λb ob q _ _ _=>k b ob q,λb ob q _ _ _=>⟨ob.slots,k b ob q⟩,λ_ _ _ n _=>n,λb ob q _=>⟨ob,k b ob q⟩,λ_ _ q=>q,λ_ _ _ q=>q,λ_ ps q=>⟨#[],by rw[q];simp⟩⟩
theorem Un.refl:Un fs ex H H h h:=Un.kept λ_ _ q=>q
theorem Un.laid(k:∀b u,h.get? b=some u->h'.get? b=some u)(hp:h.objs.size<=a)(hn:H a=none):Un fs ex H (upd H a o) h h' where
 keep:=λb u q _ _ _=>k b u q
 slot:=λb u q _ _ _=>⟨u.slots,k b u q⟩
 free:=λb u q n _=>by rw[aD (ne_of_lt (lt_of_lt_of_le (Heap.lt_size q) hp))];exact n
 there:=λb u q _=>⟨u,k b u q⟩
 tups:=λb xs q=>by rw[aD (aV q hn)];exact q
 frzs:=λb u xs q=>by rw[aD (aV q hn)];exact q
 tbls:=λb ps q=>⟨#[],by rw[aD (aV q hn),q];simp⟩
theorem Un.write(mu:Mut (H x))(he:e=x\/H e=some (.own x))(k:∀b u,b≠e->h.get? b=some u->h'.get? b=some u)(heo:∃u,h'.get? e=some u):Un fs ex H (upd H x o) h h':=by
 have hx:∀b,H b=none->b≠x:=λb n z=>by subst z;rw[n]at mu;exact mu
 have hb:∀b,H b=none->b≠e:=λb n z=>by
  subst z;rcases he with r|r
  ·exact hx b n r
  ·rw[n]at r;cases r
 have hm:∀b u,H b=some u->¬ Mut (some u)->b≠x:=λb u q nm z=>by subst z;rw[q]at mu;exact nm mu
 refine⟨λb u q n _ _=>k b u (hb b n) q,λb u q n _ _=>⟨u.slots,k b u (hb b n) q⟩,λb u q n _=>by rw[aD (hx b n)];exact n,λb u q _=>?_,
  λb xs q=>by rw[aD (hm b _ q λz=>z)];exact q,λb u xs q=>by rw[aD (hm b _ q λz=>z)];exact q,λb ps q=>⟨#[],by rw[aD (hm b _ q λz=>z),q];simp⟩⟩
 by_cases hbe:b=e
 ·subst hbe;exact heo
 ·exact⟨u,k b u hbe q⟩
end
def trk(h:Heap)(H:Hp):List Addr:=(List.range h.objs.size).filter λa=>(H a).isSome
def nh(h:Heap)(H:Hp):Heap:=W.hideAll h (trk h H)
theorem rg(h:Heap)(H:Hp):(nh h H).objs.size=h.objs.size:=W.hideAll_size _ _
theorem rZ{h:Heap}{H:Hp}{b:Addr}{o:Obj}(e:h.get? b=some o)(n:H b=none):(nh h H).get? b=some o :=
 W.hideAll_get _ e λhm=>by
  have q:(H b).isSome=true:=(mem_filter.mp hm).2;rw[n]at q;simp at q
theorem uR{h:Heap}{H:Hp}{b:Addr}{o:Obj}(e:(nh h H).get? b=some o):h.get? b=some o/\H b=none:=by
 have e':h.get? b=some o:=W.of_hideAll (trk h H) e;refine⟨e',?_⟩;cases q:H b with
 |none=>rfl
 |some x =>
  have hm:b∈trk h H:=mem_filter.mpr ⟨mem_range.mpr (Heap.lt_size e'),by simp[q]⟩;have z:(nh h H).get? b=none:=W.hideAll_none (trk h H) hm;rw[z]at e;cases e
def uS(g h:Heap)(L:Addr):List (Addr×Obj):=(List.range h.objs.size).filterMap λa=>if a=L\/(g.get? a).isSome=true then none else(h.get? a).map λo=>(a,o)
def rest(g h:Heap)(L d:Addr):List (Addr×Obj):=(uS g h L).filter λp=>decide (p.1≠d)
structure Mod(K:W.Frag)(mg:Str->Option Value)(base:Heap):Prop where
 kin:K.In base
 glob:base.Ns mainGlobals mg
 blt:∃mb,base.Ns builtinsNs mb/\∀x:Str,x ≠ "__name__" -> mb x=bootBuiltins x
 nolimit:base.NoLimit
structure Cx where
 prog:Program
 w:World
 K:W.Frag
 mg:Str->Option Value
 base:Heap
 A:Around
 N:List Str
 s₀:Shared
 H₀:Hp
 env:Env
 outer:List Env
 stack:List Env
 ex:List Addr
 fn:Str->Bool
 calm:Bool
 pn:List (Addr×Obj)
 xe:Value->Shared->Prop
def frs(l:List Env):List Addr:=l.filterMap (·.frame)
abbrev Cx.fs(X:Cx):List Addr:=frs X.outer
def Vis(sc:Scope)(x:Str):Prop:=sc.names.lookup x=some .local\/sc.names.lookup x=some .cell\/sc.names.lookup x=some .free
def Loc(sc:Scope)(x:Str):Prop:=sc.names.lookup x=some .local\/sc.names.lookup x=some .cell
def Look(env:Env)(h:Heap)(m:Str->Option Value)(x:Str)(u:Value):Prop :=
 (env.kindOf x=some .local/\m x=some u)\/((env.kindOf x=some .cell\/env.kindOf x=some .free)/\∃c,env.cells.lookup x=some c/\h.IsCell c (some u))
structure Cx.Ok(X:Cx):Prop where
 mod:Mod X.K X.mg X.base
 kind:X.env.scope.kind=.function
 glob:X.env.globals=mainGlobals
 blt:X.env.builtins=builtinsNs
 above:X.s₀.heap.objs.size<=X.env.locals
 inj:∀x y c,X.env.cells.lookup x=some c->X.env.cells.lookup y=some c->x=y
 has:∀x,(X.env.kindOf x=some .cell\/X.env.kindOf x=some .free)->∃c,X.env.cells.lookup x=some c
 cab:∀x c,X.fn x=true->X.env.cells.lookup x=some c->X.s₀.heap.objs.size<=c
 hd:X.calm=true->X.A.handled=none
 frames:X.A.frames=some X.stack
 stk:X.stack=X.outer\/(X.stack=X.env :: X.outer/\X.env.frame=some X.env.locals)
 exf:∀b∈X.ex,b≠X.env.locals/\∀x c,X.env.cells.lookup x=some c->c≠b
 bs:∀b o,X.base.get? b=some o->X.s₀.heap.get? b=some o/\X.H₀ b=none
 bsz:X.base.objs.size<=X.s₀.heap.objs.size
 noex:∀b o,X.base.get? b=some o->b ∉ X.ex
 exfs:∀b∈X.ex,b ∉ X.fs
 funs:X.s₀.heap.FunFrames X.base X.outer
 frf:∀b∈X.fs,X.H₀ b=none
structure Inv(X:Cx)(pins:List (Addr×Obj))(σ:List (Option V))(H:Hp)(s:Shared):Prop where
 ok:X.Ok
 os:s.os=X.s₀.os
 bare:AllBare s.gens
 base:Un X.fs X.ex X.H₀ H X.s₀.heap s.heap
 loc:∃m,s.heap.Ns X.env.locals m/\∀(i:Nat)(x:Str)(v:V),X.N[i]?=some x->σ[i]?=some (some v)->Vis X.env.scope x->∃u,RelV v u/\Look X.env s.heap m x u
 cell:∀x c,X.env.cells.lookup x=some c->∃v,s.heap.IsCell c v
 free:H X.env.locals=none
 freeC:∀x c,X.env.cells.lookup x=some c->H c=none
 pin:∀p∈X.pn++pins,s.heap.get? p.1=some p.2/\H p.1=none/\p.1≠X.env.locals/\p.1 ∉ X.fs/\∀v,p.2.data≠.cell v
 hok:HOk X.prog X.w H s.heap
 len:σ.length=X.N.length
variable{X:Cx}{pins:List (Addr×Obj)}{s:Shared}
section
variable{σ:List (Option V)}
theorem Cx.Ok.nofr(ok:X.Ok){b:Addr}{o:Obj}(e:X.base.get? b=some o):b ∉ X.fs:=λhb=>by
 have:=(ok.funs.mem hb).1;rw[e]at this;cases this
theorem Inv.bs(I:Inv X pins σ H s):∀b o,X.base.get? b=some o->s.heap.get? b=some o/\H b=none:=λb o e =>
 ⟨I.base.keep b o (I.ok.bs b o e).1 (I.ok.bs b o e).2 (I.ok.nofr e) (I.ok.noex b o e),I.base.free b o (I.ok.bs b o e).1 (I.ok.bs b o e).2 (I.ok.noex b o e)⟩
theorem Inv.bk(I:Inv X pins σ H s):∀b o,X.base.get? b=some o->s.heap.get? b=some o:=λb o e=>(I.bs b o e).1
theorem Inv.mod(I:Inv X pins σ H s):Mod X.K X.mg X.base:=I.ok.mod
theorem Inv.kIn(I:Inv X pins σ H s):X.K.In s.heap:=I.ok.mod.kin.keeps I.bk
theorem Inv.lt(I:Inv X pins σ H s):X.env.locals<s.heap.objs.size:=by obtain⟨_,hn,_⟩:=I.loc;exact hn.lt
theorem Inv.sz(I:Inv X pins σ H s):X.s₀.heap.objs.size<=s.heap.objs.size:=le_trans I.ok.above (le_of_lt I.lt)
theorem Inv.nofs(I:Inv X pins σ H s){a:Addr}(h:s.heap.objs.size<=a):a ∉ X.fs:=λhb=>by
 obtain⟨_,o,ho,_⟩:=I.ok.funs.mem hb;exact absurd (lt_of_lt_of_le (Heap.lt_size ho) (le_trans I.sz h)) (lt_irrefl _)
theorem Inv.cne(I:Inv X pins σ H s):∀x c,X.env.cells.lookup x=some c->c≠X.env.locals:=λx c e z=>by
 obtain⟨v,o,ho,hd⟩:=I.cell x c e;obtain⟨m,⟨o',es,ep,ho',hd',_⟩,_⟩:=I.loc;rw[z,ho']at ho;cases ho;rw[hd']at hd;cases hd
theorem Inv.funs(I:Inv X pins σ H s):s.heap.FunFrames X.base X.outer:=by
 have all:∀(l:List Env),(∀b∈frs l,b∈X.fs)->X.s₀.heap.FunFrames X.base l->s.heap.FunFrames X.base l:=by
  intro l;induction l with
  |nil=>intro _ _;trivial
  |cons env r ih =>
   intro hs hl;obtain⟨hk,⟨L,o,hf,hn,ho,hd⟩,hr⟩:=hl;have hL:L∈X.fs:=hs L (by unfold frs;rw[filterMap_cons,hf];exact mem_cons_self);obtain⟨sl,e⟩:=I.base.slot L o ho (I.ok.frf L hL) hL λz=>I.ok.exfs L z hL
   exact⟨hk,⟨L,_,hf,hn,e,hd⟩,ih (λb hb=>hs b (by unfold frs;rw[filterMap_cons,hf];exact mem_cons_of_mem _ hb)) hr⟩
 exact all X.outer (λ_ hb=>hb) I.ok.funs
theorem Inv.stack(I:Inv X pins σ H s):s.heap.FunFrames X.base X.stack:=by
 rcases I.ok.stk with e|⟨e,hf⟩
 ·rw[e];exact I.funs
 ·rw[e];obtain⟨m,hn,_⟩:=I.loc;refine .cons (by rw[I.ok.kind];decide) hf hn ?_ I.funs;exact Heap.get?_none_of_le (le_trans I.ok.bsz I.ok.above)
theorem Inv.stkSub(I:Inv X pins σ H s):∀b∈frs X.stack,b∈X.env.locals :: X.fs:=λb hb=>by
 rcases I.ok.stk with e|⟨e,hf⟩
 ·rw[e]at hb;exact mem_cons_of_mem _ hb
 ·rw[e]at hb;unfold frs at hb;rw[filterMap_cons,hf]at hb;exact hb
theorem Inv.stkFree(I:Inv X pins σ H s):∀b∈frs X.stack,H b=none:=λb hb=>by
 rcases mem_cons.mp (I.stkSub b hb)with e|hb
 ·rw[e];exact I.free
 ·obtain⟨_,o,ho,_⟩:=I.ok.funs.mem hb;exact I.base.free b o ho (I.ok.frf b hb) λz=>I.ok.exfs b z hb
theorem Inv.step{g':Array GenState}{t':Nat}{d':Drawn}{ch:List Addr}(I:Inv X pins σ H s)
  (hch:∀b∈ch,(b∈X.ex\/X.s₀.heap.objs.size<=b)/\b≠X.env.locals/\(∀x c,X.env.cells.lookup x=some c->c≠b)/\∀p∈X.pn++pins,p.1≠b)
  (keep:∀b o,b≠X.env.locals->b ∉ X.fs->b ∉ ch->s.heap.get? b=some o->H b=none->h'.get? b=some o)
  (slot:∀b o,b≠X.env.locals->b∈X.fs->b ∉ ch->s.heap.get? b=some o->H b=none->∃sl,h'.get? b=some { o with slots:=sl })(free:∀b o,b ∉ ch->s.heap.get? b=some o->H b=none->H' b=none)
  (there:∀b o,b ∉ ch->s.heap.get? b=some o->∃o',h'.get? b=some o')
  (tups:∀b xs,H b=some (.tup xs)->H' b=some (.tup xs))(frzs:∀b o u,H b=some (.frz o u)->H' b=some (.frz o u))(tbls:∀b ps,H b=some (.tbl ps)->∃more,H' b=some (.tbl (ps++more)))
  (ns:∀m,s.heap.Ns X.env.locals m->h'.Ns X.env.locals m)(hok:HOk X.prog X.w H' h')(hg:AllBare g') :
  Inv X pins σ H' { s with heap:=h',gens:=g',drawn:=d',toks:=t' }:=by
 have neL:∀b o,X.s₀.heap.get? b=some o->b≠X.env.locals:=λb o e=>ne_of_lt (lt_of_lt_of_le (Heap.lt_size e) I.ok.above)
 have neC:∀b o,X.s₀.heap.get? b=some o->b ∉ X.ex->b ∉ ch:=λb o e hx hb=>by
  rcases(hch b hb).1 with z|z
  ·exact hx z
  ·exact absurd (lt_of_lt_of_le (Heap.lt_size e) z) (lt_irrefl _)
 have cellK:∀x c,X.env.cells.lookup x=some c->∀v,s.heap.IsCell c v->h'.IsCell c v:=λx c e v ⟨o,ho,hd⟩=>by
  have nch:c ∉ ch:=λz=>(hch c z).2.2.1 x c e U
  by_cases hc:c∈X.fs
  ·obtain⟨sl,q⟩:=slot c o (I.cne x c e) hc nch ho (I.freeC x c e);exact⟨_,q,hd⟩
  ·exact⟨o,keep c o (I.cne x c e) hc nch ho (I.freeC x c e),hd⟩
 refine⟨I.ok,I.os,hg,⟨λb o e n hb hx=>?_,λb o e n hb hx=>?_,λb o e n hx=>?_,λb o e hx=>?_,λb xs e=>tups b xs (I.base.tups b xs e),λb o xs e=>frzs b o xs (I.base.frzs b o xs e),λb ps e=>?_⟩,?_,λx c e=>?_,?_,λx c e=>?_,λp hp=>?_,hok,I.len⟩
 ·exact keep b o (neL b o e) hb (neC b o e hx) (I.base.keep b o e n hb hx) (I.base.free b o e n hx)
 ·obtain⟨sl,e1⟩:=I.base.slot b o e n hb hx;obtain⟨sl',e2⟩:=slot b _ (neL b o e) hb (neC b o e hx) e1 (I.base.free b o e n hx);exact⟨sl',e2⟩
 ·obtain⟨o',e1⟩:=I.base.there b o e hx;exact free b o' (neC b o e hx) e1 (I.base.free b o e n hx)
 ·obtain⟨o',e1⟩:=I.base.there b o e hx;exact there b o' (neC b o e hx) e1
 ·obtain⟨m1,e1⟩:=I.base.tbls b ps e;obtain⟨m2,e2⟩:=tbls b _ e1;exact⟨m1++m2,by rw[e2,Array.append_assoc]⟩
 ·obtain⟨m,hn,hl⟩:=I.loc;refine⟨m,ns m hn,λi x v e1 e2 e3=>?_⟩;obtain⟨u,r,l⟩:=hl i x v e1 e2 e3;refine⟨u,r,?_⟩;rcases l with l|⟨k,c,e,z⟩
  ·exact .inl l
  ·exact .inr ⟨k,c,e,cellK x c e _ z⟩
 ·obtain⟨v,z⟩:=I.cell x c e;exact⟨v,cellK x c e v z⟩
 ·obtain⟨m,⟨o,_,_,ho,_⟩,_⟩:=I.loc;exact free _ o (λz=>(hch _ z).2.1 U) ho I.free
 ·obtain⟨v,o,ho,hd⟩:=I.cell x c e;exact free c o (λz=>(hch c z).2.2.1 x c e U) ho (I.freeC x c e)
 ·obtain⟨e,n,ne,nf,d⟩:=I.pin p hp;have nch:p.1 ∉ ch:=λz=>(hch p.1 z).2.2.2 p hp U
  exact⟨keep p.1 p.2 ne nf nch e n,free p.1 p.2 nch e n,ne,nf,d⟩
theorem Inv.un{t':Nat}(I:Inv X pins σ H s)(u:Un X.fs [] H H' s.heap h')(hok:HOk X.prog X.w H' h'):Inv X pins σ H' { s with heap:=h',toks:=t' }:=by
 obtain⟨m,⟨o,es,ep,ho,r⟩,_⟩:=id I.loc;obtain⟨sl,hL⟩:=u.any ho I.free (by simp);exact I.step (g':=s.gens) (d':=s.drawn) (ch:=[]) (λ_ z=>nomatch z) (λb o _ hb _ e n=>u.keep b o e n hb (by simp)) (λb o _ hb _ e n=>u.slot b o e n hb (by simp)) (λb o _ e n=>u.free b o e n (by simp)) (λb o _ e=>u.there b o e (by simp)) u.tups u.frzs u.tbls (λm' hm=>by
  obtain⟨o',es',ep',ho',r'⟩:=hm;rw[ho]at ho';cases ho';exact⟨_,es',ep',hL,r'⟩) hok I.bare
theorem Inv.call{g':Array GenState}{t':Nat}{d':Drawn}{ch:List Addr}(I:Inv X pins σ H s)(u:Un (frs X.stack) ch H H' s.heap h')(hok:HOk X.prog X.w H' h')(hg:AllBare g')
  (hch:∀b∈ch,(b∈X.ex\/X.s₀.heap.objs.size<=b)/\b≠X.env.locals/\(∀x c,X.env.cells.lookup x=some c->c≠b)/\∀p∈X.pn++pins,p.1≠b) :
  Inv X pins σ H' { s with heap:=h',gens:=g',drawn:=d',toks:=t' }:=by
 obtain⟨m,⟨o,es,ep,ho,r⟩,_⟩:=id I.loc;obtain⟨sl,hL⟩:=u.any ho I.free λz=>(hch _ z).2.1 U
 exact I.step (ch:=ch) hch (λb o hL hb hc e n=>u.keep b o e n (λz=>(mem_cons.mp (I.stkSub b z)).elim hL hb) hc) (λb o _ _ hc e n=>u.any e n hc) (λb o hc e n=>u.free b o e n hc) (λb o hc e=>u.there b o e hc) u.tups u.frzs u.tbls (λm' hm=>by
  obtain⟨o',es',ep',ho',r'⟩:=hm;rw[ho]at ho';cases ho';exact⟨_,es',ep',hL,r'⟩) hok hg
theorem Inv.turned{t':Nat}{it:Addr}(I:Inv X pins σ H s)(k:∀b o,b≠it->s.heap.get? b=some o->h'.get? b=some o)(hn:H it=none)(hL:it≠X.env.locals)
  (h1:it∈X.ex\/X.s₀.heap.objs.size<=it)(h2:∀x c,X.env.cells.lookup x=some c->c≠it)(h3:∀p∈X.pn++pins,p.1≠it):Inv X pins σ H { s with heap:=h',toks:=t' }:=by
 have nit:∀b u,H b=some u->b≠it:=λb u e z=>by rw[z,hn]at e;cases e
 refine I.step (g':=s.gens) (d':=s.drawn) (ch:=[it]) (λb hb=>?_) (λb o _ _ hc e _=>k b o (λz=>hc (by simp[z])) e) (λb o _ _ hc e _=>⟨o.slots,k b o (λz=>hc (by simp[z])) e⟩) (λ_ _ _ _ n=>n)
  (λb o hc e=>⟨o,k b o (λz=>hc (by simp[z])) e⟩) (λ_ _ e=>e) (λ_ _ _ e=>e) (λb ps e=>⟨#[],by rw[e];simp⟩) (λm hm=>?_) (λb u e=>?_) I.bare
 ·have e:b=it:=by simpa using hb
  subst e;exact⟨h1,hL,h2,h3⟩
 ·obtain⟨o,es,ep,ho,r⟩:=hm;exact⟨o,es,ep,k _ o (Ne.symm hL) ho,r⟩
 ·refine(I.hok b u e).stay (λc v hc q=>k c v ?_ q) (λ_ q=>q) λ_ _ q=>q
  rcases hc with z|z
  ·rw[z];exact nit b u e
  ·exact nit c _ z
theorem Inv.tok(I:Inv X pins σ H s)(t:Nat):Inv X pins σ H { s with toks:=t }:=I.un (h':=s.heap) (t':=t) Un.refl I.hok
theorem Inv.kept{t':Nat}(I:Inv X pins σ H s)(k:∀b u,s.heap.get? b=some u->h'.get? b=some u):Inv X pins σ H { s with heap:=h',toks:=t' }:=I.un (Un.kept k) (I.hok.kept k)
theorem Inv.laid{a:Addr}{o:HO}{t':Nat}(I:Inv X pins σ H s)(k:∀b u,s.heap.get? b=some u->h'.get? b=some u)(hp:s.heap.objs.size<=a)(new:cX X.prog X.w (upd H a o) h' a o) :
  Inv X pins σ (upd H a o) { s with heap:=h',toks:=t' }:=I.un (Un.laid k hp (I.hok.fresh hp)) (I.hok.laid k hp new)
theorem Inv.write{x e:Addr}{o:HO}{t':Nat}(I:Inv X pins σ H s)(mu:Mut (H x))(he:e=x\/H e=some (.own x))(k:∀b u,b≠e->s.heap.get? b=some u->h'.get? b=some u)(heo:∃u,h'.get? e=some u)
  (new:cX X.prog X.w (upd H x o) h' x o):Inv X pins σ (upd H x o) { s with heap:=h',toks:=t' }:=I.un (Un.write mu he k heo) (I.hok.write mu he k heo new)
theorem Inv.pins_of{vK:List (Addr×Obj)}(I:Inv X pins σ H s)(h:∀p∈vK,s.heap.get? p.1=some p.2/\H p.1=none/\p.1≠X.env.locals/\p.1 ∉ X.fs/\∀v,p.2.data≠.cell v):Inv X vK σ H s :=
 ⟨I.ok,I.os,I.bare,I.base,I.loc,I.cell,I.free,I.freeC,λp hp=>(mem_append.mp hp).elim (λz=>I.pin p (mem_append_left _ z)) (h p),I.hok,I.len⟩
theorem ll{N:List Str}(hN:N.Nodup){i j:Nat}{x:Str}(a:N[i]?=some x)(b:N[j]?=some x):i=j:=by
 obtain⟨h1,e1⟩:=Jx.mp a;obtain⟨h2,e2⟩:=Jx.mp b;exact(List.getElem_inj hN).mp (e1.trans e2.symm)
theorem jI{M:Model}{A:Around}{E:Value->Shared->Prop}{i:Nat}{x:Str}{v:V}{u:Value}{Q:Unit->Shared->Prop}(I:Inv X pins σ H s)(hN:X.N.Nodup)(hi:X.N[i]?=some x)(hx:Loc X.env.scope x)(r:RelV v u)
  (h:∀s',Inv X pins (σ.set i (some v)) H s'->(∃a,Heap.SameBut a s.heap s'.heap/\(a=X.env.locals\/X.env.cells.lookup x=some a))->Q () s')(hf:X.fn x=true\/X.env.scope.names.lookup x=some .local:=by first|exact .inl U|exact .inr U|assumption):wpAny M A (storeName X.env x u) Q E s:=by
 obtain⟨m,hn,hl⟩:=id I.loc;have wo:(X.env.scope.kind == .class || (X.env.scope.kind == .module && X.env.locals != X.env.globals))=false:=by rw[I.ok.kind];rfl
 have hiσ:i<σ.length:=by rw[I.len];exact(Jx.mp hi).1
 have cne:=I.cne;have tracked:∀{a:Addr}{h':Heap},(∃o,s.heap.get? a=some o/\H a=none)->Heap.SameBut a s.heap h'->HOk X.prog X.w H h':=λ{a h'} ha hs b ob e=>by
  obtain⟨_,_,vL⟩:=ha;refine(I.hok b ob e).stay (λc w' hc q=>(hs.2 c ?_).trans q) (λ_ q=>q) λ_ _ q=>q
  rintro rfl;rcases hc with rfl|hc
  ·rw[vL]at e;cases e
  ·rw[vL]at hc;cases hc
 rcases hx with hk|hk
 ·refine wpAny_storeName_local hk hn (λh' hn' hs=>?_) wo;obtain⟨oL,_,_,hoL,_⟩:=id hn;refine h _ ⟨I.ok,I.os,I.bare,⟨λb o e n hb hx=>?_,λb o e n hb hx=>?_,I.base.free,λb o e hx=>?_,I.base.tups,I.base.frzs,I.base.tbls⟩,⟨_,hn',λj y v' e1 e2 e3=>?_⟩,λy c e=>?_,I.free,I.freeC,λp hp=>?_,tracked ⟨oL,hoL,I.free⟩ hs,by simpa using I.len⟩ ⟨_,hs,.inl U⟩
  ·exact(hs.2 b (ne_of_lt (lt_of_lt_of_le (Heap.lt_size e) I.ok.above))).trans (I.base.keep b o e n hb hx)
  ·obtain⟨sl,e1⟩:=I.base.slot b o e n hb hx;exact⟨sl,(hs.2 b (ne_of_lt (lt_of_lt_of_le (Heap.lt_size e) I.ok.above))).trans e1⟩
  ·obtain⟨o',e1⟩:=I.base.there b o e hx;exact⟨o',(hs.2 b (ne_of_lt (lt_of_lt_of_le (Heap.lt_size e) I.ok.above))).trans e1⟩
  ·by_cases hj:j=i
   ·subst hj;rw[hi]at e1;cases e1;rw[getElem?_set_self hiσ]at e2;cases e2;exact⟨u,r,.inl ⟨hk,by simp⟩⟩
   ·rw[getElem?_set_ne (Ne.symm hj)]at e2;obtain⟨u',r',q⟩:=hl j y v' e1 e2 e3;refine⟨u',r',?_⟩;rcases q with⟨k,e⟩|⟨k,c,e,z⟩
    ·refine .inl ⟨k,?_⟩;have:y≠x:=λe=>hj (ll hN e1 (e ▸ hi))
     simp[this,e]
    ·exact .inr ⟨k,c,e,z.sameBut hs (cne y c e)⟩
  ·obtain⟨w',z⟩:=I.cell y c e;exact⟨w',z.sameBut hs (cne y c e)⟩
  ·obtain⟨e,n,ne,nf,d⟩:=I.pin p hp;exact⟨(hs.2 p.1 ne).trans e,n,ne,nf,d⟩
 ·have hfn:X.fn x=true:=by
   rcases hf with z|z
   ·exact z
   ·rw[z]at hk;cases hk
  obtain⟨c,hc⟩:=I.ok.has x (.inl hk);obtain⟨w',z⟩:=I.cell x c hc;refine wpAny_storeName_cell I.ok.kind hk hc z (λh' hc' hs=>?_);obtain⟨oc,hoc,AO⟩:=id z;refine h { s with heap:=h' } ⟨I.ok,I.os,I.bare,⟨λb o e n hb hx=>?_,λb o e n hb hx=>?_,I.base.free,λb o e hx=>?_,I.base.tups,I.base.frzs,I.base.tbls⟩,⟨m,hn.sameBut hs (Ne.symm (cne x c hc)),λj y v' e1 e2 e3=>?_⟩,λy c' e=>?_,I.free,I.freeC,λp hp=>?_,tracked ⟨oc,hoc,I.freeC x c hc⟩ hs,by simpa using I.len⟩ ⟨c,hs,.inr hc⟩
  ·exact(hs.2 b (ne_of_lt (lt_of_lt_of_le (Heap.lt_size e) (I.ok.cab x c hfn hc)))).trans (I.base.keep b o e n hb hx)
  ·obtain⟨sl,e1⟩:=I.base.slot b o e n hb hx;exact⟨sl,(hs.2 b (ne_of_lt (lt_of_lt_of_le (Heap.lt_size e) (I.ok.cab x c hfn hc)))).trans e1⟩
  ·obtain⟨o',e1⟩:=I.base.there b o e hx;exact⟨o',(hs.2 b (ne_of_lt (lt_of_lt_of_le (Heap.lt_size e) (I.ok.cab x c hfn hc)))).trans e1⟩
  ·by_cases hj:j=i
   ·subst hj;rw[hi]at e1;cases e1;rw[getElem?_set_self hiσ]at e2;cases e2;exact⟨u,r,.inr ⟨.inl hk,c,hc,hc'⟩⟩
   ·rw[getElem?_set_ne (Ne.symm hj)]at e2;obtain⟨u',r',q⟩:=hl j y v' e1 e2 e3;refine⟨u',r',?_⟩;rcases q with q|⟨k,c',e,z'⟩
    ·exact .inl q
    ·refine .inr ⟨k,c',e,z'.sameBut hs ?_⟩;rintro rfl;exact hj (ll hN e1 (I.ok.inj _ _ _ e hc ▸ hi))
  ·by_cases hcc:c'=c
   ·subst hcc;exact⟨_,hc'⟩
   ·obtain⟨w2,z2⟩:=I.cell y c' e;exact⟨w2,z2.sameBut hs hcc⟩
  ·obtain⟨e,n,ne,nf,d⟩:=I.pin p hp;refine⟨(hs.2 p.1 ?_).trans e,n,ne,nf,d⟩;intro q;rw[q,hoc]at e;have q':oc=p.2:=Option.some.inj e;exact d w' (by rw[←q'];exact AO)
theorem gI{M:Model}{A:Around}{E:Value->Shared->Prop}{i:Nat}{x:Str}{v:V}{u:Value}{Q:Unit->Shared->Prop}(I:Inv X pins σ H s)(hN:X.N.Nodup)(hi:X.N[i]?=some x)(hx:Loc X.env.scope x)(r:RelV v u)
  (h:∀s',Inv X pins (σ.set i (some v)) H s'->Q () s')(hf:X.fn x=true\/X.env.scope.names.lookup x=some .local:=by first|exact .inl U|exact .inr U|assumption):wpAny M A (storeName X.env x u) Q E s :=
 jI I hN hi hx r (λs' I' _=>h s' I') hf
theorem Inv.call'{s':Shared}{ch:List Addr}(I:Inv X pins σ H s)(ho:s'.os=s.os)(u:Un (frs X.stack) ch H H' s.heap s'.heap)(hok:HOk X.prog X.w H' s'.heap)(hg:AllBare s'.gens)
  (hch:∀b∈ch,(b∈X.ex\/X.s₀.heap.objs.size<=b)/\b≠X.env.locals/\(∀x c,X.env.cells.lookup x=some c->c≠b)/\∀p∈X.pn++pins,p.1≠b):Inv X pins σ H' s':=by
 obtain⟨h',g',d',t',o'⟩:=s';have e:o'=s.os:=ho;subst e;exact I.call (g':=g') (t':=t') (d':=d') u hok hg hch
end
abbrev XK:=Value->Option Addr->Hp->Prop
abbrev St:=List (Option V)
abbrev VK:=V->Hp->Prop
abbrev TE:=St->Hp->VK->Prop
abbrev TT:=St->Hp->(Bool->Hp->Prop)->Prop
abbrev TA:=St->Hp->(List V->Hp->Prop)->Prop
structure Ends where
 nx:St->Hp->Prop
 rt:VK
 bk:St->Hp->Prop:=λ_ _=>False
 ct:St->Hp->Prop:=λ_ _=>False
abbrev TS:=Ends->St->Hp->Prop
def EP(X:Cx)(pins:List (Addr×Obj))(σ:St)(Q:VK)(u:Value)(s':Shared):Prop:=∃v H',Inv X pins σ H' s'/\RelV v u/\Q v H'
def TP(X:Cx)(pins:List (Addr×Obj))(σ:St)(Q:Bool->Hp->Prop)(b:Bool)(s':Shared):Prop:=∃H',Inv X pins σ H' s'/\Q b H'
def AP(X:Cx)(pins:List (Addr×Obj))(σ:St)(Q:List V->Hp->Prop)(us:List Value)(s':Shared):Prop:=∃vs H',Inv X pins σ H' s'/\Vals vs us/\Q vs H'
def SP(X:Cx)(pins:List (Addr×Obj))(D:Ends)(f:Flow)(s':Shared):Prop :=
 match f with
 | .next=>∃σ' H',Inv X pins σ' H' s'/\D.nx σ' H'
 | .brk=>∃σ' H',Inv X pins σ' H' s'/\D.bk σ' H'
 | .cont=>∃σ' H',Inv X pins σ' H' s'/\D.ct σ' H'
 | .ret u=>∃v σ' H',Inv X pins σ' H' s'/\RelV v u/\D.rt v H'
def PE(X:Cx)(e:Expr)(t:TE):Prop :=
 ∀(pins:List (Addr×Obj))(s:Shared)(σ:St)(H:Hp)(Q:VK),Inv X pins σ H s->t σ H Q->wpAny (model X.prog X.w) X.A (eval e X.env) (EP X pins σ Q) X.xe s
def PT(X:Cx)(e:Expr)(t:TT):Prop :=
 ∀(pins:List (Addr×Obj))(s:Shared)(σ:St)(H:Hp)(Q:Bool->Hp->Prop),Inv X pins σ H s->t σ H Q->wpAny (model X.prog X.w) X.A (isTrue e X.env (eval e X.env)) (TP X pins σ Q) X.xe s
def PW(X:Cx)(e:Expr)(t:TT):Prop :=
 ∀(whole:Sem Value)(pins:List (Addr×Obj))(s:Shared)(σ:St)(H:Hp)(Q:Bool->Hp->Prop),Inv X pins σ H s->t σ H Q->wpAny (model X.prog X.w) X.A (isTrue e X.env whole) (TP X pins σ Q) X.xe s
theorem PW.pt{X:Cx}{e:Expr}{t:TT}(h:PW X e t):PT X e t:=h _
def PA(X:Cx)(es:List Expr)(t:TA):Prop :=
 ∀(pos:Pos)(pins:List (Addr×Obj))(s:Shared)(σ:St)(H:Hp)(Q:List V->Hp->Prop),Inv X pins σ H s->t σ H Q->wpAny (model X.prog X.w) X.A (spliced (backTo pos (starEach es X.env))) (AP X pins σ Q) X.xe s
def PS(X:Cx)(st:Stmt)(t:TS):Prop :=
 ∀(pins:List (Addr×Obj))(s:Shared)(σ:St)(H:Hp)(D:Ends),Inv X pins σ H s->t D σ H->wpAny (model X.prog X.w) X.A (exec st X.env) (SP X pins D) X.xe s
def PSs(X:Cx)(st:List Stmt)(t:TS):Prop :=
 ∀(pins:List (Addr×Obj))(s:Shared)(σ:St)(H:Hp)(D:Ends),Inv X pins σ H s->t D σ H->wpAny (model X.prog X.w) X.A (execs st X.env) (SP X pins D) X.xe s
theorem thn{α:Type}{t:Sem α}{Q Q':α->Shared->Prop}{M:Model}{A:Around}{E:Value->Shared->Prop}{s:Shared}(h:wpAny M A t Q E s)(hQ:∀a s,Q a s->Q' a s):wpAny M A t Q' E s:=wpAny_mono h hQ λ_ _ x=>x
variable{ta:TE}{pos:Pos}
section
inductive se(i:Nat)(σ:St)(H:Hp)(Q:VK):Prop
 |mk (v:_)(_:σ[i]?=some (some v))(_:Q v H):se i σ H Q
def tC(v:V):TE:=λ_ H Q=>Q v H
theorem wq{i:Nat}{x:Str}{pos:Pos}(hN:X.N[i]?=some x)(hv:Vis X.env.scope x)(hd:(x == ("__debug__" : Str))=false:=by decide) (hcd:(x == ("__classdict__" : Str))=false:=by decide):PE X (.Name x pos) (se i):=by
 intro pins s σ H Q I h;obtain⟨v,e,h⟩:=h;obtain⟨m,hn,hl⟩:=I.loc;obtain⟨u,r,l⟩:=hl i x v hN e hv;have fin:EP X pins σ Q u s:=⟨v,H,I,r,h⟩;rcases l with⟨hk,hm⟩|⟨hk,c,hc,vM⟩
 ·exact wpAny_Name (wpAny_loadName_local I.ok.kind hk hn hm fin) hd
 ·rcases hk with hk|hk
  ·exact wpAny_Name (wpAny_loadName_cell I.ok.kind hk hc vM fin) hd
  ·exact wpAny_Name (wpAny_loadName_free I.ok.kind hk hc vM fin hcd) hd
theorem aj{i j pos}:PE X (.Constant (.int i) j pos) (tC (.int i)):=λ_ _ _ H _ I h=>wpAny_Constant_int ⟨.int i,H,I.tok _,⟨_,U⟩,h⟩
theorem ck{b j pos}:PE X (.Constant (.bool b) j pos) (tC (.bl b)):=λ_ _ _ H _ I h=>Constant_bool ⟨.bl b,H,I,U,h⟩
theorem sh{j pos}:PE X (.Constant .none j pos) (tC .non):=λ_ _ _ H _ I h=>Constant_none ⟨.non,H,I,U,h⟩
theorem ba{x j pos}:PE X (.Constant (.str x) j pos) (tC (.str x)):=λ_ _ _ H _ I h=>Calls.Constant_str ⟨.str x,H,I.tok _,⟨_,U⟩,h⟩
def Gl(X:Cx)(x:Str):Prop:=X.env.kindOf x=some .globalImplicit
theorem d7{E:Value->Shared->Prop}{pins:List (Addr×Obj)}{s:Shared}{σ:St}{H:Hp}{x:Str}{u:Value}{pos:Pos}{Q:Value->Shared->Prop}(I:Inv X pins σ H s)(hg:Gl X x)(hm:X.mg x=some u)(h:Q u s)
  (hd:(x == ("__debug__" : Str))=false:=by decide):wpAny (model X.prog X.w) X.A (eval (.Name x pos) X.env) Q E s :=
 Calls.Name_function_global I.ok.kind hg (Calls.loadGlobal_global (by rw[I.ok.glob];exact I.mod.glob.keeps I.bk) hm h) hd
theorem jJ{E:Value->Shared->Prop}{pins:List (Addr×Obj)}{s:Shared}{σ:St}{H:Hp}{x:Str}{u:Value}{pos:Pos}{Q:Value->Shared->Prop}(I:Inv X pins σ H s)(hg:Gl X x)(hm:X.mg x=none)(hv:bootBuiltins x=some u)(h:Q u s)
  (hn:x ≠ "__name__" := by decide) (hd:(x == ("__debug__" : Str))=false:=by decide):wpAny (model X.prog X.w) X.A (eval (.Name x pos) X.env) Q E s:=by
 obtain⟨mb,h1,h2⟩:=I.mod.blt;exact Calls.Name_function_global I.ok.kind hg (Calls.loadGlobal_builtin (by rw[I.ok.glob];exact I.mod.glob.keeps I.bk) hm (by rw[I.ok.blt];exact h1.keeps I.bk) ((h2 x hn).trans hv) h) hd
theorem dR{x:Str}{v:V}{u:Value}{pos:Pos}(hg:Gl X x)(hm:X.mg x=some u)(r:RelV v u)(hd:(x == ("__debug__" : Str))=false:=by decide):PE X (.Name x pos) (tC v) :=
 λ_ _ _ H _ I h=>d7 I hg hm ⟨v,H,I,r,h⟩ hd
theorem ni{x:Str}{v:V}{u:Value}{pos:Pos}(hg:Gl X x)(hm:X.mg x=none)(hv:bootBuiltins x=some u)(r:RelV v u)(hn:x ≠ "__name__" := by decide) (hd:(x == ("__debug__" : Str))=false:=by decide):PE X (.Name x pos) (tC v) :=
 λ_ _ _ H _ I h=>jJ I hg hm hv ⟨v,H,I,r,h⟩ hn hd
variable{a b:Expr}{tb:TE}
inductive tBq  (Q:Bool->Hp->Prop)(x:V)(H1:Hp):Prop
 |mk (c:_)(_:x=.bl c)(_:Q c H1):tBq Q x H1
def tB(t:TE):TT:=λσ H Q=>t σ H λx H1=>tBq Q x H1
theorem fu{e:Expr}{t:TE}(h:PE X e t)(he:∀whole,isTrue e X.env whole=(do let v ←whole;standAt e.pos;holding [v] (truthy v)):=by intro _;rfl):PT X e (tB t):=by
 intro pins s σ H Q I hw;refine isTrue_plain (thn (h pins s σ H _ I hw) λv s1 ⟨x,H1,I1,r1,q1⟩=>?_) (he _);obtain⟨d,rfl,q⟩:=q1;cases r1;exact wpAny_truthy_bool ⟨H1,I1,q⟩
variable{tA tB':TT}{rest:List Expr}
def AQ(t u:TT):TT:=λσ H Q=>t σ H λc H1=>if c=true then u σ H1 Q else Q false H1
def tOr(t u:TT):TT:=λσ H Q=>t σ H λc H1=>if c=true then Q true H1 else u σ H1 Q
def AR(t:TT):TT:=λσ H Q=>t σ H λc H1=>Q (!c) H1
theorem eY(ha:PT X a tA):PW X (.BoolOp .And [a] pos) tA:=by
 intro wh pins s σ H Q I h;refine isTrue_and (thn (ha pins s σ H Q I h) λc s1 e=>?_);cases c with
 |true=>exact isTrue_and_nil e
 |false=>exact e
theorem iG(ha:PT X a tA):PW X (.BoolOp .Or [a] pos) tA:=by
 intro wh pins s σ H Q I h;refine isTrue_or (thn (ha pins s σ H Q I h) λc s1 e=>?_);cases c with
 |false=>exact isTrue_or_nil e
 |true=>exact e
theorem gJ(ha:PT X a tA)(hb:PW X (.BoolOp .And (b :: rest) pos) tB'):PW X (.BoolOp .And (a :: b :: rest) pos) (AQ tA tB'):=by
 intro wh pins s σ H Q I h;refine isTrue_and (thn (ha pins s σ H _ I h) λc s1 ⟨H1,I1,q1⟩=>?_);cases c with
 |true=>exact hb wh pins s1 σ H1 Q I1 q1
 |false=>exact⟨H1,I1,q1⟩
theorem kq(ha:PT X a tA)(hb:PW X (.BoolOp .Or (b :: rest) pos) tB'):PW X (.BoolOp .Or (a :: b :: rest) pos) (tOr tA tB'):=by
 intro wh pins s σ H Q I h;refine isTrue_or (thn (ha pins s σ H _ I h) λc s1 ⟨H1,I1,q1⟩=>?_);cases c with
 |true=>exact⟨H1,I1,q1⟩
 |false=>exact hb wh pins s1 σ H1 Q I1 q1
theorem iH(ha:PT X a tA):PT X (.UnaryOp .Not a pos) (AR tA):=by
 intro pins s σ H Q I h;exact isTrue_not (ha pins s σ H (λc H1=>Q (!c) H1) I h)
inductive si(tb:TE)(σ:St)(Q:VK)(x:V)(H1:Hp):Prop
 |mk (c:_)(_:x=.bl c)(_:if c=true then tb σ H1 Q else Q (.bl false) H1):si tb σ Q x H1
def ye(ta tb:TE):TE:=λσ H Q=>ta σ H λx H1=>si tb σ Q x H1
inductive sj  (Q:VK)(x:V)(H1:Hp):Prop
 |mk (c:_)(_:x=.bl c)(_:Q (.bl (!c)) H1):sj Q x H1
def yf(ta:TE):TE:=λσ H Q=>ta σ H λx H1=>sj Q x H1
theorem lp{op} {t:TE}(h:PE X a t):PE X (.BoolOp op [a] pos) t:=λpins s σ H Q I hw=>BoolOp_one (h pins s σ H Q I hw)
theorem jK(ha:PE X a ta)(hb:PE X (.BoolOp .And (b :: rest) pos) tb):PE X (.BoolOp .And (a :: b :: rest) pos) (ye ta tb):=by
 intro pins s σ H Q I h;refine BoolOp_and (thn (ha pins s σ H _ I h) λv s1 ⟨x,H1,I1,r1,q1⟩=>?_);obtain⟨c,rfl,q1⟩:=q1;cases r1;refine wpAny_truthy_bool ?_;cases c with
 |true=>exact hb pins s1 σ H1 Q I1 q1
 |false=>exact⟨.bl false,H1,I1,U,q1⟩
theorem wt(ha:PE X a ta):PE X (.UnaryOp .Not a pos) (yf ta):=by
 intro pins s σ H Q I h;refine UnaryOp_ (thn (ha pins s σ H _ I h) λv s1 ⟨x,H1,I1,r1,q1⟩=>?_);obtain⟨c,rfl,q1⟩:=q1;cases r1;exact not_of (wpAny_truthy_bool ⟨.bl (!c),H1,I1,U,q1⟩)
end
def SqL(K:W.Frag)(H:Hp)(a:Addr)(xs:List V):Prop :=
 Rd H a (.lst xs) \/
  ∃(o:Obj)(its:Array Value)(n:Nat),K.lookup a=some o/\o.cls=.type "list" /\ o.dict=none/\o.data=.seq its n/\its.size<=sizeLine/\Vals xs its.toList
def SqT(K:W.Frag)(H:Hp)(a:Addr)(xs:List V):Prop :=
 Rd H a (.tup xs) \/
  ∃(o:Obj)(its:Array Value)(n:Nat),K.lookup a=some o/\o.cls=.type "tuple" /\ o.data=.seq its n/\its.size<=sizeLine/\Vals xs its.toList
def AS:Value->Option V
 | .none=>some .non
 | .bool b=>some (.bl b)
 | .int i _=>some (.int i)
 | .str x _=>some (.str x)
 | .bytes b _=>some (.byt b)
 | .float b _=>some (.flt b)
 | .ref a=>some (.ref a)
 | .type n=>some (.ty n)
 |_=>none
theorem RelV.abs{x:V}{u:Value}(r:RelV x u):AS u=some x:=by
 cases x with
 |non=>cases r;rfl
 |bl _=>cases r;rfl
 |int _=>obtain⟨t,rfl⟩:=r;rfl
 |str _=>obtain⟨t,rfl⟩:=r;rfl
 |byt _=>obtain⟨t,rfl⟩:=r;rfl
 |flt _=>obtain⟨t,rfl⟩:=r;rfl
 |ref _=>cases r;rfl
 |ty _=>cases r;rfl
theorem RelV.inj{x y:V}{u:Value}(r:RelV x u)(q:RelV y u):x=y:=Option.some.inj (r.abs.symm.trans q.abs)
theorem Vals.inj:∀{xs ys:List V}{us:List Value},Vals xs us->Vals ys us->xs=ys
 |_,_,_,.nil,.nil=>rfl
 |_,_,_,.cons r t,.cons r' t'=>by rw[r.inj r',Vals.inj t t']
variable{σ:St}
section
variable{xs ys:List V}
theorem SqL.of{K:W.Frag}(h:H a=some (.lst xs)):SqL K H a xs:=.inl (.inl h)
theorem SqT.of{K:W.Frag}(h:H a=some (.tup xs)):SqT K H a xs:=.inl (.inl h)
theorem Inv.list(I:Inv X pins σ H s)(h:SqL X.K H a xs):∃its:List Value,Vals xs its/\PlainL s.heap a its.toArray/\xs.length<=sizeLine:=by
 rcases h with h|⟨o,its,n,hk,hc,hd,hs,hz,r⟩
 ·obtain⟨z,its,n,r,e⟩:=h.ok I.hok;exact⟨its,r,⟨_,n,e,U,U,U⟩,z⟩
 ·refine⟨its.toList,r,⟨o,n,I.kIn a o hk,hc,hd,by simpa using hs⟩,?_⟩;have e:=r.length;simp only[length_toList]at e;lia
theorem Inv.tuple(I:Inv X pins σ H s)(h:SqT X.K H a xs):∃its:List Value,Vals xs its/\IsTup s.heap a its.toArray/\xs.length<=sizeLine:=by
 rcases h with h|⟨o,its,n,hk,hc,hs,hz,r⟩
 ·obtain⟨z,its,r,p⟩:=h.ok I.hok;exact⟨its,r,p,z⟩
 ·refine⟨its.toList,r,⟨o,I.kIn a o hk,hc,n,by simpa using hs⟩,?_⟩;have e:=r.length;simp only[length_toList]at e;lia
theorem Inv.list_inj(I:Inv X pins σ H s)(h:SqL X.K H a xs)(h':SqL X.K H a ys):xs=ys:=by
 obtain⟨its,r,⟨o,n,e,_,_,d⟩,_⟩:=I.list h;obtain⟨its',r',⟨o',n',e',_,_,d'⟩,_⟩:=I.list h';rw[e]at e';cases e';rw[d]at d';injection d' with d1 _;have:its=its':=by simpa using congrArg Array.toList d1
 subst this;exact r.inj r'
theorem Inv.tuple_inj(I:Inv X pins σ H s)(h:SqT X.K H a xs)(h':SqT X.K H a ys):xs=ys:=by
 obtain⟨its,r,⟨o,e,_,n,d⟩,_⟩:=I.tuple h;obtain⟨its',r',⟨o',e',_,n',d'⟩,_⟩:=I.tuple h';rw[e]at e';cases e';rw[d]at d';injection d' with d1 _;have:its=its':=by simpa using congrArg Array.toList d1
 subst this;exact r.inj r'
end
abbrev Cx.wish(X:Cx)(E:Value->Shared->Prop):Cx:={ X with xe:=E }
abbrev Cx.nox(X:Cx):Cx:=X.wish λ_ _=>False
theorem Cx.Ok.wish{X:Cx}(ok:X.Ok)(E:Value->Shared->Prop):(X.wish E).Ok :=
 ⟨ok.mod,ok.kind,ok.glob,ok.blt,ok.above,ok.inj,ok.has,ok.cab,ok.hd,ok.frames,ok.stk,ok.exf,ok.bs,ok.bsz,ok.noex,ok.exfs,ok.funs,ok.frf⟩
theorem Cx.Ok.unwish{X:Cx}{E:Value->Shared->Prop}(ok:(X.wish E).Ok):X.Ok :=
 ⟨ok.mod,ok.kind,ok.glob,ok.blt,ok.above,ok.inj,ok.has,ok.cab,ok.hd,ok.frames,ok.stk,ok.exf,ok.bs,ok.bsz,ok.noex,ok.exfs,ok.funs,ok.frf⟩
variable{E:Value->Shared->Prop}
theorem Inv.wish(I:Inv X pins σ H s)(E:Value->Shared->Prop):Inv (X.wish E) pins σ H s:=⟨I.ok.wish E,I.os,I.bare,I.base,I.loc,I.cell,I.free,I.freeC,I.pin,I.hok,I.len⟩
theorem Inv.unwish(I:Inv (X.wish E) pins σ H s):Inv X pins σ H s:=⟨I.ok.unwish,I.os,I.bare,I.base,I.loc,I.cell,I.free,I.freeC,I.pin,I.hok,I.len⟩
theorem SP.unwish{D:Ends}{f:Flow}{s':Shared}(h:SP (X.wish E) pins D f s'):SP X pins D f s':=by
 cases f with
 |next=>obtain⟨σ',H',I,q⟩:=h;exact⟨σ',H',I.unwish,q⟩
 |brk=>obtain⟨σ',H',I,q⟩:=h;exact⟨σ',H',I.unwish,q⟩
 |cont=>obtain⟨σ',H',I,q⟩:=h;exact⟨σ',H',I.unwish,q⟩
 |ret u=>obtain⟨v,σ',H',I,r,q⟩:=h;exact⟨v,σ',H',I.unwish,r,q⟩
theorem PSs.nox{st:List Stmt}{t:TS}(h:PSs X.nox st t):PSs X st t:=λpins s σ H D I hw =>
 wpAny_mono (h pins s σ H D (I.wish _) hw) (λ_ _ q=>q.unwish) λ_ _ z=>False.elim z
variable{e:Expr}{te:TE}
section
variable{st:Stmt}{rest:List Stmt}{t u:TS}
def yg:TS:=λD σ H=>D.nx σ H
def cj(t u:TS):TS:=λD σ H=>t { D with nx:=u D } σ H
theorem aM:PSs X [] yg:=λ_ _ σ H _ I h=>wpAny_execs_nil ⟨σ,H,I,h⟩
theorem aE(h1:PS X st t)(h2:PSs X rest u):PSs X (st :: rest) (cj t u):=by
 intro pins s σ H D I h;refine wpAny_execs_cons (thn (h1 pins s σ H { D with nx:=u D } I h) λf s1 q=>?_);cases f with
 |next =>
  obtain⟨σ',H',I',q⟩:=q;exact h2 pins s1 σ' H' D I' q
 |ret v=>exact q
 |brk=>exact q
 |cont=>exact q
theorem aq(h1:PS X st t):PSs X [st] t:=by
 intro pins s σ H D I h;refine wpAny_execs_cons (thn (h1 pins s σ H D I h) λf s1 q=>?_);cases f with
 |next=>exact wpAny_execs_nil q
 |ret v=>exact q
 |brk=>exact q
 |cont=>exact q
theorem Inv.quiet{pins:List (Addr×Obj)}{σ:St}{H:Hp}{s:Shared}(I:Inv X pins σ H s):interactive X.env=false:=by simp[interactive,I.ok.kind]
def yh(te:TE):TS:=λD σ H=>te σ H λ_ H1=>D.nx σ H1
theorem bz(he:PE X e te)(hs:swapsWith e none pos.line X.env=pure false:=by rfl):PS X (.Expr e pos) (yh te):=by
 intro pins s σ H D I h;exact wpAny_Expr_any (thn (he pins s σ H _ I h) λv s1 ⟨x,H1,I1,r1,q1⟩=>⟨σ,H1,I1,q1⟩) I.quiet hs
def AU(te:TE):TS:=λD σ H=>te σ H D.rt
theorem aT(he:PE X e te):PS X (.Return (some e) pos) (AU te):=by
 intro pins s σ H D I h;exact wpAny_Return_some (thn (he pins s σ H _ I h) λv s1 ⟨x,H1,I1,r1,q1⟩=>⟨x,σ,H1,I1,r1,q1⟩)
def AV(c:TT)(t u:TS):TS:=λD σ H=>c σ H λb H1=>if b=true then t D σ H1 else u D σ H1
theorem aZ{c:Expr}{a b:List Stmt}{tc:TT}(hc:PT X c tc)(ha:PSs X a t)(hb:PSs X b u):PS X (.If c a b pos) (AV tc t u):=by
 intro pins s σ H D I h;refine wpAny_If (thn (hc pins s σ H _ I h) λd s1 ⟨H1,I1,q1⟩=>?_);cases d with
 |true=>exact ha pins s1 σ H1 D I1 q1
 |false=>exact hb pins s1 σ H1 D I1 q1
def wu:TS:=λ_ _ _=>False
theorem cI:PS X st wu:=λ_ _ _ _ _ _ h=>h.elim
end
abbrev TG:=V->St->Hp->(St->Hp->Prop)->Prop
abbrev TGs:=List V->St->Hp->(St->Hp->Prop)->Prop
def PG(X:Cx)(target:Expr)(t:TG):Prop :=
 ∀(pins:List (Addr×Obj))(s:Shared)(σ:St)(H:Hp)(v:V)(u:Value)(Q:St->Hp->Prop),Inv X pins σ H s->RelV v u->t v σ H Q ->
  wpAny (model X.prog X.w) X.A (assign target X.env u) (λ_ s'=>∃σ' H',Inv X pins σ' H' s'/\Q σ' H') X.xe s
def PGs(X:Cx)(ts:List Expr)(t:TGs):Prop :=
 ∀(pins:List (Addr×Obj))(s:Shared)(σ:St)(H:Hp)(vs:List V)(us:List Value)(Q:St->Hp->Prop),Inv X pins σ H s->Vals vs us->t vs σ H Q ->
  wpAny (model X.prog X.w) X.A (assignInOrder ((assignEach ts X.env).map (·.2)) us) (λ_ s'=>∃σ' H',Inv X pins σ' H' s'/\Q σ' H') X.xe s
def mI(i:Nat):TG:=λv σ H Q=>Q (σ.set i (some v)) H
theorem aK{i:Nat}{x:Str}(hN:X.N.Nodup)(hi:X.N[i]?=some x)(hx:Loc X.env.scope x)(hf:X.fn x=true\/X.env.scope.names.lookup x=some .local:=by first|exact .inl U|exact .inr U|assumption):PG X (.Name x pos) (mI i):=by
 intro pins s σ H v u Q I r h;exact wpAny_assign_Name (gI I hN hi hx r (λs' I'=>⟨_,H,I',h⟩) hf)
def AW:TGs:=λvs σ H Q=>vs=[]/\Q σ H
def yi(t:TG)(u:TGs):TGs:=λvs σ H Q=>∃v r,vs=v :: r/\t v σ H λσ' H'=>u r σ' H' Q
theorem cE:PGs X [] AW:=by
 intro pins s σ H vs us Q I r h;obtain⟨e,h⟩:=h;subst e;cases r;exact assignInOrder_nil ⟨σ,H,I,h⟩
theorem aO{e:Expr}{es:List Expr}{t:TG}{u:TGs}(h1:PG X e t)(h2:PGs X es u)
  (hs:(assignEach (e :: es) X.env).map (·.2)=assign e X.env :: (assignEach es X.env).map (·.2):=by rfl):PGs X (e :: es) (yi t u):=by
 intro pins s σ H vs us Q I r h;obtain⟨v,vr,e1,h⟩:=h;subst e1;cases r with
 |cons r rr =>
  rw[hs];refine assignInOrder_cons (thn (h1 pins s σ H _ _ _ I r h) λ_ s1 ⟨σ1,H1,I1,q1⟩=>?_);exact h2 pins s1 σ1 H1 _ _ Q I1 rr q1
def yj(K:W.Frag)(n:Nat)(t:TGs):TG:=λv σ H Q=>∃a xs,v=.ref a/\SqT K H a xs/\xs.length=n/\t xs σ H Q
theorem dh{es:List Expr}{k:Nat}{t:TGs}{n:Nat}(hc:X.calm=true)(h:PGs X es t)
  (hn:(assignEach es X.env).length=n:=by rfl)(hst:(assignEach es X.env).findIdx? (·.1)=none:=by rfl):PG X (.Tuple es k pos) (yj X.K n t):=by
 intro pins s σ H v u Q I r hw;obtain⟨a,xs,e1,hq,hl,hw⟩:=hw;subst e1;cases r;obtain⟨its,rv,ht,hz⟩:=I.tuple hq;refine assign_Tuple_tuple (I.ok.hd hc) ht (by simp[hn,←hl,rv.length]) hst λh' hx=>?_
 have I1:Inv X pins σ H { s with heap:=h' }:=I.kept (t':=s.toks) λb o e=>hx b o (ne_of_lt (Heap.lt_size e)) e
 exact h pins _ σ H xs _ Q I1 (by simpa using rv) hw
def uT(te:TE)(g:TG):TS:=λD σ H=>te σ H λx H1=>g x σ H1 D.nx
theorem iI{tg e:Expr}{te:TE}{g:TG}(he:PE X e te)(hg:PG X tg g)(hs:swapsWithSole [tg] e pos.line X.env=pure false:=by rfl)(hw:swappedStores [tg] e X.env=pure none:=by rfl)
  (h1:(assignEach [tg] X.env).map (·.2)=[assign tg X.env]:=by rfl):PS X (.Assign [tg] e pos) (uT te g):=by
 intro pins s σ H D I h;refine wpAny_Assign_stores (thn (he pins s σ H _ I h) λv s1 ⟨x,H1,I1,r1,q1⟩=>?_) hs hw;rw[h1];exact thn (hg pins s1 σ H1 x v _ I1 r1 q1) λ_ s2 q=>q
theorem aL{i:Nat}{x:Str}{e:Expr}{te:TE}{pos':Pos}(hN:X.N.Nodup)(hi:X.N[i]?=some x)(hx:Loc X.env.scope x)(he:PE X e te)(hs:swapsWith e (some (.Name x pos')) pos.line X.env=pure false:=by rfl)(hf:X.fn x=true\/X.env.scope.names.lookup x=some .local:=by first|exact .inl U|exact .inr U|assumption) :
  PS X (.Assign [.Name x pos'] e pos) (uT te (mI i)):=by
 intro pins s σ H D I h;refine wpAny_Assign_Name (thn (he pins s σ H _ I h) λv s1 ⟨y,H1,I1,r1,q1⟩=>?_) hs;exact gI I1 hN hi hx r1 (λs2 I2=>⟨_,H1,I2,q1⟩) hf
def wx(c:TT)(tb:TS):TS:=λD σ H=>∃W:Nat->St->Hp->Prop,(∃m,W m σ H)/\∀m σ H,W m σ H ->
 c σ H λb H1=>if b=true then ∃N:St->Hp->Prop,(∀σ' H',N σ' H'->∃m',m'<m/\W m' σ' H')/\tb { D with nx:=N,ct:=N,bk:=D.nx } σ H1 else D.nx σ H1
theorem sk{c:Expr}{body:List Stmt}{tc:TT}{tb:TS}(hp:PassesOwn (model X.prog X.w) X.A X.env X.xe)(hc:PT X c tc)(hb:PSs X body tb):PS X (.While c body [] pos) (wx tc tb):=by
 intro pins s σ H D I h;obtain⟨W,⟨m0,w0⟩,turn⟩:=h;refine wpAny_While (codeAny_whileLoop (λn s'=>∃σ' H',Inv X pins σ' H' s'/\W n σ' H') ?_ m0 ⟨σ,H,I,w0⟩);rintro n s1 ⟨σ1,H1,I1,w1⟩;refine wpAny_passesOwn hp (thn (hc pins s1 σ1 H1 _ I1 (turn n σ1 H1 w1)) λb s2 ⟨H2,I2,q2⟩=>?_);cases b with
 |true =>
  obtain⟨N,hN,q2⟩:=q2;rw[if_pos U];refine wpAny_passesOwn hp (thn (hb pins s2 σ1 H2 _ I2 q2) λf s3 q3=>?_);cases f with
  |next =>
   obtain⟨σ3,H3,I3,n3⟩:=q3;obtain⟨m',hm,w3⟩:=hN σ3 H3 n3;exact⟨m',hm,σ3,H3,I3,w3⟩
  |cont =>
   obtain⟨σ3,H3,I3,n3⟩:=q3;obtain⟨m',hm,w3⟩:=hN σ3 H3 n3;exact⟨m',hm,σ3,H3,I3,w3⟩
  |brk=>exact q3
  |ret v=>exact q3
 |false =>
  rw[if_neg Bool.false_ne_true];exact wpAny_execs_nil ⟨σ1,H2,I2,q2⟩
structure It where
 go:Nat->Hp->Prop
 yld:Nat->Hp->V->Hp->Prop
 stop:Nat->Hp->Prop
def jL(X:Cx)(pins:List (Addr×Obj))(H:Hp)(b:Addr):Prop :=
 H b=none/\b≠X.env.locals/\b ∉ X.fs/\(b∈X.ex\/X.s₀.heap.objs.size<=b)/\(∀x c,X.env.cells.lookup x=some c->c≠b)/\∀p∈X.pn++pins,p.1≠b
theorem Inv.fpOk{X:Cx}{pins:List (Addr×Obj)}{σ:St}{H H':Hp}{s:Shared}{b:Addr}(I:Inv X pins σ H s)(hb:s.heap.objs.size<=b)(hn:H' b=none):jL X pins H' b:=by
 refine⟨hn,ne_of_gt (lt_of_lt_of_le I.lt hb),I.nofs hb,.inr (le_trans I.sz hb),λx c e z=>?_,λp hp z=>?_⟩
 ·obtain⟨v,q⟩:=I.cell x c e;exact absurd (lt_of_lt_of_le q.lt (by rw[z];exact hb)) (lt_irrefl _)
 ·exact absurd (lt_of_lt_of_le (Heap.lt_size (I.pin p hp).1) (by rw[z];exact hb)) (lt_irrefl _)
structure Turn(P:Program)(w:World)(K:W.Frag)(tg:Expr)(J:It)(fp:List Addr)(it:Addr)(tn:Nat->Heap->Prop):Prop where
 mem:it∈fp
 obj:∀i h,tn i h->∀b∈fp,∃o,h.get? b=some o/\∀v,o.data≠.cell v
 keep:∀i h h',tn i h->(∀b∈fp,∀o,h.get? b=some o->h'.get? b=some o)->tn i h'
 item:∀(X:Cx),X.prog=P->X.w=w->X.K=K->X.calm=true->∀(i:Nat)(pins:List (Addr×Obj))(s:Shared)(σ:St)(H:Hp)(E:Value->Shared->Prop),Inv X pins σ H s->(∀b∈fp,jL X pins H b)->tn i s.heap->J.go i H ->
  wpAny (model P w) X.A (pyNext (.ref it)) (λr s1=>∃u,r=some u /\
   wpAny (model P w) X.A (letOwnedTupleGo tg (.ref it) u) (λ_ s2=>∃x H',Inv X pins σ H' s2/\RelV x u/\J.yld i H x H'/\tn (i+1) s2.heap/\∀b∈fp,H' b=none) E s1) E s
 done:∀(X:Cx),X.prog=P->X.w=w->X.K=K->X.calm=true->∀(i:Nat)(pins:List (Addr×Obj))(s:Shared)(σ:St)(H:Hp)(E:Value->Shared->Prop),Inv X pins σ H s->(∀b∈fp,jL X pins H b)->tn i s.heap->J.stop i H ->
  wpAny (model P w) X.A (pyNext (.ref it)) (λr s1=>r=none/\Inv X pins σ H s1) E s
 self:∀(A:Around)(i:Nat)(s:Shared)(Q:Value->Shared->Prop)(E:Value->Shared->Prop),tn i s.heap->Q (.ref it) s->wpAny (model P w) A (pyIter (.ref it)) Q E s
abbrev TI:=St->Hp->(It->Hp->Prop)->Prop
def PIE(X:Cx)(pins:List (Addr×Obj))(σ:St)(tg:Expr)(R:It->Hp->Prop)(itv:Value)(s2:Shared):Prop :=
 ∃(it:Addr)(fp:List Addr)(tn:Nat->Heap->Prop)(J:It)(H':Hp),itv=.ref it/\Inv X pins σ H' s2/\Turn X.prog X.w X.K tg J fp it tn/\tn 0 s2.heap/\(∀b∈fp,jL X pins H' b)/\R J H'
def PI(X:Cx)(tg iter:Expr)(wi:TI):Prop :=
 ∀(pins:List (Addr×Obj))(s:Shared)(σ:St)(H:Hp)(R:It->Hp->Prop),Inv X pins σ H s->wi σ H R ->
  wpAny (model X.prog X.w) X.A (eval iter X.env) (λv s1=>wpAny (model X.prog X.w) X.A (pyIter v) (PIE X pins σ tg R) X.xe s1) X.xe s
theorem qJ{M:Model}{A:Around}{E:Value->Shared->Prop}{s:Shared}{tg:Expr}{it:Addr}{u:Value}{o:Obj}{n:String}{vs:Array Value}{Q:Unit->Shared->Prop}(ho:s.heap.get? it=some o)(hc:o.cls=.type n)(hd:o.data=.fields vs)
  (hn:["enumerate","zip","dict_itemiterator","dict_reverseitemiterator","odict_iterator","itertools.zip_longest","itertools.pairwise"].contains n=false) (hQ:Q () s):wpAny M A (letOwnedTupleGo tg (.ref it) u) Q E s:=by
 unfold letOwnedTupleGo
 cases tg <;> first
  |exact wpAny_pure hQ
  |(cases u <;> first
    |exact wpAny_pure hQ
    |(refine wpAny_bind (wpAny_load ho ?_);rw[hc,hd];show wpAny M A (if (["enumerate","zip","dict_itemiterator","dict_reverseitemiterator","odict_iterator","itertools.zip_longest","itertools.pairwise"].contains n && vs[0]? == some (rawInt _))=true then _ else _) Q E s;rw[if_neg (by intro h;rw[hn,Bool.false_and]at h;cases h)];exact wpAny_pure hQ))
def Itl(K:W.Frag)(a:Addr):It :=
 ⟨λi H=>∃xs x,SqL K H a xs/\xs[i]?=some x,λi H x H'=>H'=H/\∀xs,SqL K H a xs->xs[i]?=some x,λi H=>∃xs,SqL K H a xs/\xs.length<=i⟩
def Itr(lo:Int)(n:Nat):It:=⟨λi _=>i<n,λi H x H'=>H'=H/\x=.int (lo+i),λi _=>n<=i⟩
theorem rh{P:Program}{w:World}{K:W.Frag}{tg:Expr}(a it:Addr):Turn P w K tg (Itl K a) [it] it (λi h=>h.IsListIter it a i) where
 mem:=by simp
 obj:=λi h st b hb=>by
  have e:b=it:=by simpa using hb
  subst e;obtain⟨o,e,c,d⟩:=st;exact⟨o,e,λv z=>by rw[d]at z;cases z⟩
 keep:=λi h h' st k=>st.at λo e=>k it (by simp) o e
 item:=by
  intro X hP hw hK hc i pins s σ H E I hf st hg;subst hP hw hK;obtain⟨xs,x,hq,hx⟩:=hg;obtain⟨its,rv,p,hz⟩:=I.list hq;obtain⟨u,hu,ru⟩:=rv.get hx;obtain⟨f0,f1,f2,f3,f4,f5⟩:=hf it (by simp);refine wpAny_pyNext_list_item st p.isList (x:=u) (by simpa using hu) λh' st' sb=>?_
  have I1:Inv X pins σ H { s with heap:=h' }:=I.turned (t':=s.toks) (λb o hb e=>(sb.2 b hb).trans e) f0 f1 f3 f4 f5;obtain⟨o,e,c,d⟩:=id st';exact⟨u,U,qJ (s:={ s with heap:=h' }) e c d (by decide) ⟨x,H,I1,ru,⟨U,λys hy=>by rw[I.list_inj hy hq];exact hx⟩,st',λb hb=>(hf b hb).1⟩⟩
 done:=by
  intro X hP hw hK hc i pins s σ H E I hf st hg;subst hP hw hK;obtain⟨xs,hq,hx⟩:=hg;obtain⟨its,rv,p,hz⟩:=I.list hq;obtain⟨f0,f1,f2,f3,f4,f5⟩:=hf it (by simp);have hl:=rv.length;exact wpAny_pyNext_list_end (I.ok.hd hc) st p.isList (by simp;lia) λh' eb=>⟨U,I.turned (t':=s.toks) (λb o hb e=>eb b o hb e) f0 f1 f3 f4 f5⟩
 self:=λ_ _ _ _ _ st h=>wpAny_pyIter_listiter st h
theorem pY{P:Program}{w:World}{K:W.Frag}{tg:Expr}(it:Addr)(lo:Int)(n:Nat):Turn P w K tg (Itr lo n) [it] it (λi h=>IsRangeIter h it (lo+(i:Nat)*1) ((n:Int)-(i:Nat)) 1) where
 mem:=by simp
 obj:=λi h st b hb=>by
  have e:b=it:=by simpa using hb
  subst e;exact⟨_,st,λv z=>by
   have z':Data.fields _=Data.cell v:=z;cases z'⟩
 keep:=λi h h' st k=>k it (by simp) _ st
 item:=by
  intro X hP hw hK hc i pins s σ H E I hf st hg;subst hP hw hK;obtain⟨f0,f1,f2,f3,f4,f5⟩:=hf it (by simp);have W:=Walks.range (prog:=X.prog) (w:=X.w) (I.ok.hd hc) it lo 1 n;refine W.item i s _ _ hg st λv h' tk hv st' kk=>?_
  obtain⟨t,rfl⟩:=hv;have I1:Inv X pins σ H { s with heap:=h',toks:=tk }:=I.turned (λb o hb e=>kk b o (by simpa using hb) e) f0 f1 f3 f4 f5;refine⟨_,U,qJ (s:={ s with heap:=h',toks:=tk }) (n := "range_iterator") st' U U (by decide) ⟨.int (lo+i),H,I1,⟨t,?_⟩,⟨U,U⟩,st',λb hb=>(hf b hb).1⟩⟩;rw[Int.mul_one]
 done:=by
  intro X hP hw hK hc i pins s σ H E I hf st hg;subst hP hw hK;obtain⟨f0,f1,f2,f3,f4,f5⟩:=hf it (by simp);exact wpAny_pyNext_range_end (I.ok.hd hc) st (by have:n<=i:=hg;lia) λh' eb=>⟨U,I.turned (t':=s.toks) (λb o hb e=>eb b o hb e) f0 f1 f3 f4 f5⟩
 self:=λ_ _ _ _ _ st h=>wpAny_pyIter_rangeiter st h
section
variable{tg:Expr}
inductive sq(K:W.Frag)(R:It->Hp->Prop)(x:V)(H1:Hp):Prop
 |mk (a:_)(_:x=.ref a)(_:(∃xs,SqL K H1 a xs))(_:R (Itl K a) H1):sq K R x H1
def vO(K:W.Frag)(tl:TE):TI:=λσ H R=>tl σ H λx H1=>sq K R x H1
theorem aW{l:Expr}{tl:TE}(hl:PE X l tl):PI X tg l (vO X.K tl):=by
 intro pins s σ H R I h;refine thn (hl pins s σ H _ I h) λv s1 ⟨x,H1,I1,r1,q1⟩=>?_
 obtain⟨a,e,⟨xs,hq⟩,q⟩:=q1;subst e;cases r1;obtain⟨its,rv,p,hz⟩:=I1.list hq;refine wpAny_pyIter_list p.isList ?_;refine⟨s1.heap.objs.size,[s1.heap.objs.size],_,_,H1,U,I1.kept (t':=s1.toks) λb o e=>Heap.get?_push_of_some _ e,rh a _,⟨_,Heap.get?_push_size _ U,U,U⟩,λb hb=>?_,q⟩;have e:b=s1.heap.objs.size:=by simpa using hb
 subst e;exact I1.fpOk (le_refl _) (I1.hok.fresh (le_refl _))
theorem pb{pins:List (Addr×Obj)}{σ:St}{H:Hp}{s:Shared}{R:It->Hp->Prop}{E:Value->Shared->Prop}{lo hi:Int}{t u v:Tok}{tk:Nat}(I:Inv X pins σ H s)(h1 : -(2^62)<=lo)(h2:lo<2^62)(h3 : -(2^62)<=hi)(h4:hi<2^62)
  (q:R (Itr lo (hi-lo).toNat) H):wpAny (model X.prog X.w) X.A (pyIter (.ref s.heap.objs.size)) (PIE X pins σ tg R) E { s with heap:=s.heap.push { cls:=.type "range",data:=.fields #[.int lo t,.int hi u,.int 1 v] },toks:=tk }:=by
 refine wpAny_pyIter_range (IsRange.new ..) (small_one h1 h2 h3 h4) ?_;have I1:Inv X pins σ H { s with heap:=s.heap.push { cls:=.type "range",data:=.fields #[.int lo t,.int hi u,.int 1 v] },toks:=tk }:=I.kept λb o e=>Heap.get?_push_of_some _ e
 refine⟨(s.heap.push { cls:=.type "range",data:=.fields #[.int lo t,.int hi u,.int 1 v] }).objs.size,[(s.heap.push { cls:=.type "range",data:=.fields #[.int lo t,.int hi u,.int 1 v] }).objs.size],_,_,H,U,
  I1.kept (t':=tk) λb o e=>Heap.get?_push_of_some _ e,pY _ lo (hi-lo).toNat,?_,λb hb=>?_,q⟩
 ·have e1:lo+((0:Nat):Int)*1=lo:=by simp
  have e2:(((hi-lo).toNat:Nat):Int)-((0:Nat):Int)=Builtin.Range.rangeSize lo hi 1:=by rw[rangeSize_one];split <;> lia
  show IsRangeIter _ _ (lo+((0:Nat):Int)*1) ((((hi-lo).toNat:Nat):Int)-((0:Nat):Int)) 1;rw[e1,e2];exact Heap.get?_push_size _ U
 ·have e:b=(s.heap.push { cls:=.type "range",data:=.fields #[.int lo t,.int hi u,.int 1 v] }).objs.size:=by simpa using hb
  subst e;exact I1.fpOk (le_refl _) (I1.hok.fresh (le_refl _))
inductive sr  (R:It->Hp->Prop)(vs:List V)(H1:Hp):Prop
 |mk (j:Int)(_:vs=[.int j])(_ : -(2^62)<=j)(_:j<2^62)(_:R (Itr 0 j.toNat) H1):sr R vs H1
def yk(ta:TA):TI:=λσ H R=>ta σ H λvs H1=>sr R vs H1
inductive sv  (R:It->Hp->Prop)(vs:List V)(H1:Hp):Prop
 |mk (i j:Int)(_:vs=[.int i,.int j])(_:(-(2^62)<=i/\i<2^62/\-(2^62)<=j/\j<2^62))(_:R (Itr i (j-i).toNat) H1):sv R vs H1
def ym(ta:TA):TI:=λσ H R=>ta σ H λvs H1=>sv R vs H1
theorem bG{a:Expr}{ta:TA}{p pos:Pos}(hg:Gl X "range") (hm:X.mg "range" = none) (ha:PA X [a] ta)(hs:starEach [a] X.env=[(false,eval a X.env)]:=by rfl):PI X tg (.Call (.Name "range" p) [a] [] pos) (yk ta):=by
 intro pins s σ H R I h;refine Call_ (jJ I hg hm boot_range (PyProof.Rows.callWith_type1 (thn (ha pos pins s σ H _ I h) λus s1 ⟨vs,H1,I1,r1,q1⟩=>?_) hs U));obtain⟨j,e,q1,q2,q⟩:=q1;subst e;cases r1 with
 |cons r rr =>
  cases rr;obtain⟨t,rfl⟩:=r;exact call_range_1 (pb I1 (by lia) (by lia) q1 q2 (by simpa using q))
theorem mJ{a b:Expr}{ta:TA}{p pos:Pos}(hg:Gl X "range") (hm:X.mg "range" = none) (ha:PA X [a,b] ta)(hs:starEach [a,b] X.env=[(false,eval a X.env),(false,eval b X.env)]:=by rfl)(hs2:starEach [b] X.env=[(false,eval b X.env)]:=by rfl) :
  PI X tg (.Call (.Name "range" p) [a,b] [] pos) (ym ta):=by
 intro pins s σ H R I h;refine Call_ (jJ I hg hm boot_range (PyProof.Rows.callWith_type1 (thn (ha pos pins s σ H _ I h) λus s1 ⟨vs,H1,I1,r1,q1⟩=>?_) (by rw[hs,hs2]) (by rw[hs2];rfl)));obtain⟨i,j,e,⟨q1,q2,q3,q4⟩,q⟩:=q1;subst e;cases r1 with
 |cons r rr =>
  cases rr with
  |cons r' rr =>
   cases rr;obtain⟨t,rfl⟩:=r;obtain⟨t',rfl⟩:=r';exact call_range_2 (pb I1 q1 q2 q3 q4 q)
def AX(wi:TI)(g:TG)(tb:TS):TS:=λD σ H=>wi σ H λJ H1=>∃W:Nat->Nat->St->Hp->Prop,(∃m,W 0 m σ H1)/\∀i m σ H,W i m σ H ->
 (J.stop i H/\D.nx σ H)\/(J.go i H/\∃N:St->Hp->Prop,(∀σ' H',N σ' H'->∃m',m'<m/\W (i+1) m' σ' H')/\∀x H',J.yld i H x H'->g x σ H' λσ2 H2=>tb { D with nx:=N,ct:=N,bk:=D.nx } σ2 H2)
def jM(fp:List Addr)(h:Heap):List (Addr×Obj):=fp.filterMap λb=>(h.get? b).map λo=>(b,o)
theorem dH{fp:List Addr}{h:Heap}{b:Addr}{o:Obj}(hb:b∈fp)(e:h.get? b=some o):(b,o)∈jM fp h:=mem_filterMap.mpr ⟨b,hb,by rw[e];rfl⟩
theorem ri{fp:List Addr}{h:Heap}{p:Addr×Obj}(hp:p∈jM fp h):p.1∈fp/\h.get? p.1=some p.2:=by
 obtain⟨b,hb,e⟩:=mem_filterMap.mp hp;cases q:h.get? b with
 |none=>rw[q]at e;cases e
 |some o =>
  rw[q]at e;have e':(b,o)=p:=Option.some.inj e;subst e';exact⟨hb,q⟩
theorem Inv.pinned{pins:List (Addr×Obj)}{σ:St}{H:Hp}{s:Shared}{fp:List Addr}(I:Inv X pins σ H s)(hf:∀b∈fp,jL X pins H b)(ho:∀b∈fp,∃o,s.heap.get? b=some o/\∀v,o.data≠.cell v):Inv X (pins++jM fp s.heap) σ H s :=
 I.pins_of λp hp=>(mem_append.mp hp).elim (λz=>I.pin p (mem_append_right _ z)) λz=>by
  obtain⟨hb,e⟩:=ri z;obtain⟨f0,f1,f2,_⟩:=hf p.1 hb;obtain⟨o,e',d⟩:=ho p.1 hb;rw[e]at e';cases e';exact⟨e,f0,f1,f2,d⟩
theorem Inv.unpinned{pins pl:List (Addr×Obj)}{σ:St}{H:Hp}{s:Shared}(I:Inv X (pins++pl) σ H s):Inv X pins σ H s:=I.pins_of λp hp=>I.pin p (mem_append_right _ (mem_append_left _ hp))
theorem cO{iter:Expr}{body:List Stmt}{wi:TI}{g:TG}{tb:TS}{pos:Pos}(hp:PassesOwn (model X.prog X.w) X.A X.env X.xe)(hc:X.calm=true)(hi:PI X tg iter wi)(hg:PG X tg g)(hb:PSs X body tb)
  (hs:∀x,foldedSetIterable iter X.env x=pure x:=by intro _;rfl):PS X (.For tg iter body [] pos) (AX wi g tb):=by
 intro pins s σ H D I h;refine wpAny_For (thn (hi pins s σ H _ I h) λv s1 h1=>thn h1 λitv s2 h2=>?_) hs;obtain⟨it,fp,tn,J,H2,e,I2,T,st2,f2,W,⟨m0,w0⟩,turn⟩:=h2;subst e;have wz:∀{H':Hp},(∀b∈fp,H' b=none)->∀b∈fp,jL X pins H' b:=λhn b hb=>⟨hn b hb,(f2 b hb).2⟩
 refine codeAny_forLoop_any (λn s'=>∃i σ' H',Inv X pins σ' H' s'/\tn i s'.heap/\(∀b∈fp,H' b=none)/\W i n σ' H') ?_ m0 ⟨0,σ,H2,I2,st2,λb hb=>(f2 b hb).1,w0⟩;rintro n s3 ⟨i,σ3,H3,I3,st3,fr3,w3⟩;rcases turn i n σ3 H3 w3 with⟨stop,qn⟩|⟨go,N,hN,step⟩
 ·refine wpAny_passesOwn hp (thn (T.done X U U U hc i pins s3 σ3 H3 X.xe I3 (wz fr3) st3 stop) λr s4 ⟨hr,I4⟩=>?_);subst hr;exact wpAny_execs_nil ⟨σ3,H3,I4,qn⟩
 ·refine wpAny_passesOwn hp (thn (T.item X U U U hc i pins s3 σ3 H3 X.xe I3 (wz fr3) st3 go) λr s4 ⟨u,hr,h4⟩=>?_);subst hr;refine wpAny_passesOwn hp (thn h4 λ_ s5 ⟨x,H5,I5,r5,y5,st5,fr5⟩=>?_);have I5':=I5.pinned (wz fr5) (T.obj _ _ st5);refine wpAny_passesOwn hp (thn (hg _ s5 σ3 H5 x u _ I5' r5 (step x H5 y5)) λ_ s6 ⟨σ6,H6,I6,q6⟩=>?_);refine wpAny_passesOwn hp (thn (hb _ s6 σ6 H6 _ I6 q6) λf s7 q7=>?_);have again:∀{σ7:St}{H7:Hp},Inv X (pins++jM fp s5.heap) σ7 H7 s7->N σ7 H7->∃m,m<n/\∃i σ' H',Inv X pins σ' H' s7/\tn i s7.heap/\(∀b∈fp,H' b=none)/\W i m σ' H':=λ{σ7 H7} I7 n7=>by
   obtain⟨m',hm,w7⟩:=hN σ7 H7 n7;refine⟨m',hm,i+1,σ7,H7,I7.unpinned,T.keep _ _ _ st5 λb hb o e=>(I7.pin (b,o) (mem_append_right _ (mem_append_right _ (dH hb e)))).1,λb hb=>?_,w7⟩;obtain⟨o,e,d⟩:=T.obj _ _ st5 b hb;exact(I7.pin (b,o) (mem_append_right _ (mem_append_right _ (dH hb e)))).2.1
  cases f with
  |next=>obtain⟨σ7,H7,I7,n7⟩:=q7;exact again I7 n7
  |cont=>obtain⟨σ7,H7,I7,n7⟩:=q7;exact again I7 n7
  |brk=>obtain⟨σ7,H7,I7,q7⟩:=q7;exact⟨σ7,H7,I7.unpinned,q7⟩
  |ret v=>obtain⟨x7,σ7,H7,I7,r7,q7⟩:=q7;exact⟨x7,σ7,H7,I7.unpinned,r7,q7⟩
end
theorem cR{K:W.Frag}{a:Addr}{xs:List V}{g:TG}{tb:TS}{D:Ends}{σ:St}{H:Hp}(Pv:Nat->St->Hp->Prop)(h0:Pv 0 σ H)(hl:∀i σ H,i<=xs.length->Pv i σ H->SqL K H a xs)
  (hs:∀i x σ H,xs[i]?=some x->Pv i σ H->g x σ H λσ2 H2=>tb { D with nx:=Pv (i+1),ct:=Pv (i+1),bk:=D.nx } σ2 H2)(hd:∀σ H,Pv xs.length σ H->D.nx σ H) :
  ∃W:Nat->Nat->St->Hp->Prop,(∃m,W 0 m σ H)/\∀i m σ H,W i m σ H ->
   ((Itl K a).stop i H/\D.nx σ H)\/((Itl K a).go i H/\∃N:St->Hp->Prop,(∀σ' H',N σ' H'->∃m',m'<m/\W (i+1) m' σ' H')/\∀x H',(Itl K a).yld i H x H'->g x σ H' λσ2 H2=>tb { D with nx:=N,ct:=N,bk:=D.nx } σ2 H2):=by
 refine⟨λi m σ H=>m=xs.length-i/\i<=xs.length/\Pv i σ H,⟨xs.length,by simp,zero_le _,h0⟩,?_⟩;rintro i m σ H ⟨rfl,hi,p⟩;have q:=hl i σ H hi p;by_cases hlt:i<xs.length
 ·refine .inr ⟨⟨xs,xs[i],q,by simp[hlt]⟩,Pv (i+1),λσ' H' p'=>⟨xs.length-(i+1),by lia,U,hlt,p'⟩,λx H' y=>?_⟩;obtain⟨e,y⟩:=y;subst e;exact hs i x σ _ (y xs q) p
 ·have e:i=xs.length:=by lia
  subst e;exact .inl ⟨⟨xs,q,le_refl _⟩,hd σ H p⟩
theorem hV{lo:Int}{n:Nat}{g:TG}{tb:TS}{D:Ends}{σ:St}{H:Hp}(Pv:Nat->St->Hp->Prop)(h0:Pv 0 σ H)
  (hs:∀i σ H,i<n->Pv i σ H->g (.int (lo+i)) σ H λσ2 H2=>tb { D with nx:=Pv (i+1),ct:=Pv (i+1),bk:=D.nx } σ2 H2)(hd:∀σ H,Pv n σ H->D.nx σ H) :
  ∃W:Nat->Nat->St->Hp->Prop,(∃m,W 0 m σ H)/\∀i m σ H,W i m σ H ->
   ((Itr lo n).stop i H/\D.nx σ H)\/((Itr lo n).go i H/\∃N:St->Hp->Prop,(∀σ' H',N σ' H'->∃m',m'<m/\W (i+1) m' σ' H')/\∀x H',(Itr lo n).yld i H x H'->g x σ H' λσ2 H2=>tb { D with nx:=N,ct:=N,bk:=D.nx } σ2 H2):=by
 refine⟨λi m σ H=>m=n-i/\i<=n/\Pv i σ H,⟨n,by simp,zero_le _,h0⟩,?_⟩;rintro i m σ H ⟨rfl,hi,p⟩;by_cases hlt:i<n
 ·refine .inr ⟨hlt,Pv (i+1),λσ' H' p'=>⟨n-(i+1),by lia,U,hlt,p'⟩,λx H' y=>?_⟩;obtain⟨e,y⟩:=y;subst e y;exact hs i σ _ hlt p
 ·have e:i=n:=by lia
  subst e;exact .inl ⟨le_refl _,hd σ H p⟩
abbrev R2:=V->V->Hp->VK->Prop
def OpR(X:Cx)(f:Value->Value->Sem Value)(r:R2):Prop :=
 ∀(pins:List (Addr×Obj))(s:Shared)(σ:St)(H:Hp)(x y:V)(v u:Value)(Q:VK),Inv X pins σ H s->RelV x v->RelV y u->r x y H Q ->
  wpAny (model X.prog X.w) X.A (f v u) (EP X pins σ Q) X.xe s
def eZ(X:Cx)(f:Value)(r:List V->Hp->VK->Prop):Prop :=
 ∀(pins:List (Addr×Obj))(s:Shared)(σ:St)(H:Hp)(xs:List V)(us:List Value)(Q:VK),Inv X pins σ H s->Vals xs us->r xs H Q ->
  wpAny (model X.prog X.w) X.A (call f us) (EP X pins σ Q) X.xe s
def AY(X:Cx)(r:V->Hp->(Bool->Hp->Prop)->Prop):Prop :=
 ∀(pins:List (Addr×Obj))(s:Shared)(σ:St)(H:Hp)(x:V)(v:Value)(Q:Bool->Hp->Prop),Inv X pins σ H s->RelV x v->r x H Q ->
  wpAny (model X.prog X.w) X.A (truthy v) (TP X pins σ Q) X.xe s
def tOp(r:R2)(ta tb:TE):TE:=λσ H Q=>ta σ H λx H1=>tb σ H1 λy H2=>r x y H2 Q
inductive rI(C:Int->Int->Prop)(g:Int->Int->V)(x:V)(y:V)(H:Hp)(Q:VK):Prop
 |mk (i j:_)(_:x=.int i)(_:y=.int j)(_:C i j)(_:Q (g i j) H):rI C g x y H Q
inductive rI0(g:Int->Int->V)(x:V)(y:V)(H:Hp)(Q:VK):Prop
 |mk (i j:_)(_:x=.int i)(_:y=.int j)(_:Q (g i j) H):rI0 g x y H Q
section
variable{a b c:Expr}{tb tc:TE}
theorem wA(ha:PE X a ta)(hb:PE X b tb){pins:List (Addr×Obj)}{s:Shared}{σ:St}{H:Hp}{R:V->V->Hp->Prop}(I:Inv X pins σ H s)
  (h:ta σ H λx H1=>tb σ H1 λy H2=>R x y H2){Q:Value->Shared->Prop}{f:Value->Value->Sem Value}
  (hf:∀v u s2 x y H2,Inv X pins σ H2 s2->RelV x v->RelV y u->R x y H2->wpAny (model X.prog X.w) X.A (f v u) Q X.xe s2) :
  wpAny (model X.prog X.w) X.A (eval a X.env) (λv s₁=>wpAny (model X.prog X.w) X.A (eval b X.env) (λu s₂=>wpAny (model X.prog X.w) X.A (f v u) Q X.xe s₂) X.xe s₁) X.xe s:=by
 refine thn (ha pins s σ H _ I h) λv s1 ⟨x,H1,I1,r1,q1⟩=>?_
 refine thn (hb pins s1 σ H1 _ I1 q1) λu s2 ⟨y,H2,I2,r2,q2⟩=>?_
 exact hf v u s2 x y H2 I2 r1 r2 q2
theorem aC{op:Operator}{r:R2}(ho:OpR X (binaryOp op) r)(ha:PE X a ta)(hb:PE X b tb):PE X (.BinOp a op b pos) (tOp r ta tb):=by
 intro pins s σ H Q I h;exact wpAny_BinOp (wA ha hb I h λv u s2 x y H2 I2 rx ry q=>ho pins s2 σ H2 x y v u Q I2 rx ry q)
theorem opI{f:Value->Value->Sem Value}{C:Int->Int->Prop}{g:Int->Int->Int}
  (rule:∀(i j:Int)(t u:Tok)(s:Shared)(Q:Value->Shared->Prop)(E:Value->Shared->Prop),C i j->Q (.int (g i j) s.toks) { s with toks:=s.toks+1 }->wpAny (model X.prog X.w) X.A (f (.int i t) (.int j u)) Q E s) :
  OpR X f (rI C λi j=>.int (g i j)):=by
 intro pins s σ H x y v u Q I rx ry h;obtain⟨i,j,rfl,rfl,hc,q⟩:=h;obtain⟨t,rfl⟩:=rx;obtain⟨t',rfl⟩:=ry;exact rule i j t t' s _ _ hc ⟨.int (g i j),H,I.tok _,⟨_,U⟩,q⟩
theorem yn{f:Value->Value->Sem Value}{g:Int->Int->Int}
  (rule:∀(i j:Int)(t u:Tok)(s:Shared)(Q:Value->Shared->Prop)(E:Value->Shared->Prop),Q (.int (g i j) s.toks) { s with toks:=s.toks+1 }->wpAny (model X.prog X.w) X.A (f (.int i t) (.int j u)) Q E s) :
  OpR X f (rI0 λi j=>.int (g i j)):=by
 intro pins s σ H x y v u Q I rx ry h;obtain⟨i,j,rfl,rfl,q⟩:=h;obtain⟨t,rfl⟩:=rx;obtain⟨t',rfl⟩:=ry;exact rule i j t t' s _ _ ⟨.int (g i j),H,I.tok _,⟨_,U⟩,q⟩
theorem uU{f:Value->Value->Sem Value}{g:Int->Int->Bool}
  (rule:∀(i j:Int)(t u:Tok)(s:Shared)(Q:Value->Shared->Prop)(E:Value->Shared->Prop),Q (.bool (g i j)) s->wpAny (model X.prog X.w) X.A (f (.int i t) (.int j u)) Q E s) :
  OpR X f (rI0 λi j=>.bl (g i j)):=by
 intro pins s σ H x y v u Q I rx ry h;obtain⟨i,j,rfl,rfl,q⟩:=h;obtain⟨t,rfl⟩:=rx;obtain⟨t',rfl⟩:=ry;exact rule i j t t' s _ _ ⟨.bl (g i j),H,I,U,q⟩
def yo(i j:Int):Prop:=0<j/\j<1073741824
def AZ(i j:Int):Prop:=0<=j/\j<=1000000/\i.natAbs<2^64
def wB(i j:Int):Prop:=(-(2^64)<i/\i<2^64)\/(-(2^64)<j/\j<2^64)
theorem wB.ok{i j:Int}(h:wB i j):IntMulOk i j:=by
 rcases h with⟨h1,h2⟩|⟨h1,h2⟩
 ·exact .of_left (intBits_le_64 h1 h2)
 ·exact .of_right (intBits_le_64 h1 h2)
theorem bT:OpR X (binaryOp .Add) (rI0 λi j=>.int (i+j)):=yn λ_ _ _ _ _ _ _ q=>add_int q
theorem cY:OpR X (binaryOp .Sub) (rI0 λi j=>.int (i-j)):=yn λ_ _ _ _ _ _ _ q=>sub_int q
theorem jN:OpR X (binaryOp .Mult) (rI wB λi j=>.int (i*j)):=opI λ_ _ _ _ _ _ _ hc q=>mul_int q hc.ok
theorem bU:OpR X (binaryOp .FloorDiv) (rI yo λi j=>.int (i / j)):=opI λi j _ _ _ _ _ hc q=>by
 have h1:(0:Int)<j:=hc.1;have h2:j<1073741824:=hc.2;exact floordiv_int (by lia) (by rw[Int.fdiv_eq_ediv_of_nonneg i (by lia)];exact q) (.inl (PyProof.noPylong_small (by lia)))
theorem bA:OpR X (binaryOp .Mod) (rI (λ_ j=>0<j) λi j=>.int (i%j)):=opI λi j _ _ _ _ _ hc q=>by
 have h1:(0:Int)<j:=hc;exact mod_int' (by lia) (by rw[Int.fmod_eq_emod_of_nonneg i (by lia)];exact q)
theorem nj:OpR X (binaryOp .Pow) (rI AZ λi j=>.int (i^j.toNat)):=opI λ_ _ _ _ _ _ _ hc q=>pow_int_small hc.1 hc.2.1 hc.2.2 q
end
def yp:V->V->Bool
 | .non,.non=>true | .non,.int _=>true | .int _,.non=>true | .non,.bl _=>true | .bl _,.non=>true | .non,.str _=>true | .str _,.non=>true
 | .int _,.int _=>true | .bl _,.bl _=>true | .str _,.str _=>true | .byt _,.byt _=>true
 | .int _,.str _=>true | .str _,.int _=>true | .bl _,.str _=>true | .str _,.bl _=>true
 |_,_=>false
def rEq:R2:=λx y H Q=>yp x y=true/\Q (.bl (decide (x=y))) H
def rNe:R2:=λx y H Q=>yp x y=true/\Q (.bl (!decide (x=y))) H
theorem qK{i j:Int}:decide (V.int i=V.int j)=(i == j):=by
 rw[Bool.eq_iff_iff];simp
theorem sy{i j:Bool}:decide (V.bl i=V.bl j)=(i == j):=by
 rw[Bool.eq_iff_iff];simp
theorem qL{i j:Str}:decide (V.str i=V.str j)=(i == j):=by
 rw[Bool.eq_iff_iff];simp
theorem qM{i j:Array UInt8}:decide (V.byt i=V.byt j)=(i.toList == j.toList):=by
 rw[Bool.eq_iff_iff];cases i;cases j;simp
section
variable{a b c:Expr}{tb tc:TE}
theorem bo{pins:List (Addr×Obj)}{σ:St}{H:Hp}{s:Shared}{Q:VK}{k k':Bool}(I:Inv X pins σ H s)(q:Q (.bl k) H)(e:k=k'):EP X pins σ Q (.bool k') s:=by
 subst e;exact⟨.bl k,H,I,U,q⟩
theorem cw:OpR X (compareOp .Eq) rEq:=by
 intro pins s σ H x y v u Q I rx ry h;obtain⟨hs,q⟩:=h;cases x with
 |non =>
  cases rx;cases y with
  |non=>cases ry;exact PySem.EqNone.eq_none_none (bo I q (by simp))
  |bl j=>cases ry;exact PySem.EqNone.eq_none_bool (bo I q (by simp))
  |int j=>obtain⟨t',rfl⟩:=ry;exact PySem.EqNone.eq_none_int (bo I q (by simp))
  |str j=>obtain⟨t',rfl⟩:=ry;exact PySem.EqNone.eq_none_str (bo I q (by simp))
  |_=>exact absurd (show false=true from hs) Bool.false_ne_true
 |bl i =>
  cases rx;cases y with
  |non=>cases ry;exact PySem.EqNone.eq_bool_none (bo I q (by simp))
  |bl j=>cases ry;exact eq_bool (bo I q sy)
  |str j=>obtain⟨t',rfl⟩:=ry;exact PySem.EqMixed.eq_bool_str (bo I q (by simp))
  |_=>exact absurd (show false=true from hs) Bool.false_ne_true
 |int i =>
  obtain⟨t,rfl⟩:=rx;cases y with
  |non=>cases ry;exact PySem.EqNone.eq_int_none (bo I q (by simp))
  |int j=>obtain⟨t',rfl⟩:=ry;exact eq_int (bo I q qK)
  |str j=>obtain⟨t',rfl⟩:=ry;exact PySem.EqMixed.eq_int_str (bo I q (by simp))
  |_=>exact absurd (show false=true from hs) Bool.false_ne_true
 |str i =>
  obtain⟨t,rfl⟩:=rx;cases y with
  |non=>cases ry;exact PySem.EqNone.eq_str_none (bo I q (by simp))
  |bl j=>cases ry;exact PySem.EqMixed.eq_str_bool (bo I q (by simp))
  |int j=>obtain⟨t',rfl⟩:=ry;exact PySem.EqMixed.eq_str_int (bo I q (by simp))
  |str j=>obtain⟨t',rfl⟩:=ry;exact eq_str (bo I q qL)
  |_=>exact absurd (show false=true from hs) Bool.false_ne_true
 |byt i =>
  obtain⟨t,rfl⟩:=rx;cases y with
  |byt j=>obtain⟨t',rfl⟩:=ry;exact W.eq_bytes (bo I q qM)
  |_=>exact absurd (show false=true from hs) Bool.false_ne_true
 |_=>cases y <;> exact absurd (show false=true from hs) Bool.false_ne_true
theorem pd:OpR X (compareOp .NotEq) rNe:=by
 intro pins s σ H x y v u Q I rx ry h;obtain⟨hs,q⟩:=h;cases x with
 |non =>
  cases rx;cases y with
  |non=>cases ry;exact PySem.EqNone.ne_none_none (bo I q (by simp))
  |bl j=>cases ry;exact PySem.EqNone.ne_none_bool (bo I q (by simp))
  |int j=>obtain⟨t',rfl⟩:=ry;exact PySem.EqNone.ne_none_int (bo I q (by simp))
  |str j=>obtain⟨t',rfl⟩:=ry;exact PySem.EqNone.ne_none_str (bo I q (by simp))
  |_=>exact absurd (show false=true from hs) Bool.false_ne_true
 |bl i =>
  cases rx;cases y with
  |non=>cases ry;exact PySem.EqNone.ne_bool_none (bo I q (by simp))
  |bl j=>cases ry;exact ne_bool (bo I q (congrArg not sy))
  |str j=>obtain⟨t',rfl⟩:=ry;exact PySem.EqMixed.ne_bool_str (bo I q (by simp))
  |_=>exact absurd (show false=true from hs) Bool.false_ne_true
 |int i =>
  obtain⟨t,rfl⟩:=rx;cases y with
  |non=>cases ry;exact PySem.EqNone.ne_int_none (bo I q (by simp))
  |int j=>obtain⟨t',rfl⟩:=ry;exact ne_int (bo I q (congrArg not qK))
  |str j=>obtain⟨t',rfl⟩:=ry;exact PySem.EqMixed.ne_int_str (bo I q (by simp))
  |_=>exact absurd (show false=true from hs) Bool.false_ne_true
 |str i =>
  obtain⟨t,rfl⟩:=rx;cases y with
  |non=>cases ry;exact PySem.EqNone.ne_str_none (bo I q (by simp))
  |bl j=>cases ry;exact PySem.EqMixed.ne_str_bool (bo I q (by simp))
  |int j=>obtain⟨t',rfl⟩:=ry;exact PySem.EqMixed.ne_str_int (bo I q (by simp))
  |str j=>obtain⟨t',rfl⟩:=ry;exact ne_str (bo I q (congrArg not qL))
  |_=>exact absurd (show false=true from hs) Bool.false_ne_true
 |byt i =>
  obtain⟨t,rfl⟩:=rx;cases y with
  |byt j=>obtain⟨t',rfl⟩:=ry;exact W.ne_bytes (bo I q (congrArg not qM))
  |_=>exact absurd (show false=true from hs) Bool.false_ne_true
 |_=>cases y <;> exact absurd (show false=true from hs) Bool.false_ne_true
theorem pe:OpR X (compareOp .Lt) (rI0 λi j=>.bl (decide (i<j))):=uU λ_ _ _ _ _ _ _ q=>lt_int q
theorem fb:OpR X (compareOp .LtE) (rI0 λi j=>.bl (decide (i<=j))):=uU λ_ _ _ _ _ _ _ q=>le_int q
theorem fD:OpR X (compareOp .Gt) (rI0 λi j=>.bl (decide (j<i))):=uU λ_ _ _ _ _ _ _ q=>gt_int q
theorem yq:OpR X (compareOp .GtE) (rI0 λi j=>.bl (decide (j<=i))):=uU λ_ _ _ _ _ _ _ q=>ge_int q
theorem wC:OpR X (compareOp .Is) (λx y H Q=>y=.non/\Q (.bl (decide (x=.non))) H):=by
 intro pins s σ H x y v u Q I rx ry h;obtain⟨rfl,q⟩:=h;cases ry;refine is_none_gen (bo I q ?_)
 cases x <;> first
  |(cases rx;rfl)
  |(obtain⟨t,rfl⟩:=rx;rfl)
theorem nk:OpR X (compareOp .NotIn) (λx y H Q=>∃i j,x=.str i/\y=.str j/\Q (.bl (!(!(Builtin.Str.occurrences j i 0 j.length 1).isEmpty))) H):=by
 intro pins s σ H x y v u Q I rx ry h;obtain⟨i,j,rfl,rfl,q⟩:=h;obtain⟨t,rfl⟩:=rx;obtain⟨t',rfl⟩:=ry;exact notIn_str (bo I q U)
theorem aN(b:Expr){op:CmpOp}(h:op≠.In:=by decide)(h2:op≠.NotIn:=by decide):behindInMarks op b=false:=by
 have e1:(op == CmpOp.In)=false:=by cases op <;> first|rfl|exact absurd U h
 have e2:(op == CmpOp.NotIn)=false:=by cases op <;> first|rfl|exact absurd U h2
 cases b <;> simp[behindInMarks,e1,e2]
theorem fV{op:CmpOp}{r:R2}(ho:OpR X (compareOp op) r)(ha:PE X a ta)(hb:PE X b tb)(hm:behindInMarks op b=false):PE X (.Compare a [op] [b] pos) (tOp r ta tb):=by
 intro pins s σ H Q I h;exact wpAny_Compare1 (wA ha hb I h λv u s2 x y H2 I2 rx ry q=>ho pins s2 σ H2 x y v u Q I2 rx ry q) hm
inductive sH  (Q:Bool->Hp->Prop)(x:V)(H':Hp):Prop
 |mk (k:_)(_:x=.bl k)(_:Q k H'):sH Q x H'
def sI(t:TE):TT:=λσ H Q=>t σ H λx H'=>sH Q x H'
theorem aF{op:CmpOp}{r:R2}(ho:OpR X (compareOp op) r)(ha:PE X a ta)(hb:PE X b tb)(hm:behindInMarks op b=false):PT X (.Compare a [op] [b] pos) (sI (tOp r ta tb)):=by
 intro pins s σ H Q I h;refine wpAny_isTrue_Compare1 (thn (ha pins s σ H _ I h) λv s1 ⟨x,H1,I1,r1,q1⟩=>thn (hb pins s1 σ H1 _ I1 q1) λu s2 ⟨y,H2,I2,r2,q2⟩ =>
  thn (ho pins s2 σ H2 x y v u _ I2 r1 r2 q2) λc s3 ⟨z,H3,I3,r3,k,e,q3⟩=>?_) hm
 subst e;cases r3;exact wpAny_truthy_bool ⟨H3,I3,q3⟩
inductive qN(r':R2)(tc:TE)(σ:St)(Q:VK)(y:V)(z:V)(H3:Hp):Prop
 |mk (k:_)(_:z=.bl k)(_:(if k=true then tc σ H3 λw' H4=>r' y w' H4 Q else Q (.bl false) H3)):qN r' tc σ Q y z H3
def sJ(r r':R2)(ta tb tc:TE):TE:=λσ H Q=>ta σ H λx H1=>tb σ H1 λy H2=>r x y H2 λz H3=>qN r' tc σ Q y z H3
theorem lq{op op':CmpOp}{r r':R2}(ho:OpR X (compareOp op) r)(ho':OpR X (compareOp op') r')(ha:PE X a ta)(hb:PE X b tb)(hc:PE X c tc)
  (hm:lastMarks [op,op'] [b,c]=false:=by with_unfolding_all rfl):PE X (.Compare a [op,op'] [b,c] pos) (sJ r r' ta tb tc):=by
 intro pins s σ H Q I h;refine Compare_chain (thn (ha pins s σ H _ I h) λv s1 ⟨x,H1,I1,r1,q1⟩=>chain_link (thn (hb pins s1 σ H1 _ I1 q1) λu s2 ⟨y,H2,I2,r2,q2⟩ =>
  thn (ho pins s2 σ H2 x y v u _ I2 r1 r2 q2) λd s3 ⟨z,H3,I3,r3,k,e,q3⟩=>?_)) hm
 subst e;cases r3;refine wpAny_truthy_bool ?_;cases k with
 |false=>exact ite_ff ⟨.bl false,H3,I3,U,q3⟩
 |true=>exact ite_tt (chain_last (thn (hc pins s3 σ H3 _ I3 q3) λw' s4 ⟨z',H4,I4,r4,q4⟩=>ho' pins s4 σ H4 y z' u w' Q I4 r2 r4 q4))
theorem pf{op op':CmpOp}{r r':R2}(ho:OpR X (compareOp op) r)(ho':OpR X (compareOp op') r')(ha:PE X a ta)(hb:PE X b tb)(hc:PE X c tc)
  (hm:lastMarks [op,op'] [b,c]=false:=by with_unfolding_all rfl):PT X (.Compare a [op,op'] [b,c] pos) (sI (sJ r r' ta tb tc)):=by
 intro pins s σ H Q I h;refine isTrue_chain (thn (ha pins s σ H _ I h) λv s1 ⟨x,H1,I1,r1,q1⟩=>test_link (thn (hb pins s1 σ H1 _ I1 q1) λu s2 ⟨y,H2,I2,r2,q2⟩ =>
  thn (ho pins s2 σ H2 x y v u _ I2 r1 r2 q2) λd s3 ⟨z,H3,I3,r3,k,e,q3⟩=>?_)) hm
 subst e;cases r3;refine wpAny_truthy_bool ?_;cases k with
 |false =>
  obtain⟨k',e',q'⟩:=q3;cases e';exact ite_ff ⟨H3,I3,q'⟩
 |true =>
  refine ite_tt (test_last (thn (hc pins s3 σ H3 _ I3 q3) λw' s4 ⟨z',H4,I4,r4,q4⟩=>thn (ho' pins s4 σ H4 y z' u w' _ I4 r2 r4 q4) λd' s5 ⟨z2,H5,I5,r5,k2,e2,q5⟩=>?_));subst e2;cases r5;exact wpAny_truthy_bool ⟨H5,I5,q5⟩
def wD(K:W.Frag)(x:V)(H:Hp)(k:Bool):Prop :=
 match x with
 | .non=>k=false
 | .bl b=>k=b
 | .int i=>k=(i != 0)
 | .str y=>y.length<=sizeLine/\k=((y.length:Int) != 0)
 | .byt y=>y.size<=sizeLine/\k=((y.size:Int) != 0)
 | .ref p=>(∃xs,SqL K H p xs/\k = !xs.isEmpty)\/(∃xs,SqT K H p xs/\k = !xs.isEmpty)\/∃kvs,H p=some (.dK kvs)/\k = !kvs.isEmpty
 |_=>False
theorem pZ{κ:Type}{kvs:List (κ×V)}{vs:List (κ×Value)}(r:KV kvs vs):(!vs.isEmpty) = !kvs.isEmpty:=by
 cases r <;> rfl
theorem lr{xs:List V}{its:List Value}(r:Vals xs its):(!its.toArray.isEmpty) = !xs.isEmpty:=by
 cases r <;> simp
theorem jO:(sizeLine:Nat)<2^63:=by rw[sizeLine_eq];decide
theorem wF:AY X (λx H Q=>∃k,wD X.K x H k/\Q k H):=by
 intro pins s σ H x v Q I rx h;obtain⟨k,e,q⟩:=h;have hl:=jO;have hs:sizeLine=16777216:=sizeLine_eq;cases x with
 |non =>
  cases rx;have e':k=false:=e;subst e';exact truthy_none ⟨H,I,q⟩
 |bl b =>
  cases rx;have e':k=b:=e;subst e';exact wpAny_truthy_bool ⟨H,I,q⟩
 |int i =>
  obtain⟨t,rfl⟩:=rx;have e':k=(i != 0):=e;subst e';exact PySem.P.truthy_int ⟨H,I,q⟩
 |str y =>
  obtain⟨t,rfl⟩:=rx;obtain⟨hy,e'⟩:y.length<=sizeLine/\k=((y.length:Int) != 0):=e;subst e';exact PySem.P.truthy_str (by lia) ⟨H,I.tok _,q⟩
 |byt y =>
  obtain⟨t,rfl⟩:=rx;obtain⟨hy,e'⟩:y.size<=sizeLine/\k=((y.size:Int) != 0):=e;subst e';exact W.truthy_bytes (by lia) ⟨H,I.tok _,q⟩
 |ref p =>
  cases rx;have e':(∃xs,SqL X.K H p xs/\k = !xs.isEmpty)\/(∃xs,SqT X.K H p xs/\k = !xs.isEmpty)\/∃kvs,H p=some (.dK kvs)/\k = !kvs.isEmpty:=e;rcases e' with⟨xs,hx,e'⟩|⟨xs,hx,e'⟩|⟨kvs,hx,e'⟩
  ·subst e';obtain⟨its,r,pl,hz⟩:=I.list hx;have hlen:=r.length;exact wpAny_truthy_list pl.isList (by simp only[size_toArray];lia) ⟨H,I.tok _,by rw[lr r];exact q⟩
  ·subst e';obtain⟨its,r,pl,hz⟩:=I.tuple hx;have hlen:=r.length;exact truthy_tuple pl (by simp only[size_toArray];lia) ⟨H,I.tok _,by rw[lr r];exact q⟩
  ·subst e';obtain⟨hz,hS,vs,r,m⟩:kvs.length<=sizeLine/\(p == sysModules)=false/\∃vs,KV kvs vs/\s.heap.DictOf (jl X.prog X.w) p vs:=I.hok p _ hx;have hlen:kvs.length=vs.length:=Paired.length r;exact wpAny_truthy_dict hS m (by lia) ⟨H,I.tok _,by rw[pZ r];exact q⟩
 |_=>exact(show False from e).elim
theorem ph(ha:PE X a ta)(he:∀whole,isTrue a X.env whole=(do let v ←whole;standAt a.pos;holding [v] (truthy v))) :
  PT X a (λσ H Q=>ta σ H λx H'=>∃k,wD X.K x H' k/\Q k H'):=by
 intro pins s σ H Q I h;exact isTrue_plain (thn (ha pins s σ H _ I h) λv s1 ⟨x,H1,I1,r1,q1⟩=>wF pins s1 σ H1 x v Q I1 r1 q1) (he _)
theorem cJ:OpR X (binaryOp .Add) (λx y H Q=>∃i j,x=.str i/\y=.str j/\i.length+j.length<=sizeLine/\Q (.str (i++j)) H):=by
 intro pins s σ H x y v u Q I rx ry h;obtain⟨i,j,rfl,rfl,hz,q⟩:=h;obtain⟨t,rfl⟩:=rx;obtain⟨t',rfl⟩:=ry;exact add_str (λt' tk=>⟨.str (i++j),H,I.tok _,⟨_,U⟩,q⟩) hz
theorem wG:OpR X (binaryOp .Add) (λx y H Q=>∃i j,x=.byt i/\y=.byt j/\i.size+j.size<=16777216/\Q (.byt (i++j)) H):=by
 intro pins s σ H x y v u Q I rx ry h;obtain⟨i,j,rfl,rfl,hz,q⟩:=h;obtain⟨t,rfl⟩:=rx;obtain⟨t',rfl⟩:=ry;exact W.KBy.add_bytes hz (λt' tk=>⟨.byt (i++j),H,I.tok _,⟨_,U⟩,q⟩)
theorem vals1{x:V}{us:List Value}(r:Vals [x] us):∃u,us=[u]/\RelV x u:=by
 cases r with
 |cons r1 r2=>cases r2;exact⟨_,U,r1⟩
theorem vals2{x y:V}{us:List Value}(r:Vals [x,y] us):∃u w',us=[u,w']/\RelV x u/\RelV y w':=by
 cases r with
 |cons r1 r2 =>
  cases r2 with
  |cons r3 r4=>cases r4;exact⟨_,_,U,r1,r3⟩
theorem rj(hc:X.calm=true):eZ X (.builtin "max") (λxs H Q=>∃i j,xs=[.int i,.int j]/\Q (.int (if j>i then j else i)) H):=by
 intro pins s σ H xs us Q I r h;obtain⟨i,j,rfl,q⟩:=h;obtain⟨u,w',rfl,⟨t,rfl⟩,⟨t',rfl⟩⟩:=vals2 r;refine max_two_ints (I.ok.hd hc) λh' tk k=>⟨_,H,I.kept k,?_,q⟩
 by_cases hj:j>i
 ·rw[if_pos hj,if_pos hj];exact⟨_,U⟩
 ·rw[if_neg hj,if_neg hj];exact⟨_,U⟩
theorem jP(hc:X.calm=true):eZ X (.builtin "min") (λxs H Q=>∃i j,xs=[.int i,.int j]/\Q (.int (if j<i then j else i)) H):=by
 intro pins s σ H xs us Q I r h;obtain⟨i,j,rfl,q⟩:=h;obtain⟨u,w',rfl,⟨t,rfl⟩,⟨t',rfl⟩⟩:=vals2 r;refine min_two_ints (I.ok.hd hc) λh' tk k=>⟨_,H,I.kept k,?_,q⟩
 by_cases hj:j<i
 ·rw[if_pos hj,if_pos hj];exact⟨_,U⟩
 ·rw[if_neg hj,if_neg hj];exact⟨_,U⟩
theorem rm:eZ X (.type "int") (λxs H Q=>(∃i,xs=[.int i]/\Q (.int i) H)\/∃k,xs=[.bl k]/\Q (.int (if k then 1 else 0)) H):=by
 intro pins s σ H xs us Q I r h;rcases h with⟨i,rfl,q⟩|⟨k,rfl,q⟩
 ·obtain⟨u,rfl,t,rfl⟩:=vals1 r;exact call_int_int ⟨.int i,H,I,⟨_,U⟩,q⟩
 ·obtain⟨u,rfl,r1⟩:=vals1 r;cases r1;exact call_int_bool ⟨.int (if k then 1 else 0),H,I.tok _,⟨_,U⟩,q⟩
end
structure p0(h:Heap)(x dx C:Addr)(mA:Str->Option Value):Prop where
 obj:h.get? x=some (W.instObj C dx)
 ns:h.Ns1 dx mA
 ne:dx≠x
theorem rp{h:Heap}{dx:Addr}{mA:Str->Option Value}(n:h.Ns1 dx mA):∃od,h.get? dx=some od/\∀name,W.lookIn name od=some (mA name):=by
 obtain⟨o,es,ep,ho,hd,hk,_,hm⟩:=n;refine⟨o,ho,λname=>?_⟩;have e:=hm name;unfold nsFind findBy at e;rw[←Array.find?_toList]at e;unfold W.lookIn;rw[hd];dsimp only;split
 ·rename_i y q
  rw[q]at e;exact congrArg some e
 ·rename_i q
  rw[q]at e;have a:es.toList.any (·.refKey)=false:=by
   rw[List.any_eq_false];intro y hy;obtain⟨z,t,A1⟩:=hk y (Array.mem_toList_iff.mp hy);simp[DictEntry.refKey,A1]
  have a':¬ es.toList.any (·.refKey)=true:=by rw[a];exact Bool.false_ne_true
  rw[if_neg a'];exact congrArg some e
theorem p0.look{h:Heap}{x dx C:Addr}{mA:Str->Option Value}(I:p0 h x dx C mA):∃od,W.InstAt h x (W.instObj C dx) C (some od)/\∀name,W.lookIn name od=some (mA name):=by
 obtain⟨od,ho,hl⟩:=rp I.ns;exact⟨od,⟨I.obj,U,U,ho⟩,hl⟩
variable{A:Around}{dx C f:Addr}
section
variable{prog:Program}{K:W.Frag}{mA:Str->Option Value}{name:Str}{v:Value}
theorem get_map{expr:Bool}{Q:Value->Shared->Prop}(X:K.In s.heap)(I:p0 s.heap x dx C mA)(hg:W.plainGet K C name=true)(hh:W.hasDictIn K C=true)
  (ha:W.findIn K (.ref C) name=some none)(hv:mA name=some v)(hv':W.handedIn v=true)(h:Q v { s with toks:=s.toks+1 }) :
  wpAny (model prog w) A (getAttr (.ref x) name expr) Q E s:=by
 obtain⟨od,J,hl⟩:=I.look;exact W.get_value X J (W.plainGet_of hg).1 (W.findObj_own hh ha U (by rw[hl,hv])) hv' h
theorem sL{pl:Sem Bool}{Q:Value×List Value->Shared->Prop}(X:K.In s.heap)(I:p0 s.heap x dx C mA)(hg:W.plainGet K C name=true)
  (hf:W.findIn K (.ref C) name=some (some (.ref f)))(ht:W.isFn K (.ref f)=true)(hv:mA name=none)(h:Q (.ref f,[.ref x]) s) :
  wpAny (model prog w) A (getMethod (.ref x) name pl) Q E s:=by
 obtain⟨od,J,hl⟩:=I.look;exact W.method_fn X J (W.plainGet_of hg).1 (W.plainGet_of hg).2 hf (beq_iff_eq.mp ht) (by show(W.lookIn name od).map (·.isSome)=some false;rw[hl,hv];rfl) h
theorem uV{ns:List Str}{Q:Unit->Shared->Prop}(X:K.In s.heap)(I:p0 s.heap x dx C mA)
  (hs:W.findIn K (.ref C) "__setattr__" = some (some (.builtin "object.__setattr__"))) (hp:W.plainOver K C=true)(ht:W.takerIn K C name=some none)(hh:W.hasDictIn K C=true)
  (hw:PySem.Within mA ns)(hsz:ns.length<=sizeLine)
  (h:∀h',p0 h' x dx C (λy=>if y=name then some v else mA y)->Heap.SameBut dx s.heap h'->Q () { s with heap:=h',toks:=s.toks+2 }) :
  wpAny (model prog w) A (setAttr (.ref x) name v) Q E s:=by
 obtain⟨od,J,hl⟩:=I.look;refine W.set_plain X J hs (W.osa_open (s:={ s with toks:=s.toks+1 }) (r:=none) X J hp ht λb=>?_);obtain⟨cd,hc,hd'⟩:=W.any_some hh;have hx:s.heap.get? x=some ⟨.ref C,some dx,.plain,#[]⟩:=I.obj;refine wpAny_bind (wpAny_pure (wpAny_bind (wpAny_bind (wpAny_loadPart hx (wpAny_bind (W.Looks.here (s:={ s with toks:=s.toks+1 }) (W.looks_clsIn X hc) ?_))))));rw[hd'];refine wpAny_pure (a:=some dx) (wpAny_bind (wpAny_pure (wpAny_bind ?_)));refine wpAny_nsSet1 (s:={ s with toks:=s.toks+1 }) I.ns λh' hn2 hs2=>?_
 obtain⟨oD,esD,epD,hoD,hdD,hcD⟩:=hn2.count (PySem.Within.cons name v hw);refine wpAny_bind (wpAny_lookBehind hoD (by rw[hdD];exact pastItsLine_dict (le_trans hcD (by rw[length_cons];lia))) ?_);exact wpAny_pure (h _ ⟨(hs2.2 _ (Ne.symm I.ne)).trans I.obj,hn2,I.ne⟩ hs2)
theorem pj{R:Result->Shared->Prop}{vs:List Value}{kw:List (Str×Value)}(X:K.In s.heap)(hm:W.makesIn K C=true)
  (hi:W.findIn K (.ref C) "__init__" = some (some (.ref f))) (hf:W.typeIn K (.ref f)=some (.type "function"))
  (h:codeAny (model prog w) (A.under (.builtin "type.__call__" ⟨.ref C :: vs,kw⟩)) (.call (.ref f) ⟨.ref (s.heap.objs.size+1) :: vs,kw⟩) (W.InitBack (s.heap.objs.size+1) R)
   { s with heap:=(s.heap.push W.emptyDict).push (W.instObj C s.heap.objs.size) }) :
  codeAny (model prog w) A (.call (.ref C) ⟨vs,kw⟩) R s:=by
 obtain⟨hh,g,d,t,os⟩:=s;exact W.make_core (W.makes_of X hm) (W.looks_findIn X hi) (λself=>W.bind_fn X self hf) (.inl U) h
end
def bE(f:Str)(v:V):List (Str×V)->List (Str×V)
 | []=>[(f,v)]
 |(g,x) :: r=>if g=f then(g,v) :: r else(g,x) :: bE f v r
theorem kr(f g:Str)(v:V):∀fs:List (Str×V),(bE f v fs).lookup g=if g=f then some v else fs.lookup g
 | []=>by
  show List.lookup g [(f,v)]=_;by_cases h:g=f
  ·have hb:(g == f)=true:=beq_iff_eq.mpr h;simp only[List.lookup,hb,if_pos h]
  ·have hb:(g == f)=false:=beq_eq_false_iff_ne.mpr h;simp only[List.lookup,hb,if_neg h]
 |(k,x) :: r=>by
  have ih:=kr f g v r;rw[show bE f v ((k,x) :: r)=(if k=f then(k,v) :: r else(k,x) :: bE f v r)from U];by_cases hk:k=f
  ·rw[if_pos hk];by_cases h:g=k
   ·have hb:(g == k)=true:=beq_iff_eq.mpr h;simp only[List.lookup,hb,if_pos (h.trans hk)]
   ·have hb:(g == k)=false:=beq_eq_false_iff_ne.mpr h;simp only[List.lookup,hb,if_neg (λe:g=f=>h (e.trans hk.symm))]
  ·rw[if_neg hk];by_cases h:g=k
   ·have hb:(g == k)=true:=beq_iff_eq.mpr h;simp only[List.lookup,hb,if_neg (λe:g=f=>hk (h.symm.trans e))]
   ·have hb:(g == k)=false:=beq_eq_false_iff_ne.mpr h;simp only[List.lookup,hb];exact ih
theorem jQ(f:Str)(v:V):∀fs:List (Str×V),f∈(bE f v fs).map (·.1)/\∀g,g∈fs.map (·.1)->g∈(bE f v fs).map (·.1)
 | []=>⟨by simp[bE],λg h=>by simp at h⟩
 |(k,x) :: r=>by
  obtain⟨i1,i2⟩:=jQ f v r;rw[show bE f v ((k,x) :: r)=(if k=f then(k,v) :: r else(k,x) :: bE f v r)from U];by_cases hk:k=f
  ·rw[if_pos hk];subst hk;exact⟨by simp,λg h=>by simpa using h⟩
  ·rw[if_neg hk];refine⟨?_,λg h=>?_⟩
   ·rw[map_cons];exact mem_cons_of_mem _ i1
   ·rw[map_cons]at h⊢;rcases mem_cons.mp h with e|e
    ·exact mem_cons.mpr (.inl e)
    ·exact mem_cons_of_mem _ (i2 g e)
theorem ku(f:Str)(v:V):∀fs:List (Str×V),(bE f v fs).length<=fs.length+1
 | []=>by simp[bE]
 |(k,x) :: r=>by
  have ih:=ku f v r;rw[show bE f v ((k,x) :: r)=(if k=f then(k,v) :: r else(k,x) :: bE f v r)from U];by_cases hk:k=f
  ·rw[if_pos hk,length_cons,length_cons];lia
  ·rw[if_neg hk,length_cons,length_cons];lia
theorem mq.some_of{v:V}{o:Option Value}(r:mq (some v) o):∃u,o=some u/\RelV v u:=by
 cases o with
 |none=>exact(show False from r).elim
 |some u=>exact⟨u,U,r⟩
theorem mq.none_of{o:Option Value}(r:mq none o):o=none:=by
 cases o with
 |none=>rfl
 |some u=>exact(show False from r).elim
theorem mK{v:V}{u:Value}(r:RelV v u):W.handedIn u=true:=by
 cases v with
 |non=>cases (show u=Value.none from r);rfl
 |bl b=>cases (show u=Value.bool b from r);rfl
 |int i=>obtain⟨t,e⟩:=(show ∃t,u=Value.int i t from r);cases e;rfl
 |str x=>obtain⟨t,e⟩:=(show ∃t,u=Value.str x t from r);cases e;rfl
 |byt b=>obtain⟨t,e⟩:=(show ∃t,u=Value.bytes b t from r);cases e;rfl
 |flt b=>obtain⟨t,e⟩:=(show ∃t,u=Value.float b t from r);cases e;rfl
 |ref a=>cases (show u=Value.ref a from r);rfl
 |ty n=>cases (show u=Value.type n from r);rfl
section
variable{fs fs':List (Str×V)}
theorem kF(hok:HOk P w H h)(e:H a=some (.ins C dx fs)):∃mA,p0 h a dx C mA/\(∀f,mq (fs.lookup f) (mA f))/\PySem.Within mA (fs.map (·.1))/\fs.length<=1000/\H dx=some (.own a):=by
 obtain⟨d,z,ne,ob,mA,n,r,q⟩:=(show cX P w H h a (.ins C dx fs)from hok a _ e);exact⟨mA,⟨ob,n,ne⟩,r,q,z,d⟩
end
structure Cls(K:W.Frag)(C:Addr):Prop where
 pg:W.plainGet K C Str.empty=true
 hd:W.hasDictIn K C=true
 po:W.plainOver K C=true
 sa:W.findIn K (.ref C) "__setattr__" = some (some (.builtin "object.__setattr__"))
theorem Cls.get{K:W.Frag}{C:Addr}(c:Cls K C)(f:Str):W.plainGet K C f=true:=c.pg
def bx(K:W.Frag)(C:Addr)(f:Str):Prop:=W.findIn K (.ref C) f=some none
theorem bx.taker{K:W.Frag}{C:Addr}{f:Str}(n:bx K C f):W.takerIn K C f=some none:=by
 unfold W.takerIn;rw[show W.findIn K (.ref C) f=some none from n];rfl
structure Con(K:W.Frag)(C:Addr)(f:Str)(v:V)(u:Value):Prop where
 at_:W.findIn K (.ref C) f=some (some u)
 rel:RelV v u
 get:W.specialIn K u "__get__" = some none
 cp:W.copiedNames.contains f=false
structure Meth(K:W.Frag)(C:Addr)(m:Str)(f:Addr):Prop where
 at_:W.findIn K (.ref C) m=some (some (.ref f))
 fn:W.isFn K (.ref f)=true
 kp:W.keepIn K (.ref f)=true
section
variable{fs:List (Str×V)}{f:Str}{v:V}
theorem p7{b:Bool}{Q:Value->Shared->Prop}(I:Inv X pins σ H s)(e:H a=some (.ins C dx fs))(c:Cls X.K C)(n:bx X.K C f)(l:fs.lookup f=some v)
  (h:∀u s',Inv X pins σ H s'->RelV v u->Q u s'):wpAny (model X.prog X.w) A (getAttr (.ref a) f b) Q E s:=by
 obtain⟨mA,O,r,_,_,_⟩:=kF I.hok e;obtain⟨u,hu,ru⟩:=mq.some_of (v:=v) (o:=mA f) (by rw[←l];exact r f);exact get_map I.kIn O (c.get f) c.hd n hu (mK ru) (h u _ (I.tok _) ru)
theorem p8{m:Str}{g:Addr}{pl:Sem Bool}{Q:Value×List Value->Shared->Prop}(I:Inv X pins σ H s)(e:H a=some (.ins C dx fs))(c:Cls X.K C)(k:Meth X.K C m g)(l:fs.lookup m=none)
  (h:Q (.ref g,[.ref a]) s):wpAny (model X.prog X.w) A (getMethod (.ref a) m pl) Q E s:=by
 obtain⟨mA,O,r,_,_,_⟩:=kF I.hok e;have hn:mA m=none:=mq.none_of (by rw[←l];exact r m);exact sL I.kIn O (c.get m) k.at_ k.fn hn h
theorem p9{y:V}{u:Value}{Q:Unit->Shared->Prop}(I:Inv X pins σ H s)(e:H a=some (.ins C dx fs))(c:Cls X.K C)(n:bx X.K C f)(hl:fs.length<1000)(ry:RelV y u)
  (h:∀s',Inv X pins σ (upd H a (.ins C dx (bE f y fs))) s'->Q () s'):wpAny (model X.prog X.w) A (setAttr (.ref a) f u) Q E s:=by
 obtain⟨mA,O,r,wi,_,ho⟩:=kF I.hok e;have hz:(fs.map (·.1)).length<=sizeLine:=by rw[length_map,sizeLine_eq];lia
 refine uV I.kIn O c.sa c.po n.taker c.hd wi hz λh' O' sb=>h _ ?_
 have hd:∃o,h'.get? dx=some o:=let ⟨o,_,_,e',_⟩:=O'.ns;⟨o,e'⟩;refine I.write (x:=a) (e:=dx) (by rw[e];exact True.intro) (.inr ho) (λb q hb z=>(sb.2 b hb).trans z) hd ?_;refine⟨by rw[aD O.ne];exact ho,?_,O.ne,O'.obj,_,O'.ns,λg=>?_,λg hg=>?_⟩
 ·have:=ku f y fs;lia
 ·show mq ((bE f y fs).lookup g) (if g=f then some u else mA g);rw[kr];by_cases q:g=f
  ·rw[if_pos q,if_pos q];exact ry
  ·rw[if_neg q,if_neg q];exact r g
 ·by_cases q:g=f
  ·rw[q];exact(jQ f y fs).1
  ·refine(jQ f y fs).2 g (wi g λz=>hg ?_);show(if g=f then some u else mA g)=none;rw[if_neg q];exact z
theorem Inv.made(I:Inv X pins σ H s):Inv X pins σ (upd (upd H s.heap.objs.size (.own (s.heap.objs.size+1))) (s.heap.objs.size+1) (.ins C s.heap.objs.size []))
  { s with heap:=(s.heap.push W.emptyDict).push (W.instObj C s.heap.objs.size) }:=by
 have e1:(s.heap.push W.emptyDict).get? s.heap.objs.size=some W.emptyDict:=Heap.get?_push_size s.heap U;have e2:((s.heap.push W.emptyDict).push (W.instObj C s.heap.objs.size)).get? (s.heap.objs.size+1)=some (W.instObj C s.heap.objs.size):=by
  have:=Heap.get?_push_size (s.heap.push W.emptyDict) (o:=W.instObj C s.heap.objs.size) U
  rwa [Heap.size_push]at this
 have e3:(s.heap.push W.emptyDict).Ns s.heap.objs.size (λ_=>none):=⟨W.emptyDict,#[],_,e1,U,(λe he=>absurd he (by simp)),λ_=>U⟩;have I1:=I.laid (a:=s.heap.objs.size) (o:=.own (s.heap.objs.size+1)) (h':=s.heap.push W.emptyDict) (t':=s.toks) (λb u q=>Heap.get?_push_of_some _ q) (le_refl _) ⟨_,e1⟩;refine I1.laid (a:=s.heap.objs.size+1) (o:=.ins C s.heap.objs.size []) (t':=s.toks) (λb u q=>Heap.get?_push_of_some _ q) (le_of_eq (Heap.size_push _ _)) ?_;have ne:s.heap.objs.size≠s.heap.objs.size+1:=ne_of_lt (lt_succ_self _);refine⟨by rw[aD ne,ae],zero_le _,ne,e2,λ_=>none,(Heap.Ns1.of_empty e3).at λo q=>Heap.get?_push_of_some _ q,λ_=>True.intro,λy hy=>absurd U hy⟩
theorem uW{prog:Program}{w:World}{env:Env}{e:Expr}{f:Str}{pos:Pos}{s:Shared}{Q:Value->Shared->Prop}(hb:attributeBase e f env (eval e env)=eval e env)
  (h:wpAny (model prog w) A (eval e env) (λo s₁=>wpAny (model prog w) A (getAttr o f true) Q E s₁) E s):wpAny (model prog w) A (eval (.Attribute e f pos) env) Q E s :=
 Attribute_any_ h (by rw[arm_eval_Attribute,hb])
end
inductive vP(K:W.Frag)(f:Str)(Q:VK)(x:V)(H1:Hp):Prop
 |mk (a C dx fs v:_)(_:x=.ref a)(_:H1 a=some (.ins C dx fs))(_:Cls K C)(_:bx K C f)(_:fs.lookup f=some v)(_:Q v H1):vP K f Q x H1
def yr(K:W.Frag)(ta:TE)(f:Str):TE:=λσ H Q=>ta σ H λx H1=>vP K f Q x H1
def A2(K:W.Frag)(ta tv:TE)(f:Str):TS:=λD σ H=>tv σ H λy H1=>ta σ H1 λx H2=>∃a C dx fs,x=.ref a/\H2 a=some (.ins C dx fs)/\Cls K C/\bx K C f/\fs.length<1000 /\
 D.nx σ (upd H2 a (.ins C dx (bE f y fs)))
variable{o:Expr}
section
variable{value:Expr}{f:Str}{pos' Jg:Pos}{tv:TE}
theorem bu(he:PE X e ta)(hb:attributeBase e f X.env (eval e X.env)=eval e X.env):PE X (.Attribute e f pos) (yr X.K ta f):=by
 intro pins s σ H Q I h;refine uW hb (thn (he pins s σ H _ I h) λu s1 ⟨x,H1,I1,rx,a,C,dx,fs,v,ex,ea,c,n,l,q⟩=>?_);subst ex;obtain rfl:u=Value.ref a:=rx;exact p7 I1 ea c n l λu' s2 I2 ru=>⟨v,H1,I2,ru,q⟩
theorem cK(ha:PE X o ta)(hv:PE X value tv)(hs:swapsWith value (some (.Attribute o f pos')) pos.line X.env=pure false):PS X (.Assign [.Attribute o f pos'] value pos) (A2 X.K ta tv f):=by
 intro pins s σ H D I h;refine plainObj_wpAny_Assign_Attribute (thn (hv pins s σ H _ I h) λu s1 ⟨y,H1,I1,ry,q⟩=>thn (ha pins s1 σ H1 _ I1 q) λov s2 ⟨x,H2,I2,rx,a,C,dx,fs,ex,ea,c,n,l,q2⟩=>?_) hs;subst ex;obtain rfl:ov=Value.ref a:=rx;exact p9 I2 ea c n l ry λs3 I3=>⟨σ,_,I3,q2⟩
end
section
variable{Q:Value->Shared->Prop}{c:Value}{b:Bool}
inductive jR(K:W.Frag)(H:Hp):V->Value->Prop where
 |non:jR K H .non (.type "NoneType")
 |bl (x:Bool):jR K H (.bl x) (.type "bool")
 |int (i:Int):jR K H (.int i) (.type "int")
 |str (x:Str):jR K H (.str x) (.type "str")
 |flt (x:UInt64):jR K H (.flt x) (.type "float")
 |lst {a:Addr}{xs:List V}(e:H a=some (.lst xs)):jR K H (.ref a) (.type "list")
 |frz {a:Addr}{o:Obj}{xs:List V}(e:H a=some (.frz o (.lst xs))):jR K H (.ref a) (.type "list")
 |tup {a:Addr}{xs:List V}(e:H a=some (.tup xs)):jR K H (.ref a) (.type "tuple")
 |dK {a:Addr}{kvs:List (Key×V)}(e:H a=some (.dK kvs)):jR K H (.ref a) (.type "dict")
 |dT {a:Addr}{kvs:List (List Key×V)}(e:H a=some (.dT kvs)):jR K H (.ref a) (.type "dict")
 |ins {a C dx:Addr}{fs:List (Str×V)}(e:H a=some (.ins C dx fs))(cl:Cls K C)(ha:W.findIn K (.ref C) "__class__" = some (some (.builtin "object.__class__")))
   (hn:W.specialIn K (.builtin "object.__class__") "__get__" = some (some (.builtin "getset_descriptor.__get__"))) (htk:W.takesIn K (.builtin "object.__class__")=some true)
   (hm:W.mroIn K C (.type "object")=some true):jR K H (.ref a) (.ref C)
theorem rq{x:V}{u t:Value}(I:Inv X pins σ H s)(rx:RelV x u)(ty:jR X.K H x t)(e:W.kitOne X.K t c=some b)(h:∀tk,Q (.bool b) { s with toks:=tk }) :
  wpAny (model X.prog X.w) A (call (.builtin "isinstance") [u,c]) Q E s:=by
 cases ty with
 |non=>cases (show u=Value.none from rx);exact W.kia_one W.kitx_none I.kIn True.intro e (λz=>nomatch z) h
 |bl y=>cases (show u=Value.bool y from rx);exact W.kia_one W.kitx_bool I.kIn True.intro e (λz=>nomatch z) h
 |int i=>obtain⟨t,q⟩:=(show ∃t,u=Value.int i t from rx);cases q;exact W.kia_one W.kitx_int I.kIn True.intro e (λz=>nomatch z) h
 |str y=>obtain⟨t,q⟩:=(show ∃t,u=Value.str y t from rx);cases q;exact W.kia_one W.kitx_str I.kIn True.intro e (λz=>nomatch z) h
 |flt y=>obtain⟨t,q⟩:=(show ∃t,u=Value.float y t from rx);cases q;exact W.kia_one W.kitx_float I.kIn True.intro e (λz=>nomatch z) h
 | @lst a xs ea =>
  cases (show u=Value.ref a from rx);obtain⟨_,_,n,_,h1⟩:=(show cX X.prog X.w H s.heap a (.lst xs)from I.hok a _ ea);exact W.kia_one W.kitx_list I.kIn ⟨_,h1,U⟩ e (λz=>nomatch z) h
 | @frz a ob xs ea =>
  cases (show u=Value.ref a from rx);obtain⟨_,_,_,n,_,h1⟩:=(show cX X.prog X.w H s.heap a (.frz ob (.lst xs))from I.hok a _ ea);exact W.kia_one W.kitx_list I.kIn ⟨_,h1,U⟩ e (λz=>nomatch z) h
 | @tup a xs ea =>
  cases (show u=Value.ref a from rx);obtain⟨_,_,_,p⟩:=(show cX X.prog X.w H s.heap a (.tup xs)from I.hok a _ ea);obtain⟨o,h1,h2,_⟩:=p;exact W.kia_one W.kitx_tuple I.kIn ⟨o,h1,h2⟩ e (λz=>nomatch z) h
 | @dK a kvs ea =>
  cases (show u=Value.ref a from rx);obtain⟨_,_,vs,_,p⟩:=(show cX X.prog X.w H s.heap a (.dK kvs)from I.hok a _ ea);obtain⟨o,es,ep,h1,h2,_⟩:=p;exact W.kia_one W.kitx_dict I.kIn ⟨o,h1,h2.1⟩ e (λz=>nomatch z) h
 | @dT a kvs ea =>
  cases (show u=Value.ref a from rx);obtain⟨_,_,xs,_,o,es,ep,h1,h2,_⟩:=(show cX X.prog X.w H s.heap a (.dT kvs)from I.hok a _ ea);exact W.kia_one W.kitx_dict I.kIn ⟨o,h1,h2.1⟩ e (λz=>nomatch z) h
 | @ins a C dx fs ea cl ha hn htk hm =>
  cases (show u=Value.ref a from rx);obtain⟨mA,O,_⟩:=kF I.hok ea;obtain⟨od,J,_⟩:=O.look;exact W.kia_one (W.kitx_own (cl.get _) cl.hd ha hn htk hm) I.kIn J e (λz=>nomatch z) h
end
structure cU(k:Nat)(A:Around):Prop where
 hd:A.handled=none
 dp:A.depth+3*k+5<recursionLimit
 un:A.units+16*k+200<cLine
theorem cU.mono{j k:Nat}{A:Around}(r:cU k A)(h:j<=k):cU j A:=⟨r.hd,by have:=r.dp;lia,by have:=r.un;lia⟩
theorem cU.deeper{k:Nat}{A:Around}(r:cU (k+1) A)(env:Env):cU k (A.deeper env) :=
 ⟨r.hd,by have:=r.dp;show A.depth+1+3*k+5<_;lia,by have:=r.un;show A.units+3+16*k+200<_;lia⟩
theorem qc{A:Around}{C:Addr}{us:List Value}{kw:List (Str×Value)}:(A.under (.builtin "type.__call__" ⟨.ref C :: us,kw⟩)).depth=A.depth+1:=by
 first|rfl|simp[Around.under,Code.weight,Code.isCreation,Code.isGuard,Code.isCaller,Code.frames,Code.isFrame,guardIds]
theorem qd{A:Around}{C:Addr}{us:List Value}{kw:List (Str×Value)}:(A.under (.builtin "type.__call__" ⟨.ref C :: us,kw⟩)).units=A.units+1:=by
 first|rfl|simp[Around.under,Code.cUnits,Code.frames,Code.isFrame]
theorem cU.make{k:Nat}{A:Around}(r:cU (k+1) A)(C:Addr)(us:List Value)(kw:List (Str×Value)):cU k (A.under (.builtin "type.__call__" ⟨.ref C :: us,kw⟩)) :=
 ⟨r.hd,by have:=r.dp;rw[qc];lia,by have:=r.un;rw[qd];lia⟩
theorem cU.depth{k:Nat}{A:Around}(r:cU k A):A.depth<recursionLimit:=by have:=r.dp;lia
theorem cU.units{k:Nat}{A:Around}(r:cU k A):A.units+64<cLine:=by have:=r.un;lia
def wH:TA:=λ_ H Q=>Q [] H
def yt(ta:TE)(tr:TA):TA:=λσ H Q=>ta σ H λx H1=>tr σ H1 λxs H2=>Q (x :: xs) H2
variable{es:List Expr}{t:TA}
theorem ag:PA X [] wH:=λ_ _ _ _ H Q I h=>Calls.spliced_nil ⟨[],H,I,.nil,h⟩
theorem aa(ha:PE X e te)(hr:PA X es t)(hs:starEach (e :: es) X.env=(false,eval e X.env) :: starEach es X.env:=by rfl):PA X (e :: es) (yt te t):=by
 intro pos pins s σ H Q I h;rw[hs];show wpAny _ _ (spliced ((false,eval e X.env) :: backTo pos (starEach es X.env))) _ _ s;refine Calls.spliced_cons (thn (ha pins s σ H _ I h) λu s1 ⟨x,H1,I1,r1,q1⟩=>?_);exact thn (hr pos pins s1 σ H1 _ I1 q1) λus s2 ⟨xs,H2,I2,r2,q2⟩=>⟨x :: xs,H2,I2,.cons r1 r2,q2⟩
def A3(t:TA):TE:=λσ H Q=>t σ H λxs H1=>xs.length<=sizeLine/\∀p,H1 p=none->Q (.ref p) (upd H1 p (.tup xs))
def A4(t:TA):TE:=λσ H Q=>t σ H λxs H1=>xs.length<=sizeLine/\∀p,H1 p=none->Q (.ref p) (upd H1 p (.lst xs))
theorem bc{x1} (h:PA X es t):PE X (.Tuple es x1 pos) (A3 t):=by
 intro pins s σ H Q I hq;refine wpAny_Tuple_spliced (thn (h pos pins s σ H _ I hq) λus s1 ⟨xs,H1,I1,r,z,q⟩=>⟨by rw[←r.length];exact z,?_⟩);have hf:H1 s1.heap.objs.size=none:=I1.hok.fresh (le_refl _);refine⟨.ref s1.heap.objs.size,upd H1 s1.heap.objs.size (.tup xs),I1.laid (t':=s1.toks) (λb u e=>Heap.get?_push_of_some _ e) (le_refl _) ?_,U,q _ hf⟩;exact⟨z,us,r,⟨_,Heap.get?_push_size _ U,U,_,U⟩⟩
theorem aX(h:PA X es t):PE X (.List es pos) (A4 t):=by
 intro pins s σ H Q I hq;refine wpAny_List_spliced (thn (h pos pins s σ H _ I hq) λus s1 ⟨xs,H1,I1,r,z,q⟩=>⟨by rw[←r.length];exact z,?_⟩);have hf:H1 s1.heap.objs.size=none:=I1.hok.fresh (le_refl _);refine⟨.ref s1.heap.objs.size,upd H1 s1.heap.objs.size (.lst xs),I1.laid (t':=s1.toks) (λb u e=>Heap.get?_push_of_some _ e) (le_refl _) ?_,U,q _ hf⟩;exact⟨z,us,0,r,Heap.get?_push_size _ U⟩
abbrev Sp:=List V->Hp->VK->XK->Prop
abbrev CXT:=List Env->Hp->Shared->XK->Value->Shared->Prop
structure qe(P:Program)(w:World)(K:W.Frag)(mg:Str->Option Value)(base:Heap)(A:Around)(outer:List Env)(s:Shared)(H:Hp):Prop where
 frames:A.frames=some outer
 mod:Mod K mg base
 bs:∀b o,base.get? b=some o->s.heap.get? b=some o/\H b=none
 bsz:base.objs.size<=s.heap.objs.size
 funs:s.heap.FunFrames base outer
 frf:∀b∈frs outer,H b=none
 hok:HOk P w H s.heap
 bare:AllBare s.gens
def CE(outer:List Env)(P:Program)(w:World)(H:Hp)(s:Shared)(Q:VK)(u:Value)(s':Shared):Prop :=
 ∃v H',s'.os=s.os/\AllBare s'.gens/\Un (frs outer) [] H H' s.heap s'.heap/\HOk P w H' s'.heap/\RelV v u/\Q v H'
def CR(CX:CXT)(outer:List Env)(P:Program)(w:World)(H:Hp)(s:Shared)(Q:VK)(E:XK)(r:Result)(s':Shared):Prop :=
 match r with
 | .ok (.ret u)=>CE outer P w H s Q u s'
 | .ok _=>False
 | .error e=>CX outer H s E e s'
structure bg(P:Program)(w:World)(K:W.Frag)(mg:Str->Option Value)(base:Heap)(CX:CXT)(k:Nat)(f:Addr)(fd:FuncData)(ps:List Str)(sp:Sp):Prop where
 len:∀vs H Q E,sp vs H Q E->vs.length=ps.length
 run:∀(A:Around)(outer:List Env)(s:Shared)(H:Hp)(args:Args)(us:List Value)(vs:List V)(Q:VK)(E:XK),cU k A->qe P w K mg base A outer s H->BindsTo s fd args (ps.zip us)->Vals vs us->sp vs H Q E ->
  codeAny (model P w) A (.call (.ref f) args) (CR CX outer P w H s Q E) s
theorem bg.mono{P:Program}{w:World}{K:W.Frag}{mg:Str->Option Value}{base:Heap}{CX:CXT}{j k:Nat}{f:Addr}{fd:FuncData}{ps:List Str}{sp:Sp}(F:bg P w K mg base CX j f fd ps sp)(h:j<=k) :
  bg P w K mg base CX k f fd ps sp:=⟨F.len,λA outer s H args us vs Q E hr=>F.run A outer s H args us vs Q E (hr.mono h)⟩
theorem qe.make{P:Program}{w:World}{K:W.Frag}{mg:Str->Option Value}{base:Heap}{A:Around}{outer:List Env}{s:Shared}{H:Hp}(e:qe P w K mg base A outer s H)(C:Addr)(us:List Value)(kw:List (Str×Value)) :
  qe P w K mg base (A.under (.builtin "type.__call__" ⟨.ref C :: us,kw⟩)) outer s H:=⟨by first|exact e.frames|(simpa[Around.under,Code.envs,Code.isFrame,pushEnvs]using e.frames),e.mod,e.bs,e.bsz,e.funs,e.frf,e.hok,e.bare⟩
section
variable{s':Shared}
theorem Inv.env0(I:Inv X pins σ H s):qe X.prog X.w X.K X.mg X.base X.A X.stack s H :=
 ⟨I.ok.frames,I.ok.mod,I.bs,le_trans I.ok.bsz I.sz,I.stack,I.stkFree,I.hok,I.bare⟩
theorem Inv.after{Q:VK}{u:Value}(I:Inv X pins σ H s)(h:CE X.stack X.prog X.w H s Q u s'):EP X pins σ Q u s':=by
 obtain⟨v,H',os,bare,un,hok,r,q⟩:=h;obtain⟨hh,g,d,t,os'⟩:=s';obtain rfl:os'=s.os:=os;exact⟨v,H',I.call (h':=hh) (g':=g) (d':=d) (t':=t) (ch:=[]) un hok bare (λb z=>absurd z (by simp)),r,q⟩
end
def yu(sp:Sp)(dvs:List V)(E:XK)(t:TA):TE:=λσ H Q=>t σ H λvs H1=>sp (vs++dvs) H1 Q E
def vQ(C:Addr)(sp:Sp)(dvs:List V)(E:XK)(t:TA):TE:=λσ H Q=>t σ H λvs H1=>∀x dx,H1 x=none->H1 dx=none->dx≠x ->
 sp (.ref x :: (vs++dvs)) (upd (upd H1 dx (.own x)) x (.ins C dx [])) (λv H2=>v=.non/\Q (.ref x) H2) E
def Binds(K:W.Frag)(fd:FuncData)(ps:List Str)(ds:List Value):Prop :=
 ∀(s:Shared)(us:List Value),K.In s.heap->(us++ds).length=ps.length->BindsTo s fd ⟨us,[]⟩ (ps.zip (us++ds))
theorem Binds.all{K:W.Frag}{fd:FuncData}{ps:List Str}(h:∀us:List Value,us.length=ps.length->bindArgs fd ⟨us,[]⟩=pure (ps.zip us)):Binds K fd ps []:=λs us _ hl=>by
 rw[append_nil]at hl⊢;exact .of_eq (h us hl)
def Passes(CX:CXT)(X:Cx)(E:XK):Prop:=∀(pins:List (Addr×Obj))(σ:St)(H:Hp)(s:Shared)(e:Value)(s':Shared),Inv X pins σ H s->CX X.stack H s E e s'->X.xe e s'
variable{p:Pos}
section
variable{CX:CXT}{k:Nat}{fd:FuncData}{ps:List Str}{sp:Sp}{dvs:List V}{ds:List Value}{E:XK}{x m:Str}{apos:Pos}
theorem sM{pins:List (Addr×Obj)}{σ:St}{H:Hp}{s:Shared}{Q:VK}{us:List Value}{vs:List V}(F:bg X.prog X.w X.K X.mg X.base CX k f fd ps sp)(hr:cU k X.A)(hb:Binds X.K fd ps ds)(hd:Vals dvs ds)(hx:Passes CX X E)
  (I:Inv X pins σ H s)(r:Vals vs us)(h:sp (vs++dvs) H Q E):wpAny (model X.prog X.w) X.A (call (.ref f) us) (EP X pins σ Q) X.xe s:=by
 have r2:Vals (vs++dvs) (us++ds):=r.append hd;have hl:(us++ds).length=ps.length:=by rw[←r2.length];exact F.len _ _ _ _ h
 refine wpAny_call (codeAny_mono (F.run X.A X.stack s H ⟨us,[]⟩ (us++ds) (vs++dvs) Q E hr I.env0 (hb s us I.kIn hl) r2 h) λr s' hq=>?_);cases r with
 |error e=>exact hx pins σ H s e s' I hq
 |ok fl =>
  cases fl with
  |ret u=>exact I.after hq
  |next=>exact False.elim hq
  |brk=>exact False.elim hq
  |cont=>exact False.elim hq
theorem uX(F:bg X.prog X.w X.K X.mg X.base CX k f fd ps sp)(hr:cU k X.A)(hg:Gl X x)(hm:X.mg x=some (.ref f))(hk:W.keepIn X.K (.ref f)=true)(hb:Binds X.K fd ps ds)(hd:Vals dvs ds)(hx:Passes CX X E)
  (ha:PA X (e :: es) t)(hdb:(x == ("__debug__" : Str))=false:=by decide) (he:starEach (e :: es) X.env=(false,eval e X.env) :: starEach es X.env:=by rfl)(hpl:(backTo pos (starEach es X.env)).any (·.1)=false:=by rfl) :
  PE X (.Call (.Name x p) (e :: es) [] pos) (yu sp dvs E t):=by
 intro pins s σ H Q I h;refine wpAny_Call_Name_kw (d7 I hg hm ?_ hdb);refine W.callWith_K (h₀:=X.base) I.ok.mod.kin hk (thn (ha pos pins s σ H _ I h) λus s1 ⟨vs,H1,I1,r,q⟩=>⟨I1.kIn,?_⟩) he hpl;exact sM F hr hb hd hx I1 r q
structure Mk(K:W.Frag)(C f:Addr):Prop where
 makes:W.makesIn K C=true
 init:W.findIn K (.ref C) "__init__" = some (some (.ref f))
 fn:W.isFn K (.ref f)=true
 kp:W.keepIn K (.ref C)=true
theorem pk{pins:List (Addr×Obj)}{σ:St}{H:Hp}{s:Shared}{Q:VK}{us:List Value}{vs:List V}(M:Mk X.K C f)(F:bg X.prog X.w X.K X.mg X.base CX k f fd ps sp)(hr:cU (k+1) X.A)(hb:Binds X.K fd ps ds)(hd:Vals dvs ds)
  (hx:Passes CX X E)(I:Inv X pins σ H s)(r:Vals vs us)
  (h:∀x dx,H x=none->H dx=none->dx≠x->sp (.ref x :: (vs++dvs)) (upd (upd H dx (.own x)) x (.ins C dx [])) (λv H2=>v=.non/\Q (.ref x) H2) E) :
  wpAny (model X.prog X.w) X.A (call (.ref C) us) (EP X pins σ Q) X.xe s:=by
 have hq:=h (s.heap.objs.size+1) s.heap.objs.size (I.hok.fresh (le_succ _)) (I.hok.fresh (le_refl _)) (ne_of_lt (lt_succ_self _));have I2:=Inv.made (C:=C) I;have r2:Vals (V.ref (s.heap.objs.size+1) :: (vs++dvs)) (Value.ref (s.heap.objs.size+1) :: (us++ds)):=.cons U (r.append hd);have hl:(Value.ref (s.heap.objs.size+1) :: us++ds).length=ps.length:=by
  have e:=r2.length;rw[F.len _ _ _ _ hq]at e;exact e.symm
 refine wpAny_call (pj (f:=f) I.kIn M.makes M.init (beq_iff_eq.mp M.fn) (codeAny_mono (F.run _ X.stack _ _ ⟨Value.ref (s.heap.objs.size+1) :: us,[]⟩ (Value.ref (s.heap.objs.size+1) :: (us++ds)) _ _ E (hr.make C us [])
  (I2.env0.make C us []) (hb _ (Value.ref (s.heap.objs.size+1) :: us) I2.kIn hl) r2 hq) λr s' hq'=>?_))
 cases r with
 |error e=>exact hx pins σ _ _ e s' I2 hq'
 |ok fl =>
  cases fl with
  |ret u =>
   obtain⟨v,H',I3,rv,ev,q3⟩:=I2.after hq';subst ev;exact⟨rv,⟨V.ref (s.heap.objs.size+1),H',I3,U,q3⟩⟩
  |next=>exact False.elim hq'
  |brk=>exact False.elim hq'
  |cont=>exact False.elim hq'
theorem uY(M:Mk X.K C f)(F:bg X.prog X.w X.K X.mg X.base CX k f fd ps sp)(hr:cU (k+1) X.A)(hg:Gl X x)(hm:X.mg x=some (.ref C))(hb:Binds X.K fd ps ds)(hd:Vals dvs ds)(hx:Passes CX X E)
  (ha:PA X (e :: es) t)(hdb:(x == ("__debug__" : Str))=false:=by decide) (he:starEach (e :: es) X.env=(false,eval e X.env) :: starEach es X.env:=by rfl)(hpl:(backTo pos (starEach es X.env)).any (·.1)=false:=by rfl) :
  PE X (.Call (.Name x p) (e :: es) [] pos) (vQ C sp dvs E t):=by
 intro pins s σ H Q I h;refine wpAny_Call_Name_kw (d7 I hg hm ?_ hdb);refine W.callWith_K (h₀:=X.base) I.ok.mod.kin M.kp (thn (ha pos pins s σ H _ I h) λus s1 ⟨vs,H1,I1,r,q⟩=>⟨I1.kIn,?_⟩) he hpl;exact pk M F hr hb hd hx I1 r q
theorem sN(M:Mk X.K C f)(F:bg X.prog X.w X.K X.mg X.base CX k f fd ps sp)(hr:cU (k+1) X.A)(hg:Gl X x)(hm:X.mg x=some (.ref C))(hb:Binds X.K fd ps ds)(hd:Vals dvs ds)(hx:Passes CX X E)
  (hdb:(x == ("__debug__" : Str))=false:=by decide):PE X (.Call (.Name x p) [] [] pos) (vQ C sp dvs E wH):=by
 intro pins s σ H Q I h;refine wpAny_Call_Name_kw (d7 I hg hm ?_ hdb);exact W.callWith_K0 I.kIn M.kp (pk (us:=[]) M F hr hb hd hx I .nil h)
end
section
variable{CX:CXT}{k:Nat}{fd:FuncData}{ps ks:List Str}{sp:Sp}{E:XK}{x m:Str}{apos Jh:Pos}{kws:List Keyword}{tk:TA}{nm:Option Str}
structure A5(K:W.Frag)(fd:FuncData)(ps ks:List Str)(g:List Value->List Value->List Value)(gV:List V->List V->List V):Prop where
 to:∀(s:Shared)(us ws:List Value),K.In s.heap->(g us ws).length=ps.length->BindsTo s fd ⟨us,ks.zip ws⟩ (ps.zip (g us ws))
 rel:∀{vs:List V}{us:List Value}{zs:List V}{ws:List Value},Vals vs us->Vals zs ws->Vals (gV vs zs) (g us ws)
variable{g:List Value->List Value->List Value}{gV:List V->List V->List V}
end
structure aJ(N P:List Str)(sc:Scope):Prop where
 kind:sc.kind=.function
 co:sc.isCoroutine=false
 gen:sc.isGenerator=false
 nd:N.Nodup
 pre:N.take P.length=P
 par:∀x∈P,sc.names.lookup x=some .local\/sc.names.lookup x=some .cell
 nofree:∀y∈sc.names,y.2≠.free
theorem mL{kindOf:Str->Option NameKind}{x:Str}:∀{binds:List (Str×Value)}{m:Str->Option Value},(∀v,(x,v) ∉ binds)->bindL kindOf binds m x=m x
 | [],_,_=>rfl
 |(n,v) :: r,m,h=>by
  unfold bindL;rw[mL λw hw=>h w (mem_cons_of_mem _ hw)];split
  ·have:x≠n:=by rintro rfl;exact h v mem_cons_self
   simp[this]
  ·rfl
theorem mM{kindOf:Str->Option NameKind}{x:Str}:∀{binds:List (Str×Value)}{m:Str->Option Value},(∀v,(x,v) ∉ binds)->bindC kindOf binds m x=m x
 | [],_,_=>rfl
 |(n,v) :: r,m,h=>by
  unfold bindC;rw[mM λw hw=>h w (mem_cons_of_mem _ hw)];split
  ·rfl
  ·have:x≠n:=by rintro rfl;exact h v mem_cons_self
   simp[this]
theorem mO{kindOf:Str->Option NameKind}{x:Str}{v:Value}:∀{P:List Str}{vs:List Value}{i:Nat}{m:Str->Option Value},P.Nodup->P[i]?=some x->vs[i]?=some v->kindOf x=some .local ->
  bindL kindOf (P.zip vs) m x=some v
 | [],_,_,_,_,h,_,_=>by simp at h
 |_ :: _,[],_,_,_,_,h,_=>by simp at h
 |p :: P,w :: vs,0,m,nd,h1,h2,hk=>by
  simp at h1 h2;subst h1;subst h2;show bindL kindOf ((p,w) :: P.zip vs) m p=_;unfold bindL;rw[mL λv hv=>(nodup_cons.mp nd).1 (of_mem_zip hv).1,if_pos hk];simp
 |p :: P,w :: vs,i+1,m,nd,h1,h2,hk=>by
  show bindL kindOf ((p,w) :: P.zip vs) m x=_;unfold bindL;exact mO (i:=i) (nodup_cons.mp nd).2 (by simpa using h1) (by simpa using h2) hk
theorem mP{kindOf:Str->Option NameKind}{x:Str}{v:Value}:∀{P:List Str}{vs:List Value}{i:Nat}{m:Str->Option Value},P.Nodup->P[i]?=some x->vs[i]?=some v->kindOf x≠some .local ->
  bindC kindOf (P.zip vs) m x=some v
 | [],_,_,_,_,h,_,_=>by simp at h
 |_ :: _,[],_,_,_,_,h,_=>by simp at h
 |p :: P,w :: vs,0,m,nd,h1,h2,hk=>by
  simp at h1 h2;subst h1;subst h2;show bindC kindOf ((p,w) :: P.zip vs) m p=_;unfold bindC;rw[mM λv hv=>(nodup_cons.mp nd).1 (of_mem_zip hv).1,if_neg hk];simp
 |p :: P,w :: vs,i+1,m,nd,h1,h2,hk=>by
  show bindC kindOf ((p,w) :: P.zip vs) m x=_;unfold bindC;exact mP (i:=i) (nodup_cons.mp nd).2 (by simpa using h1) (by simpa using h2) hk
def start(N:List Str)(vs:List V):St:=vs.map some++List.replicate (N.length-vs.length) none
def jm(CX:CXT)(P:Program)(w:World)(K:W.Frag)(mg:Str->Option Value)(base:Heap)(N:List Str)(qual:Str)(scope:Scope)(f:Addr)(cd:Value)(A:Around)(outer:List Env)(s:Shared)(H:Hp)(E:XK):Cx where
 prog:=P
 w:=w
 K:=K
 mg:=mg
 base:=base
 A:=A.deeper (envOfC qual scope s.heap.objs.size f cd)
 N:=N
 s₀:=s
 H₀:=H
 env:=envOfC qual scope s.heap.objs.size f cd
 outer:=outer
 stack:=envOfC qual scope s.heap.objs.size f cd :: outer
 ex:=[]
 calm:=true
 fn:=λ_=>true
 pn:=[]
 xe:=λe s'=>wpAny (model P w) (A.deeper (envOfC qual scope s.heap.objs.size f cd)) (leaving (envOfC qual scope s.heap.objs.size f cd) e) (λ_ s''=>CX outer H s E e s'') (λe' s''=>CX outer H s E e' s'') s'
theorem pq{sc:Scope}{n:Nat}{x:Str}(h:sc.names.lookup x=some .cell):∃c,(cellsFrom n sc.names []).lookup x=some c:=by
 have q:=W.cellsFrom_some sc.names n [] (.inl h);exact isSome_iff_exists.mp q
theorem rz{CX:CXT}{P:Program}{w:World}{K:W.Frag}{mg:Str->Option Value}{base:Heap}{N ps:List Str}{qual:Str}{scope:Scope}{f:Addr}{cd:Value}{A:Around}{outer:List Env}{s s1:Shared}{H:Hp}{E:XK}{us:List Value}{vs:List V}
  (S:aJ N ps scope)(hd:A.handled=none)(e0:qe P w K mg base A outer s H)(hl:vs.length=ps.length)(r:Vals vs us)
  (x:InCallC s s.heap.objs.size (bindL (envOfC qual scope s.heap.objs.size f cd).kindOf (ps.zip us) λ_=>none) (cellsFrom (s.heap.objs.size+1) scope.names []) (bindC (envOfC qual scope s.heap.objs.size f cd).kindOf (ps.zip us) λ_=>none) s1) :
  Inv (jm CX P w K mg base N qual scope f cd A outer s H E) [] (start N vs) H s1:=by
 have hpl:ps.length<=N.length:=by have:=congrArg List.length S.pre;rw[length_take]at this;lia
 obtain⟨h1,tk,rfl,hk⟩:=x.done;have noA:∀b:Addr,b ∉ (jm CX P w K mg base N qual scope f cd A outer s H E).ex:=λb z=>absurd (show b∈([]:List Addr)from z) (by simp)
 refine⟨⟨e0.mod,S.kind,U,U,le_refl _,λy z c h1 h2=>?_,λy hy=>?_,λy c _ h=>?_,λ_=>hd,Around.frames_deeper e0.frames,.inr ⟨U,U⟩,λb z=>absurd z (noA b),e0.bs,e0.bsz,λb _ _=>noA b,λb z=>absurd z (noA b),e0.funs,e0.frf⟩,
  rfl,e0.bare,Un.kept hk,⟨_,x.toInCall.ns,λi y v h1 h2 h3=>?_⟩,λy c h=>⟨_,x.cell y c h⟩,e0.hok.fresh (le_refl _),λy c h=>?_,λp hp=>absurd (show p∈([]:List (Addr×Obj))from hp) (by simp),e0.hok.kept hk,?_⟩
 ·exact name_of_addr x.apart (mem_of_lookup h1) (mem_of_lookup h2)
 ·have hy:scope.names.lookup y=some .cell\/scope.names.lookup y=some .free:=hy;rcases hy with hy|hy
  ·exact pq hy
  ·exact absurd U (S.nofree _ (mem_of_lookup hy))
 ·exact le_of_lt (x.above y c (mem_of_lookup h))
 ·have hi:i<vs.length:=by
   unfold start at h2;by_cases hi:i<vs.length
   ·exact hi
   ·rw[getElem?_append_right (by simpa using hi)]at h2;rw[getElem?_replicate]at h2;split at h2 <;> cases h2
  have ha:vs[i]?=some v:=by
   unfold start at h2;rw[getElem?_append_left (by simpa using hi),getElem?_map]at h2;cases e:vs[i]? with
   |none=>rw[e]at h2;cases h2
   |some a=>rw[e]at h2;cases h2;rfl
  obtain⟨u,hu,rv⟩:=r.get ha;have hp:ps[i]?=some y:=by
   rw[←S.pre,List.getElem?_take_of_lt (by lia)];exact h1
  have ndP:ps.Nodup:=by rw[←S.pre];exact S.nd.sublist (List.take_sublist _ _)
  refine⟨u,rv,?_⟩;rcases S.par y (Jy hp)with k|k
  ·exact .inl ⟨k,mO ndP hp hu k⟩
  ·obtain⟨c,e⟩:=pq (n:=s.heap.objs.size+1) k;refine .inr ⟨.inl k,c,e,?_⟩;have q:=x.cell y c e;rw[mP ndP hp hu (by show scope.names.lookup y≠_;rw[k];decide)]at q;exact q
 ·exact e0.hok.fresh (le_of_lt (x.above y c (mem_of_lookup h)))
 ·unfold start;show _=N.length;rw[length_append,length_map,length_replicate];lia
theorem vR{CX:CXT}{P:Program}{w:World}{K:W.Frag}{mg:Str->Option Value}{base:Heap}{k:Nat}{f:Addr}{name qual:Str}{params:Arguments}{body:List Stmt}{scope:Scope}{dV kV doc pm cdv ct oc:Value}{an od:Option Addr}
  {osl:Array (Option Value)}{N ps:List Str}{sp:Sp}(lk:K.lookup f=some ⟨oc,od,.func (W.fnOf name qual params body scope dV kV doc pm an cdv ct),osl⟩)(hcd:W.codeIn K cdv qual=true)(S:aJ N ps scope)
  (len:∀vs H Q E,sp vs H Q E->vs.length=ps.length)
  (pw:∀(A:Around)(outer:List Env)(s:Shared)(H:Hp)(vs:List V)(Q:VK)(E:XK),cU k (A.deeper (envOfC qual scope s.heap.objs.size f cdv))->sp vs H Q E ->
   ∃t,PSs (jm CX P w K mg base N qual scope f cdv A outer s H E) body t/\t { nx:=λ_ H'=>Q .non H',rt:=Q } (start N vs) H) :
  bg P w K mg base CX (k+1) f (W.fnOf name qual params body scope dV kV doc pm an cdv ct) ps sp:=by
 refine⟨len,λA outer s H args us vs Q E hr e0 hb r hsp=>?_⟩;have hl:=len _ _ _ _ hsp;have KX:K.In s.heap:=e0.mod.kin.keeps λb o e=>(e0.bs b o e).1
 have lim:s.heap.NoLimit:=e0.mod.nolimit.keeps λb o e=>(e0.bs b o e).1
 have yv:∀y∈ps.zip us,scope.names.lookup y.1=some .local\/(scope.names.lookup y.1=some .cell/\((cellsFrom (s.heap.objs.size+1) scope.names []).lookup y.1).isSome=true):=λ⟨n,v⟩ hy=>by
  rcases S.par n (of_mem_zip hy).1 with q|q
  ·exact .inl q
  ·exact .inr ⟨q,W.cellsFrom_some _ _ _ (.inl q)⟩
 refine codeAny_call_function hr.depth (KX _ _ lk) U S.co S.gen U (W.codeRec_of KX hcd) (hb _ _ _ _ ?_);refine wpAny_newFunctionEnv_cells S.kind yv λenv he s1 x=>?_
 subst he;refine⟨lim.keeps x.toInCall.keep,codeAny_func ?_⟩;obtain⟨t,ht,hq⟩:=pw A outer s H vs Q E (hr.deeper _) hsp;have I:Inv (jm CX P w K mg base N qual scope f cdv A outer s H E) [] (start N vs) H s1:=rz S hr.hd e0 hl r x;refine wpAny_mono (ht [] s1 (start N vs) H _ I hq) (λfl s' hs=>?_) λe s' hs=>hs
 have fin:∀{σ':St}{H':Hp}{v:V}{u:Value},Inv (jm CX P w K mg base N qual scope f cdv A outer s H E) [] σ' H' s'->RelV v u->Q v H'->CE outer P w H s Q u s' :=
  λ{σ' H' v u} J rv q=>⟨v,H',J.os,J.bare,J.base,J.hok,rv,q⟩
 cases fl with
 |ret u =>
  obtain⟨v,σ',H',J,rv,q⟩:=hs;exact fin J rv q
 |next =>
  obtain⟨σ',H',J,q⟩:=hs;exact fin (v:=V.non) (u:=Value.none) J U q
 |brk =>
  obtain⟨_,_,_,q⟩:=hs;exact False.elim q
 |cont =>
  obtain⟨_,_,_,q⟩:=hs;exact False.elim q
section
variable{x:Str}{id T:String}{r:List V->Hp->VK->Prop}
def tCB(r:List V->Hp->VK->Prop)(t:TA):TE:=λσ H Q=>t σ H λvs H1=>r vs H1 Q
theorem az(hc:eZ X (.builtin id) r)(hg:Gl X x)(hm:X.mg x=none)(hv:bootBuiltins x=some (.builtin id))(ha:PA X (e :: es) t)(hn:x ≠ "__name__" := by decide) (hdb:(x == ("__debug__" : Str))=false:=by decide)
  (he:starEach (e :: es) X.env=(false,eval e X.env) :: starEach es X.env:=by rfl)(hpl:(backTo pos (starEach es X.env)).any (·.1)=false:=by rfl):PE X (.Call (.Name x p) (e :: es) [] pos) (tCB r t):=by
 intro pins s σ H Q I h;refine wpAny_Call_Name_kw (jJ I hg hm hv ?_ hn hdb);exact PyProof.Rows.callWith_builtin1 (thn (ha pos pins s σ H _ I h) λus s1 ⟨vs,H1,I1,r1,q1⟩=>hc pins s1 σ H1 vs us Q I1 r1 q1) he hpl
theorem bO(hc:eZ X (.type T) r)(hg:Gl X x)(hm:X.mg x=none)(hv:bootBuiltins x=some (.type T))(ha:PA X (e :: es) t)(hn:x ≠ "__name__" := by decide) (hdb:(x == ("__debug__" : Str))=false:=by decide)
  (he:starEach (e :: es) X.env=(false,eval e X.env) :: starEach es X.env:=by rfl)(hpl:(backTo pos (starEach es X.env)).any (·.1)=false:=by rfl):PE X (.Call (.Name x p) (e :: es) [] pos) (tCB r t):=by
 intro pins s σ H Q I h;refine wpAny_Call_Name_kw (jJ I hg hm hv ?_ hn hdb);exact PyProof.Rows.callWith_type1 (thn (ha pos pins s σ H _ I h) λus s1 ⟨vs,H1,I1,r1,q1⟩=>hc pins s1 σ H1 vs us Q I1 r1 q1) he hpl
end
end L2
namespace HT
open PySem PyProof.Rows
section
open PySem.SeqAt
open PySem.AutoSeq1 (wpAny_loadPart')
open PySem.MeetsSeq PySem.MeetsSeq2 PySem.MeetsSeq3
end
section
variable{prog:Program}{w:World}{A:Around}{E:Value->Shared->Prop}{s:Shared}
def sIx(n d:Nat):Option Int->Nat
 |none=>d
 |some v=>if v<0 then(v+(n:Int)).toNat else min v.toNat n
end
end HT
namespace L2
open PySem PySem.Spec PyProof.Rows
abbrev TO:=St->Hp->(Option Int->Hp->Prop)->Prop
def PO(X:Cx)(e:Option Expr)(t:TO):Prop :=
 ∀(pins:List (Addr×Obj))(s:Shared)(σ:St)(H:Hp)(Q:Option Int->Hp->Prop),Inv X pins σ H s->t σ H Q ->
  wpAny (model X.prog X.w) X.A (evalPart e X.env) (λu s'=>∃o H',Inv X pins σ H' s'/\IsPart u o/\Q o H') X.xe s
def uZ:TO:=λ_ H Q=>Q none H
inductive sP  (Q:Option Int->Hp->Prop)(x:V)(H1:Hp):Prop
 |mk (i:_)(_:x=.int i)(_:Q (some i) H1):sP Q x H1
def yw(t:TE):TO:=λσ H Q=>t σ H λx H1=>sP Q x H1
variable{X:Cx}
section
variable{e:Expr}{te:TE}{lo hi:Option Expr}{tl th:TO}{pos p2:Pos}
theorem nq:PO X none uZ:=by
 intro pins s σ H Q I h;rw[evalPart_none];exact wpAny_pure ⟨none,H,I,.none,h⟩
theorem nt(h:PE X e te):PO X (some e) (yw te):=by
 intro pins s σ H Q I hw;rw[evalPart_some];refine thn (h pins s σ H _ I hw) λu s1 ⟨x,H1,I1,r1,q1⟩=>?_
 obtain⟨i,rfl,q⟩:=q1;obtain⟨t,rfl⟩:=r1;exact⟨some i,H1,I1,.int i t,q⟩
def SlR(X:Cx)(r:V->Option Int->Option Int->Hp->VK->Prop):Prop :=
 ∀(pins:List (Addr×Obj))(s:Shared)(σ:St)(H:Hp)(x:V)(v vl vu:Value)(lo hi:Option Int)(sl:Addr)(Q:VK),Inv X pins σ H s->RelV x v->s.heap.IsSliceOf sl vl vu .none->IsPart vl lo->IsPart vu hi->r x lo hi H Q ->
  ∃T id,typeLookup (.type T) "__getitem__" = pure (some (.builtin id))/\s.TypeIs v T/\wpAny (model X.prog X.w) X.A (getItem v (.ref sl)) (EP X pins σ Q) X.xe s
def tSl(r:V->Option Int->Option Int->Hp->VK->Prop)(te:TE)(tl th:TO):TE:=λσ H Q=>te σ H λx H1=>tl σ H1 λl H2=>th σ H2 λu H3=>r x l u H3 Q
theorem lu{r:V->Option Int->Option Int->Hp->VK->Prop}(hr:SlR X r)(he:PE X e te)(hl:PO X lo tl)(hu:PO X hi th):PE X (.Subscript e (.Slice lo hi none p2) pos) (tSl r te tl th):=by
 intro pins s σ H Q I h;refine Subscript_ (thn (he pins s σ H _ I h) λv s1 ⟨x,H1,I1,r1,q1⟩=>?_);refine wpAny_Slice (thn (hl pins s1 σ H1 _ I1 q1) λvl s2 ⟨l,H2,I2,pl,q2⟩=>thn (hu pins s2 σ H2 _ I2 q2) λvu s3 ⟨u,H3,I3,pu,q3⟩=>?_);rw[evalPart_none];refine wpAny_pure ?_;have I4:Inv X pins σ H3 { s3 with heap:=s3.heap.push { cls:=.type "slice",data:=.fields #[vl,vu,.none] } }:=I3.kept (t':=s3.toks) λb ob q=>Heap.get?_push_of_some _ q
 obtain⟨T,id,hT,ht,hg⟩:=hr pins { s3 with heap:=s3.heap.push { cls:=.type "slice",data:=.fields #[vl,vu,.none] } } σ H3 x v vl vu l u s3.heap.objs.size Q I4 r1 (Heap.IsSliceOf.new ..) pl pu q3;show wpAny (model X.prog X.w) X.A (subscriptTail e (.Slice lo hi none p2) v (.ref s3.heap.objs.size)) (EP X pins σ Q) X.xe { s3 with heap:=s3.heap.push { cls:=.type "slice",data:=.fields #[vl,vu,.none] } };exact tail_any (ops:=[.ref s3.heap.objs.size,v]) ht hT hg (by with_unfolding_all rfl)
def gK(xs:List V)(lo hi:Option Int):List V:=(xs.drop (HT.sIx xs.length 0 lo)).take (HT.sIx xs.length xs.length hi-HT.sIx xs.length 0 lo)
theorem pz(xs:List V)(lo hi:Option Int):(gK xs lo hi).length<=xs.length:=by
 unfold gK;rw[length_take,length_drop];lia
end
def ixN(n:Nat)(i:Int):Option Nat:=if 0<=i then(if i<n then some i.toNat else none)else if -(n:Int)<=i then some (i+n).toNat else none
def atI{α:Type}(xs:List α)(i:Int):Option α:=(ixN xs.length i).bind λj=>xs[j]?
theorem u6{n:Nat}{i:Int}{j:Nat}(h:ixN n i=some j):seqIndex? i n=some j/\j<n/\-(n:Int)<=i/\i<n:=by
 unfold ixN at h;by_cases h0:0<=i
 ·rw[if_pos h0]at h;by_cases h1:i<n
  ·rw[if_pos h1]at h;have e:i.toNat=j:=Option.some.inj h;exact⟨by rw[seqIndex_of h0 h1,e],by lia,by lia,h1⟩
  ·rw[if_neg h1]at h;cases h
 ·rw[if_neg h0]at h;by_cases h1 : -(n:Int)<=i
  ·rw[if_pos h1]at h;have e:(i+n).toNat=j:=Option.some.inj h;exact⟨by rw[seqIndex_neg (by lia) h1,e],by lia,h1,by lia⟩
  ·rw[if_neg h1]at h;cases h
theorem nu{α:Type}{xs:List α}{i:Int}{v:α}(h:atI xs i=some v):∃j,seqIndex? i xs.length=some j/\xs[j]?=some v/\j<xs.length/\-(xs.length:Int)<=i/\i<xs.length:=by
 unfold atI at h;cases e:ixN xs.length i with
 |none=>rw[e]at h;cases h
 |some j =>
  rw[e]at h;obtain⟨h1,h2,h3,h4⟩:=u6 e;exact⟨j,h1,h,h2,h3,h4⟩
theorem aP{α:Type}{xs:List α}{j:Nat}{v:α}(h:xs[j]?=some v):atI xs (j:Int)=some v:=by
 have hj:j<xs.length:=(Jx.mp h).1;have e:ixN xs.length (j:Int)=some j:=by
  unfold ixN;rw[if_pos (by lia),if_pos (by lia)];simp
 unfold atI;rw[e];exact h
def u9(b:Expr):Prop:=∀o i,subscripted b false o i=operate [o,i] (getItem o i)
def IxR(X:Cx)(r:R2):Prop :=
 ∀(value slice:Expr)(pins:List (Addr×Obj))(s:Shared)(σ:St)(H:Hp)(x y:V)(v u:Value)(Q:VK),Inv X pins σ H s->RelV x v->RelV y u->r x y H Q ->
  subscripted slice false v u=operate [v,u] (getItem v u)->wpAny (model X.prog X.w) X.A (subscriptTail value slice v u) (EP X pins σ Q) X.xe s
def MtR(X:Cx)(id:String)(r:V->List V->Hp->VK->Prop):Prop :=
 ∀(pins:List (Addr×Obj))(s:Shared)(σ:St)(H:Hp)(x:V)(xs:List V)(v:Value)(us:List Value)(Q:VK),Inv X pins σ H s->RelV x v->Vals xs us->r x xs H Q ->
  wpAny (model X.prog X.w) X.A (call (.builtin id) (v :: us)) (EP X pins σ Q) X.xe s
section
variable{a b:Expr}{ta tb:TE}{pos:Pos}
theorem aH{r:R2}(hr:IxR X r)(ha:PE X a ta)(hb:PE X b tb)(hs:u9 b):PE X (.Subscript a b pos) (tOp r ta tb):=by
 intro pins s σ H Q I h;exact Subscript_ (wA ha hb I h λv u s2 x y H2 I2 rx ry q=>hr a b pins s2 σ H2 x y v u Q I2 rx ry q (hs _ _))
inductive wI(K:W.Frag)(x:V)(y:V)(H:Hp)(Q:VK):Prop
 |mk (p xs i v:_)(_:x=.ref p)(_:y=.int i)(_:SqL K H p xs)(_:atI xs i=some v)(_:Q v H):wI K x y H Q
inductive wJ(K:W.Frag)(x:V)(y:V)(H:Hp)(Q:VK):Prop
 |mk (p xs i v:_)(_:x=.ref p)(_:y=.int i)(_:SqT K H p xs)(_:atI xs i=some v)(_:Q v H):wJ K x y H Q
inductive yx  (x:V)(y:V)(H:Hp)(Q:VK):Prop
 |mk (z i c:_)(_:x=.str z)(_:y=.int i)(_:z.length<=sizeLine)(_:atI z.cps.toList i=some c)(_:Q (.str ⟨#[c]⟩) H):yx x y H Q
theorem aQ:IxR X (wI X.K):=by
 intro value slice pins s σ H x y v u Q I rx ry h hs;obtain⟨p,xs,i,z,rfl,rfl,hq,he,q⟩:=h;cases rx;obtain⟨t,rfl⟩:=ry;obtain⟨its,r,pl,hz⟩:=I.list hq;obtain⟨j,h1,h2,h3,h4,h5⟩:=nu he;obtain⟨w,ew,rw'⟩:=r.get h2;have hl:=r.length;have hn:=jO;have fin:EP X pins σ Q w s:=⟨z,H,I,rw',q⟩;by_cases h0:0<=i
 ·have hj:i.toNat=j:=by
   rw[seqIndex_of h0 h5]at h1;exact Option.some.inj h1
  exact item_listR pl.isList h0 (by lia) (by rw[hj];simpa using ew) fin hs
 ·have hj:(i+(its.toArray.size:Int)).toNat=j:=by
   rw[seqIndex_neg (by lia) h4]at h1;rw[size_toArray,←hl];exact Option.some.inj h1
  exact subscriptTail_builtinR (x:=w) pl.isList.typeIs slot_list_getitem.lookup
   (wpAny_getItem_list_neg (Q:=λr s'=>r=w/\EP X pins σ Q r s') pl.isList (by lia) (by rw[size_toArray] <;> lia) (by lia) (by rw[hj];simpa using ew) ⟨U,fin⟩) hs
theorem bX:IxR X (wJ X.K):=by
 intro value slice pins s σ H x y v u Q I rx ry h hs;obtain⟨p,xs,i,z,rfl,rfl,hq,he,q⟩:=h;cases rx;obtain⟨t,rfl⟩:=ry;obtain⟨its,r,pl,hz⟩:=I.tuple hq;obtain⟨j,h1,h2,h3,h4,h5⟩:=nu he;obtain⟨w,ew,rw'⟩:=r.get h2;have hl:=r.length;have hn:=jO;have fin:EP X pins σ Q w s:=⟨z,H,I,rw',q⟩
 exact subscriptTail_builtinR (x:=w) pl.typeIs slot_tuple_getitem.lookup
  (getItem_tuple (j:=j) (Q:=λr s'=>r=w/\EP X pins σ Q r s') pl (by lia) (by lia) (by rw[size_toArray,←hl];exact h1) (by simpa using ew) ⟨U,fin⟩) hs
theorem ly:IxR X yx:=by
 intro value slice pins s σ H x y v u Q I rx ry h hs;obtain⟨z,i,c,rfl,rfl,hz,he,q⟩:=h;obtain⟨t,rfl⟩:=rx;obtain⟨t',rfl⟩:=ry;obtain⟨j,h1,h2,h3,h4,h5⟩:=nu he;have hl:z.cps.toList.length=z.length:=by simp[Str.length]
 rw[hl]at h1 h4 h5;have hn:=jO;exact tail_any (typeIs_str s z t) slot_str_getitem.lookup (getItem_str (c:=c) (by
  have e1:decide (i < -(2^63:Int))=false:=decide_eq_false (by lia);have e2:decide (i ≥ 2^63)=false:=decide_eq_false (by lia);rw[e1,e2,Bool.or_false]) (by rw[h1];simpa using h2) ⟨.str ⟨#[c]⟩,H,I.tok _,⟨_,U⟩,q⟩) hs
theorem Inv.lst{pins:List (Addr×Obj)}{σ:St}{H:Hp}{s:Shared}{p:Addr}{xs:List V}(I:Inv X pins σ H s)(h:H p=some (.lst xs)) :
  ∃(its:List Value)(n:Nat),Vals xs its/\s.heap.get? p=some { cls:=.type "list",data:=.seq its.toArray n }/\xs.length<=sizeLine:=by
 obtain⟨z,its,n,r,e⟩:=I.hok p _ h;exact⟨its,n,r,e,z⟩
theorem nv(lo hi:Option Int)(n:Nat):(sliceBounds lo hi none n).1=((HT.sIx n 0 lo:Nat):Int)/\(sliceBounds lo hi none n).2.1=((HT.sIx n n hi:Nat):Int)/\(sliceBounds lo hi none n).2.2=1:=by
 refine⟨?_,?_,U⟩
 ·cases lo with
  |none=>simp[sliceBounds,HT.sIx]
  |some i =>
   simp only[sliceBounds,HT.sIx,getD_none,show(1:Int)>0 by decide,if_true];by_cases h:i<0
   ·simp only[h,if_true] <;> lia
   ·simp only[h,if_false] <;> lia
 ·cases hi with
  |none=>simp[sliceBounds,HT.sIx]
  |some i =>
   simp only[sliceBounds,HT.sIx,getD_none,show(1:Int)>0 by decide,if_true];by_cases h:i<0
   ·simp only[h,if_true] <;> lia
   ·simp only[h,if_false] <;> lia
theorem mr(its:List Value)(lo hi:Option Int):slicePick its.toArray lo hi none=((its.drop (HT.sIx its.length 0 lo)).take (HT.sIx its.length its.length hi-HT.sIx its.length 0 lo)).toArray:=by
 obtain⟨h1,h2,h3⟩:=nv lo hi its.toArray.size;unfold slicePick;rw[h1,h2,h3];simp only[sliceRange_one,pick_run,size_toArray] <;> rfl
inductive yz(K:W.Frag)(x:V)(lo:Option Int)(hi:Option Int)(H:Hp)(Q:VK):Prop
 |mk (a xs:_)(_:x=.ref a)(_:SqL K H a xs)(_:∀p,H p=none->Q (.ref p) (upd H p (.lst (gK xs lo hi)))):yz K x lo hi H Q
theorem nA:SlR X (yz X.K):=by
 intro pins s σ H x v vl vu lo hi sl Q I rx hs pl pu h;obtain⟨a,xs,rfl,hx,q⟩:=h;cases rx;obtain⟨its,r,ht,hz⟩:=I.list hx;have hlen:=r.length;refine⟨"list",_,slot_list_getitem.lookup,ht.isList.typeIs,?_⟩;refine wpAny_getItem_list_slice ht.isList hs pl pu .none (by simp) ?_ (by rw[size_toArray] <;> lia);rw[mr,←hlen];refine⟨.ref s.heap.objs.size,_,I.laid (t':=s.toks) (o:=.lst (gK xs lo hi)) (λb ob q=>Heap.get?_push_of_some _ q) (le_refl _) ?_,U,q _ (I.hok.fresh (le_refl _))⟩;exact⟨le_trans (pz xs lo hi) hz,_,0,(r.drop (HT.sIx xs.length 0 lo)).take (HT.sIx xs.length xs.length hi-HT.sIx xs.length 0 lo),Heap.get?_push_size _ U⟩
def dg:V->Bool
 | .non=>true
 | .bl _=>true
 | .int _=>true
 | .str _=>true
 |_=>false
def eqV:V->V->Bool
 | .non,.non=>true
 | .bl a,.bl b=>a == b
 | .bl a,.int b=>(if a then 1 else 0) == b
 | .int a,.bl b=>a == (if b then 1 else 0)
 | .int a,.int b=>a == b
 | .str a,.str b=>a == b
 |_,_=>false
theorem qf{A:Around}{s:Shared}{y x:V}{u v:Value}(ry:RelV y u)(rx:RelV x v)(fy:dg y=true)(fx:dg x=true):SeqAt.EqAt A s u v (eqV y x):=by
 cases y with
 |non =>
  cases ry;cases x with
  |non=>cases rx;exact SeqAt.EqAt.same _
  |bl b=>cases rx;exact SeqAt.EqAt.none_bool b
  |int b=>obtain⟨t,rfl⟩:=rx;exact SeqAt.EqAt.none_int b t
  |str b=>obtain⟨t,rfl⟩:=rx;exact SeqAt.EqAt.none_str b t
  |_=>exact absurd (show false=true from fx) Bool.false_ne_true
 |bl a =>
  cases ry;cases x with
  |non=>cases rx;exact SeqAt.EqAt.bool_none a
  |bl b=>cases rx;exact SeqAt.EqAt.bool_bool a b
  |int b=>obtain⟨t,rfl⟩:=rx;exact SeqAt.EqAt.bool_int a b t
  |str b=>obtain⟨t,rfl⟩:=rx;exact SeqAt.EqAt.bool_str a b t
  |_=>exact absurd (show false=true from fx) Bool.false_ne_true
 |int a =>
  obtain⟨t',rfl⟩:=ry;cases x with
  |non=>cases rx;exact SeqAt.EqAt.int_none a t'
  |bl b=>cases rx;exact SeqAt.EqAt.int_bool a t' b
  |int b=>obtain⟨t,rfl⟩:=rx;exact SeqAt.EqAt.int_int a t' b t
  |str b=>obtain⟨t,rfl⟩:=rx;exact SeqAt.EqAt.int_str a t' b t
  |_=>exact absurd (show false=true from fx) Bool.false_ne_true
 |str a =>
  obtain⟨t',rfl⟩:=ry;cases x with
  |non=>cases rx;exact SeqAt.EqAt.str_none a t'
  |bl b=>cases rx;exact SeqAt.EqAt.str_bool a t' b
  |int b=>obtain⟨t,rfl⟩:=rx;exact SeqAt.EqAt.str_int a t' b t
  |str b=>obtain⟨t,rfl⟩:=rx;exact SeqAt.EqAt.str_str a t' b t
  |_=>exact absurd (show false=true from fx) Bool.false_ne_true
 |_=>exact absurd (show false=true from fy) Bool.false_ne_true
def eqU(x:V)(u:Value):Bool:=match u with
 | .none=>eqV .non x
 | .bool b=>eqV (.bl b) x
 | .int i _=>eqV (.int i) x
 | .str z _=>eqV (.str z) x
 |_=>false
theorem sQ{x y:V}{u:Value}(r:RelV y u)(f:dg y=true):eqU x u=eqV y x:=by
 cases y with
 |non=>cases r;rfl
 |bl b=>cases r;rfl
 |int i=>obtain⟨t,rfl⟩:=r;rfl
 |str z=>obtain⟨t,rfl⟩:=r;rfl
 |_=>exact absurd (show false=true from f) Bool.false_ne_true
theorem jn{x:V}:∀{xs:List V}{us:List Value},Vals xs us->xs.all dg=true->us.any (eqU x)=xs.any λy=>eqV y x
 |_,_,.nil,_=>rfl
 |y :: xs,u :: us,.cons r t,f=>by
  rw[all_cons,and_eq_true]at f;rw[any_cons,any_cons,sQ r f.1,jn t f.2]
theorem gL{A:Around}{s:Shared}{x:V}{v:Value}(rx:RelV x v)(fx:dg x=true):∀{xs:List V}{us:List Value},Vals xs us->xs.all dg=true->∀u∈us,SeqAt.EqAt A s u v (eqU x u)
 |_,_,.nil,_=>λu hu=>by cases hu
 |y :: xs,u :: us,.cons r t,f=>λu' hu=>by
  rw[all_cons,and_eq_true]at f;rcases mem_cons.mp hu with rfl|hu
  ·rw[sQ r f.1];exact qf r rx f.1 fx
  ·exact gL rx fx t f.2 u' hu
def inV(x:V)(xs:List V):Bool:=xs.any λy=>eqV y x
inductive rIn(K:W.Frag)(neg:Bool)(x:V)(y:V)(H:Hp)(Q:VK):Prop
 |mk (p xs:_)(_:y=.ref p)(_:(SqL K H p xs\/SqT K H p xs))(_:dg x=true)(_:xs.all dg=true)(_:Q (.bl (if neg then !inV x xs else inV x xs)) H):rIn K neg x y H Q
theorem fE:OpR X (compareOp .In) (rIn X.K false):=by
 intro pins s σ H x y v u Q I rx ry h;obtain⟨p,xs,rfl,hq,fx,fs,q⟩:=h;cases ry;rcases hq with hq|hq
 ·obtain⟨its,r,pl,hz⟩:=I.list hq;refine SeqAt.in_listAt (eqU x) pl.isList (λw hw=>gL rx fx r fs w (by simpa using hw)) ⟨.bl _,H,I,U,?_⟩;rw[show its.toArray.any (eqU x)=its.any (eqU x) by simp,jn r fs];exact q
 ·obtain⟨its,r,pl,hz⟩:=I.tuple hq;refine SeqAt.in_tupleAt (eqU x) pl (λw hw=>gL rx fx r fs w (by simpa using hw)) ⟨.bl _,H,I,U,?_⟩;rw[show its.toArray.any (eqU x)=its.any (eqU x) by simp,jn r fs];exact q
theorem nB:OpR X (compareOp .NotIn) (rIn X.K true):=by
 intro pins s σ H x y v u Q I rx ry h;obtain⟨p,xs,rfl,hq,fx,fs,q⟩:=h;cases ry;rcases hq with hq|hq
 ·obtain⟨its,r,pl,hz⟩:=I.list hq;refine SeqAt.notIn_listAt (eqU x) pl.isList (λw hw=>gL rx fx r fs w (by simpa using hw)) ⟨.bl _,H,I,U,?_⟩;rw[show its.toArray.any (eqU x)=its.any (eqU x) by simp,jn r fs];exact q
 ·obtain⟨its,r,pl,hz⟩:=I.tuple hq;refine SeqAt.notIn_tupleAt (eqU x) pl (λw hw=>gL rx fx r fs w (by simpa using hw)) ⟨.bl _,H,I,U,?_⟩;rw[show its.toArray.any (eqU x)=its.any (eqU x) by simp,jn r fs];exact q
theorem av:eZ X (.builtin "len") (λxs H Q=>∃p ys,xs=[.ref p]/\(SqL X.K H p ys\/SqT X.K H p ys)/\Q (.int ys.length) H):=by
 intro pins s σ H xs us Q I r h;obtain⟨p,ys,rfl,hq,q⟩:=h;obtain⟨u,rfl,rx⟩:=vals1 r;cases rx;have hn:=jO;rcases hq with hq|hq
 ·obtain⟨its,r',pl,hz⟩:=I.list hq;have hlen:=r'.length;exact Calls.call_len_list pl.isList (by simp only[size_toArray] <;> lia) ⟨.int ys.length,H,I.tok _,⟨s.toks+1,by rw[size_toArray,hlen]⟩,q⟩
 ·obtain⟨its,r',pl,hz⟩:=I.tuple hq;have hlen:=r'.length;exact len_tuple pl (by simp only[size_toArray] <;> lia) ⟨.int ys.length,H,I.tok _,⟨s.toks+1,by rw[size_toArray,hlen]⟩,q⟩
theorem nC:eZ X (.builtin "len") (λxs H Q=>∃z,xs=[.str z]/\z.length<=sizeLine/\Q (.int z.length) H):=by
 intro pins s σ H xs us Q I r h;obtain⟨z,rfl,hz,q⟩:=h;obtain⟨u,rfl,t,rfl⟩:=vals1 r;have hn:=jO;exact len_str (by lia) ⟨.int z.length,H,I.tok _,⟨_,U⟩,q⟩
theorem cx:eZ X (.type "list") (λxs H Q=>∃p ys,xs=[.ref p]/\(SqL X.K H p ys\/SqT X.K H p ys)/\∀l,H l=none->Q (.ref l) (upd H l (.lst ys))):=by
 intro pins s σ H xs us Q I r h;obtain⟨p,ys,rfl,hq,q⟩:=h;obtain⟨u,rfl,rx⟩:=vals1 r;cases rx
 have fin:∀(its:List Value),Vals ys its->ys.length<=sizeLine->∀(h':Heap)(c':Nat),(∀b o',s.heap.get? b=some o'->h'.get? b=some o') ->
   h'.get? s.heap.objs.size=some { cls:=.type "list",dict:=none,data:=.seq its.toArray c',slots:=#[] }->EP X pins σ Q (.ref s.heap.objs.size) { s with heap:=h' }:=λits r' hz h' c' kp e =>
  ⟨.ref s.heap.objs.size,_,I.laid (t':=s.toks) kp (le_refl _) (show cX X.prog X.w _ h' _ (.lst ys) from⟨hz,its,c',r',e⟩),U,q _ (I.hok.fresh (le_refl _))⟩
 rcases hq with hq|hq
 ·obtain⟨its,r',pl,hz⟩:=I.list hq;have hlen:=r'.length;obtain⟨o,ho,hc,n,hd⟩:=pl.isList;exact call_list_seq p (.inl U) ho hc hd (λh' c' kp e=>fin its r' hz h' c' kp e) (by simp only[size_toArray] <;> lia)
 ·obtain⟨its,r',pl,hz⟩:=I.tuple hq;have hlen:=r'.length;obtain⟨o,ho,hc,n,hd⟩:=pl;exact call_list_seq p (.inr U) ho hc hd (λh' c' kp e=>fin its r' hz h' c' kp e) (by simp only[size_toArray] <;> lia)
def tyV(K:W.Frag)(T:String)(x:V)(H:Hp):Prop:=match x with
 | .str _=>T = "str"
 | .int _=>T = "int"
 | .ref p=>(T = "list" /\ ∃xs,SqL K H p xs)\/(T = "tuple" /\ ∃o,K.lookup p=some o/\o.cls=.type "tuple" /\ o.dict=none) \/
   (T = "dict" /\ ((∃kvs,H p=some (.dK kvs))\/∃kvs,H p=some (.dT kvs)))\/(T = "set" /\ ∃S n,H p=some (.set S n))
 |_=>False
theorem sR{pins:List (Addr×Obj)}{σ:St}{H:Hp}{s:Shared}{T:String}{x:V}{v:Value}(I:Inv X pins σ H s)(r:RelV x v)(ty:tyV X.K T x H) :
  s.TypeIs v T/\∀a,v=.ref a->∃ob,s.heap.get? a=some ob/\ob.dict=none:=by
 cases x with
 |str z =>
  obtain⟨t,rfl⟩:=r;cases (show T = "str" from ty);exact⟨typeIs_str s z t,λ_ e=>nomatch e⟩
 |int i =>
  obtain⟨t,rfl⟩:=r;cases (show T = "int" from ty);exact⟨typeIs_int s i t,λ_ e=>nomatch e⟩
 |ref p =>
  cases r;rcases ty with⟨rfl,xs,hq⟩|⟨rfl,o,hk,hc,hd⟩|⟨rfl,hk⟩|⟨rfl,S,n,hk⟩
  ·obtain⟨its,_,pl,_⟩:=I.list hq;refine⟨pl.isList.typeIs,λa e=>?_⟩;cases e;obtain⟨o,n,e,c,hd,_⟩:=pl;exact⟨o,e,hd⟩
  ·refine⟨⟨o,I.kIn p o hk,hc⟩,λa e=>?_⟩;cases e;exact⟨o,I.kIn _ o hk,hd⟩
  ·have z:∃o,s.heap.get? p=some o/\o.ExactDict:=by
    rcases hk with⟨kvs,hk⟩|⟨kvs,hk⟩
    ·obtain⟨_,_,_,_,o,_,_,e,ex,_⟩:=I.hok p _ hk;exact⟨o,e,ex⟩
    ·obtain⟨_,_,_,_,o,_,_,e,ex,_⟩:=I.hok p _ hk;exact⟨o,e,ex⟩
   obtain⟨o,e,ex⟩:=z;refine⟨⟨o,e,ex.1⟩,λa e2=>?_⟩;cases e2;exact⟨o,e,ex.2.1⟩
  ·obtain⟨o,_,_,_,e,ex,_⟩:=I.hok p _ hk;refine⟨⟨o,e,ex.1⟩,λa e2=>?_⟩;cases e2;exact⟨o,e,ex.2.1⟩
 |_=>exact False.elim ty
def A6(K:W.Frag)(T:String)(r:V->List V->Hp->VK->Prop)(to:TE):TE:=λσ H Q=>to σ H λx H1=>tyV K T x H1/\r x [] H1 Q
def tBM(K:W.Frag)(T:String)(r:V->List V->Hp->VK->Prop)(to:TE)(t:TA):TE:=λσ H Q=>to σ H λx H1=>tyV K T x H1/\t σ H1 λxs H2=>r x xs H2 Q
variable{o e:Expr}{es:List Expr}{to:TE}{t:TA}{name:Str}{apos gM:Pos}{T id:String}{r:V->List V->Hp->VK->Prop}
theorem sS(pa:PlainAttrs T)(slot:Slot T name id)(hty:typeOf (.builtin id)=pure (.type "method_descriptor")) (hm:MtR X id r)(ho:PE X o to)
  (sT:attributeBase o name X.env (eval o X.env)=eval o X.env:=by rfl)(sU:(apos.endLine == gM.line)=true:=by rfl):PE X (.Call (.Attribute o name apos) [] [] gM) (A6 X.K T r to):=by
 intro pins s σ H Q I h;refine wpAny_Call_method0_late sT sU (thn (ho pins s σ H _ I h) λv s1 ⟨x,H1,I1,r1,ty,q1⟩=>?_);obtain⟨h1,h2⟩:=sR I1 r1 ty;exact⟨T,id,pa,slot,hty,h1,h2,Calls.callWith_builtin U (PySem.evalArgs_none (hm pins s1 σ H1 x [] v [] Q I1 r1 .nil q1))⟩
theorem lz(pa:PlainAttrs T)(slot:Slot T name id)(hty:typeOf (.builtin id)=pure (.type "method_descriptor")) (hm:MtR X id r)(ho:PE X o to)(ha:PA X (e :: es) t)
  (sT:attributeBase o name X.env (eval o X.env)=eval o X.env:=by rfl)
  (qg:((backTo gM (starEach (e :: es) X.env)).all (λx=>!x.1) && (backToKw gM (keywordEach [] X.env)).all (λx=>x.1.isSome)
   && decide ((e :: es).length+([]:List Keyword).length+(if ([]:List Keyword).isEmpty then 0 else 1)<30))=true:=by rfl)
  (sU:(apos.endLine == gM.line)=true:=by rfl)(hs:starEach (e :: es) X.env=(false,eval e X.env) :: starEach es X.env:=by rfl)(wK:(backTo gM (starEach es X.env)).any (·.1)=false:=by rfl) :
  PE X (.Call (.Attribute o name apos) (e :: es) [] gM) (tBM X.K T r to t):=by
 intro pins s σ H Q I h;refine wpAny_Call_method_late sT qg sU U (thn (ho pins s σ H _ I h) λv s1 ⟨x,H1,I1,r1,ty,q1⟩=>?_);obtain⟨h1,h2⟩:=sR I1 r1 ty;refine⟨T,id,pa,slot,hty,h1,h2,?_⟩;have hA:=ha gM pins s1 σ H1 _ I1 q1;rw[hs]at hA⊢;refine Calls.callWith_builtin (by show(false || (backTo gM (starEach es X.env)).any (·.1))=false;rw[wK] <;> rfl) (Calls.evalArgs_plain ?_);exact thn hA λus s2 ⟨vs,H2,I2,r2,q2⟩=>hm pins s2 σ H2 x vs v us Q I2 r1 r2 q2
end
def MtM(X:Cx)(id:String)(r:V->List V->Hp->VK->Prop):Prop :=
 ∀(pins:List (Addr×Obj))(s:Shared)(σ:St)(H:Hp)(x:V)(xs:List V)(v:Value)(us:List Value)(Q:VK),Inv X pins σ H s->RelV x v->Vals xs us->r x xs H Q ->
  wpAny (model X.prog X.w) X.A (call (.builtin id) (v :: us)) (EP X pins σ Q) X.xe s
theorem Vals.one:∀{x:V}{us:List Value},Vals [x] us->∃u,us=[u]/\RelV x u
 |_,_,.cons r .nil=>⟨_,U,r⟩
theorem Vals.two:∀{x y:V}{us:List Value},Vals [x,y] us->∃u v,us=[u,v]/\RelV x u/\RelV y v
 |_,_,_,.cons r (.cons q .nil)=>⟨_,_,U,r,q⟩
theorem Vals.zero:∀{us:List Value},Vals [] us->us=[]
 |_,.nil=>rfl
theorem Vals.reverse{xs:List V}{us:List Value}(h:Vals xs us):Vals xs.reverse us.reverse:=by
 induction h with
 |nil=>exact .nil
 |cons r t ih=>rw[List.reverse_cons,List.reverse_cons];exact Vals.append ih (.cons r .nil)
section
variable{pins:List (Addr×Obj)}{σ:St}{H:Hp}{s:Shared}{l b:Addr}{xs ys zs:List V}
theorem Inv.lset{its its':List Value}{n:Nat}{f:Array Value->Array Value}{t':Nat}(I:Inv X pins σ H s)(hH:H l=some (.lst xs))
  (e:s.heap.get? l=some { cls:=.type "list",data:=.seq its.toArray n }) (hf:f its.toArray=its'.toArray)(hv:Vals ys its')(hz:ys.length<=sizeLine) :
  Inv X pins σ (upd H l (.lst ys)) { s with heap:=s.heap.update l (Obj.mapSeq f),toks:=t' }:=by
 have q:=PySem.IsL.update e f;rw[hf]at q;refine I.write (x:=l) (e:=l) (by rw[hH];exact trivial) (.inl U) (λb' u hb hu=>(Heap.get?_update_other s.heap (Obj.mapSeq f) (Ne.symm hb)).trans hu) ⟨_,q⟩ ?_;exact⟨hz,its',_,hv,q⟩
theorem Inv.lnew{its:List Value}{t':Nat}(I:Inv X pins σ H s)(hv:Vals ys its)(hz:ys.length<=sizeLine) :
  Inv X pins σ (upd H s.heap.objs.size (.lst ys)) { s with heap:=s.heap.push { cls:=.type "list",data:=.seq its.toArray },toks:=t' } :=
 I.laid (λ_ _ q=>Heap.get?_push_of_some _ q) (le_refl _) ⟨hz,its,0,hv,Heap.get?_push_size _ U⟩
theorem Inv.fresh(I:Inv X pins σ H s):H s.heap.objs.size=none:=I.hok.fresh (le_refl _)
theorem Inv.lstM(I:Inv X pins σ H s)(hH:H l=some (.lst xs)):xs.length<=sizeLine/\∃(its:List Value)(n:Nat),Vals xs its/\xs.length=its.length/\s.heap.get? l=some { cls:=.type "list",data:=.seq its.toArray n }:=by
 obtain⟨z,its,n,r,e⟩:=I.hok l _ hH;exact⟨z,its,n,r,r.length,e⟩
theorem sV{n:Nat}(h:n<=sizeLine):Builtin.List.listTooLong n=false:=by
 unfold Builtin.List.listTooLong;exact decide_eq_false (by lia)
end
inductive qO  (x:V)(vs:List V)(H:Hp)(Q:VK):Prop
 |mk (l xs y:_)(_:x=.ref l)(_:vs=[y])(_:H l=some (.lst xs))(_:xs.length<sizeLine)(_:Q .non (upd H l (.lst (xs++[y])))):qO x vs H Q
theorem eG:MtM X "list.append" qO:=by
 intro pins s σ H x vs v us Q I rx rv h;obtain⟨l,xs,y,rfl,rfl,hH,hz,q⟩:=h;cases rx;obtain⟨u,rfl,ru⟩:=rv.one;obtain⟨z,its,n,r,hl,e⟩:=I.lstM hH;refine call_meets F.slot_list_append ⟨_,e,U⟩ F.entry_list_append (F.args_list_append_2 _ _) (PySem.list_append l its.toArray n u (by rw[size_toArray];lia)) ⟨e,?_⟩;refine⟨.non,_,I.lset (its':=its++[u]) hH e (by simp) (r.append (.cons ru .nil)) ?_,U,q⟩;rw[length_append,List.length_singleton];lia
inductive qP  (x:V)(vs:List V)(H:Hp)(Q:VK):Prop
 |mk (l b xs zs:_)(_:x=.ref l)(_:vs=[.ref b])(_:H l=some (.lst xs))(_:H b=some (.lst zs))(_:xs.length+zs.length<=sizeLine)(_:Q .non (upd H l (.lst (xs++zs)))):qP x vs H Q
theorem rA:MtM X "list.extend" qP:=by
 intro pins s σ H x vs v us Q I rx rv h;obtain⟨l,b,xs,zs,rfl,rfl,hH,hB,hz,q⟩:=h;cases rx;obtain⟨u,rfl,ru⟩:=rv.one;cases ru;obtain⟨z,its,n,r,hl,e⟩:=I.lstM hH;obtain⟨z2,qh,n2,r2,hl2,e2⟩:=I.lstM hB;have hsz:its.toArray.size+qh.toArray.size<=sizeLine:=by rw[size_toArray,size_toArray];lia
 have yB:¬ (!its.toArray.isEmpty && Builtin.List.listTooLong (its.toArray.size+qh.toArray.size))=true:=by
  rw[sV hsz,Bool.and_false];exact Bool.false_ne_true
 refine call_meets F.slot_list_extend ⟨_,e,U⟩ F.entry_list_extend (F.args_list_extend_2 _ _)
  (AutoSeq1.list_extend_list_list_0 l its.toArray n b qh.toArray n2 yB (by rw[size_toArray];lia) (by lia)) ⟨e,e2,?_⟩
 refine⟨.non,_,I.lset (its':=its++qh) hH e (by simp) (r.append r2) ?_,U,q⟩;rw[length_append];lia
inductive pA  (x:V)(vs:List V)(H:Hp)(Q:VK):Prop
 |mk (l xs:_)(_:x=.ref l)(_:vs=[])(_:H l=some (.lst xs))(_:Q .non (upd H l (.lst xs.reverse))):pA x vs H Q
theorem qi:MtM X "list.reverse" pA:=by
 intro pins s σ H x vs v us Q I rx rv h;obtain⟨l,xs,rfl,rfl,hH,q⟩:=h;cases rx;have hus:=rv.zero;subst hus;obtain⟨z,its,n,r,hl,e⟩:=I.lstM hH;refine call_meets F.slot_list_reverse ⟨_,e,U⟩ F.entry_list_reverse (F.args_list_reverse_1 _) (AutoSeq1.list_reverse_list_0 l its.toArray n (by rw[size_toArray];lia)) ⟨e,?_⟩;refine⟨.non,_,I.lset (its':=its.reverse) hH e (by simp) r.reverse ?_,U,q⟩;rw[List.length_reverse];lia
inductive sW  (x:V)(vs:List V)(H:Hp)(Q:VK):Prop
 |mk (l xs:_)(_:x=.ref l)(_:vs=[])(_:H l=some (.lst xs))(_:Q .non (upd H l (.lst []))):sW x vs H Q
theorem sX:MtM X "list.clear" sW:=by
 intro pins s σ H x vs v us Q I rx rv h;obtain⟨l,xs,rfl,rfl,hH,q⟩:=h;cases rx;have hus:=rv.zero;subst hus;obtain⟨z,its,n,r,hl,e⟩:=I.lstM hH;refine call_meets F.slot_list_clear ⟨_,e,U⟩ F.entry_list_clear (F.args_list_clear_1 _) (AutoSeq1.list_clear_list_0 l its.toArray n (by rw[size_toArray];lia)) ⟨e,?_⟩;exact⟨.non,_,I.lset (its':=[]) (ys:=[]) hH e U .nil (zero_le _),U,q⟩
inductive yC  (x:V)(y:V)(H:Hp)(Q:VK):Prop
 |mk (l b xs zs:_)(_:x=.ref l)(_:y=.ref b)(_:H l=some (.lst xs))(_:H b=some (.lst zs))(_:xs.length+zs.length<=sizeLine)(_:∀p,H p=none->Q (.ref p) (upd H p (.lst (xs++zs)))):yC x y H Q
theorem cZ:OpR X (binaryOp .Add) yC:=by
 intro pins s σ H x y v u Q I rx ry h;obtain⟨l,b,xs,zs,rfl,rfl,hH,hB,hz,q⟩:=h;cases rx;cases ry;obtain⟨z,its,n,r,hl,e⟩:=I.lstM hH;obtain⟨z2,qh,n2,r2,hl2,e2⟩:=I.lstM hB;refine PySem.P.add_list e e2 ?_ (by rw[size_toArray,size_toArray];lia);have ea:its.toArray++qh.toArray=(its++qh).toArray:=by simp
 rw[ea];exact⟨.ref _,_,I.lnew (t':=s.toks) (r.append r2) (by rw[length_append];lia),U,q _ I.fresh⟩
section
variable{prog:Program}{w:World}{A:Around}{E:Value->Shared->Prop}{s:Shared}
end
end L2
namespace Att
open PySem PySem.W PySem.Calls PyProof.Rows
theorem kB{P:Params}{h:Heap}:∀(ns:List Int)(vs:List Value),WellAll P h vs (ns.map WData.int)->IntsAre vs ns:=by
 intro ns;induction ns with
 |nil =>
  intro vs w;rw[List.map_nil]at w;cases w;exact .nil
 |cons n ns ih =>
  intro vs w;rw[map_cons]at w;cases w with
  |cons a b =>
   cases a;exact .cons _ _ (ih _ b)
theorem rB{l:OpenLaw}{n:Nat}(hn:l.most=some n){P:Params}{h:Heap}{args:List WData}{vals:List Value}
  (va:l.row.toRowW.claim.pre args=true)(hwl:WellAll P h vals args) :
  ∃a vs ns,vals=[Value.ref a]/\args=[WData.list (ns.map WData.int)]/\h.get? a=some { cls:=.type "list",data:=.seq vs.toArray }/\IntsAre vs ns/\ns.length<=n:=by
 have hsh:WShape.hasAll [] args [.list .int]=true:=(pre_splitW va).1;have hc:l.pre.holds [] { args:=args }=true:=(pre_splitW va).2;obtain⟨d,r,rfl,h1,h2⟩:=hasAllW_cons hsh;obtain rfl:=hasAllW_nil h2;obtain⟨xs,rfl,h3⟩:=hasW_list h1;obtain⟨ns,rfl⟩:=items_int h3;have hlen:ns.length<=n:=by
  unfold OpenLaw.pre at hc;have h4:(WTm.not (.lt (.lit (.int (n:Int))) (.len (.arg 0)))).holds [] { args:=[.list (ns.map .int)] }=true:=by
   have h4:=(holds_andW hc).1;rw[hn]at h4;exact h4
  have h5:=condW_of h4 (w_not (w_lt w_lit (w_len_list (w_arg rfl))));rw[length_map]at h5;refine Nat.le_of_not_lt λq=>?_
  have q':(n:Int)<((ns.length:Nat):Int):=by lia
  first
   |(rw[decide_eq_true q']at h5;exact absurd h5 (by decide))
   |(simp at h5;lia)
 cases hwl with
 |cons w1 w2 =>
  cases w2;cases w1 with
  |list ho hall=>exact⟨_,_,ns,rfl,rfl,ho,kB ns _ hall,hlen⟩
theorem rC(l:OpenLaw)(args:List WData):l.row.toRowW.claim.post args (.bool true) args=true :=
 postW_of (r:=l.row.toRowW) (X:=(true == true))
  (show WShape.has [] (.bool true) .bool=true by first|rfl|decide|simp[WShape.has,WShape.arms,WShape.armsAll])
  (show(WTm.eq .res (.lit (.bool true))).value [] { args:=args,res:=some (.bool true),after:=args }=some (.bool (true == true))from w_eq_bool (w_res rfl) w_lit) rfl
theorem attach_call{l:OpenLaw}{n:Nat}{q:Program}{loose:List Str}{XP:(Str->Option Value)->Heap->Prop}{YP:World->Heap->Prop}{d:DefRec}
  (hn:l.most=some n)(hdf:d.params.defaults=[])
  (call:∀(w:World)(s₀ s₁:Shared)(mg mb:Str->Option Value)(fa:Addr)(o:Obj)(pm cd doc:Value)(a:Addr)(vs:List Value)(ns:List Int),
   Ground q loose [] XP w s₀ mg mb s₁.heap->YP w s₁.heap ->
   s₁.heap.get? fa=some o->o.data=.func (docDef d.name d.params d.body d.scope pm cd doc)->s₁.heap.CodeRec cd d.name->mg d.name=some (.ref fa) ->
   s₁.heap.get? a=some { cls:=.type "list",data:=.seq vs.toArray }->IntsAre vs ns->ns.length<=n->s₁.gens = #[] ->
   codeAny (model l.prog w) callerA (.call (.ref fa) ⟨[.ref a],[]⟩) (λr s'=>r=.ok (.ret (.bool true))/\OldK s₁.heap s'.heap/\s'.os=s₁.os/\AllBare s'.gens) s₁) :
  WalkO q loose XP YP l.row.toRowW d [] (λf vs=>PySem.call f vs):=by
 intro w s₀ s₁ mg mb G Y fa o pm cd doc dV kV ho hd hcd hD hmg hg args vals as va Ji hrd hwl hlo;obtain rfl:dV=.none:=Dflts.none hD hdf;obtain rfl:kV=.none:=Dflts.noKw hD;obtain⟨a,vs,ns,rfl,rfl,wL,hints,hlen⟩:=rB hn va hwl;refine enter_call (codeAny_mono (call w s₀ s₁ mg mb fa o pm cd doc a vs ns G Y ho (fd_plain hd) hcd hmg wL hints hlen hg) λr s' hq=>?_);obtain⟨rfl,h2,h3,h4⟩:=hq;exact⟨.inl ⟨.bool true,.bool true,[],rfl,λ_=>rfl,.bool true,rC l _,λ_=>⟨List.Pairwise.nil,λ_ hm=>(nomatch hm)⟩⟩,h2,h3,h4⟩
section
variable{prog:Program}{w:World}{A:Around}{E:Value->Shared->Prop}{s:Shared}{K:Frag}
end
end Att
namespace L2
open PySem PySem.Spec PyProof.Rows
theorem mQ:∀{vs:List Value}{ns:List Int},IntsAre vs ns->Vals (ns.map V.int) vs
 |_,_,.nil=>.nil
 |_,_,.cons n t h=>.cons ⟨t,U⟩ (mQ h)
def wM(H:Hp):Prop:=∀b,H b=none\/∃o xs,H b=some (.frz o (.lst xs))
theorem sY{P:Program}{w:World}{K:W.Frag}{mg mb:Str->Option Value}{CX:CXT}{k:Nat}{fa a:Addr}{fd:FuncData}{x:Str}{sp:Sp}{s₁:Shared}{vs:List Value}{ns:List Int}
  (KX:K.In s₁.heap)(hns:s₁.heap.Ns mainGlobals mg)(hb:s₁.heap.Ns builtinsNs mb)(hbb:∀x:Str,x ≠ "__name__" -> mb x=bootBuiltins x) (A7:s₁.heap.NoLimit)(hg:s₁.gens = #[])
  (ha:s₁.heap.get? a=some { cls:=.type "list",data:=.seq vs.toArray }) (hi:IntsAre vs ns)(hl:ns.length<=sizeLine)(hr:cU k callerA)
  (F:∀base:Heap,K.In base->base.Ns mainGlobals mg->bg P w K mg base CX k fa fd [x] sp)(yD:∀(s:Shared)(u:Value),BindsTo s fd ⟨[u],[]⟩ [(x,u)])
  (hsp:∀H:Hp,wM H->SqL K H a (ns.map V.int)->sp [.ref a] H (λv _=>v=.bl true) λ_ _ _=>False)
  (hCX:∀H e s',CX [] H s₁ (λ_ _ _=>False) e s'->False) :
  codeAny (model P w) callerA (.call (.ref fa) ⟨[.ref a],[]⟩) (λr s'=>r=.ok (.ret (.bool true))/\OldK s₁.heap s'.heap/\s'.os=s₁.os/\AllBare s'.gens) s₁:=by
 have rv:=mQ hi;have A8:=hi.length
 have core:∀H:Hp,wM H->SqL K H a (ns.map V.int)->HOk P w H s₁.heap->(∀b,H b≠none->b=a)->(H a≠none->K.lookup a=none) ->
   codeAny (model P w) callerA (.call (.ref fa) ⟨[.ref a],[]⟩) (λr s'=>r=.ok (.ret (.bool true))/\OldK s₁.heap s'.heap/\s'.os=s₁.os/\AllBare s'.gens) s₁:=by
  intro H hO hS hok hA hK;have qQ:∀{b:Addr}{o:Obj},s₁.heap.get? b=some o->H b=none->(nh s₁.heap H).get? b=some o:=λe n=>rZ e n
  have noA:∀{b:Addr}{o:Obj}{es:Array DictEntry}{ep:Nat},s₁.heap.get? b=some o->o.data=.dict es ep->H b=none:=λ{b o es ep} e d=>by
   cases q:H b with
   |none=>rfl
   |some u =>
    have e':b=a:=hA b (by rw[q];simp);subst e';rw[ha]at e;cases e;have d':Data.seq vs.toArray _=Data.dict es ep:=d;cases d'
  have nsK:∀{b:Addr}{m:Str->Option Value},s₁.heap.Ns b m->(nh s₁.heap H).Ns b m:=λ{b m} ⟨o,es,ep,e,d,r⟩=>⟨o,es,ep,qQ e (noA e d),d,r⟩
  have hKb:K.In (nh s₁.heap H):=λb o e=>qQ (KX b o e) (by
   cases q:H b with
   |none=>rfl
   |some u =>
    have e':b=a:=hA b (by rw[q];simp);subst e';rw[hK (by rw[q];simp)]at e;cases e)
  have hM:Mod K mg (nh s₁.heap H):=⟨hKb,nsK hns,⟨mb,nsK hb,hbb⟩,let ⟨mc,h1,h2⟩:=A7;⟨mc,nsK h1,h2⟩⟩;have e0:qe P w K mg (nh s₁.heap H) callerA [] s₁ H:=⟨U,hM,λb o e=>uR e,le_of_eq (rg _ _),trivial,λb hb=>absurd (show b∈([]:List Addr)from hb) (by simp),hok,.of_eq hg⟩;refine codeAny_mono ((F _ hKb (nsK hns)).run callerA [] s₁ H ⟨[.ref a],[]⟩ [.ref a] [.ref a] _ _ hr e0 (yD s₁ (.ref a)) (.cons U .nil) (hsp H hO hS)) λr s' h=>?_
  cases r with
  |error e=>exact(hCX H e s' h).elim
  |ok fl =>
   cases fl with
   |next=>exact False.elim h
   |brk=>exact False.elim h
   |cont=>exact False.elim h
   |ret u =>
    obtain⟨v,H',os,bare,un,A9,r',q⟩:=h;have q':v=.bl true:=q;subst q';obtain rfl:u=Value.bool true:=r';refine⟨U,OldK.of_keep λb o e=>?_,os,bare⟩;cases q:H b with
    |none=>exact un.keep b o e q (by intro z;exact absurd (show b∈([]:List Addr)from z) (by simp)) (by simp)
    |some u =>
     rcases hO b with z|⟨ob,xs,z⟩
     ·rw[q]at z;cases z
     ·have z2:=un.frzs b ob _ z;obtain⟨e1,_⟩:=hok b _ z;obtain⟨e2,_⟩:=A9 b _ z2;rw[e]at e1;cases e1;exact e2
 cases hk:K.lookup a with
 |some o =>
  have e:=KX a o hk;rw[ha]at e;cases e;refine core (λ_=>none) (λ_=>.inl U) (.inr ⟨_,vs.toArray,_,hk,U,U,U,by rw[size_toArray,A8];exact hl,by simpa using rv⟩) (λb u z=>by have z':(none:Option HO)=some u:=z;cases z') (λb z=>absurd U z) λz=>absurd U z
 |none =>
  refine core (λb=>if b=a then some (.frz { cls:=.type "list",data:=.seq vs.toArray } (.lst (ns.map V.int)))else none) (λb=>?_) (.inl (.inr ⟨{ cls:=.type "list",data:=.seq vs.toArray },if_pos U⟩)) (λb u z=>?_) (λb z=>?_) λ_=>hk
  ·by_cases hb:b=a
   ·exact .inr ⟨_,_,if_pos hb⟩
   ·exact .inl (if_neg hb)
  ·by_cases hb:b=a
   ·have z':=(if_pos hb).symm.trans z;cases z';subst hb;exact⟨ha,by rw[length_map];exact hl,vs,_,rv,ha⟩
   ·have z':=(if_neg hb).symm.trans z;cases z'
  ·by_cases hb:b=a
   ·exact hb
   ·exact absurd (if_neg hb) z
theorem walk_of{l:W.OpenLaw}{n k:Nat}{q:Program}{loose:List Str}{XP:(Str->Option Value)->Heap->Prop}{YP:World->Heap->Prop}{d:DefRec}{K:Params->W.Frag}{CX:World->CXT}{sp:World->Sp}{x:Str}
  (hn:l.most=some n)(hn2:n<=sizeLine)(hdf:d.params.defaults=[])(hr:cU k callerA)
  (hY:∀(w:World)(h:Heap),YP w h->(K w.params).In h)
  (F:∀(w:World)(mg:Str->Option Value)(fa:Addr)(h:Heap),(K w.params).In h->h.Ns mainGlobals mg->mg d.name=some (.ref fa) ->
   ∃fd:FuncData,(∀(s:Shared)(u:Value),BindsTo s fd ⟨[u],[]⟩ [(x,u)]) /\
    ∀base:Heap,(K w.params).In base->base.Ns mainGlobals mg->bg l.prog w (K w.params) mg base (CX w) k fa fd [x] (sp w))
  (hsp:∀(w:World)(H:Hp)(a:Addr)(ns:List Int),ns.length<=n->wM H->SqL (K w.params) H a (ns.map V.int)->sp w [.ref a] H (λv _=>v=.bl true) λ_ _ _=>False)
  (hCX:∀(w:World)(H:Hp)(s:Shared)(e:Value)(s':Shared),CX w [] H s (λ_ _ _=>False) e s'->False) :
  W.WalkO q loose XP YP l.row.toRowW d [] (λf vs=>PySem.call f vs):=by
 refine Att.attach_call hn hdf λw s₀ s₁ mg mb fa o pm cd doc a vs ns G Y ho hd hcd hmg wL hints hlen hg=>?_
 have KX:=hY w _ Y;obtain⟨fd,hb,hF⟩:=F w mg fa _ KX G.T.g hmg;exact sY KX G.T.g G.T.b G.T.builtins G.T.nolimit hg wL hints (le_trans hlen hn2) hr hF hb (λH hO hS=>hsp w H a ns hlen hO hS) λH e s'=>hCX w H s₁ e s'
def inClass(s:Stmt)(j:Nat):Stmt:=match s with
 | .ClassDef _ _ _ body _ _ _ _ _ _ _=>body.getD j (.Pass ⟨0,0,0,0⟩)
 |_=>.Pass ⟨0,0,0,0⟩
def aI(s:Stmt):Arguments:=match s with
 | .FunctionDef _ a _ _ _ _ _ _ _ _=>a
 |_=>{ posonlyargs:=[],args:=[],vararg:=none,kwonlyargs:=[],kw_defaults:=[],kwarg:=none,defaults:=[] }
def aG(s:Stmt):List Stmt:=match s with
 | .FunctionDef _ _ b _ _ _ _ _ _ _=>b
 |_=>[]
def ao(s:Stmt):Scope:=match s with
 | .FunctionDef _ _ _ _ _ _ sc _ _ _=>sc
 |_=>{ kind:=.function,names:=[],isGenerator:=false,isCoroutine:=false }
abbrev CX0:CXT:=λ_ _ _ _ _ _=>False
abbrev E0:XK:=λ_ _ _=>False
theorem bP{X:Cx}:Passes CX0 X E0:=λ_ _ _ _ _ _ _ h=>h.elim
structure Fun(K:W.Frag)(x qual:Str)(st:Stmt)(f:Addr)(fd:FuncData):Prop where
 ex:∃(oc:Value)(od:Option Addr)(kV doc pm:Value)(an:Option Addr)(cdv ct:Value)(osl:Array (Option Value)),
  fd=W.fnOf x qual (aI st) (aG st) (ao st) .none kV doc pm an cdv ct/\K.lookup f=some ⟨oc,od,.func fd,osl⟩/\W.codeIn K cdv qual=true
 kp:W.keepIn K (.ref f)=true
section
variable{P:Program}{w:World}{K:W.Frag}{mg:Str->Option Value}{base:Heap}
theorem Fun.ok{x qual:Str}{st:Stmt}{f:Addr}{fd:FuncData}{N ps:List Str}{k:Nat}{sp:Sp}(F:Fun K x qual st f fd)(S:aJ N ps (ao st))(len:∀vs H Q E,sp vs H Q E->vs.length=ps.length)
  (pw:∀(cdv:Value)(A:Around)(outer:List Env)(s:Shared)(H:Hp)(vs:List V)(Q:VK)(E:XK),cU k (A.deeper (envOfC qual (ao st) s.heap.objs.size f cdv))->sp vs H Q E ->
   ∃t,PSs (jm CX0 P w K mg base N qual (ao st) f cdv A outer s H E).nox (aG st) t/\t { nx:=λ_ H'=>Q .non H',rt:=Q } (start N vs) H):bg P w K mg base CX0 (k+1) f fd ps sp:=by
 obtain⟨oc,od,kV,doc,pm,an,cdv,ct,osl,rfl,lk,hcd⟩:=F.ex;refine vR lk hcd S len λA outer s H vs Q E hr hsp=>?_
 obtain⟨t,h,q⟩:=pw cdv A outer s H vs Q E hr hsp;exact⟨t,h.nox,q⟩
theorem Fun.binds{x qual:Str}{st:Stmt}{f:Addr}{fd:FuncData}{ps:List Str}(F:Fun K x qual st f fd)
  (h:∀(kV doc pm:Value)(an:Option Addr)(cdv ct:Value)(us:List Value),us.length=ps.length->bindArgs (W.fnOf x qual (aI st) (aG st) (ao st) .none kV doc pm an cdv ct) ⟨us,[]⟩=pure (ps.zip us)):Binds K fd ps []:=by
 obtain⟨oc,od,kV,doc,pm,an,cdv,ct,osl,rfl,lk,hcd⟩:=F.ex;exact .all (h kV doc pm an cdv ct)
theorem aR{x qual:Str}{st:Stmt}{f:Addr}{oc:Value}{od an:Option Addr}{osl:Array (Option Value)}{kV doc pm cdv ct:Value}(l:K.lookup f=some ⟨oc,od,.func (W.fnOf x qual (aI st) (aG st) (ao st) .none kV doc pm an cdv ct),osl⟩)
  (c:W.codeIn K cdv qual=true)(k:W.keepIn K (.ref f)=true):Fun K x qual st f (W.fnOf x qual (aI st) (aG st) (ao st) .none kV doc pm an cdv ct):=⟨⟨oc,od,kV,doc,pm,an,cdv,ct,osl,U,l,c⟩,k⟩
end
theorem aw{n:Nat}(h:n<=1000):n<sizeLine:=Nat.lt_of_le_of_lt h (by decide)
variable{X:Cx}
theorem pv(i:Nat){x:Str}{pos:Pos}(hN:X.N[i]?=some x:=by rfl)(hv:Vis X.env.scope x:=by first|exact Or.inl U|exact Or.inr (Or.inl U)|exact Or.inr (Or.inr U))(hd:(x == ("__debug__" : Str))=false:=by decide)
  (hcd:(x == ("__classdict__" : Str))=false:=by decide):PE X (.Name x pos) (se i):=wq hN hv hd hcd
theorem dF{A B:Prop}(h:B):if false=true then A else B:=by
 rw[if_neg Bool.false_ne_true];exact h
theorem gC{A B:Prop}(h:A):if true=true then A else B:=by
 rw[if_pos U];exact h
theorem bM{c A B:Prop} [Decidable c] (h1:c->A)(h2:¬ c->B):if c then A else B:=by
 by_cases h:c
 ·rw[if_pos h];exact h1 h
 ·rw[if_neg h];exact h2 h
theorem sZ{c A B:Prop} [Decidable c] (hc:c)(h:B):if (!decide c)=true then A else B:=by
 rw[decide_eq_true hc];exact dF h
def au(H H':Hp):Prop:=∀b o,H b=some o->H' b=some o
theorem au.refl(H:Hp):au H H:=λ_ _ h=>h
theorem au.trans{H H1 H2:Hp}(a:au H H1)(b:au H1 H2):au H H2:=λc o h=>b c o (a c o h)
theorem au.free{H H':Hp}(e:au H H'){l:Addr}(h:H' l=Option.none):H l=Option.none:=by
 cases q:H l with
 |none=>rfl
 |some o =>
  rw[e l o q]at h;cases h
theorem au.seq{K:W.Frag}{H H':Hp}{a:Addr}{xs:List V}(e:au H H')(h:SqL K H a xs):SqL K H' a xs:=by
 rcases h with(h|⟨o,h⟩)|h
 ·exact .inl (.inl (e _ _ h))
 ·exact .inl (.inr ⟨o,e _ _ h⟩)
 ·exact .inr h
set_option maxHeartbeats 4000000
abbrev Pr:=Int×Int
def inR(n:Int)(p:Pr):Bool:=decide (p.1<=n) && decide (n<=p.2)
def inP(ps:List Pr)(n:Int):Bool:=ps.any (inR n)
structure Apart(R:List Pr):Prop where
 le:∀p∈R,p.1<=p.2
 gap:R.Pairwise λp q=>p.2+2<=q.1
structure Jj(R qs:List Pr):Prop where
 ap:Apart R
 mem:∀n,inP R n=inP qs n
 cov:∀p∈qs,p.1<=p.2->∃r∈R,r.1<=p.1/\p.2<=r.2
 low:∀r∈R,∃q∈qs,r.1=q.1
def Callee(P:Program)(w:World)(K:W.Frag)(mg:Str->Option Value)(base:Heap)(k:Nat)(x:Str)(ps:List Str)(sp:Sp):Prop :=
 ∃f fd,bg P w K mg base CX0 k f fd ps sp/\Binds K fd ps []/\W.keepIn K (.ref f)=true/\mg x=some (.ref f)
theorem Callee.mono{P:Program}{w:World}{K:W.Frag}{mg:Str->Option Value}{base:Heap}{j k:Nat}{x:Str}{ps:List Str}{sp:Sp}(C:Callee P w K mg base j x ps sp)(h:j<=k):Callee P w K mg base k x ps sp:=by
 obtain⟨f,fd,F,r⟩:=C;exact⟨f,fd,F.mono h,r⟩
variable{pos:Pos}
section
variable{k:Nat}{x:Str}{ps:List Str}{sp:Sp}{e:Expr}{es:List Expr}{t:TA}{p:Pos}
def tFn(sp:Sp)(t:TA):TE:=λσ H Q=>t σ H λvs H1=>sp vs H1 Q E0
theorem br(C:Callee X.prog X.w X.K X.mg X.base k x ps sp)(hr:cU k X.A)(hg:Gl X x)(ha:PA X (e :: es) t)(hdb:(x == ("__debug__" : Str))=false:=by decide)
  (he:starEach (e :: es) X.env=(false,eval e X.env) :: starEach es X.env:=by rfl)(hpl:(backTo pos (starEach es X.env)).any (·.1)=false:=by rfl):PE X (.Call (.Name x p) (e :: es) [] pos) (tFn sp t):=by
 obtain⟨f,fd,F,b,kk,m⟩:=C;have h:=uX (E:=E0) (dvs:=[]) (ds:=[]) (p:=p) F hr hg m kk b .nil bP ha hdb he hpl;intro pins s σ H Q I q;refine h pins s σ H Q I ?_;have q':t σ H λvs H1=>sp vs H1 Q E0:=q
 have e1:(λ(vs:List V)(H1:Hp)=>sp (vs++[]) H1 Q E0)=λvs H1=>sp vs H1 Q E0:=by
  funext vs H1
  rw[append_nil]
 show t σ H λvs H1=>sp (vs++[]) H1 Q E0
 rw[e1];exact q'
end
def bp(t u:TS):TS:=λD σ H=>∃M:St->Hp->Prop,t { D with nx:=M } σ H/\∀σ' H',M σ' H'->u D σ' H'
theorem ay{X:Cx}{st:Stmt}{rest:List Stmt}{t u:TS}(h1:PS X st t)(h2:PSs X rest u):PSs X (st :: rest) (bp t u):=by
 intro pins s σ H D I ⟨M,a,b⟩;refine wpAny_execs_cons (thn (h1 pins s σ H { D with nx:=M } I a) λfl s1 q=>?_);cases fl with
 |next=>obtain⟨σ',H',I',q⟩:=q;exact h2 pins s1 σ' H' D I' (b σ' H' q)
 |ret v=>exact q
 |brk=>exact q
 |cont=>exact q
inductive EqI(K:W.Frag)(H:Hp):V->V->Bool->Prop where
 |flat {x y:V}(fx:dg x=true)(fy:dg y=true):EqI K H x y (eqV x y)
 |same (a:Addr):EqI K H (.ref a) (.ref a) true
 |tup {a b:Addr}{xs ys:List V}(ha:SqT K H a xs)(hb:SqT K H b ys)(fx:xs.all dg=true)(fy:ys.all dg=true):EqI K H (.ref a) (.ref b) (decide (xs.length=ys.length) && (List.zipWith eqV xs ys).all id)
theorem pB:∀{x:V},dg x=true->eqV x x=true
 | .non,_=>rfl
 | .bl b,_=>by simp[eqV]
 | .int i,_=>by simp[eqV]
 | .str z,_=>by simp[eqV]
theorem lA:∀{xs:List V},xs.all dg=true->(List.zipWith eqV xs xs).all id=true
 | [],_=>rfl
 |x :: xs,h=>by
  rw[all_cons,and_eq_true]at h;rw[List.zipWith_cons_cons,all_cons,lA h.2,Bool.and_true];exact pB h.1
theorem iE{f:Nat->Bool}:∀{xs ys:List V},(∀j x y,xs[j]?=some x->ys[j]?=some y->f j=eqV x y)->(List.range (min xs.length ys.length)).all f=(List.zipWith eqV xs ys).all id
 | [],ys,_=>by simp
 |x :: xs,[],_=>by simp
 |x :: xs,y :: ys,h=>by
  have ih:=iE (f:=λj=>f (j+1)) (xs:=xs) (ys:=ys) λj a b e1 e2=>h (j+1) a b (by simpa using e1) (by simpa using e2)
  have e0:=h 0 x y U U;have em:min (x :: xs).length (y :: ys).length=min xs.length ys.length+1:=by simp only[length_cons];lia
  rw[em,List.range_succ_eq_map,all_cons,List.zipWith_cons_cons,all_cons,List.all_map,e0];show(eqV x y && (List.range (min xs.length ys.length)).all (λj=>f (j+1)))=_;rw[ih];rfl
section
variable{pins:List (Addr×Obj)}{σ:St}{H:Hp}{s:Shared}
theorem EqI.at{A:Around}{x y:V}{u v:Value}{b:Bool}(e:EqI X.K H x y b)(I:Inv X pins σ H s)(hu:A.units+1<cLine)(rx:RelV x u)(ry:RelV y v):SeqAt.EqAt A s u v b:=by
 cases e with
 |flat fx fy=>exact qf rx ry fx fy
 |same a =>
  cases (show u=Value.ref a from rx);cases (show v=Value.ref a from ry);exact SeqAt.EqAt.same _
 | @tup a b xs ys ha hb fx fy =>
  cases (show u=Value.ref a from rx);cases (show v=Value.ref b from ry);by_cases z:a=b
  ·subst z;have e:=I.tuple_inj ha hb;subst e;rw[lA fx,decide_eq_true U];exact SeqAt.EqAt.same _
  ·obtain⟨its,r,p,_⟩:=I.tuple ha;obtain⟨its',r',p',_⟩:=I.tuple hb;have l1:=r.length;have l2:=r'.length;have h0:=SeqAt.RcAt.tuples (A:=A) (e:=λj=>match its[j]?,xs[j]?,ys[j]? with|_,some x,some y=>eqV x y|_,_,_=>false) (show s.heap.IsTuple a its.toArray from p) (show s.heap.IsTuple b its'.toArray from p') (by lia) (λj h1 h2=>by
    have j1:j<its.length:=by simpa using h1
    have j2:j<its'.length:=by simpa using h2
    have x1:xs[j]?=some xs[j]:=Jw (by lia);have y1:ys[j]?=some ys[j]:=Jw (by lia);obtain⟨u1,q1,r1⟩:=r.get x1;obtain⟨u2,q2,r2⟩:=r'.get y1;have eu:its.toArray[j]=u1:=by
     have:=Jw j1;rw[this]at q1;simpa using Option.some.inj q1
    have ev:its'.toArray[j]=u2:=by
     have:=Jw j2;rw[this]at q2;simpa using Option.some.inj q2
    rw[eu,ev];rw[x1,y1];have f1:dg xs[j]=true:=all_eq_true.mp fx _ (getElem_mem _);have f2:dg ys[j]=true:=all_eq_true.mp fy _ (getElem_mem _);exact qf r1 r2 f1 f2)
   have h1:=SeqAt.EqAt.of_refs z h0;have e1:((List.range (min its.toArray.size its'.toArray.size)).all λj=>match its[j]?,xs[j]?,ys[j]? with|_,some x,some y=>eqV x y|_,_,_=>false)=(List.zipWith eqV xs ys).all id:=by
    have es:min its.toArray.size its'.toArray.size=min xs.length ys.length:=by simp only[size_toArray];lia
    rw[es];exact iE λj x y q1 q2=>by rw[q1,q2]
   rw[e1]at h1;have e2:(its.toArray.size == its'.toArray.size)=decide (xs.length=ys.length):=by
    simp only[size_toArray,←l1,←l2];exact Bool.beq_eq_decide_eq _ _
   rw[e2,Bool.and_comm]at h1;exact h1
end
inductive rD(K:W.Frag)(neg:Bool)(x:V)(y:V)(H:Hp)(Q:VK):Prop
 |mk (a b xs ys:_)(_:x=.ref a)(_:y=.ref b)(_:SqL K H a xs)(_:SqL K H b ys)(_:((xs.length≠ys.length/\Q (.bl neg) H)\/(xs.length=ys.length/\∃f:Nat->Bool,(∀j x y,xs[j]?=some x->ys[j]?=some y->EqI K H x y (f j))/\Q (.bl (if neg then !(List.range xs.length).all f else(List.range xs.length).all f)) H))):rD K neg x y H Q
theorem td{pins:List (Addr×Obj)}{σ:St}{H:Hp}{s:Shared}{A:Around}{xs ys:List V}{its its':List Value}{f:Nat->Bool}(I:Inv X pins σ H s)(hu:A.units+1<cLine)(r:Vals xs its)(r':Vals ys its')
  (hf:∀j x y,xs[j]?=some x->ys[j]?=some y->EqI X.K H x y (f j)):∀j (h1:j<its.toArray.size)(h2:j<its'.toArray.size),SeqAt.EqAt A s its.toArray[j] its'.toArray[j] (f j):=λj h1 h2=>by
 have j1:j<its.length:=by simpa using h1
 have j2:j<its'.length:=by simpa using h2
 have l1:=r.length;have l2:=r'.length;have x1:xs[j]?=some xs[j]:=Jw (by lia);have y1:ys[j]?=some ys[j]:=Jw (by lia);obtain⟨u1,q1,r1⟩:=r.get x1;obtain⟨u2,q2,r2⟩:=r'.get y1;have eu:its.toArray[j]=u1:=by
  have:=Jw j1;rw[this]at q1;simpa using Option.some.inj q1
 have ev:its'.toArray[j]=u2:=by
  have:=Jw j2;rw[this]at q2;simpa using Option.some.inj q2
 rw[eu,ev];exact(hf j _ _ x1 y1).at I hu r1 r2
theorem qj{k:Nat}(hr:cU k X.A):OpR X (compareOp .Eq) (rD X.K false):=by
 intro pins s σ H x y v u Q I rx ry h;obtain⟨a,b,xs,ys,rfl,rfl,ha,hb,h⟩:=h;cases (show v=Value.ref a from rx);cases (show u=Value.ref b from ry);obtain⟨its,r,p,_⟩:=I.list ha;obtain⟨its',r',p',_⟩:=I.list hb;have l1:=r.length;have l2:=r'.length;have hu:=hr.units;rcases h with⟨hn,q⟩|⟨hl,f,hf,q⟩
 ·refine SeqAt.eq_list_lengthsAt p.isList p'.isList (by simp only[size_toArray,bne_iff_ne,ne_eq];lia) (by lia) ⟨.bl false,H,I,U,q⟩
 ·refine SeqAt.eq_listAt (e:=f) p.isList p'.isList (by simp only[size_toArray];lia) (by lia) (td I (by show X.A.units+1+1<cLine;lia) r r' hf) ⟨.bl _,H,I,U,?_⟩;rw[show its.toArray.size=xs.length by simp only[size_toArray];lia];exact q
theorem tf{k:Nat}(hr:cU k X.A):OpR X (compareOp .NotEq) (rD X.K true):=by
 intro pins s σ H x y v u Q I rx ry h;obtain⟨a,b,xs,ys,rfl,rfl,ha,hb,h⟩:=h;cases (show v=Value.ref a from rx);cases (show u=Value.ref b from ry);obtain⟨its,r,p,_⟩:=I.list ha;obtain⟨its',r',p',_⟩:=I.list hb;have l1:=r.length;have l2:=r'.length;have hu:=hr.units;rcases h with⟨hn,q⟩|⟨hl,f,hf,q⟩
 ·refine SeqAt.RcNeAt.lists_lengths p.isList p'.isList (by simp only[size_toArray,bne_iff_ne,ne_eq];lia) (by lia) X.prog X.w X.xe _ ⟨.bl true,H,I,U,q⟩
 ·refine SeqAt.RcNeAt.lists (e:=f) p.isList p'.isList (by simp only[size_toArray];lia) (by lia) (td I (by show X.A.units+1+1<cLine;lia) r r' hf) X.prog X.w X.xe _ ⟨.bl _,H,I,U,?_⟩;rw[show its.toArray.size=xs.length by simp only[size_toArray];lia];exact q
def mR(H H':Hp):Prop:=∀b xs,H b=some (.tup xs)->H' b=some (.tup xs)
theorem au.tups{H H':Hp}(h:au H H'):mR H H':=λb xs e=>h b _ e
theorem mS{H:Hp}{p:Addr}{o:HO}{ys:List V}(h:H p=some (.lst ys)):mR H (upd H p o):=λb xs e=>by rw[aD (bK e h (by intro z;cases z))];exact e
theorem af{H:Hp}{p:Addr}(h:H p=none)(o:HO):au H (upd H p o):=λb u q=>by rw[aD (aV q h)];exact q
theorem au.upd{H H':Hp}{p:Addr}{o:HO}(s:au H H')(h:H p=none):au H (upd H' p o):=λb u q=>by rw[aD (aV q h)];exact s b u q
def PL(H:Hp):List V->List (Int×Int)->Prop:=Paired λx p=>∃r,x=.ref r/\H r=some (.tup [.int p.1,.int p.2])
theorem PL.mono{H H':Hp}{xs:List V}{ps:List (Int×Int)}(h:PL H xs ps)(s:mR H H'):PL H' xs ps:=Paired.mapP h λ_ _ ⟨r,e,z⟩=>⟨r,e,s r _ z⟩
theorem PL.get{H:Hp}:∀{xs:List V}{ps:List (Int×Int)}{i:Nat}{x:V},PL H xs ps->xs[i]?=some x->∃p r,ps[i]?=some p/\x=.ref r/\H r=some (.tup [.int p.1,.int p.2])
 |_,_,_,_,.nil,e=>by simp at e
 |_,_,0,_,.cons (b:=b) ⟨r,e1,z⟩ _,e=>by simp at e;subst e;exact⟨b,r,U,e1,z⟩
 |_,_,i+1,x,.cons _ t,e=>by
  obtain⟨p,r,q⟩:=PL.get (i:=i) (x:=x) t (by simpa using e);exact⟨p,r,by simpa using q.1,q.2⟩
theorem PL.length{H:Hp}{xs:List V}{ps:List (Int×Int)}(h:PL H xs ps):xs.length=ps.length:=Paired.length h
theorem PL.snoc{H:Hp}{xs:List V}{ps:List (Int×Int)}{r:Addr}{a b:Int}(h:PL H xs ps)(e:H r=some (.tup [.int a,.int b])):PL H (xs++[.ref r]) (ps++[(a,b)]):=Paired.snoc h ⟨r,U,e⟩
theorem fF{p:Prop} [Decidable p] (h:decide p=true):p:=of_decide_eq_true h
theorem fG{p:Prop} [Decidable p] (h:¬ decide p=true):¬ p:=λe=>h (decide_eq_true e)
theorem cy{X:Cx}{K:W.Frag}(h:X.K=K):IxR X (wI K):=h ▸ aQ
theorem di{X:Cx}{K:W.Frag}(h:X.K=K):IxR X (wJ K):=h ▸ bX
def bL(X:Cx)(N:List Str)(scope:Scope)(cl:List (Str×Addr))(fp:List Addr)(C:Addr)(s2:Shared)(H2:Hp):Cx :=
 { prog:=X.prog,w:=X.w,K:=X.K,mg:=X.mg,base:=X.base,A:=X.A,N:=N,s₀:=s2,H₀:=H2,env:=compEnvC scope cl C X.env,outer:=X.stack,stack:=X.stack,ex:=fp,fn:=λ_=>false,calm:=X.calm,pn:=[],xe:=λ_ _=>False }
def PIf(X:Cx)(ifs:List Expr)(t:TT):Prop :=
 ∀(pins:List (Addr×Obj))(s:Shared)(σ:St)(H:Hp)(Q:Bool->Hp->Prop),Inv X pins σ H s->t σ H Q ->
  wpAny (model X.prog X.w) X.A (forIn ifs true λc r=>if r=true then do let ok ←isTrue c X.env (eval c X.env);pure (ForInStep.yield ok)else pure (ForInStep.yield r)) (TP X pins σ Q) X.xe s
def Ba:TT:=λ_ H Q=>Q true H
theorem bb{X:Cx}:PIf X [] Ba:=λ_ _ _ H _ I h=>wpAny_tests_nil ⟨H,I,h⟩
theorem hX{X:Cx}{c:Expr}{t:TT}(h:PT X c t):PIf X [c] t:=λpins s σ H Q I q=>wpAny_tests_one (h pins s σ H Q I q)
structure pC(X:Cx)(N:List Str)(fr:List Nat)(scope:Scope)(cl:List (Str×Addr))(x:Str):Prop where
 clos:closureFor scope X.env=pure cl
 kind:scope.kind=.function
 nocell:∀y∈scope.names,y.2≠.cell
 names:∀y∈scope.names,y.2=.local->scope.names.lookup y.1=some .local
 hx:scope.names.lookup x=some .local
 nd:N.Nodup
 n0:N[0]?=some x
 len:N.length=fr.length+1
 sub:∀(i:Nat)(y:Str),N[i+1]?=some y->∃j,fr[i]?=some j/\X.N[j]?=some y/\(X.env.kindOf y=some .cell\/X.env.kindOf y=some .free)/\((relabel scope X.env).names.lookup y=some .cell\/(relabel scope X.env).names.lookup y=some .free)
 cells:∀y c,cl.lookup y=some c->X.env.cells.lookup y=some c
 has:∀y,((relabel scope X.env).names.lookup y=some .cell\/(relabel scope X.env).names.lookup y=some .free)->∃c,cl.lookup y=some c
theorem bF{X:Cx}{scope:Scope}{x:Str}(kind:scope.kind=.function)(nofree:∀y∈scope.names,y.2≠.free)(nocell:∀y∈scope.names,y.2≠.cell)
  (names:∀y∈scope.names,y.2=.local->scope.names.lookup y.1=some .local)(hx:scope.names.lookup x=some .local):pC X [x] [] scope [] x:=by
 have er:(relabel scope X.env).names=scope.names:=map_eq_self λy hy=>by
  have z:(y.2 == NameKind.free)=false:=by simpa using nofree y hy
  simp[z]
 have no:∀y,¬ ((relabel scope X.env).names.lookup y=some .cell\/(relabel scope X.env).names.lookup y=some .free):=λy h=>by
  rw[er]at h;rcases h with h|h
  ·exact nocell _ (mem_of_lookup h) U
  ·exact nofree _ (mem_of_lookup h) U
 exact⟨closureFor_none nofree,kind,nocell,names,hx,by simp,U,U,λi y e=>by simp at e,(λy c e=>by cases e),λy h=>absurd h (no y)⟩
theorem aY{X:Cx}{N:List Str}{fr:List Nat}{scope:Scope}{cl:List (Str×Addr)}{x:Str}(clos:closureFor scope X.env=pure cl)(kind:scope.kind=.function)(nocell:∀y∈scope.names,y.2≠.cell)
  (names:∀y∈scope.names,y.2=.local->scope.names.lookup y.1=some .local)(hx:scope.names.lookup x=some .local)(nd:N.Nodup)(n0:N[0]?=some x)(len:N.length=fr.length+1)
  (sub:((List.range fr.length).all λi=>match N[i+1]?,fr[i]? with|some y,some j=>(X.N[j]? == some y) && ((X.env.kindOf y == some .cell) && ((relabel scope X.env).names.lookup y == some .cell))|_,_=>false)=true)
  (cells:∀p∈cl,X.env.cells.lookup p.1=some p.2)(has:((relabel scope X.env).names.all λp=>(p.2 != .cell && p.2 != .free) || (cl.lookup p.1).isSome)=true):pC X N fr scope cl x:=by
 refine⟨clos,kind,nocell,names,hx,nd,n0,len,λi y e=>?_,λy c e=>cells _ (mem_of_lookup e),λy h=>?_⟩
 ·have hi:i<fr.length:=by have:=(Jx.mp e).1;lia
  have z:=all_eq_true.mp sub i (mem_range.mpr hi);rw[e,Jw hi]at z;simp only[and_eq_true,beq_iff_eq]at z;exact⟨_,Jw hi,z.1,.inl z.2.1,.inl z.2.2⟩
 ·have look:∀k,(relabel scope X.env).names.lookup y=some k->(k=.cell\/k=.free)->∃c,cl.lookup y=some c:=λk e hk=>by
   have z:=all_eq_true.mp has _ (mem_of_lookup e);rcases hk with rfl|rfl
   ·exact isSome_iff_exists.mp (by simpa using z)
   ·exact isSome_iff_exists.mp (by simpa using z)
  rcases h with h|h
  ·exact look _ h (.inl U)
  ·exact look _ h (.inr U)
def eK(σ:St)(fr:List Nat)(x:Option V):St:=x :: fr.map λj=>(σ[j]?).join
def nE(J:It)(fr:List Nat)(tt:TT)(te:TE)(σ:St)(Q:VK)(H1:Hp):Prop:=∀D,H1 D=none->∃W:Nat->Nat->Hp->Prop,(∃m,W 0 m (upd H1 D (.lst [])))/\∀i m H,W i m H ->
 (J.stop i H/\Q (.ref D) H)\/(J.go i H/\∀x H',J.yld i H x H'->tt (eK σ fr (some x)) H' λb H2=>if b=true then te (eK σ fr (some x)) H2 λy H3=>∃ys,H3 D=some (.lst ys)/\ys.length<sizeLine/\∃m',m'<m/\W (i+1) m' (upd H3 D (.lst (ys++[y])))
  else ∃m',m'<m/\W (i+1) m' H2)
def vS(wi:TI)(fr:List Nat)(tt:TT)(te:TE):TE:=λσ H Q=>wi σ H λJ H1=>nE J fr tt te σ Q H1
section
variable{prog:Program}{w:World}{A:Around}{R:Result->Shared->Prop}{s:Shared}
theorem lB{elt target iter:Expr}{ifs:List Expr}{scope:Scope}{pos:Pos}{it acc:Value}{env:Env}(J:Nat->Shared->Prop)
  (turn:∀n s,J n s->wpAny (model prog w) A (pyNext it) (λr s1=>match r with
   |none=>R (.ok .next) s1
   |some v=>wpAny (model prog w) A (letOwnedTupleGo target it v) (λ_ s2=>wpAny (model prog w) A (assign target env v) (λ_ s3 =>
     wpAny (model prog w) A (forIn ifs true λc r=>if r=true then do let ok ←isTrue c env (eval c env);pure (ForInStep.yield ok)else pure (ForInStep.yield r)) (λok s4 =>
      if ok=true then wpAny (model prog w) A (eval elt env) (λy s5=>wpAny (model prog w) A (call (.builtin "list.append") [acc,y]) (λ_ s6=>∃m,m<n/\J m s6) (λ_ _=>False) s5) (λ_ _=>False) s4
      else ∃m,m<n/\J m s4) (λ_ _=>False) s3) (λ_ _=>False) s2) (λ_ _=>False) s1) (λ_ _=>False) s)
  (n:Nat)(h:J n s):codeAny (model prog w) A (.compLoop (.ListComp elt [⟨target,iter,ifs,0⟩] scope pos) 0 it acc env) R s:=by
 refine codeAny_loop U J (λn s hJ=>?_) n h;show wpAny _ A ((compTurn (.ListComp elt [⟨target,iter,ifs,0⟩] scope pos) 0 it acc env).onRaise (λx=>do noteFrame x env;theTreesLotGoes x)) _ _ s;refine wpAny_noted ?_;rw[compTurn_list];refine wpAny_bind (wpAny_standAt (wpAny_bind (wpAny_mono (turn n s hJ) (λr s1 h1=>?_) λ_ _ z=>z.elim)));cases r with
 |none=>exact wpAny_pure h1
 |some v =>
  refine wpAny_bind (wpAny_mono h1 (λ_ s2 h2=>?_) λ_ _ z=>z.elim);refine wpAny_bind (wpAny_mono h2 (λ_ s3 h3=>wpAny_bind (wpAny_mono h3 (λok s4 h4=>?_) λ_ _ z=>z.elim)) λ_ _ z=>z.elim);cases ok with
  |false=>exact wpAny_pure ⟨U,h4⟩
  |true=>exact wpAny_bind (wpAny_bind (wpAny_mono h4 (λy s5 h5=>wpAny_bind (wpAny_mono h5 (λ_ s6 h6=>wpAny_pure (wpAny_pure ⟨U,h6⟩)) λ_ _ z=>z.elim)) λ_ _ z=>z.elim))
end
section
variable{elt iter:Expr}{ifs:List Expr}{x:Str}{px:Pos}{scope:Scope}{cl:List (Str×Addr)}{N:List Str}{fr:List Nat}{tt:TT}{te:TE}
theorem mT{pins:List (Addr×Obj)}{σ:St}{s2:Shared}{H2:Hp}{it:Addr}{fp:List Addr}{tn:Nat->Heap->Prop}{J:It}{Q:VK}{E:Value->Shared->Prop}{RR:Value->Addr->Result->Shared->Prop}
  (O:pC X N fr scope cl x)(hc:X.calm=true)(I2:Inv X pins σ H2 s2)(T:Turn X.prog X.w X.K (.Name x px) J fp it tn)(st2:tn 0 s2.heap)(f2:∀b∈fp,jL X pins H2 b)
  (ht:∀fp C s H,PIf (bL X N scope cl fp C s H) ifs tt)(he:∀fp C s H,PE (bL X N scope cl fp C s H) elt te)
  (hW:nE J fr tt te σ Q H2)
  (fin:∀D C s' H',s2.heap.objs.size<=C->H' C=none->(∃m,s'.heap.Ns C m)->Inv X pins σ H' s'->Q (.ref D) H'->RR (.ref D) C (.ok .next) s') :
  wpAny (model X.prog X.w) X.A (newList []) (λacc s3=>wpAny (model X.prog X.w) X.A (newFunctionEnv scope X.env.globals cl [] X.env.qual none .none (some X.env)) (λti s4 =>
   codeAny (model X.prog X.w) X.A (.compStart (.ListComp elt [⟨.Name x px,iter,ifs,0⟩] scope pos) 0 (.ref it) acc { ti with scope:=relabel scope X.env }) (RR acc ti.locals) s4) E s3) E s2:=by
 refine wpAny_newObj_type (wpAny_newFunctionEnv O.nocell (by intro y hy;simp at hy) (λh1 hns hsb=>?_) O.kind);dsimp only at hns hsb⊢;generalize hG:s2.heap.push { cls:=.type "list",dict:=none,data:=.seq ([]:List Value).toArray }=G at hns hsb⊢;have hC:G.objs.size=s2.heap.objs.size+1:=by rw[←hG,Heap.size_push]
 have old:∀b o,s2.heap.get? b=some o->h1.get? b=some o:=λb o e=>hsb.extBut b o (ne_of_lt (by rw[hC];exact lt_succ_of_lt (Heap.lt_size e))) (Heap.get?_push_of_some _ (hG ▸ Heap.get?_push_of_some _ e))
 have wN:h1.get? s2.heap.objs.size=some { cls:=.type "list",data:=.seq ([]:List Value).toArray 0 }:=hsb.extBut _ _ (ne_of_lt (by rw[hC];exact lt_succ_self _)) (Heap.get?_push_of_some _ (hG ▸ Heap.get?_push_size _ U));have hD:H2 s2.heap.objs.size=none:=I2.fresh;have okX:(bL X N scope cl fp G.objs.size s2 H2).Ok:=by
  refine⟨I2.ok.mod,O.kind,I2.ok.glob,I2.ok.blt,by show s2.heap.objs.size<=G.objs.size;rw[hC];exact le_succ _,λy z c e1 e2=>I2.ok.inj y z c (O.cells y c e1) (O.cells z c e2),λy hy=>O.has y hy,λy c z=>absurd (show false=true from z) Bool.false_ne_true,I2.ok.hd,I2.ok.frames,.inl U,
   λb hb=>⟨?_,λy c e=>(f2 b hb).2.2.2.2.1 y c (O.cells y c e)⟩,I2.bs,le_trans I2.ok.bsz I2.sz,λb o e hb=>?_,λb hb z=>?_,I2.stack,I2.stkFree⟩
  ·obtain⟨o,e,_⟩:=T.obj _ _ st2 b hb;show b≠G.objs.size;exact ne_of_lt (by rw[hC];exact lt_succ_of_lt (Heap.lt_size e))
  ·rcases(f2 b hb).2.2.2.1 with z|z
   ·exact I2.ok.noex b o e z
   ·exact absurd (lt_of_lt_of_le (Heap.lt_size e) (le_trans I2.ok.bsz z)) (lt_irrefl _)
  ·rcases mem_cons.mp (I2.stkSub b z)with z|z
   ·exact(f2 b hb).2.1 z
   ·exact(f2 b hb).2.2.1 z
 have lC:∀{H':Hp},(∀b∈fp,H' b=none)->∀b∈fp,jL (bL X N scope cl fp G.objs.size s2 H2) [] H' b:=λhn b hb =>
  ⟨hn b hb,(okX.exf b hb).1,okX.exfs b hb,.inl hb,(okX.exf b hb).2,λp hp=>absurd (show p∈([]:List (Addr×Obj))from hp) (by simp)⟩
 have I':Inv (bL X N scope cl fp G.objs.size s2 H2) [] (eK σ fr none) (upd H2 s2.heap.objs.size (.lst [])) { s2 with heap:=h1,toks:=s2.toks+([]:List (Str×Value)).length }:=by
  refine⟨okX,U,I2.bare,Un.laid old (le_refl _) hD,⟨_,hns,λi y v e1 e2 e3=>?_⟩,λy c e=>?_,?_,λy c e=>?_,λp hp=>absurd (show p∈([]:List (Addr×Obj))from hp) (by simp),I2.hok.laid old (le_refl _) ⟨zero_le _,[],0,.nil,wN⟩,?_⟩
  ·cases i with
   |zero=>cases e2
   |succ i =>
    obtain⟨j,q1,q2,q3,q4⟩:=O.sub i y e1;have e2':(σ[j]?).join=some v:=by
     have:(fr.map λj=>(σ[j]?).join)[i]?=some (some v):=e2;rw[getElem?_map,q1]at this;exact Option.some.inj this
    have e4:σ[j]?=some (some v):=by
     cases z:σ[j]? with
     |none=>rw[z]at e2';cases e2'
     |some t=>rw[z]at e2';exact congrArg some e2'
    obtain⟨m,_,hl⟩:=I2.loc;have vis:Vis X.env.scope y:=.inr q3;obtain⟨u,r,l⟩:=hl j y v q2 e4 vis;refine⟨u,r,.inr ⟨q4,?_⟩⟩;obtain⟨c',hc'⟩:=O.has y q4;rcases l with⟨k,_⟩|⟨_,c,ec,ic⟩
    ·rcases q3 with z|z
     ·rw[z]at k;cases k
     ·rw[z]at k;cases k
    ·have:=O.cells y c' hc';have e':c=c':=Option.some.inj (ec.symm.trans this);obtain⟨o,ho,hd⟩:=ic;rw[e']at ho;exact⟨c',hc',o,old c' o ho,hd⟩
  ·obtain⟨v,o,ho,hd⟩:=I2.cell y c (O.cells y c e);exact⟨v,o,old c o ho,hd⟩
  ·show upd H2 s2.heap.objs.size (.lst []) G.objs.size=none;rw[aD (ne_of_gt (by rw[hC];exact lt_succ_self _))];exact I2.hok.fresh (by rw[hC];exact le_succ _)
  ·obtain⟨v,o,ho,hd⟩:=I2.cell y c (O.cells y c e);rw[aD (ne_of_lt (Heap.lt_size ho))];exact I2.freeC y c (O.cells y c e)
  ·show(eK σ fr none).length=N.length;rw[O.len];simp[eK]
 have st1:tn 0 h1:=T.keep _ _ _ st2 λb hb o e=>old b o e
 have loop:∀s3:Shared,s3={ s2 with heap:=h1,toks:=s2.toks+([]:List (Str×Value)).length } ->
   codeAny (model X.prog X.w) X.A (.compLoop (.ListComp elt [⟨.Name x px,iter,ifs,0⟩] scope pos) 0 (.ref it) (.ref s2.heap.objs.size) (compEnvC scope cl G.objs.size X.env)) (RR (.ref s2.heap.objs.size) G.objs.size) s3:=by
  rintro s3 rfl;obtain⟨W,⟨m0,w0⟩,turn⟩:=hW _ hD
  refine lB (λn s'=>∃i t H',Inv (bL X N scope cl fp G.objs.size s2 H2) [] (eK σ fr t) H' s'/\tn i s'.heap/\(∀b∈fp,H' b=none)/\W i n H') ?_ m0
   ⟨0,none,_,I',st1,λb hb=>by
    rw[aD (by obtain⟨o,e,_⟩:=T.obj _ _ st2 b hb;exact ne_of_lt (Heap.lt_size e))];exact(f2 b hb).1,w0⟩
  rintro n s' ⟨i,t,H',I3,st3,fr3,w3⟩;rcases turn i n H' w3 with⟨stop,qn⟩|⟨go,step⟩
  ·refine thn (T.done (bL X N scope cl fp G.objs.size s2 H2) U U U hc i [] s' _ H' _ I3 (lC fr3) st3 stop) λr s4 ⟨hr,I4⟩=>?_
   subst hr;obtain⟨m,hm,_⟩:=I4.loc;refine fin _ _ s4 H' (by rw[hC];exact le_succ _) I4.free ⟨m,hm⟩ (I2.call' (ch:=fp) I4.os I4.base I4.hok I4.bare λb hb=>?_) qn;exact⟨(f2 b hb).2.2.2.1,(f2 b hb).2.1,(f2 b hb).2.2.2.2.1,(f2 b hb).2.2.2.2.2⟩
  ·refine thn (T.item (bL X N scope cl fp G.objs.size s2 H2) U U U hc i [] s' _ H' _ I3 (lC fr3) st3 go) λr s4 ⟨u,hr,h4⟩=>?_
   subst hr;refine thn h4 λ_ s5 ⟨y,H5,I5,r5,y5,st5,fr5⟩=>?_
   have I5':=I5.pinned (lC fr5) (T.obj _ _ st5);have lx:(bL X N scope cl fp G.objs.size s2 H2).env.scope.names.lookup x=some .local:=lookup_relabel_local O.hx;refine thn (aK (X:=bL X N scope cl fp G.objs.size s2 H2) (i:=0) O.nd O.n0 (.inl lx) (.inr lx) _ s5 _ H5 y u (λσ' H'=>σ'=eK σ fr (some y)/\H'=H5) I5' r5 ⟨U,U⟩) λ_ s6 ⟨σ6,H6,I6,e6,e6'⟩=>?_
   subst e6;subst e6'
   have again:∀{σ7:St}{H7:Hp}{s7:Shared}{m':Nat},σ7=eK σ fr (some y)->Inv (bL X N scope cl fp G.objs.size s2 H2) ([]++jM fp s5.heap) σ7 H7 s7->m'<n->W (i+1) m' H7 ->
     ∃m,m<n/\∃i t H',Inv (bL X N scope cl fp G.objs.size s2 H2) [] (eK σ fr t) H' s7/\tn i s7.heap/\(∀b∈fp,H' b=none)/\W i m H':=λ{σ7 H7 s7 m'} e7 I7 hm w7=>by
    subst e7;refine⟨m',hm,i+1,some y,H7,I7.unpinned,T.keep _ _ _ st5 λb hb o e=>(I7.pin (b,o) (mem_append_right _ (mem_append_right _ (dH hb e)))).1,λb hb=>?_,w7⟩;obtain⟨o,e,d⟩:=T.obj _ _ st5 b hb;exact(I7.pin (b,o) (mem_append_right _ (mem_append_right _ (dH hb e)))).2.1
   refine thn (ht fp G.objs.size s2 H2 _ s6 _ H6 _ I6 (step y H6 y5)) λok s7 ⟨H7,I7,q7⟩=>?_
   cases ok with
   |false =>
    rw[if_neg Bool.false_ne_true]at q7⊢;obtain⟨m',hm,w7⟩:=q7;exact again U I7 hm w7
   |true =>
    rw[if_pos U]at q7⊢;refine thn (he fp G.objs.size s2 H2 _ s7 _ H7 _ I7 q7) λu8 s8 ⟨v8,H8,I8,r8,ys,hys,hlen,m',hm,w8⟩=>?_
    refine thn (eG (X:=bL X N scope cl fp G.objs.size s2 H2) _ s8 _ H8 (.ref s2.heap.objs.size) [v8] _ [u8] (λ_ H9=>W (i+1) m' H9) I8 U (.cons r8 .nil) ⟨_,ys,v8,U,U,hys,hlen,w8⟩) λ_ s9 ⟨_,H9,I9,_,w9⟩=>?_
    exact again U I9 hm w9
 exact codeAny_compStart_list (loop _ U) (T.self _ 0 _ _ _ st1 (loop _ U))
theorem Inv.left{pins:List (Addr×Obj)}{σ σ2:St}{s2 s':Shared}{H2 H':Hp}{C:Addr}{h':Heap}(I2:Inv X pins σ2 H2 s2)(I':Inv X pins σ H' s')(hC:s2.heap.objs.size<=C)(hn:H' C=none)(hs:Heap.SameBut C s'.heap h'):Inv X pins σ H' { s' with heap:=h' }:=by
 refine I'.turned (t':=s'.toks) (it:=C) (λb o hb e=>(hs.2 b hb).trans e) hn (ne_of_gt (lt_of_lt_of_le I2.lt hC)) (.inr (le_trans I2.sz hC)) (λy c e=>?_) λp hp=>?_
 ·obtain⟨v,o,ho,_⟩:=I2.cell y c e;exact ne_of_lt (lt_of_lt_of_le (Heap.lt_size ho) hC)
 ·exact ne_of_lt (lt_of_lt_of_le (Heap.lt_size (I2.pin p hp).1) hC)
theorem bq{wi:TI}(hi:PI X (.Name x px) iter wi)(O:pC X N fr scope cl x)(hc:X.calm=true)(ht:∀fp C s H,PIf (bL X N scope cl fp C s H) ifs tt)(he:∀fp C s H,PE (bL X N scope cl fp C s H) elt te)
  (hs:∀v,foldedSetIterable iter X.env v=pure v:=by intro _;rfl):PE X (.ListComp elt [⟨.Name x px,iter,ifs,0⟩] scope pos) (vS wi fr tt te):=by
 intro pins s σ H Q I h;rw[eval_ListComp];refine wpAny_comprehension_free (use:=none) U hs O.clos O.kind O.names (thn (hi pins s σ H _ I h) λv s1 h1=>thn h1 λitv s2 h2=>?_);obtain⟨it,fp,tn,J,H2,e,I2,T,st2,f2,hW⟩:=h2;subst e;refine mT (RR:=λacc C=>compPost (model X.prog X.w) X.A X.xe none (EP X pins σ Q) acc C) O hc I2 T st2 f2 ht he hW λD C s' H' hC hn ⟨m,hm⟩ I' q=>?_
 exact⟨m,hm,λh' hs'=>⟨.ref D,H',I2.left I' hC hn hs',U,q⟩⟩
theorem fW{wi:TI}{i:Nat}{y:Str}{py tj:Pos}(hN:X.N.Nodup)(hy:X.N[i]?=some y)(hl:Loc X.env.scope y)(hi:PI X (.Name x px) iter wi)(O:pC X N fr scope cl x)(hc:X.calm=true)
  (ht:∀fp C s H,PIf (bL X N scope cl fp C s H) ifs tt)(he:∀fp C s H,PE (bL X N scope cl fp C s H) elt te)(hs:∀v,foldedSetIterable iter X.env v=pure v:=by intro _;rfl)
  (hsw:swapsWith (.ListComp elt [⟨.Name x px,iter,ifs,0⟩] scope pos) (some (.Name y py)) tj.line X.env=pure true:=by rfl)(hf:X.fn y=true\/X.env.scope.names.lookup y=some .local:=by first|exact .inl U|exact .inr U|assumption) :
  PS X (.Assign [.Name y py] (.ListComp elt [⟨.Name x px,iter,ifs,0⟩] scope pos) tj) (uT (vS wi fr tt te) (mI i)):=by
 intro pins s σ H D0 I h;rw[exec_Assign_Name_used _ _ _ _ hsw];refine wpAny_bind (wpAny_standAt (wpAny_bind ?_));show wpAny _ X.A (do let _ ←comprehension (.ListComp elt [⟨.Name x px,iter,ifs,0⟩] scope pos) scope X.env _ (newList []) false (eval iter X.env) (some (assign (.Name y py) X.env))) _ _ s;refine wpAny_bind (wpAny_mono (wpAny_comprehension_free (use:=some (assign (.Name y py) X.env)) (Q:=λ_ s'=>SP X pins D0 .next s') U hs O.clos O.kind O.names (thn (hi pins s σ H _ I h) λv s1 h1=>thn h1 λitv s2 h2=>?_)) (λ_ s' hq=>wpAny_pure (wpAny_pure hq)) λ_ _ z=>z);obtain⟨it,fp,tn,J,H2,e,I2,T,st2,f2,hW⟩:=h2;subst e;refine mT (Q:=λv H1=>mI i v σ H1 D0.nx) (RR:=λacc C=>compPost (model X.prog X.w) X.A X.xe (some (assign (.Name y py) X.env)) (λ_ s'=>SP X pins D0 .next s') acc C) O hc I2 T st2 f2 ht he hW λD C s' H' hC hn ⟨m,hm⟩ I' q=>?_
 show wpAny _ X.A (assign (.Name y py) X.env (.ref D)) _ _ s';refine wpAny_assign_Name (jI I' hN hy hl (v:=.ref D) U (λs3 I3 ⟨a,hsa,ha⟩=>?_) hf);have hCa:C≠a:=by
  rcases ha with z|z
  ·rw[z];exact ne_of_gt (lt_of_lt_of_le I2.lt hC)
  ·obtain⟨v,o,ho,_⟩:=I2.cell y a z;exact ne_of_gt (lt_of_lt_of_le (Heap.lt_size ho) hC)
 exact⟨m,hm.sameBut hsa hCa,λh' hs'=>⟨_,H',I2.left I3 hC hn hs',q⟩⟩
def fe(Pv:Addr->Nat->List V->Hp->Prop)(D:Addr)(i n:Nat)(H2:Hp):Prop:=∃m',m'<n-i/\m'=n-(i+1)/\i+1<=n/\∃zs,Pv D (i+1) zs H2
def cn(Pv:Addr->Nat->List V->Hp->Prop)(D:Addr)(i n:Nat):VK:=λy H3=>∃ys,H3 D=some (.lst ys)/\ys.length<sizeLine/\fe Pv D i n (upd H3 D (.lst (ys++[y])))
theorem fe.mk{Pv:Addr->Nat->List V->Hp->Prop}{D:Addr}{i n:Nat}{H2:Hp}{zs:List V}(hi:i<n)(h:Pv D (i+1) zs H2):fe Pv D i n H2:=⟨n-(i+1),by lia,U,hi,zs,h⟩
theorem cn.mk{Pv:Addr->Nat->List V->Hp->Prop}{D:Addr}{i n:Nat}{H3:Hp}{ys:List V}{y:V}(hi:i<n)(e:H3 D=some (.lst ys))(hl:ys.length<sizeLine)(h:Pv D (i+1) (ys++[y]) (upd H3 D (.lst (ys++[y])))):cn Pv D i n y H3:=⟨ys,e,hl,.mk hi h⟩
theorem bh{K:W.Frag}{a:Addr}{xs:List V}{σ:St}{H1:Hp}{Q:VK}(Pv:Addr->Nat->List V->Hp->Prop)(h0:∀D,H1 D=none->Pv D 0 [] (upd H1 D (.lst [])))
  (hk:∀D i ys H,H1 D=none->i<=xs.length->Pv D i ys H->SqL K H a xs)
  (hs:∀D i x ys H,H1 D=none->xs[i]?=some x->Pv D i ys H->tt (eK σ fr (some x)) H λb H2=>if b=true then te (eK σ fr (some x)) H2 (cn Pv D i xs.length)else fe Pv D i xs.length H2)
  (hd:∀D ys H,H1 D=none->Pv D xs.length ys H->Q (.ref D) H):nE (Itl K a) fr tt te σ Q H1:=by
 intro D hD;refine⟨λi m H=>m=xs.length-i/\i<=xs.length/\∃ys,Pv D i ys H,⟨_,U,zero_le _,[],h0 D hD⟩,?_⟩;rintro i m H ⟨rfl,hi,ys,p⟩;have q:=hk D i ys H hD hi p;by_cases hlt:i<xs.length
 ·refine .inr ⟨⟨xs,xs[i],q,by simp[hlt]⟩,λx H' y=>?_⟩;obtain⟨e,y⟩:=y;subst e;exact hs D i x ys _ hD (y xs q) p
 ·have e:i=xs.length:=by lia
  subst e;exact .inl ⟨⟨xs,q,le_refl _⟩,hd D ys H hD p⟩
theorem bH{lo:Int}{n:Nat}{σ:St}{H1:Hp}{Q:VK}(Pv:Addr->Nat->List V->Hp->Prop)(h0:∀D,H1 D=none->Pv D 0 [] (upd H1 D (.lst [])))
  (hs:∀D i ys H,H1 D=none->i<n->Pv D i ys H->tt (eK σ fr (some (.int (lo+i)))) H λb H2=>if b=true then te (eK σ fr (some (.int (lo+i)))) H2 (cn Pv D i n)else fe Pv D i n H2)
  (hd:∀D ys H,H1 D=none->Pv D n ys H->Q (.ref D) H):nE (Itr lo n) fr tt te σ Q H1:=by
 intro D hD;refine⟨λi m H=>m=n-i/\i<=n/\∃ys,Pv D i ys H,⟨_,U,zero_le _,[],h0 D hD⟩,?_⟩;rintro i m H ⟨rfl,hi,ys,p⟩;by_cases hlt:i<n
 ·refine .inr ⟨hlt,λx H' y=>?_⟩;obtain⟨e,y⟩:=y;subst e;subst y;exact hs D i ys _ hD hlt p
 ·have e:i=n:=by lia
  subst e;exact .inl ⟨le_refl _,hd D ys H hD p⟩
end
structure nG(X:Cx)(N:List Str)(k:Nat)(fr:List Nat)(scope:Scope)(cl:List (Str×Addr)):Prop where
 clos:closureFor scope X.env=pure cl
 kind:scope.kind=.function
 nocell:∀y∈scope.names,y.2≠.cell
 names:∀y∈scope.names,y.2=.local->scope.names.lookup y.1=some .local
 len:N.length=k+fr.length
 sub:∀(i:Nat)(y:Str),N[k+i]?=some y->∃j,fr[i]?=some j/\X.N[j]?=some y/\(X.env.kindOf y=some .cell\/X.env.kindOf y=some .free)/\((relabel scope X.env).names.lookup y=some .cell\/(relabel scope X.env).names.lookup y=some .free)
 cells:∀y c,cl.lookup y=some c->X.env.cells.lookup y=some c
 has:∀y,((relabel scope X.env).names.lookup y=some .cell\/(relabel scope X.env).names.lookup y=some .free)->∃c,cl.lookup y=some c
theorem dj{X:Cx}{N:List Str}{k:Nat}{scope:Scope}(len:N.length=k)(kind:scope.kind=.function)(nofree:∀y∈scope.names,y.2≠.free)(nocell:∀y∈scope.names,y.2≠.cell)
  (names:∀y∈scope.names,y.2=.local->scope.names.lookup y.1=some .local):nG X N k [] scope []:=by
 have er:(relabel scope X.env).names=scope.names:=map_eq_self λy hy=>by
  have z:(y.2 == NameKind.free)=false:=by simpa using nofree y hy
  simp[z]
 have no:∀y,¬ ((relabel scope X.env).names.lookup y=some .cell\/(relabel scope X.env).names.lookup y=some .free):=λy h=>by
  rw[er]at h;rcases h with h|h
  ·exact nocell _ (mem_of_lookup h) U
  ·exact nofree _ (mem_of_lookup h) U
 refine⟨closureFor_none nofree,kind,nocell,names,by rw[len];rfl,λi y e=>?_,(λy c e=>by cases e),λy h=>absurd h (no y)⟩;have:=(Jx.mp e).1;lia
def fz(σ:St)(fr:List Nat)(ts:St):St:=ts++fr.map λj=>(σ[j]?).join
def nH(J:It)(gt:TG)(k:Nat)(fr:List Nat)(tt:TT)(te:TE)(σ:St)(Q:VK)(H1:Hp):Prop:=∀D,H1 D=none->∃W:Nat->Nat->Hp->Prop,(∃m,W 0 m (upd H1 D (.lst [])))/\∀i m H,W i m H ->
 (J.stop i H/\Q (.ref D) H)\/(J.go i H/\∀x H',J.yld i H x H'->∀ts:St,ts.length=k->gt x (fz σ fr ts) H' λσ2 H2=>(∃ts2:St,ts2.length=k/\σ2=fz σ fr ts2)/\tt σ2 H2 λb H3=>if b=true then te σ2 H3 λy H4=>∃ys,H4 D=some (.lst ys)/\ys.length<sizeLine/\∃m',m'<m/\W (i+1) m' (upd H4 D (.lst (ys++[y])))
  else ∃m',m'<m/\W (i+1) m' H3)
def tm(wi:TI)(gt:TG)(k:Nat)(fr:List Nat)(tt:TT)(te:TE):TE:=λσ H Q=>wi σ H λJ H1=>nH J gt k fr tt te σ Q H1
section
variable{elt iter tg:Expr}{ifs:List Expr}{scope:Scope}{cl:List (Str×Addr)}{N:List Str}{k:Nat}{fr:List Nat}{gt:TG}{tt:TT}{te:TE}
theorem lD{pins:List (Addr×Obj)}{σ:St}{s2:Shared}{H2:Hp}{it:Addr}{fp:List Addr}{tn:Nat->Heap->Prop}{J:It}{Q:VK}{E:Value->Shared->Prop}{RR:Value->Addr->Result->Shared->Prop}
  (O:nG X N k fr scope cl)(hc:X.calm=true)(I2:Inv X pins σ H2 s2)(T:Turn X.prog X.w X.K tg J fp it tn)(st2:tn 0 s2.heap)(f2:∀b∈fp,jL X pins H2 b)
  (ht:∀fp C s H,PIf (bL X N scope cl fp C s H) ifs tt)(he:∀fp C s H,PE (bL X N scope cl fp C s H) elt te)
  (hg:∀fp C s H,PG (bL X N scope cl fp C s H) tg gt)(hW:nH J gt k fr tt te σ Q H2)
  (fin:∀D C s' H',s2.heap.objs.size<=C->H' C=none->(∃m,s'.heap.Ns C m)->Inv X pins σ H' s'->Q (.ref D) H'->RR (.ref D) C (.ok .next) s') :
  wpAny (model X.prog X.w) X.A (newList []) (λacc s3=>wpAny (model X.prog X.w) X.A (newFunctionEnv scope X.env.globals cl [] X.env.qual none .none (some X.env)) (λti s4 =>
   codeAny (model X.prog X.w) X.A (.compStart (.ListComp elt [⟨tg,iter,ifs,0⟩] scope pos) 0 (.ref it) acc { ti with scope:=relabel scope X.env }) (RR acc ti.locals) s4) E s3) E s2:=by
 refine wpAny_newObj_type (wpAny_newFunctionEnv O.nocell (by intro y hy;simp at hy) (λh1 hns hsb=>?_) O.kind);dsimp only at hns hsb⊢;generalize hG:s2.heap.push { cls:=.type "list",dict:=none,data:=.seq ([]:List Value).toArray }=G at hns hsb⊢;have hC:G.objs.size=s2.heap.objs.size+1:=by rw[←hG,Heap.size_push]
 have old:∀b o,s2.heap.get? b=some o->h1.get? b=some o:=λb o e=>hsb.extBut b o (ne_of_lt (by rw[hC];exact lt_succ_of_lt (Heap.lt_size e))) (Heap.get?_push_of_some _ (hG ▸ Heap.get?_push_of_some _ e))
 have wN:h1.get? s2.heap.objs.size=some { cls:=.type "list",data:=.seq ([]:List Value).toArray 0 }:=hsb.extBut _ _ (ne_of_lt (by rw[hC];exact lt_succ_self _)) (Heap.get?_push_of_some _ (hG ▸ Heap.get?_push_size _ U));have hD:H2 s2.heap.objs.size=none:=I2.fresh;have okX:(bL X N scope cl fp G.objs.size s2 H2).Ok:=by
  refine⟨I2.ok.mod,O.kind,I2.ok.glob,I2.ok.blt,by show s2.heap.objs.size<=G.objs.size;rw[hC];exact le_succ _,λy z c e1 e2=>I2.ok.inj y z c (O.cells y c e1) (O.cells z c e2),λy hy=>O.has y hy,λy c z=>absurd (show false=true from z) Bool.false_ne_true,I2.ok.hd,I2.ok.frames,.inl U,
   λb hb=>⟨?_,λy c e=>(f2 b hb).2.2.2.2.1 y c (O.cells y c e)⟩,I2.bs,le_trans I2.ok.bsz I2.sz,λb o e hb=>?_,λb hb z=>?_,I2.stack,I2.stkFree⟩
  ·obtain⟨o,e,_⟩:=T.obj _ _ st2 b hb;show b≠G.objs.size;exact ne_of_lt (by rw[hC];exact lt_succ_of_lt (Heap.lt_size e))
  ·rcases(f2 b hb).2.2.2.1 with z|z
   ·exact I2.ok.noex b o e z
   ·exact absurd (lt_of_lt_of_le (Heap.lt_size e) (le_trans I2.ok.bsz z)) (lt_irrefl _)
  ·rcases mem_cons.mp (I2.stkSub b z)with z|z
   ·exact(f2 b hb).2.1 z
   ·exact(f2 b hb).2.2.1 z
 have lC:∀{H':Hp},(∀b∈fp,H' b=none)->∀b∈fp,jL (bL X N scope cl fp G.objs.size s2 H2) [] H' b:=λhn b hb =>
  ⟨hn b hb,(okX.exf b hb).1,okX.exfs b hb,.inl hb,(okX.exf b hb).2,λp hp=>absurd (show p∈([]:List (Addr×Obj))from hp) (by simp)⟩
 have I':Inv (bL X N scope cl fp G.objs.size s2 H2) [] (fz σ fr (List.replicate k none)) (upd H2 s2.heap.objs.size (.lst [])) { s2 with heap:=h1,toks:=s2.toks+([]:List (Str×Value)).length }:=by
  refine⟨okX,U,I2.bare,Un.laid old (le_refl _) hD,⟨_,hns,λi y v e1 e2 e3=>?_⟩,λy c e=>?_,?_,λy c e=>?_,λp hp=>absurd (show p∈([]:List (Addr×Obj))from hp) (by simp),I2.hok.laid old (le_refl _) ⟨zero_le _,[],0,.nil,wN⟩,?_⟩
  ·by_cases hik:i<k
   ·have e2':(List.replicate k none++fr.map λj=>(σ[j]?).join)[i]?=some (some v):=e2;rw[getElem?_append_left (by rw[length_replicate];exact hik),getElem?_replicate,if_pos hik]at e2';cases e2'
   ·obtain⟨j,q1,q2,q3,q4⟩:=O.sub (i-k) y (by rw[show k+(i-k)=i by lia];exact e1);have e2':(σ[j]?).join=some v:=by
     have:(List.replicate k none++fr.map λj=>(σ[j]?).join)[i]?=some (some v):=e2;rw[getElem?_append_right (by rw[length_replicate];lia),length_replicate,getElem?_map,q1]at this;exact Option.some.inj this
    have e4:σ[j]?=some (some v):=by
     cases z:σ[j]? with
     |none=>rw[z]at e2';cases e2'
     |some t=>rw[z]at e2';exact congrArg some e2'
    obtain⟨m,_,hl⟩:=I2.loc;have vis:Vis X.env.scope y:=.inr q3;obtain⟨u,r,l⟩:=hl j y v q2 e4 vis;refine⟨u,r,.inr ⟨q4,?_⟩⟩;obtain⟨c',hc'⟩:=O.has y q4;rcases l with⟨k,_⟩|⟨_,c,ec,ic⟩
    ·rcases q3 with z|z
     ·rw[z]at k;cases k
     ·rw[z]at k;cases k
    ·have:=O.cells y c' hc';have e':c=c':=Option.some.inj (ec.symm.trans this);obtain⟨o,ho,hd⟩:=ic;rw[e']at ho;exact⟨c',hc',o,old c' o ho,hd⟩
  ·obtain⟨v,o,ho,hd⟩:=I2.cell y c (O.cells y c e);exact⟨v,o,old c o ho,hd⟩
  ·show upd H2 s2.heap.objs.size (.lst []) G.objs.size=none;rw[aD (ne_of_gt (by rw[hC];exact lt_succ_self _))];exact I2.hok.fresh (by rw[hC];exact le_succ _)
  ·obtain⟨v,o,ho,hd⟩:=I2.cell y c (O.cells y c e);rw[aD (ne_of_lt (Heap.lt_size ho))];exact I2.freeC y c (O.cells y c e)
  ·show(fz σ fr (List.replicate k none)).length=N.length;rw[O.len];simp[fz]
 have st1:tn 0 h1:=T.keep _ _ _ st2 λb hb o e=>old b o e
 have loop:∀s3:Shared,s3={ s2 with heap:=h1,toks:=s2.toks+([]:List (Str×Value)).length } ->
   codeAny (model X.prog X.w) X.A (.compLoop (.ListComp elt [⟨tg,iter,ifs,0⟩] scope pos) 0 (.ref it) (.ref s2.heap.objs.size) (compEnvC scope cl G.objs.size X.env)) (RR (.ref s2.heap.objs.size) G.objs.size) s3:=by
  rintro s3 rfl;obtain⟨W,⟨m0,w0⟩,turn⟩:=hW _ hD
  refine lB (λn s'=>∃i ts H',ts.length=k/\Inv (bL X N scope cl fp G.objs.size s2 H2) [] (fz σ fr ts) H' s'/\tn i s'.heap/\(∀b∈fp,H' b=none)/\W i n H') ?_ m0
   ⟨0,List.replicate k none,_,length_replicate,I',st1,λb hb=>by
    rw[aD (by obtain⟨o,e,_⟩:=T.obj _ _ st2 b hb;exact ne_of_lt (Heap.lt_size e))];exact(f2 b hb).1,w0⟩
  rintro n s' ⟨i,ts,H',hts,I3,st3,fr3,w3⟩;rcases turn i n H' w3 with⟨stop,qn⟩|⟨go,step⟩
  ·refine thn (T.done (bL X N scope cl fp G.objs.size s2 H2) U U U hc i [] s' _ H' _ I3 (lC fr3) st3 stop) λr s4 ⟨hr,I4⟩=>?_
   subst hr;obtain⟨m,hm,_⟩:=I4.loc;refine fin _ _ s4 H' (by rw[hC];exact le_succ _) I4.free ⟨m,hm⟩ (I2.call' (ch:=fp) I4.os I4.base I4.hok I4.bare λb hb=>?_) qn;exact⟨(f2 b hb).2.2.2.1,(f2 b hb).2.1,(f2 b hb).2.2.2.2.1,(f2 b hb).2.2.2.2.2⟩
  ·refine thn (T.item (bL X N scope cl fp G.objs.size s2 H2) U U U hc i [] s' _ H' _ I3 (lC fr3) st3 go) λr s4 ⟨u,hr,h4⟩=>?_
   subst hr;refine thn h4 λ_ s5 ⟨y,H5,I5,r5,y5,st5,fr5⟩=>?_
   have I5':=I5.pinned (lC fr5) (T.obj _ _ st5);refine thn (hg fp G.objs.size s2 H2 _ s5 _ H5 y u _ I5' r5 (step y H5 y5 ts hts)) λ_ s6 ⟨σ6,H6,I6,⟨ts6,Bb,e6⟩,q6⟩=>?_
   subst e6
   have again:∀{σ7:St}{H7:Hp}{s7:Shared}{m':Nat},σ7=fz σ fr ts6->Inv (bL X N scope cl fp G.objs.size s2 H2) ([]++jM fp s5.heap) σ7 H7 s7->m'<n->W (i+1) m' H7 ->
     ∃m,m<n/\∃i ts H',ts.length=k/\Inv (bL X N scope cl fp G.objs.size s2 H2) [] (fz σ fr ts) H' s7/\tn i s7.heap/\(∀b∈fp,H' b=none)/\W i m H':=λ{σ7 H7 s7 m'} e7 I7 hm w7=>by
    subst e7;refine⟨m',hm,i+1,ts6,H7,Bb,I7.unpinned,T.keep _ _ _ st5 λb hb o e=>(I7.pin (b,o) (mem_append_right _ (mem_append_right _ (dH hb e)))).1,λb hb=>?_,w7⟩;obtain⟨o,e,d⟩:=T.obj _ _ st5 b hb;exact(I7.pin (b,o) (mem_append_right _ (mem_append_right _ (dH hb e)))).2.1
   refine thn (ht fp G.objs.size s2 H2 _ s6 _ H6 _ I6 q6) λok s7 ⟨H7,I7,q7⟩=>?_
   cases ok with
   |false =>
    rw[if_neg Bool.false_ne_true]at q7⊢;obtain⟨m',hm,w7⟩:=q7;exact again U I7 hm w7
   |true =>
    rw[if_pos U]at q7⊢;refine thn (he fp G.objs.size s2 H2 _ s7 _ H7 _ I7 q7) λu8 s8 ⟨v8,H8,I8,r8,ys,hys,hlen,m',hm,w8⟩=>?_
    refine thn (eG (X:=bL X N scope cl fp G.objs.size s2 H2) _ s8 _ H8 (.ref s2.heap.objs.size) [v8] _ [u8] (λ_ H9=>W (i+1) m' H9) I8 U (.cons r8 .nil) ⟨_,ys,v8,U,U,hys,hlen,w8⟩) λ_ s9 ⟨_,H9,I9,_,w9⟩=>?_
    exact again U I9 hm w9
 exact codeAny_compStart_list (loop _ U) (T.self _ 0 _ _ _ st1 (loop _ U))
theorem jo{wi:TI}(hi:PI X tg iter wi)(O:nG X N k fr scope cl)(hc:X.calm=true)(hg:∀fp C s H,PG (bL X N scope cl fp C s H) tg gt)(ht:∀fp C s H,PIf (bL X N scope cl fp C s H) ifs tt)(he:∀fp C s H,PE (bL X N scope cl fp C s H) elt te)
  (hs:∀v,foldedSetIterable iter X.env v=pure v:=by intro _;rfl):PE X (.ListComp elt [⟨tg,iter,ifs,0⟩] scope pos) (tm wi gt k fr tt te):=by
 intro pins s σ H Q I h;rw[eval_ListComp];refine wpAny_comprehension_free (use:=none) U hs O.clos O.kind O.names (thn (hi pins s σ H _ I h) λv s1 h1=>thn h1 λitv s2 h2=>?_);obtain⟨it,fp,tn,J,H2,e,I2,T,st2,f2,hW⟩:=h2;subst e;refine lD (RR:=λacc C=>compPost (model X.prog X.w) X.A X.xe none (EP X pins σ Q) acc C) O hc I2 T st2 f2 ht he hg hW λD C s' H' hC hn ⟨m,hm⟩ I' q=>?_
 exact⟨m,hm,λh' hs'=>⟨.ref D,H',I2.left I' hC hn hs',U,q⟩⟩
theorem eL{K:W.Frag}{a:Addr}{xs:List V}{σ:St}{H1:Hp}{Q:VK}(Pv:Addr->Nat->List V->Hp->Prop)(h0:∀D,H1 D=none->Pv D 0 [] (upd H1 D (.lst [])))
  (hk:∀D i ys H,H1 D=none->i<=xs.length->Pv D i ys H->SqL K H a xs)
  (hs:∀D i x ys H,H1 D=none->xs[i]?=some x->Pv D i ys H->∀ts:St,ts.length=k->gt x (fz σ fr ts) H λσ2 H2=>(∃ts2:St,ts2.length=k/\σ2=fz σ fr ts2)/\tt σ2 H2 λb H3=>if b=true then te σ2 H3 (cn Pv D i xs.length)else fe Pv D i xs.length H3)
  (hd:∀D ys H,H1 D=none->Pv D xs.length ys H->Q (.ref D) H):nH (Itl K a) gt k fr tt te σ Q H1:=by
 intro D hD;refine⟨λi m H=>m=xs.length-i/\i<=xs.length/\∃ys,Pv D i ys H,⟨_,U,zero_le _,[],h0 D hD⟩,?_⟩;rintro i m H ⟨rfl,hi,ys,p⟩;have q:=hk D i ys H hD hi p;by_cases hlt:i<xs.length
 ·refine .inr ⟨⟨xs,xs[i],q,by simp[hlt]⟩,λx H' y=>?_⟩;obtain⟨e,y⟩:=y;subst e;exact hs D i x ys _ hD (y xs q) p
 ·have e:i=xs.length:=by lia
  subst e;exact .inl ⟨⟨xs,q,le_refl _⟩,hd D ys H hD p⟩
end
theorem tq{X:Cx}{K:W.Frag}{es:List Expr}{k:Nat}{t:TGs}{n:Nat}{pos:Pos}(hK:X.K=K)(hc:X.calm=true)(h:PGs X es t)(hn:(assignEach es X.env).length=n:=by rfl)(hst:(assignEach es X.env).findIdx? (·.1)=none:=by rfl):PG X (.Tuple es k pos) (yj K n t):=hK ▸ dh hc h hn hst
end L2
namespace Srt
open PySem PySem.W PyProof.Rows
def Ok(n:Nat)(lt:Nat->Nat->Bool){α:Type}:KasT α->(α->Prop)->Prop
 | .ret a,Q=>Q a
 | .ask i j k,Q=>i<n/\j<n/\Ok n lt (k (lt i j)) Q
section
variable{n:Nat}{lt:Nat->Nat->Bool}
abbrev g(p:Array Nat)(i:Nat):Nat:=p.getD i 0
structure Ord(lt:Nat->Nat->Bool):Prop where
 tr:∀a b c,lt b a=false->lt c b=false->lt c a=false
 as:∀a b,lt a b=true->lt b a=false
end
end Srt
namespace L2
open PySem PySem.Spec PySem.W PyProof.Rows
variable{prog:Program}{w:World}{A:Around}{E:Value->Shared->Prop}{s:Shared}
variable{X:Cx}
structure Jc(S A B A0 B0:List Pr):Prop where
 ap:Apart S
 aA:Apart A
 aB:Apart B
 mem:∀n,(inP A0 n && inP B0 n)=(inP S n || (inP A n && inP B n))
 gap:∀s∈S,(∀p∈A,s.2+2<=p.1)\/(∀p∈B,s.2+2<=p.1)
structure Jk(F T:List Pr)(lo hi st:Int):Prop where
 ap:Apart F
 lt:∀s∈F,s.2+2<=st
 rng:∀s∈F,lo<=s.1/\s.2<=hi
 tk:∀p∈T,p.2<st
 fr:st=lo\/∃p∈T,st=p.2+1
 ge:lo<=st
 mem:∀n,lo<=n->n<=hi->n<st->inP F n = !inP T n
structure Walk(ts:List (Int×Int×Int)):Prop where
 le:∀t∈ts,t.1<=t.2.1
 nx:∀(i:Nat) a b,ts[i]?=some a->ts[i+1]?=some b->b.1=a.2.1+1
def pcs(msk:Int->Bool)(ts:List (Int×Int×Int))(n:Int):Bool:=ts.any λt=>inR n (t.1,t.2.1) && msk t.2.2
structure Jl(R:List Pr)(ts:List (Int×Int×Int))(msk:Int->Bool)(i:Nat)(at_:Int):Prop where
 ap:Apart R
 mem:∀n,inP R n=pcs msk (ts.take i) n
 lt:∀r∈R,r.2<at_
 few:2*R.length<=i\/(2*R.length<=i+1/\∃R' l,R=R'++[l]/\l.2=at_-1)
section
variable{R:List Pr}{ts:List (Int×Int×Int)}{msk:Int->Bool}{i:Nat}{at_:Int}{t:Int×Int×Int}
end
def Its(z:Str):It:=⟨λi _=>i<z.cps.size,λi H x H'=>H'=H/\∃c,z.cps[i]?=some c/\x=.str ⟨#[c]⟩,λi _=>z.cps.size<=i⟩
theorem qk{P:Program}{w:World}{K:W.Frag}{tg:Expr}(z:Str)(t:Tok)(it:Addr):Turn P w K tg (Its z) [it] it (λi h=>h.IsStrIter it "str_ascii_iterator" z t i) where
 mem:=by simp
 obj:=λi h st b hb=>by
  obtain⟨o,e,c,d⟩:=st;rw[show b=it by simpa using hb];exact⟨o,e,λv q=>by rw[d]at q;cases q⟩
 keep:=λi h h' ⟨o,e,r⟩ k=>⟨o,k it (by simp) o e,r⟩
 item:=by
  intro X hP hw hK hc i pins s σ H E I hf st hg;subst hP hw hK;have hlt:i<z.cps.size:=hg;have hi:z.cps[i]?=some z.cps[i]:=Array.getElem?_eq_getElem hlt;obtain⟨f0,f1,f2,f3,f4,f5⟩:=hf it (by simp);refine wpAny_pyNext_ascii_item st hi λh' st' sb=>?_
  have I1:Inv X pins σ H { s with heap:=h',toks:=s.toks+1 }:=I.turned (t':=s.toks+1) (λb o hb e=>(sb.2 b hb).trans e) f0 f1 f3 f4 f5;obtain⟨o,e,c,d⟩:=id st';exact⟨_,U,qJ (s:={ s with heap:=h',toks:=s.toks+1 }) e c d (by decide) ⟨.str ⟨#[z.cps[i]]⟩,H,I1,⟨_,U⟩,⟨U,_,hi,U⟩,st',λb hb=>(hf b hb).1⟩⟩
 done:=by
  intro X hP hw hK hc i pins s σ H E I hf st hg;subst hP hw hK;obtain⟨f0,f1,f2,f3,f4,f5⟩:=hf it (by simp);exact wpAny_pyNext_ascii_end (I.ok.hd hc) st (by simpa using(show z.cps.size<=i from hg)) λh' eb=>⟨U,I.turned (t':=s.toks) (λb o hb e=>eb b o hb e) f0 f1 f3 f4 f5⟩
 self:=λ_ _ _ _ _ st h=>wpAny_pyIter_striter_ascii st h
theorem rE{P:Program}{w:World}{K:W.Frag}{tg:Expr}(z:Str)(t:Tok)(it:Addr):Turn P w K tg (Its z) [it] it (λi h=>h.IsStrIter it "str_iterator" z t i) where
 mem:=by simp
 obj:=λi h st b hb=>by
  obtain⟨o,e,c,d⟩:=st;rw[show b=it by simpa using hb];exact⟨o,e,λv q=>by rw[d]at q;cases q⟩
 keep:=λi h h' ⟨o,e,r⟩ k=>⟨o,k it (by simp) o e,r⟩
 item:=by
  intro X hP hw hK hc i pins s σ H E I hf st hg;subst hP hw hK;have hlt:i<z.cps.size:=hg;have hi:z.cps[i]?=some z.cps[i]:=Array.getElem?_eq_getElem hlt;obtain⟨f0,f1,f2,f3,f4,f5⟩:=hf it (by simp);refine wpAny_pyNext_wide_item st hi λh' st' sb=>?_
  have I1:Inv X pins σ H { s with heap:=h',toks:=s.toks+1 }:=I.turned (t':=s.toks+1) (λb o hb e=>(sb.2 b hb).trans e) f0 f1 f3 f4 f5;obtain⟨o,e,c,d⟩:=id st';exact⟨_,U,qJ (s:={ s with heap:=h',toks:=s.toks+1 }) e c d (by decide) ⟨.str ⟨#[z.cps[i]]⟩,H,I1,⟨_,U⟩,⟨U,_,hi,U⟩,st',λb hb=>(hf b hb).1⟩⟩
 done:=by
  intro X hP hw hK hc i pins s σ H E I hf st hg;subst hP hw hK;obtain⟨f0,f1,f2,f3,f4,f5⟩:=hf it (by simp);exact wpAny_pyNext_wide_end (I.ok.hd hc) st (by simpa using(show z.cps.size<=i from hg)) λh' eb=>⟨U,I.turned (t':=s.toks) (λb o hb e=>eb b o hb e) f0 f1 f3 f4 f5⟩
 self:=λ_ _ _ _ _ st h=>wpAny_pyIter_striter_wide st h
variable{tg:Expr}
inductive vT  (R:(It->Hp->Prop))(x:V)(H1:Hp):Prop
 |mk (z:_)(_:x=.str z)(_:R (Its z) H1):vT R x H1
def Bc(tl:TE):W.Frag->St->Hp->(It->Hp->Prop)->Prop:=λ_ σ H R=>tl σ H λx H1=>vT R x H1
theorem wO{l:Expr}{tl:TE}(hl:PE X l tl):PI X tg l (Bc tl X.K):=by
 intro pins s σ H R I h;refine thn (hl pins s σ H _ I h) λv s1 ⟨x,H1,I1,r1,q1⟩=>?_
 obtain⟨z,e,q⟩:=q1;subst e;obtain⟨t,rfl⟩:=r1;have fpo:∀b∈[s1.heap.objs.size],jL X pins H1 b:=λb hb=>by
  rw[show b=s1.heap.objs.size by simpa using hb];exact I1.fpOk (le_refl _) (I1.hok.fresh (le_refl _))
 cases ha:z.cps.all (· < 128) with
 |true=>exact wpAny_pyIter_ascii ha ⟨s1.heap.objs.size,[s1.heap.objs.size],_,_,H1,U,I1.kept (t':=s1.toks) λb o e=>Heap.get?_push_of_some _ e,qk z t _,⟨_,Heap.get?_push_size _ U,U,U⟩,fpo,q⟩
 |false=>exact wpAny_pyIter_wide ha ⟨s1.heap.objs.size,[s1.heap.objs.size],_,_,H1,U,I1.kept (t':=s1.toks) λb o e=>Heap.get?_push_of_some _ e,rE z t _,⟨_,Heap.get?_push_size _ U,U,U⟩,fpo,q⟩
theorem vb{z:Str}{g:TG}{tb:TS}{D:Ends}{σ:St}{H:Hp}(Pv:Nat->St->Hp->Prop)(h0:Pv 0 σ H)
  (hs:∀i c σ H,z.cps.toList[i]?=some c->Pv i σ H->g (.str ⟨#[c]⟩) σ H λσ2 H2=>tb { D with nx:=Pv (i+1),ct:=Pv (i+1),bk:=D.nx } σ2 H2)(hd:∀σ H,Pv z.cps.size σ H->D.nx σ H) :
  ∃W:Nat->Nat->St->Hp->Prop,(∃m,W 0 m σ H)/\∀i m σ H,W i m σ H ->
   ((Its z).stop i H/\D.nx σ H)\/((Its z).go i H/\∃N:St->Hp->Prop,(∀σ' H',N σ' H'->∃m',m'<m/\W (i+1) m' σ' H')/\∀x H',(Its z).yld i H x H'->g x σ H' λσ2 H2=>tb { D with nx:=N,ct:=N,bk:=D.nx } σ2 H2):=by
 refine⟨λi m σ H=>m=z.cps.size-i/\i<=z.cps.size/\Pv i σ H,⟨_,U,zero_le _,h0⟩,?_⟩;rintro i m σ H ⟨rfl,hi,p⟩;by_cases hlt:i<z.cps.size
 ·refine .inr ⟨hlt,Pv (i+1),λσ' H' p'=>⟨z.cps.size-(i+1),by lia,U,hlt,p'⟩,λx H' y=>?_⟩;obtain⟨e,c,y1,y2⟩:=y;subst e;subst y2;exact hs i c σ _ (by simpa using y1) p
 ·have e:i=z.cps.size:=by lia
  subst e;exact .inl ⟨le_refl _,hd σ H p⟩
theorem pD:∀{ys:List Str}{us:List Value},Vals (ys.map V.str) us->StrsAre us ys
 | [],_,.nil=>.nil
 |y :: ys,_,.cons r t=>by
  obtain⟨t0,rfl⟩:=r;exact .cons y t0 (pD t)
inductive rJoin(K:W.Frag)(x:V)(vs:List V)(H:Hp)(Q:VK):Prop
 |mk (z:Str)(a:Addr)(ys:List Str)(_:x=.str z)(_:vs=[.ref a])(_:SqL K H a (ys.map V.str))(_:z.length<=64)(_:(ys.map (·.length)).sum+ys.length*64<=16777216)(_:Q (.str (Txt.join z ys)) H):rJoin K x vs H Q
theorem qR:MtM X "str.join" (rJoin X.K):=by
 intro pins s σ H x vs v us Q I rx rv h;obtain⟨z,a,ys,rfl,rfl,hq,h1,h2,q⟩:=h;obtain⟨t,rfl⟩:=rx;obtain⟨u,rfl,ru⟩:=rv.one;cases (show u=Value.ref a from ru);obtain⟨its,r,pl,hz⟩:=I.list hq;exact join_listC pl.isList (by simpa using pD r) h1 h2 λt' k=>⟨.str (Txt.join z ys),H,I.tok k,⟨_,U⟩,q⟩
theorem lE{x:Str}{v:V}{pos:Pos}(hg:Gl X x)(h:∃u,X.mg x=some u/\RelV v u)(hd:(x == ("__debug__" : Str))=false:=by decide):PE X (.Name x pos) (tC v):=by
 obtain⟨_,m,r⟩:=h;exact dR hg m r hd
def sg(g:Str)(c:Nat):Bool:=!(Builtin.Str.occurrences g ⟨#[c]⟩ 0 g.length 1).isEmpty
def lF(z g:Str):Bool:=z.cps.toList.all (sg g)
open PySem.NumText
structure Jm(cs:List Nat):Prop where
 all:AllDigits cs
 one:cs.length=1\/∃c r,cs=c :: r/\49<=c
def ql(h:Heap)(e T:Addr)(cls:Value)(a0:Value×Value)(fl:Value):Prop :=
 ∃oe vs oT ts,h.get? e=some oe/\(oe.cls=cls/\vs[0]?=some a0.1/\vs[2]?=some a0.2)/\oe.data=.fields vs/\vs[1]?=some (.ref T)/\T≠e/\h.get? T=some oT/\oT.data=.fields ts/\ts[3]?=some fl
abbrev rF(h:Heap)(e T:Addr)(cls:Value)(a0:Value×Value):Prop:=ql h e T cls a0 .none
structure Stp(F X:List Addr)(h h':Heap):Prop where
 keep:∀b o,b ∉ F->b ∉ X->h.get? b=some o->h'.get? b=some o
 slot:∀b o,b∈F->h.get? b=some o->∃sl,h'.get? b=some { o with slots:=sl }
inductive tu(h:Heap)(L e:Addr)(cls:Value)(a0:Value×Value):List Addr->Prop where
 |fresh {oe:Obj}{vs:Array Value}(he:h.get? e=some oe)(hc:oe.cls=cls)(hd:oe.data=.fields vs)(h1:vs[1]?=some Value.none)(h0:vs[0]?=some a0.1)(h2:vs[2]?=some a0.2):tu h L e cls a0 []
 |fly {T:Addr}(x:ql h e T cls a0 .none):tu h L e cls a0 [T]
 |held {T:Addr}(x:ql h e T cls a0 (rawInt L)):tu h L e cls a0 [T]
variable{base:Heap}{outer:List Env}{e:Addr}{oe:Obj}
section
variable{M:Model}{env:Env}{L T:Addr}{vs:Array Value}{a0:Value×Value}{cls fl:Value}{Q:Unit->Shared->Prop}{Ts:List Addr}
theorem Stp.refl(F Y:List Addr)(h:Heap):Stp F Y h h:=⟨λ_ _ _ _ q=>q,λ_ o _ q=>⟨o.slots,q⟩⟩
theorem tw{vc:Bool}{head:Value}(hf:A.frames=some (env :: outer))(ff:s.heap.FunFrames base (env :: outer))(hL:env.frame=some L)(he:s.heap.get? e=some oe)(hd:oe.data=.fields vs)(hsz:1<vs.size)
  (h:∀h' T oT ts,Stp (frs (env :: outer)) [e] s.heap h'->h'.get? e=some (Obj.mapFields (·.setIfInBounds 1 (.ref T)) oe)->s.heap.get? T=none->T≠e->h'.get? T=some oT->oT.data=.fields ts->ts[3]?=some (rawInt L)->Q () { s with heap:=h' }) :
  wpAny M A (do let a ←frameOf env;let pl ←entryPlaceOf L vc;let b ←EntryCells.newEntry head a .none (rawInt L) .none pl;setField (.ref e) 1 b) Q E s:=by
 have nF:e ∉ frs (env :: outer):=λz=>by
  obtain⟨_,o2,q2,nf⟩:=ff.mem z;rw[he]at q2;cases q2;exact nf vs hd
 refine wpAny_bind (wpAny_frameOf_fun hf ff hL λg1 so=>wpAny_bind (wpAny_entryPlaceOf λpl ok=>?_));have e1:g1.get? e=some oe:=(so.2.1 e nF).trans he;have sz1:g1.objs.size=s.heap.objs.size:=so.1;have key:∀(O:Obj)(ts:Array Value),O.data=.fields ts->ts[3]?=some (rawInt L)->wpAny M A (setField (.ref e) 1 (.ref g1.objs.size)) Q E { s with heap:=g1.push O }:=λO ts d3 t3=>by
  have e2:=Heap.get?_push_of_some O e1;have ne:g1.objs.size≠e:=ne_of_gt (Heap.lt_size e1);have oth:∀b,b≠e->((g1.push O).update e (Obj.mapFields (·.setIfInBounds 1 (.ref g1.objs.size)))).get? b=(g1.push O).get? b:=λb hb=>Heap.get?_update_other _ _ (Ne.symm hb)
  refine wpAny_setField e2 hd hsz (h _ g1.objs.size O ts ⟨λb o hb hx q=>?_,λb o hb q=>?_⟩ (Heap.get?_update_self _ e2 (Obj.isFreed_of_fields (Obj.data_mapFields hd _))) (Heap.get?_none_of_le (by rw[sz1];exact le_refl _)) ne ((oth _ ne).trans (Heap.get?_push_size g1 (Obj.isFreed_of_fields d3))) d3 t3)
  ·exact(oth b λz=>hx (by simp[z])).trans (Heap.get?_push_of_some O ((so.2.1 b hb).trans q))
  ·obtain⟨sl,q1⟩:=so.2.2 b o q;exact⟨sl,(oth b λz=>nF (z ▸ hb)).trans (Heap.get?_push_of_some O q1)⟩
 unfold EntryCells.newEntry newFields;exact wpAny_bind (wpAny_newObj_type (key _ _ U (by rcases ok with rfl|⟨_,_,_,_,_,_,_,rfl⟩ <;> simp)) (ok.sizeOk5 _ _ _ _ _))
theorem note(hf:A.frames=some (env :: outer))(ff:s.heap.FunFrames base (env :: outer))(hL:env.frame=some L)(x:tu s.heap L e cls a0 Ts)
  (h:∀h' T',Stp (frs (env :: outer)) (e :: Ts) s.heap h'->ql h' e T' cls a0 (rawInt L)->(s.heap.get? T'=none\/T'∈Ts)->Q () { s with heap:=h' }):wpAny M A (noteFrame (.ref e) env) Q E s:=by
 have sz:∀{vs:Array Value}{x:Value},vs[1]?=some x->1<vs.size:=λz=>(Array.getElem?_eq_some_iff.mp z).1
 have yE:∀{oe:Obj}{vs:Array Value}{h':Heap}{T:Addr}{oT:Obj}{ts:Array Value},oe.cls=cls->oe.data=.fields vs->1<vs.size->vs[0]?=some a0.1->vs[2]?=some a0.2->h'.get? e=some (Obj.mapFields (·.setIfInBounds 1 (.ref T)) oe)->T≠e->h'.get? T=some oT->oT.data=.fields ts->ts[3]?=some (rawInt L)->ql h' e T cls a0 (rawInt L) :=
  λ{oe vs h' T oT ts} c d l v0 v2 q1 q2 q3 q4 q5=>⟨_,_,oT,ts,q1,⟨(Obj.cls_mapFields _ _).trans c,by rw[Array.getElem?_setIfInBounds_ne (by decide)];exact v0,by rw[Array.getElem?_setIfInBounds_ne (by decide)];exact v2⟩,Obj.data_mapFields d _,by simp[l],q2,q3,q4,q5⟩
 unfold noteFrame;simp only[hL];cases x with
 | @fresh oe vs he hc hd h1 h0 h2 =>
  refine wpAny_bind (wpAny_field he hd h1 ?_);rw[if_neg (by decide)];exact tw hf ff hL he hd (sz h1) λh' T oT ts st q1 q2 q3 q4 q5 q6=>h h' T st (yE hc hd (sz h1) h0 h2 q1 q3 q4 q5 q6) (.inl q2)
 | @fly T x =>
  obtain⟨oe,vs,oT,ts,x1,⟨x2,x0,xc⟩,x3,x4,x5,x6,x7,x8⟩:=x;have oth:∀b,b≠T->(s.heap.update T (Obj.mapFields (·.setIfInBounds 3 Value.none))).get? b=s.heap.get? b:=λb hb=>Heap.get?_update_other _ _ (Ne.symm hb)
  have yF:∀b o,s.heap.get? b=some o->(∀vs,o.data≠.fields vs)->b≠T:=λb o q nf z=>nf ts (by rw[z,x6]at q;cases q;exact x7)
  refine wpAny_bind (wpAny_field x1 x3 x4 ?_);rw[if_pos (show(Value.ref T != Value.none)=true by simp)];refine wpAny_bind (wpAny_field x6 x7 x8 ?_);rw[if_neg (show ¬ (Value.none == rawInt L)=true by simp[rawInt])];refine wpAny_bind (wpAny_setField x6 x7 (Array.getElem?_eq_some_iff.mp x8).1 ?_);refine tw (s:={ s with heap:=s.heap.update T (Obj.mapFields (·.setIfInBounds 3 Value.none)) }) hf (ff.of_keeps λb o q nf=>⟨o,(oth b (yF b o q nf)).trans q,U⟩) hL ((oth e (Ne.symm x5)).trans x1) x3 (sz x4) λh' T' oT' ts' st q1 q2 q3 q4 q5 q6=>?_
  refine h h' T' ⟨λb o hb hx q=>st.keep b o hb (λz=>hx (mem_cons.mpr (.inl (by simpa using z)))) ((oth b λz=>hx (by simp[z])).trans q),λb o hb q=>?_⟩ (yE x2 x3 (sz x4) x0 xc q1 q3 q4 q5 q6) ?_
  ·obtain⟨_,o2,q2,nf⟩:=ff.mem hb;rw[q]at q2;cases q2;exact st.slot b o hb ((oth b (yF b o q nf)).trans q)
  ·by_cases z:T'=T
   ·exact .inr (by simp[z])
   ·exact .inl ((oth T' z).symm.trans q2)
 | @held T x =>
  obtain⟨oe,vs,oT,ts,x1,x2,x3,x4,x5,x6,x7,x8⟩:=id x;refine wpAny_bind (wpAny_field x1 x3 x4 ?_);rw[if_pos (show(Value.ref T != Value.none)=true by simp)];refine wpAny_bind (wpAny_field x6 x7 x8 ?_);rw[if_pos (show(rawInt L == rawInt L)=true by simp)];exact wpAny_pure (h s.heap T (Stp.refl _ _ _) x (.inr (by simp)))
theorem qS{fr:Option Addr}{l:List Env}(ff:s.heap.FunFrames base l)(x:ql s.heap e T cls a0 fl)(h:∀h',Stp (frs l) [e,T] s.heap h'->ql h' e T cls a0 (fr.elim Value.none λf=>rawInt f)->Q () { s with heap:=h' }):wpAny M A (setFlight (.ref e) fr) Q E s:=by
 obtain⟨oe,vs,oT,ts,x1,x2,x3,x4,x5,x6,x7,x8⟩:=x;have sz:3<ts.size:=(Array.getElem?_eq_some_iff.mp x8).1;have oth:∀b,b≠T->(s.heap.update T (Obj.mapFields (·.setIfInBounds 3 (fr.elim Value.none λf=>rawInt f)))).get? b=s.heap.get? b:=λb hb=>Heap.get?_update_other _ _ (Ne.symm hb)
 unfold setFlight;refine wpAny_bind (wpAny_field x1 x3 x4 ?_);rw[if_pos (show(Value.ref T != Value.none)=true by simp)];refine wpAny_setField x6 x7 sz (h _ ⟨λb o hb hx q=>(oth b λz=>hx (by simp[z])).trans q,λb o hb q=>?_⟩ ⟨oe,vs,_,_,(oth e (Ne.symm x5)).trans x1,x2,x3,x4,x5,Heap.get?_update_self _ x6 (Obj.isFreed_of_fields (Obj.data_mapFields x7 _)),Obj.data_mapFields x7 _,by simp[sz]⟩);obtain⟨_,o2,q2,nf⟩:=ff.mem hb;rw[q]at q2;cases q2;exact⟨o.slots,(oth b λz=>nf ts (by rw[z,x6]at q;cases q;exact x7)).trans q⟩
theorem Stp.then{F Y Z:List Addr}{h h1 h2:Heap}(x:Stp F Y h h1)(y:Stp F Z h1 h2)(hz:∀b o,h.get? b=some o->b∈Z->b∈Y):Stp F Y h h2 :=
 ⟨λb o hb hx q=>y.keep b o hb (λz=>hx (hz b o q z)) (x.keep b o hb hx q),λb o hb q=>by
  obtain⟨sl,q1⟩:=x.slot b o hb q;obtain⟨sl2,q2⟩:=y.slot b _ hb q1;exact⟨sl2,q2⟩⟩
theorem Stp.frames{Y:List Addr}{h h1:Heap}{l:List Env}(x:Stp (frs l) Y h h1)(ff:h.FunFrames base l):h1.FunFrames base l:=by
 have:∀(F:List Addr)(m:List Env),(∀b∈frs m,b∈F)->Stp F Y h h1->h.FunFrames base m->h1.FunFrames base m:=λF m=>by
  induction m with
  |nil=>intro _ _ z;exact z
  |cons v m ih =>
   rintro hs x ⟨k,⟨L,o,f1,f2,f3,f4⟩,r⟩;obtain⟨sl,q⟩:=x.slot L o (hs L (by unfold frs;rw[filterMap_cons,f1];exact mem_cons_self)) f3;exact⟨k,⟨L,_,f1,f2,q,f4⟩,ih (λb hb=>hs b (by unfold frs at hb⊢;rw[filterMap_cons,f1];exact mem_cons_of_mem _ hb)) x r⟩
 exact this _ l (λ_ z=>z) x ff
theorem land{E2:Value->Shared->Prop}(hf:A.frames=some (env :: outer))(ff:s.heap.FunFrames base (env :: outer))(hL:env.frame=some L)(x:rF s.heap e T cls a0)
  (h:∀h' T',Stp (frs (env :: outer)) [e,T] s.heap h'->rF h' e T' cls a0->(s.heap.get? T'=none\/T'=T)->Q () { s with heap:=h' }):wpAny M A (noteFrame (.ref e) env) (λ_ s2=>wpAny M A (setFlight (.ref e) none) Q E s2) E2 s:=by
 refine note hf ff hL (.fly x) λg T' st x hT=>?_
 have hT:s.heap.get? T'=none\/T'=T:=hT.imp id λz=>by simpa using z
 exact qS (s:={ s with heap:=g }) (st.frames ff) x λg2 st2 x2=>h g2 T' (st.then st2 λb o q z=>by
  rcases mem_cons.mp z with z|z
  ·simp[z]
  ·rw[show b=T' by simpa using z]at q⊢;rcases hT with hT|hT
   ·rw[hT]at q;cases q
   ·simp[hT]) x2 hT
theorem wQ{l:List Env}(ff:s.heap.FunFrames base l)(x:rF s.heap e T cls a0)
  (h:∀h' T',Stp (frs l) [e,T] s.heap h'->rF h' e T' cls a0->(s.heap.get? T'=none\/T'=T)->Q () { s with heap:=h' }):wpAny M A (setFlight (.ref e) none) Q E s :=
 qS ff x λh' st x2=>h h' T st x2 (.inr U)
end
variable{P:Program}{H:Hp}{h':Heap}
section
variable{H':Hp}{h:Heap}{a:Addr}{o:HO}{F Y fs:List Addr}
theorem cX.there(x:cX P w H h a o):∃ob,h.get? a=some ob:=by
 cases o with
 |lst xs=>obtain⟨_,_,_,_,e⟩:=x;exact⟨_,e⟩
 |tup xs=>obtain⟨_,_,_,ob,e,_⟩:=x;exact⟨_,e⟩
 |dK kvs=>obtain⟨_,_,_,_,o,_,_,e,_⟩:=x;exact⟨_,e⟩
 |dT kvs=>obtain⟨_,_,_,_,o,_,_,e,_⟩:=x;exact⟨_,e⟩
 |set S n=>obtain⟨o,_,_,_,e,_⟩:=x;exact⟨_,e⟩
 |ins C dx fs=>obtain⟨_,_,_,e,_⟩:=x;exact⟨_,e⟩
 |own y=>obtain⟨_,e⟩:=x;exact⟨_,e⟩
 |xd fs=>obtain⟨_,⟨_,_,_,e,_⟩,_⟩:=x;exact⟨_,e⟩
 |rng lo hi=>obtain⟨_,_,_,e⟩:=x;exact⟨_,e⟩
 |frz ob u=>obtain⟨e,_⟩:=x;exact⟨_,e⟩
 |tbl ps=>exact⟨_,(show h.get? a=some _ from x)⟩
 |met f y=>exact⟨_,(show h.get? a=some _ from x)⟩
 |ext φ=>obtain⟨_,⟨_,e⟩,_⟩:=x;exact⟨_,e⟩
theorem HOk.none_of(x:HOk P w H h)(e:h.get? a=none):H a=none:=by
 cases q:H a with
 |none=>rfl
 |some u =>
  obtain⟨ob,z⟩:=(x a u q).there;rw[e]at z;cases z
theorem HOk.stp(x:HOk P w H h)(st:Stp F Y h h')(hF:∀b∈F,H b=none)(hY:∀b∈Y,H b=none):HOk P w H h':=λa o e =>
 (x a o e).stay (λb u hb q=>by
  have hn:H b≠none:=by
   rcases hb with rfl|hb
   ·rw[e];simp
   ·rw[hb];simp
  exact st.keep b u (λz=>hn (hF b z)) (λz=>hn (hY b z)) q) (λ_ q=>q) λ_ _ q=>q
theorem Un.stp{H0:Hp}{h0:Heap}(u:Un fs [] H0 H h0 h)(st:Stp F Y h h')(h1:∀b o,h0.get? b=some o->b∈F->b∈fs)(h2:∀b∈fs,b∈F)(hY:∀b∈Y,h0.get? b=none):Un fs [] H0 H h0 h':=by
 have nY:∀b o,h0.get? b=some o->b ∉ Y:=λb o q z=>by rw[hY b z]at q;cases q
 refine⟨λb o q n hb hx=>st.keep b o (λz=>hb (h1 b o q z)) (nY b o q) (u.keep b o q n hb hx),λb o q n hb hx=>?_,u.free,λb o q hx=>?_,u.tups,u.frzs,u.tbls⟩
 ·obtain⟨sl,q1⟩:=u.slot b o q n hb hx;obtain⟨sl2,q2⟩:=st.slot b _ (h2 b hb) q1;exact⟨sl2,q2⟩
 ·obtain⟨o1,q1⟩:=u.there b o q hx;by_cases hF:b∈F
  ·obtain⟨sl2,q2⟩:=st.slot b _ hF q1;exact⟨_,q2⟩
  ·exact⟨_,st.keep b o1 hF (nY b o q) q1⟩
end
def CX1(P:Program)(w:World):CXT:=λouter H s E ev s'=>∃(e T C:Addr)(a0:Value×Value)(H':Hp),ev=.ref e/\s'.os=s.os/\AllBare s'.gens/\Un (frs outer) [] H H' s.heap s'.heap/\HOk P w H' s'.heap /\
 rF s'.heap e T (.ref C) a0/\s.heap.get? e=none/\s.heap.get? T=none/\H' e=none/\H' T=none/\∃m,(m=none->a0.2=.none)/\E (.ref C) m H'
structure fg(X:Cx)(pins:List (Addr×Obj))(H:Hp)(b:Addr):Prop where
 ent:X.s₀.heap.get? b=none
 unt:H b=none
 loc:b≠X.env.locals
 cel:∀x c,X.env.cells.lookup x=some c->c≠b
 pin:∀p∈X.pn++pins,p.1≠b
variable{pins:List (Addr×Obj)}{σ:St}
section
variable{T:Addr}
theorem Inv.newAt(I:Inv X pins σ H s)(hx:X.ex=[]){b:Addr}(hb:s.heap.get? b=none):fg X pins H b:=by
 refine⟨?_,I.hok.none_of hb,?_,?_,?_⟩
 ·cases q:X.s₀.heap.get? b with
  |none=>rfl
  |some o =>
   obtain⟨o',q'⟩:=I.base.there b o q (by rw[hx];simp);rw[hb]at q';cases q'
 ·rintro rfl;obtain⟨m,⟨o,_,_,q,_⟩,_⟩:=I.loc;rw[hb]at q;cases q
 ·rintro x c hc rfl;obtain⟨v,o,q,_⟩:=I.cell x c hc;rw[hb]at q;cases q
 ·rintro p hp rfl;obtain⟨q,_⟩:=I.pin p hp;rw[hb]at q;cases q
theorem Inv.excStep(I:Inv X pins σ H s)(hx:X.ex=[])(st:Stp (frs X.stack) [e,T] s.heap h')(ne:fg X pins H e)(nT:fg X pins H T):Inv X pins σ H { s with heap:=h' }:=by
 have nY:∀b∈[e,T],fg X pins H b:=λb hb=>by
  rcases mem_cons.mp hb with rfl|hb
  ·exact ne
  ·rw[show b=T by simpa using hb];exact nT
 have nI:∀b,b≠X.env.locals->b ∉ X.fs->b ∉ frs X.stack:=λb h1 h2 z=>(mem_cons.mp (I.stkSub b z)).elim h1 h2
 have qm:∀b o,X.s₀.heap.get? b=some o->b ∉ [e,T]:=λb o q z=>by rw[(nY b z).ent]at q;cases q
 have neL:∀b o,X.s₀.heap.get? b=some o->b≠X.env.locals:=λb o q=>ne_of_lt (lt_of_lt_of_le (Heap.lt_size q) I.ok.above)
 have any:∀b o,b ∉ [e,T]->s.heap.get? b=some o->∃sl,h'.get? b=some { o with slots:=sl }:=λb o hy q=>by
  by_cases hF:b∈frs X.stack
  ·exact st.slot b o hF q
  ·exact⟨o.slots,st.keep b o hF hy q⟩
 have cellK:∀x c,X.env.cells.lookup x=some c->∀v,s.heap.IsCell c v->h'.IsCell c v:=λx c ec v ⟨o,ho,hd⟩=>by
  obtain⟨sl,q⟩:=any c o (λz=>(nY c z).cel x c ec U) ho;exact⟨_,q,hd⟩
 refine⟨I.ok,I.os,I.bare,⟨λb o q n hb hxx=>?_,λb o q n hb hxx=>?_,I.base.free,λb o q hxx=>?_,I.base.tups,I.base.frzs,I.base.tbls⟩,?_,λx c ec=>?_,I.free,I.freeC,λp hp=>?_,I.hok.stp st I.stkFree (λb hb=>(nY b hb).unt),I.len⟩
 ·exact st.keep b o (nI b (neL b o q) hb) (qm b o q) (I.base.keep b o q n hb hxx)
 ·obtain⟨sl,q1⟩:=I.base.slot b o q n hb hxx;obtain⟨sl2,q2⟩:=any b _ (qm b o q) q1;exact⟨sl2,q2⟩
 ·obtain⟨o1,q1⟩:=I.base.there b o q hxx;obtain⟨sl2,q2⟩:=any b _ (qm b o q) q1;exact⟨_,q2⟩
 ·obtain⟨m,⟨oL,es,ep,hoL,r⟩,hl⟩:=I.loc;obtain⟨sl,q⟩:=any X.env.locals oL (λz=>(nY _ z).loc U) hoL;refine⟨m,⟨_,es,ep,q,r⟩,λi x v e1 e2 e3=>?_⟩;obtain⟨u,ru,l⟩:=hl i x v e1 e2 e3;refine⟨u,ru,?_⟩;rcases l with l|⟨k,c,ec,z⟩
  ·exact .inl l
  ·exact .inr ⟨k,c,ec,cellK x c ec _ z⟩
 ·obtain⟨v,z⟩:=I.cell x c ec;exact⟨v,cellK x c ec v z⟩
 ·obtain⟨q,n,nL,nf,d⟩:=I.pin p hp;exact⟨st.keep p.1 p.2 (nI p.1 nL nf) (λz=>(nY _ z).pin p hp U) q,n,nL,nf,d⟩
end
structure dI(K:W.Frag)(C:Addr):Prop where
 ex:∃(bmB bmN:List Value)(newId B Bn nid tx inN:String),W.excIn K C bmB newId=true/\ExcBaseFacts Bn newId inN bmN/\bmB.contains (Value.type Bn)=true/\ExcBaseFacts B nid tx bmB
theorem dI.value{K:W.Frag}{C:Addr}(h:W.excIn K C [.type "ValueError",.type "Exception",.type "BaseException",.type "object"] "ValueError.__new__" = true):dI K C :=
 ⟨_,_,_,_,_,_,_,_,h,PySem.F.excBase_ValueError,by decide,PySem.F.excBase_ValueError⟩
theorem dI.obj{K:W.Frag}{C:Addr}{h:Heap}{bmB:List Value}{newId:String}(KI:K.In h)(e:W.excIn K C bmB newId=true):∃bm N nm q bs hdct sn sub ab col dd k0 k1 k2 k3 k5 mN,
   h.get? C=some (excClassObj nm q C N bs bm hdct sn sub ab col dd k0 k1 k2 k3 k5 newId)/\h.Ns N mN/\mN "__init__" = none/\OwnTail h bmB bm:=by
 unfold W.excIn at e;split at e
 ·rename_i dd cd sl lk
  split at e
  ·rename_i C' bm k0 k1 k2 k3 n k5 em es
   simp only[and_eq_true,beq_iff_eq,Bool.not_eq_true']at e;obtain⟨⟨⟨⟨⟨rfl,rfl⟩,hd⟩,ht⟩,hn⟩,hi⟩:=e;obtain⟨nm,bs,mro,ns,q,hdct,sn,sub,ab,col,Jn⟩:=cd;dsimp only at em hd ht hn hi;subst em hd;have hsl:sl = #[k0,k1,k2,k3,some (Value.builtin n),k5]:=by
    apply Array.toList_inj.mp
    rw[es]
   subst hsl;exact⟨bm,ns,nm,q,bs,hdct,sn,sub,ab,col,dd,k0,k1,k2,k3,k5,_,KI _ _ lk,Heap.Ns.of_isNs (W.isNs_of_in KI hn),W.nsMap_none_of_in KI hn hi,W.tail_of_in KI ht⟩
  ·cases e
 ·cases e
variable{K:W.Frag}{mg:Str->Option Value}{N:List Str}{scope:Scope}{f:Addr}
section
variable{qual:Str}{cd:Value}{s0:Shared}{H0:Hp}{E:XK}
def wR(C:Addr)(E:XK)(t:TA):TS:=λ_ σ H=>t σ H λvs H1=>vs.length<=sizeLine/\E (.ref C) none H1
end
def XP(X:Cx)(pins:List (Addr×Obj))(σ:St)(EX:Addr->Hp->Prop)(ev:Value)(s':Shared):Prop :=
 ∃(e T C:Addr)(a0:Value×Value)(H':Hp),ev=.ref e/\Inv X pins σ H' s'/\rF s'.heap e T (.ref C) a0/\fg X pins H' e/\fg X pins H' T/\EX C H'
abbrev TX:=St->Hp->VK->(Addr->Hp->Prop)->Prop
def PEX(X:Cx)(e:Expr)(t:TX):Prop :=
 ∀(pins:List (Addr×Obj))(s:Shared)(σ:St)(H:Hp)(Q:VK)(EX:Addr->Hp->Prop),Inv X pins σ H s->t σ H Q EX->wpAny (model X.prog X.w) X.A (eval e X.env) (EP X pins σ Q) (XP X pins σ EX) s
def de(P:Program)(w:World)(K:W.Frag)(mg:Str->Option Value)(base:Heap)(k:Nat)(x:Str)(ps:List Str)(sp:Sp):Prop :=
 ∃f fd,bg P w K mg base (CX1 P w) k f fd ps sp/\Binds K fd ps []/\W.keepIn K (.ref f)=true/\mg x=some (.ref f)
theorem de.mono{P:Program}{w:World}{K:W.Frag}{mg:Str->Option Value}{base:Heap}{j k:Nat}{x:Str}{ps:List Str}{sp:Sp}(C:de P w K mg base j x ps sp)(h:j<=k):de P w K mg base k x ps sp:=by
 obtain⟨f,fd,F,r⟩:=C;exact⟨f,fd,F.mono h,r⟩
section
variable{s':Shared}
theorem Inv.afterX{E:XK}{EX:Addr->Hp->Prop}{ev:Value}(I:Inv X pins σ H s)(hx:X.ex=[])(hE:∀C m H',E (.ref C) m H'->EX C H')(h:CX1 X.prog X.w X.stack H s E ev s'):XP X pins σ EX ev s':=by
 obtain⟨e,T,C,a0,H',rfl,os,bare,un,hok,x,ne,nT,he,hT,m,_,q⟩:=h;have I':Inv X pins σ H' s':=I.call' (ch:=[]) os un hok bare λb z=>absurd z (by simp)
 have a:=I.newAt hx ne;have b:=I.newAt hx nT;exact⟨e,T,C,a0,H',U,I',x,⟨a.ent,he,a.loc,a.cel,a.pin⟩,⟨b.ent,hT,b.loc,b.cel,b.pin⟩,hE _ _ _ q⟩
end
variable{x:Str}{ps:List Str}{sp:Sp}{es:List Expr}{t:TA}{p pos:Pos}
section
variable{k:Nat}{e:Expr}
abbrev TSX:=Ends->St->Hp->(Addr->Hp->Prop)->Prop
def PSX(X:Cx)(st:Stmt)(t:TSX):Prop :=
 ∀(pins:List (Addr×Obj))(s:Shared)(σ:St)(H:Hp)(D:Ends)(EX:Addr->Hp->Prop),Inv X pins σ H s->t D σ H EX->wpAny (model X.prog X.w) X.A (exec st X.env) (SP X pins D) (XP X pins σ EX) s
def yJ(i:Nat)(te:TX):TSX:=λD σ H EX=>te σ H (λv H1=>D.nx (σ.set i (some v)) H1) EX
theorem vd{i:Nat}{y:Str}{e:Expr}{te:TX}{pos':Pos}(hN:X.N.Nodup)(hi:X.N[i]?=some y)(hx:Loc X.env.scope y)(he:PEX X e te)(hs:swapsWith e (some (.Name y pos')) pos.line X.env=pure false:=by rfl)(hf:X.fn y=true\/X.env.scope.names.lookup y=some .local:=by first|exact .inl U|exact .inr U|assumption) :
  PSX X (.Assign [.Name y pos'] e pos) (yJ i te):=by
 intro pins s σ H D EX I h;refine wpAny_Assign_Name (thn (he pins s σ H _ EX I h) λv s1 ⟨y,H1,I1,r1,q1⟩=>?_) hs;exact gI I1 hN hi hx r1 (λs2 I2=>⟨_,H1,I2,q1⟩) hf
end
def sfx(X:Cx)(e:Addr)(oe:Obj):Cx:={ X with A:=X.A.mark (some (.ref e)),calm:=false,pn:=(e,oe) :: X.pn,xe:=λ_ _=>False }
section
variable{s':Shared}
theorem Inv.suite(I:Inv X pins σ H s)(he:s.heap.get? e=some oe)(hn:fg X pins H e)(hd:∀v,oe.data≠.cell v)(hf:e ∉ X.fs):Inv (sfx X e oe) pins σ H s:=by
 refine⟨⟨I.ok.mod,I.ok.kind,I.ok.glob,I.ok.blt,I.ok.above,I.ok.inj,I.ok.has,I.ok.cab,λz=>absurd z Bool.false_ne_true,I.ok.frames,I.ok.stk,I.ok.exf,I.ok.bs,I.ok.bsz,I.ok.noex,I.ok.exfs,I.ok.funs,I.ok.frf⟩,I.os,I.bare,I.base,I.loc,I.cell,I.free,I.freeC,λp hp=>?_,I.hok,I.len⟩;rcases mem_cons.mp (show p∈(e,oe) :: (X.pn++pins)from hp)with rfl|hp
 ·exact⟨he,hn.unt,hn.loc,hf,hd⟩
 ·exact I.pin p hp
theorem Inv.unsuite(ok:X.Ok)(I:Inv (sfx X e oe) pins σ H s):Inv X pins σ H s :=
 ⟨ok,I.os,I.bare,I.base,I.loc,I.cell,I.free,I.freeC,λp hp=>I.pin p (mem_cons_of_mem (e,oe) hp),I.hok,I.len⟩
theorem Inv.excObj(I:Inv (sfx X e oe) pins σ H s):s.heap.get? e=some oe:=(I.pin (e,oe) (mem_append_left _ mem_cons_self)).1
theorem Inv.unbound{i:Nat}{x:Str}{m:Str->Option Value}{u:Option Value}{h':Heap}(I:Inv X pins σ H s)(hi:X.N[i]?=some x)(hN:X.N.Nodup)(hm:s.heap.Ns X.env.locals m)(ns:h'.Ns X.env.locals λy=>if y=x then u else m y)(hs:Heap.SameBut X.env.locals s.heap h') :
  Inv X pins (σ.set i none) H { s with heap:=h' }:=by
 have cne:=I.cne;obtain⟨oL,_,_,hoL,_⟩:=id hm;refine⟨I.ok,I.os,I.bare,⟨λb o e n hb hx=>?_,λb o e n hb hx=>?_,I.base.free,λb o e hx=>?_,I.base.tups,I.base.frzs,I.base.tbls⟩,⟨_,ns,λj y v' e1 e2 e3=>?_⟩,λy c e=>?_,I.free,I.freeC,λp hp=>?_,?_,by simpa using I.len⟩
 ·exact(hs.2 b (ne_of_lt (lt_of_lt_of_le (Heap.lt_size e) I.ok.above))).trans (I.base.keep b o e n hb hx)
 ·obtain⟨sl,e1⟩:=I.base.slot b o e n hb hx;exact⟨sl,(hs.2 b (ne_of_lt (lt_of_lt_of_le (Heap.lt_size e) I.ok.above))).trans e1⟩
 ·obtain⟨o',e1⟩:=I.base.there b o e hx;exact⟨o',(hs.2 b (ne_of_lt (lt_of_lt_of_le (Heap.lt_size e) I.ok.above))).trans e1⟩
 ·by_cases hj:j=i
  ·subst hj;by_cases hlt:j<σ.length
   ·rw[getElem?_set_self hlt]at e2;cases e2
   ·rw[getElem?_eq_none (by simpa using hlt)]at e2;cases e2
  ·rw[getElem?_set_ne (Ne.symm hj)]at e2;obtain⟨m2,hm2,hl⟩:=I.loc;obtain⟨u',r',q⟩:=hl j y v' e1 e2 e3;have em:m2=m:=by rw[hm2.eq_nsMap,hm.eq_nsMap]
   subst em;refine⟨u',r',?_⟩;rcases q with⟨k,e⟩|⟨k,c,e,z⟩
   ·refine .inl ⟨k,?_⟩;have:y≠x:=λe=>hj (ll hN e1 (e ▸ hi))
    simp[this,e]
   ·exact .inr ⟨k,c,e,z.sameBut hs (cne y c e)⟩
 ·obtain⟨w',z⟩:=I.cell y c e;exact⟨w',z.sameBut hs (cne y c e)⟩
 ·obtain⟨e,n,ne,nf,d⟩:=I.pin p hp;exact⟨(hs.2 p.1 ne).trans e,n,ne,nf,d⟩
 ·intro b ob e;refine(I.hok b ob e).stay (λc w' hc q=>(hs.2 c ?_).trans q) (λ_ q=>q) λ_ _ q=>q
  rintro rfl;rcases hc with rfl|hc
  ·rw[I.free]at e;cases e
  ·rw[I.free]at hc;cases hc
end
theorem hZ{M:Model}{A:Around}{E:Value->Shared->Prop}{i:Nat}{x:Str}{pos:Pos}{Q:Unit->Shared->Prop}(I:Inv X pins σ H s)(hN:X.N.Nodup)(hi:X.N[i]?=some x)(hk:X.env.scope.names.lookup x=some .local)
  (h:∀s',Inv X pins (σ.set i none) H s'->Q () s'):wpAny M A (do bindName X.env x Value.none;unbindBehindTheSuite X.env x pos) Q E s:=by
 refine wpAny_bind (wpAny_bindName (gI I hN hi (.inl hk) (v:=.non) (u:=Value.none) U (λs1 I1=>?_) (.inr hk)));refine wpAny_onRaise ?_;obtain⟨m,hm,hl⟩:=I1.loc;have hiσ:i<σ.length:=by rw[I.len];exact(Jx.mp hi).1
 obtain⟨u,ru,l⟩:=hl i x .non hi (by rw[getElem?_set_self hiσ]) (.inl hk);have wo:(X.env.scope.kind == .class || (X.env.scope.kind == .module && X.env.locals != X.env.globals))=false:=by rw[I.ok.kind];rfl
 rcases l with⟨k,em⟩|⟨k,_⟩
 ·refine wpAny_unbindName_local hk hm em wo λh' v ns sb=>?_
  have J:=I1.unbound hi hN hm ns sb;rw[List.set_set]at J;exact h _ J
 ·exfalso;have hk':X.env.kindOf x=some .local:=hk;rcases k with k|k
  ·rw[hk']at k;cases k
  ·rw[hk']at k;cases k
def Bd(i:Nat)(B:Addr)(K:W.Frag)(G:Addr->Prop)(tb:TSX)(ts:Addr->Addr->TS):TS:=λD σ H=>tb D σ H λC H1=>W.exmOne K (.ref C) (.ref B)=some true/\G C /\
 ∀e,ts C e { nx:=λσ' H'=>D.nx (σ'.set i none) H',rt:=D.rt,bk:=λσ' H'=>D.bk (σ'.set i none) H',ct:=λσ' H'=>D.ct (σ'.set i none) H' } (σ.set i (some (.ref e))) H1
variable{np:Pos}
section
variable{st b₀:Stmt}{su:List Stmt}{tb:TSX}{ts:Addr->Addr->TS}{Tn n:Str}{B:Addr}{i:Nat}{tD:Pos}
theorem wU{G:Addr->Prop}(hb:PSX X st tb)(hx:X.ex=[])(hst:X.stack=X.env :: X.outer)(hfr:X.env.frame=some X.env.locals)(hg:Gl X Tn)(hm:X.mg Tn=some (.ref B))(hN:X.N.Nodup)(hi:X.N[i]?=some n)(hk:X.env.scope.names.lookup n=some .local)
  (hs:∀(C e:Addr)(oe:Obj),G C->oe.cls=.ref C->PSs (sfx X e oe) (b₀ :: su) (ts C e))(hdb:(Tn == ("__debug__" : Str))=false:=by decide) :
  PS X (.Try [st] [.ExceptHandler (some (.Name Tn np)) (some n) (b₀ :: su) tD] [] [] pos) (Bd i B X.K G tb ts):=by
 intro pins s σ H D I h;refine wpAny_Try_except ?_;refine wpAny_execs_cons (wpAny_mono (hb pins s σ H D _ I h) (λf s1 q=>?_) λev s1 q=>?_)
 ·cases f with
  |next=>exact wpAny_execs_nil (wpAny_execs_nil q)
  |ret v=>exact q
  |brk=>exact q
  |cont=>exact q
 obtain⟨e,T,C,a0,H1,rfl,I1,x,ne,nT,hex,hG,q⟩:=q;have fr1:X.A.frames=some (X.env :: X.outer):=by rw[←hst];exact I1.ok.frames
 have ff1:s1.heap.FunFrames X.base (X.env :: X.outer):=by rw[←hst];exact I1.stack
 refine land fr1 ff1 hfr x λh2 T2 st2 x2 hT2=>?_
 rw[←hst]at st2;have I2:=I1.excStep hx st2 ne nT;have nT2:fg X pins H1 T2:=by
  rcases hT2 with z|z
  ·exact I1.newAt hx z
  ·rw[z];exact nT
 have vU:∀{b:Addr}{o:Obj}{vs:Array Value}{hh:Heap},hh.FunFrames X.base X.stack->hh.get? b=some o->o.data=.fields vs->b ∉ X.fs:=λ{b o vs hh} ff g d z=>by
  have z':b∈frs X.stack:=by rw[hst];unfold frs;rw[filterMap_cons,hfr];exact mem_cons_of_mem _ z
  obtain⟨_,o2,g2,nf⟩:=ff.mem z';rw[g]at g2;cases g2;exact nf vs d
 have I2':=I2;obtain⟨oe,vs,oT,ts2,y1,⟨y2,y2'⟩,y3,y4,y5,y6,y7,y8⟩:=id x2;have S2:Inv (sfx X e oe) pins σ H1 { s1 with heap:=h2 }:=I2.suite y1 ne (λv z=>by rw[y3]at z;cases z) (vU I2.stack y1 y3);refine wpAny_handleBy_cons ?_ (by intro z;cases z);refine codeAny_handlers_test (d7 (X:=sfx X e oe) S2 hg hm ?_ hdb);refine W.exm_one (h:=h2) S2.kIn (λA' Q' E' s' k r=>by
  have z:=wpAny_typeOf_ref (M:=model X.prog X.w) (A:=A') (E:=E') (Q:=Q') (k _ _ y1);rw[y2]at z;exact z r) hex _ _ _ _ (λb o g=>g) ?_
 rw[if_pos U];refine codeAny_handlers_suite_as ?_;refine wQ (s:={ s1 with heap:=h2 }) (l:=X.stack) I2.stack x2 λh3 T3 st3 x3 hT3=>?_
 have I3:=I2.excStep hx st3 ne nT2;obtain⟨oe3,vs3,oT3,ts3,z1,⟨z2,z2'⟩,z3,z4,z5,z6,z7,z8⟩:=id x3;have S3:Inv (sfx X e oe3) pins σ H1 { s1 with heap:=h3 }:=I3.suite z1 ne (λv z=>by rw[z3]at z;cases z) (vU I3.stack z1 z3);refine gI (X:=sfx X e oe3) S3 hN hi (.inl hk) (v:=.ref e) (u:=.ref e) U (λs4 S4=>?_) (.inr hk);refine wpAny_mono (hs C e oe3 hG z2 pins s4 _ H1 _ S4 (q e)) (λfl s5 q5=>?_) λ_ _ z=>False.elim z
 cases fl with
 |next =>
  obtain⟨σ5,H5,S5,q5⟩:=q5;exact hZ (S5.unsuite I.ok) hN hi hk λs6 I6=>⟨_,H5,I6,q5⟩
 |brk =>
  obtain⟨σ5,H5,S5,q5⟩:=q5;exact hZ (S5.unsuite I.ok) hN hi hk λs6 I6=>⟨_,H5,I6,q5⟩
 |cont =>
  obtain⟨σ5,H5,S5,q5⟩:=q5;exact hZ (S5.unsuite I.ok) hN hi hk λs6 I6=>⟨_,H5,I6,q5⟩
 |ret u =>
  obtain⟨v,σ5,H5,S5,r5,q5⟩:=q5;exact hZ (S5.unsuite I.ok) hN hi hk λs6 I6=>⟨v,_,H5,I6,r5,q5⟩
end
structure fh(K:W.Frag)(C:Addr):Prop where
 ga:W.findIn K (.ref C) "__getattribute__" = some (some (.builtin "BaseException.__getattribute__"))
 hk:W.findIn K (.ref C) "__getattr__" = some none
 cl:W.findIn K (.ref C) "__class__" = some (some (.builtin "object.__class__"))
 gt:W.specialIn K (.builtin "object.__class__") "__get__" = some (some (.builtin "getset_descriptor.__get__"))
 tk:W.takesIn K (.builtin "object.__class__")=some true
 ob:W.mroIn K C (.type "object")=some true
 be:W.mroIn K C (.type "BaseException")=some true
 me:W.kitCls K (.ref C) (.ref C)=some true
variable{C:Addr}
theorem fX{hh:Heap}(g:hh.get? e=some oe)(c:oe.cls=.ref C){M:Model}:W.Looks M hh (typeOf (.ref e)) (.ref C):=λA' Q' E' s' k r=>by
 have z:=wpAny_typeOf_ref (M:=M) (A:=A') (E:=E') (Q:=Q') (k _ _ g);rw[c]at z;exact z r
theorem my{R:Result->Shared->Prop}{tp:Value}(KI:K.In s.heap)(g:s.heap.get? e=some oe)(c:oe.cls=.ref C)(hm:W.mroIn K C (.type "object")=some true) (h:R (.ok (.ret (.ref C))) s) :
  codeAny (model prog w) A (.call (.builtin "getset_descriptor.__get__") ⟨[.builtin "object.__class__",.ref e,tp],[]⟩) R s:=by
 have L0:∀{M:Model},W.Looks M s.heap (typeOf (.ref e)) (.ref C):=fX g c;have L1:∀{M:Model},W.Looks M s.heap (isSubtype (.ref C) (.type "object")) true:=W.looks_mroIn KI hm;refine codeAny_call_builtin W.KF.slot_gs.plain W.KF.entry_gs (W.KF.slot_gs.check _ _ _ _ _ _ _ _ W.KF.type_class (W.KF.args_gs _ _ tp) ?_);show wpAny _ _ (do let __x ←Builtin.Getset_descriptor.descrGetArgs ⟨[.builtin "object.__class__",.ref e,tp],[]⟩;match __x with|(d,obj,snd)=>Builtin.Getset_descriptor.descrGetter d obj) _ _ s;rw[W.dga_obj];refine wpAny_bind (wpAny_pure ?_);show wpAny _ _ (do Builtin.Getset_descriptor.descrCheckInstance (.builtin "object.__class__") (.ref e);again (Code.builtin "object.__class__" ⟨[.ref e],[]⟩)) _ _ s;have dn:Builtin.Getset_descriptor.descrNameAndClass (.builtin "object.__class__")=pure (Str.ofString "__class__",Value.type "object"):=by
  show pure (Str.ofString (Builtin.Getset_descriptor.descrOwnerAndName "object.__class__").2,Value.type (Builtin.Getset_descriptor.descrOwnerAndName "object.__class__").1)=_;rw[W.KF.owner_class]
 unfold Builtin.Getset_descriptor.descrCheckInstance;rw[dn];refine wpAny_bind (wpAny_bind (wpAny_pure ?_));refine wpAny_bind (wpAny_bind (L0 _ _ _ _ (λ_ _ q=>q) (L1 _ _ _ _ (λ_ _ q=>q) ?_)));refine wpAny_ite_false U (wpAny_pure ?_);refine wpAny_pure ⟨Code.quiet_builtin _ (by decide+kernel),codeAny_builtin W.KF.entry_class ?_⟩;refine wpAny_bind (wpAny_bind (L0 _ _ _ _ (λ_ _ q=>q) ?_));refine wpAny_ite_false U (wpAny_pure (wpAny_pure h))
theorem rG{M:Model}{vV:Value}{Q:Unit->Shared->Prop}(KI:K.In s.heap)(g:s.heap.get? e=some oe)(c:oe.cls=.ref C)(hm:W.mroIn K C (.type "BaseException")=some true) (h:Q () s) :
  wpAny M A (checkBuiltinCall "BaseException.__getattribute__" ⟨[.ref e,vV],[]⟩) Q E s:=by
 have hk:builtinKind "BaseException.__getattribute__" = some .slot:=by decide+kernel
 have hsp:splitId "BaseException.__getattribute__" = some ("BaseException","__getattribute__"):=by decide+kernel
 have ha:=PySem.F.args_bexc_ga (.ref e) vV;unfold checkBuiltinCall;rw[hk,hsp];refine wpAny_bind (wpAny_bind (fX g c _ _ _ _ (λ_ _ q=>q) (W.looks_mroIn KI hm _ _ _ _ (λ_ _ q=>q) ?_)));refine wpAny_ite_false U ?_;unfold argsOk at ha;generalize Manifest.signature? "BaseException.__getattribute__" = sg at ha⊢;cases sg with
 |none=>exact wpAny_pure h
 |some sig=>exact wpAny_of_eq ha h
theorem rH{Q:Option Value->Shared->Prop}(KI:K.In s.heap)(X:fh K C)(g:s.heap.get? e=some oe)(c:oe.cls=.ref C)(h:Q (some (.ref C)) { s with toks:=s.toks+1 }):wpAny (model prog w) A (getAttr? (.ref e) "__class__") Q E s:=by
 have L0:∀{M:Model},W.Looks M s.heap (typeOf (.ref e)) (.ref C):=fX g c;refine wpAny_bind (wpAny_mkText (wpAny_bind (wpAny_attempt (wpAny_holding (wpAny_bind (L0 _ _ _ _ (λ_ _ q=>q) (wpAny_bind (W.looks_findIn KI X.ga _ _ _ _ (λ_ _ q=>q) ?_))))))));refine wpAny_ite_false U ?_;refine wpAny_bind ?_;show wpAny _ _ (if onTheHeap (.ref C)=true then typeLookup (.ref C) "__getattr__" else pure none) _ _ _;refine wpAny_ite_true U (W.looks_findIn KI X.hk _ _ _ _ (λ_ _ q=>q) ?_);refine wpAny_bind (wpAny_attempt (wpAny_holding ?_));show wpAny _ _ (if (false && onTheHeap (.builtin "BaseException.__getattribute__"))=true then _ else boundAndCalled (.builtin "BaseException.__getattribute__") (.ref e) (Value.str (Str.ofString "__class__") s.toks)) _ _ _;refine wpAny_ite_false U (wpAny_bind (wpAny_of_eq (PySem.F.attr_ValueError.ga.bind (.ref e)) (wpAny_call ?_)));refine codeAny_call_builtin PySem.F.attr_ValueError.ga.plain PySem.F.entry_bexc_ga (rG (s:={ s with toks:=s.toks+1 }) KI g c X.be ?_);refine wpAny_bind (wpAny_of_eq (show slotArgs "__getattribute__" 1 ⟨[.ref e,Value.str (Str.ofString "__class__") s.toks],[]⟩=pure (Value.ref e,[Value.str (Str.ofString "__class__") s.toks])from U) ?_);refine wpAny_bind (wpAny_of_eq (show Builtin.ObjectAttr.attrName (Value.str (Str.ofString "__class__") s.toks)=pure (Str.ofString "__class__")from U) ?_);refine wpAny_bind (L0 _ _ _ _ (λ_ _ q=>q) ?_);refine wpAny_bind ?_;unfold Builtin.ObjectAttr.find;refine wpAny_bind (W.looks_findIn KI X.cl _ _ _ _ (λ_ _ q=>q) ?_);refine wpAny_bind (W.looks_specialIn KI X.gt _ _ _ _ (λ_ _ q=>q) ?_);refine wpAny_bind (wpAny_bind (W.looks_takesIn KI X.tk _ _ _ _ (λ_ _ q=>q) (wpAny_ite_true U (wpAny_pure ?_))));refine wpAny_bind (wpAny_rule (wpAny_pure ?_));refine wpAny_bind (wpAny_holding (wpAny_call (my (s:={ s with toks:=s.toks+1 }) KI g c X.ob ?_)));exact wpAny_pure (W.handed_on U (wpAny_pure h))
theorem lG(X:fh K C)(c:oe.cls=.ref C):W.KitX K (.ref e) (.ref C) λh=>h.get? e=some oe where
 ty:=λM h KI g=>fX g c
 it:=λM h KI g=>(W.kit_cls KI X.me).2.1
 ne:=λh tp dd its n sl KI g=>by
  refine eq_false_iff.mpr λz=>?_
  have z':=Value.ref.inj (beq_iff_eq.mp z);subst z';have m:=X.be;unfold W.mroIn W.clsIn at m;cases q:List.lookup C K with
  |none=>rw[q]at m;cases m
  |some o =>
   have k:=KI C o q;rw[g]at k;have k':=Option.some.inj k;rw[q,←k']at m;cases m
 ca:=λ{prog w A E Q s} KI g h=>rH KI X g c h
theorem mU:∀{cs:List Addr}{us:List Value},Vals (cs.map V.ref) us->us=cs.map Value.ref
 | [],_,.nil=>rfl
 |c :: cs,_,.cons r t=>by rw[mU t];exact congrArg (· :: cs.map Value.ref) r
theorem fH(c:oe.cls=.ref C)(L:fh X.K C):eZ (sfx X e oe) (.builtin "isinstance") (λxs H Q=>∃y b,xs=[.ref e,y]/\((∃B,y=.ref B/\W.kitOne X.K (.ref C) (.ref B)=some b)\/(∃T,y=.ty T/\W.kitOne X.K (.ref C) (.type T)=some b) \/
  (∃(tp:Addr)(cs:List Addr),y=.ref tp/\H tp=some (.tup (cs.map V.ref))/\W.kitAny X.K (.ref C) (cs.map Value.ref)=some b))/\Q (.bl b) H):=by
 intro pins s σ H xs us Q I r h;obtain⟨y,b,rfl,hy,q⟩:=h;have g:=I.excObj;have KI:X.K.In s.heap:=I.kIn;cases r with
 |cons rx r2 =>
  cases r2 with
  |cons ry r3 =>
   cases r3;cases (show _=Value.ref e from rx);have fin:∀tk,EP (sfx X e oe) pins σ Q (Value.bool b) { s with toks:=tk }:=λtk=>⟨.bl b,H,I.tok tk,U,q⟩
   rcases hy with⟨B,rfl,k⟩|⟨T,rfl,k⟩|⟨tp,cs,rfl,ht,k⟩
   ·cases (show _=Value.ref B from ry);exact W.kia_one (lG L c) KI g k (λz=>nomatch z) fin
   ·cases (show _=Value.type T from ry);exact W.kia_one (lG L c) KI g k (λz=>nomatch z) fin
   ·cases (show _=Value.ref tp from ry);obtain⟨_,its,rv,⟨cl,dd,dt,sl⟩,g2,g3,n,g4⟩:=I.hok tp _ ht;have ei:=mU rv;subst ei;dsimp only at g3 g4;subst g3 g4;exact W.kia_tup (lG L c) KI g g2 k (λz=>nomatch z) fin
inductive yK(c:Str)(Q:VK)(x:V)(H1:Hp):Prop
 |mk (z:Str)(_:x=.str z)(_:z.length<=1000)(_:(∀n∈z.cps.toList,n<16^8))(_:c.length<=1000)(_:∀z2:Str,Q (.str z2) H1):yK c Q x H1
def tFr(c:Str)(ta:TE):TE:=λσ H Q=>ta σ H λx H1=>yK c Q x H1
theorem len_app(x y:Str):(x++y).length=x.length+y.length:=by
 show(Str.append x y).cps.size=x.cps.size+y.cps.size;unfold Str.append;simp
theorem vW{a:Expr}{ta:TE}{c:Str}{k:Nat}{p1 p2 pos:Pos}(ha:PE X a ta):PE X (.JoinedStr [.FormattedValue a 114 none p1,.Constant (.str c) k p2] pos) (tFr c ta):=by
 intro pins s σ H Q I h;refine wpAny_JoinedStr (Joins_cons (wpAny_FormattedValue_repr (thn (ha pins s σ H _ I h) λv s1 ⟨x,H1,I1,r1,z,ez,hz,hc,hl,q⟩=>?_)));subst ez;obtain⟨t,rfl⟩:=r1;have hr:=StrLaws.reprText_len z hc;have hb:∀n,n<=20000->n<=sizeLine:=λn hn=>le_trans hn (by decide)
 refine pyReprObj_str (formatField_str (λt' tk=>?_) (hb _ (by lia))) (hb _ (by lia));have e0:∀y:Str,(Str.empty++y).length=y.length:=λy=>by rw[len_app];show 0+_=_;lia
 refine⟨_,_,U,hb _ (by rw[e0];lia),Joins_cons ?_⟩;have J:Inv X pins σ H1 { s1 with toks:=tk }:=I1.tok tk;refine thn (ba (X:=X) (x:=c) (j:=k) (pos:=p2) pins { s1 with toks:=tk } σ H1 (λv H'=>v=.str c/\H'=H1) J ⟨U,U⟩) λv s2 ⟨y,H2,I2,r2,e1,e2⟩=>?_
 subst e1 e2;obtain⟨t2,rfl⟩:=r2;refine⟨_,_,U,hb _ (by rw[len_app,e0];lia),Joins_nil ⟨hb _ (by rw[len_app,e0];lia),?_⟩⟩;exact⟨.str _,H2,I2.tok _,⟨_,U⟩,q _⟩
def d8(CX:CXT)(P:Program)(w:World)(K:W.Frag)(mg:Str->Option Value)(base:Heap)(k:Nat)(C:Addr)(m:Str)(ps:List Str)(sp:Sp):Prop :=
 ∃f fd,Meth K C m f/\bg P w K mg base CX k f fd ps sp/\Binds K fd ps []
def aU(CX:CXT)(P:Program)(w:World)(K:W.Frag)(mg:Str->Option Value)(base:Heap)(k:Nat)(x:Str)(C:Addr)(ps:List Str)(sp:Sp):Prop :=
 ∃f fd,Mk K C f/\bg P w K mg base CX k f fd ps sp/\Binds K fd ps []/\mg x=some (.ref C)
structure yL(K:W.Frag)(B:Addr)(m:Str)(f:Addr):Prop where
 sp:W.specialIn K (.ref B) "__getattribute__" = some (some (.builtin "type.__getattribute__"))
 rd:W.readsIn K B (.type "type")=true
 at_:W.findCls K (.ref B) (.type "type") m=some (.val (.ref f))
 kp:W.keepIn K (.ref f)=true
def bQ(CX:CXT)(P:Program)(w:World)(K:W.Frag)(mg:Str->Option Value)(base:Heap)(k:Nat)(x:Str)(m:Str)(ps:List Str)(sp:Sp):Prop :=
 ∃f fd B,yL K B m f/\bg P w K mg base CX k f fd ps sp/\Binds K fd ps []/\mg x=some (.ref B)
variable{CX:CXT}{m:Str}
section
variable{j k:Nat}
theorem d8.mono(c:d8 CX P w K mg base j C m ps sp)(h:j<=k):d8 CX P w K mg base k C m ps sp:=by
 obtain⟨f,fd,M,F,b⟩:=c;exact⟨f,fd,M,F.mono h,b⟩
theorem aU.mono(c:aU CX P w K mg base j x C ps sp)(h:j<=k):aU CX P w K mg base k x C ps sp:=by
 obtain⟨f,fd,M,F,b⟩:=c;exact⟨f,fd,M,F.mono h,b⟩
theorem bQ.mono(c:bQ CX P w K mg base j x m ps sp)(h:j<=k):bQ CX P w K mg base k x m ps sp:=by
 obtain⟨f,fd,B,M,F,b⟩:=c;exact⟨f,fd,B,M,F.mono h,b⟩
end
def tMk(C:Addr)(sp:Sp)(t:TA):TE:=λσ H Q=>t σ H λvs H1=>∀x dx,H1 x=none->H1 dx=none->dx≠x ->
 sp (.ref x :: vs) (upd (upd H1 dx (.own x)) x (.ins C dx [])) (λv H2=>v=.non/\Q (.ref x) H2) E0
def Be(C:Addr)(sp:Sp)(t:TA):TX:=λσ H Q EX=>t σ H λvs H1=>∀x dx,H1 x=none->H1 dx=none->dx≠x ->
 sp (.ref x :: vs) (upd (upd H1 dx (.own x)) x (.ins C dx [])) (λv H2=>v=.non/\Q (.ref x) H2) λcv _ H3=>∃C',cv=.ref C'/\EX C' H3
variable{fd:FuncData}{apos:Pos}{o:Expr}{ta:TE}
section
variable{k:Nat}{e:Expr}
theorem wV{pins:List (Addr×Obj)}{σ:St}{H:Hp}{s:Shared}{Q:VK}{us:List Value}{vs:List V}{E:XK}(F:bg X.prog X.w X.K X.mg X.base CX k f fd ps sp)(hr:cU k X.A)(hb:Binds X.K fd ps [])(hx:Passes CX X E)
  (I:Inv X pins σ H s)(r:Vals vs us)(h:sp vs H Q E):wpAny (model X.prog X.w) X.A (call (.ref f) us) (EP X pins σ Q) X.xe s :=
 sM (dvs:=[]) (ds:=[]) F hr hb .nil hx I r (by rw[append_nil];exact h)
theorem fi{pl:Sem Bool}(M:bQ CX X.prog X.w X.K X.mg X.base k x m ps sp)(hx:Passes CX X E0)(hr:cU k X.A)(hg:Gl X x)(ha:PA X (e :: es) t)(hdb:(x == ("__debug__" : Str))=false:=by decide)
  (hst:starEach (e :: es) X.env=(false,eval e X.env) :: starEach es X.env:=by rfl)(hpl:(backTo pos (starEach es X.env)).any (·.1)=false:=by rfl)
  (ht:eval (.Call (.Attribute (.Name x np) m apos) (e :: es) [] pos) X.env=(do
   let ov ←eval (.Name x np) X.env
   standAt apos.atName
   let (f,first) ←holding [ov] (getMethod ov m pl)
   callWith pos f first (backTo pos (starEach (e :: es) X.env)) (backToKw pos (keywordEach [] X.env))):=by rfl) :
  PE X (.Call (.Attribute (.Name x np) m apos) (e :: es) [] pos) (tFn sp t):=by
 obtain⟨f,fd,B,hB,F,hb,hm⟩:=M;intro pins s σ H Q I h;refine W.methodCall_KW (pl:=pl) (d7 I hg hm ?_ hdb) ht;refine W.method_cls I.kIn hB.sp (W.cls_value (mc:=.type "type") I.kIn hB.rd hB.at_ (mK (v:=.ref f) U) ?_);refine W.callWith_K (first:=[]) (h₀:=X.base) I.ok.mod.kin hB.kp (thn (ha pos pins _ σ H _ (I.tok _) h) λus s2 ⟨vs,H2,I2,r,q2⟩=>⟨I2.kIn,?_⟩) hst hpl;exact wV (us:=us) (vs:=vs) F hr hb hx I2 r q2
theorem dG(M:aU CX X.prog X.w X.K X.mg X.base k x C ps sp)(hx:Passes CX X E0)(hr:cU (k+1) X.A)(hg:Gl X x)(ha:PA X (e :: es) t)(hdb:(x == ("__debug__" : Str))=false:=by decide)
  (he:starEach (e :: es) X.env=(false,eval e X.env) :: starEach es X.env:=by rfl)(hpl:(backTo pos (starEach es X.env)).any (·.1)=false:=by rfl) :
  PE X (.Call (.Name x p) (e :: es) [] pos) (tMk C sp t):=by
 obtain⟨f,fd,M,F,hb,hm⟩:=M;have h:=uY (E:=E0) (dvs:=[]) (ds:=[]) (p:=p) M F hr hg hm hb .nil hx ha hdb he hpl;intro pins s σ H Q I q;refine h pins s σ H Q I ?_;have q':t σ H λvs H1=>∀x dx,H1 x=none->H1 dx=none->dx≠x->sp (.ref x :: vs) (upd (upd H1 dx (.own x)) x (.ins C dx [])) (λv H2=>v=.non/\Q (.ref x) H2) E0:=q
 show t σ H λvs H1=>∀x dx,H1 x=none->H1 dx=none->dx≠x->sp (.ref x :: (vs++[])) (upd (upd H1 dx (.own x)) x (.ins C dx [])) (λv H2=>v=.non/\Q (.ref x) H2) E0
 have e1:(λ(vs:List V)(H1:Hp)=>∀x dx,H1 x=none->H1 dx=none->dx≠x->sp (.ref x :: (vs++[])) (upd (upd H1 dx (.own x)) x (.ins C dx [])) (λv H2=>v=.non/\Q (.ref x) H2) E0)=λvs H1=>∀x dx,H1 x=none->H1 dx=none->dx≠x->sp (.ref x :: vs) (upd (upd H1 dx (.own x)) x (.ins C dx [])) (λv H2=>v=.non/\Q (.ref x) H2) E0:=by
  funext vs H1
  rw[append_nil]
 rw[e1];exact q'
theorem wW(M:aU (CX1 X.prog X.w) X.prog X.w X.K X.mg X.base k x C ps sp)(hx:X.ex=[])(hr:cU (k+1) X.A)(hg:Gl X x)(ha:PA X.nox (e :: es) t)(hdb:(x == ("__debug__" : Str))=false:=by decide)
  (he:starEach (e :: es) X.env=(false,eval e X.env) :: starEach es X.env:=by rfl)(hpl:(backTo pos (starEach es X.env)).any (·.1)=false:=by rfl) :
  PEX X (.Call (.Name x p) (e :: es) [] pos) (Be C sp t):=by
 obtain⟨f,fd,M,F,hb,hm⟩:=M;intro pins s σ H Q EX I h;refine wpAny_Call_Name_kw (d7 I hg hm ?_ hdb);refine W.callWith_K (h₀:=X.base) I.ok.mod.kin M.kp (wpAny_mono (ha pos pins s σ H _ (I.wish _) h) (λus s1 ⟨vs,H1,I1,r,q⟩=>⟨I1.kIn,?_⟩) λ_ _ z=>False.elim z) he hpl;have J:Inv X pins σ H1 s1:=I1.unwish;have hq:=q (s1.heap.objs.size+1) s1.heap.objs.size (J.hok.fresh (le_succ _)) (J.hok.fresh (le_refl _)) (ne_of_lt (lt_succ_self _));have I2:=Inv.made (C:=C) J;have r2:Vals (V.ref (s1.heap.objs.size+1) :: vs) (Value.ref (s1.heap.objs.size+1) :: us):=.cons U r;have hl:(Value.ref (s1.heap.objs.size+1) :: us).length=ps.length:=by
  have e:=r2.length;rw[F.len _ _ _ _ hq]at e;exact e.symm
 have bt:∀s':Shared,X.K.In s'.heap->BindsTo s' fd ⟨Value.ref (s1.heap.objs.size+1) :: us,[]⟩ (ps.zip (Value.ref (s1.heap.objs.size+1) :: us)):=λs' kI=>by
  have z:=hb s' (Value.ref (s1.heap.objs.size+1) :: us) kI (by rw[append_nil];exact hl);rw[append_nil]at z;exact z
 refine wpAny_call (pj (f:=f) J.kIn M.makes M.init (beq_iff_eq.mp M.fn) (codeAny_mono (F.run _ X.stack _ _ ⟨Value.ref (s1.heap.objs.size+1) :: us,[]⟩ (Value.ref (s1.heap.objs.size+1) :: us) _ _ (λcv _ H3=>∃C',cv=.ref C'/\EX C' H3) (hr.make C us [])
  (I2.env0.make C us []) (bt _ I2.kIn) r2 hq) λr s' hq'=>?_))
 cases r with
 |error ev=>exact I2.afterX (E:=λcv _ H2=>∃C,cv=.ref C/\EX C H2) hx (λC m H' z=>by obtain⟨C',e1,z⟩:=z;cases e1;exact z) hq'
 |ok fl =>
  cases fl with
  |ret u =>
   obtain⟨v,H',I3,rv,ev,q3⟩:=I2.after hq';subst ev;exact⟨rv,⟨V.ref (s1.heap.objs.size+1),H',I3,U,q3⟩⟩
  |next=>exact False.elim hq'
  |brk=>exact False.elim hq'
  |cont=>exact False.elim hq'
end
theorem fY{X:Cx}{K:W.Frag}{e:Expr}{f:Str}{pos:Pos}{ta:TE}(h:X.K=K)(he:PE X e ta)(hb:attributeBase e f X.env (eval e X.env)=eval e X.env):PE X (.Attribute e f pos) (yr K ta f):=h ▸ bu he hb
set_option maxRecDepth 100000
section
variable{κ:Type} [DecidableEq κ]
def cntK(ks:List κ):Nat->Nat
 |0=>0
 |i+1=>match ks[i]? with
  |some k=>if k∈ks.take i then cntK ks i else cntK ks i+1
  |none=>cntK ks i
theorem jq(ks:List κ):∀i,cntK ks i<=i
 |0=>le_refl _
 |i+1=>by
  have ih:=jq ks i;unfold cntK;split
  ·split <;> lia
  ·lia
theorem ia(ks:List κ):∀i,i<=ks.length->(cntK ks i=i↔(ks.take i).Nodup)
 |0,_=>by simp[cntK]
 |i+1,h=>by
  have ih:=ia ks i (by lia);have le:=jq ks i;have e:ks[i]?=some ks[i]:=Jw (by lia);have et:ks.take (i+1)=ks.take i++[ks[i]]:=by rw[List.take_add_one,e];rfl
  unfold cntK;rw[e,et,nodup_append];dsimp only;by_cases m:ks[i]∈ks.take i
  ·rw[if_pos m];exact⟨λz=>absurd z (by lia),λz=>absurd U (z.2.2 _ m _ (by simp))⟩
  ·rw[if_neg m];refine⟨λz=>⟨ih.mp (by lia),by simp,λa ha b hb=>?_⟩,λz=>by rw[ih.mpr z.1]⟩;rw[show b=ks[i] by simpa using hb];exact λq=>m (q ▸ ha)
variable{knd:KeyKind prog w κ}
theorem iJ{h h':Heap}{a:Addr}{S:κ->Bool}{n:Nat}(x:h.SetOf knd a S n)(k:∀o,h.get? a=some o->h'.get? a=some o):h'.SetOf knd a S n:=by
 obtain⟨o,es,ep,t,ho,r⟩:=x;exact⟨o,es,ep,t,k o ho,r⟩
theorem lH{h:Heap}{a:Addr}{S S':κ->Bool}{n n':Nat}(x:h.SetOf knd a S n)(e1:S=S')(e2:n=n'):h.SetOf knd a S' n':=e1 ▸ e2 ▸ x
theorem rJ{R:Result->Shared->Prop}{I:Addr}{fp wr:List Addr}{G:Array GenState->Array GenState->Prop}{n:Nat}{P:Nat->Value->Prop}{St:Nat->Shared->Prop}(W:WalksS prog w A.in1 I fp wr G n P St){a:Addr}(ha:a ∉ fp){ks:List κ}
  (hv:∀i v,P i v->∃k,ks[i]?=some k/\knd.is k v=true/\v.scannable=true)(hb:n+1<scanBound):∀(d i:Nat)(s:Shared),n=i+d->St i s->s.heap.SetOf knd a (λk=>decide (k∈ks.take i)) (cntK ks i) ->
   (∀s',Moved (a :: wr) G s s'->s'.heap.SetOf knd a (λk=>decide (k∈ks.take n)) (cntK ks n)->R (.ok (.ret .none)) s')->codeAny (model prog w) A (.builtin "set.update.loop" ⟨[.ref a,.ref I],[]⟩) R s:=by
 have hw:a ∉ wr:=λz=>ha (W.sub a z)
 intro d;induction d with
 |zero =>
  intro i s e st x fin;rw[show n=i by lia]at W fin;refine codeAny_builtin (R:=R) (A:=A) F.entry_set_update_loop ?_;rw[Around.under_plainId (A:=A) F.plain_set_update_loop _];show wpAny (model prog w) A.in1 (pyNext (.ref I) >>= _) _ _ s;exact wpAny_bind (W.done s _ _ st λs' m=>wpAny_pure (fin s' (m.mono λb hb=>mem_cons_of_mem a hb) (iJ x λo q=>m.heap a o hw q)))
 |succ d ih =>
  intro i s e st x fin;refine codeAny_builtin (R:=R) (A:=A) F.entry_set_update_loop ?_;rw[Around.under_plainId (A:=A) F.plain_set_update_loop _];show wpAny (model prog w) A.in1 (pyNext (.ref I) >>= _) _ _ s;refine wpAny_bind (W.item i s _ _ (by lia) st λv s1 p st1 m=>?_);obtain⟨k,ek,ik,sc⟩:=hv i v p;have x1:=iJ x λo q=>m.heap a o hw q
  show wpAny (model prog w) A.in1 (holding [v] (setAdd a v) >>= _) _ _ s1;refine wpAny_bind (wpAny_holding (show wpAny (model prog w) A.in1 (setAdd a v) _ _ s1 from ?_));unfold setAdd;refine wpAny_holding (wpAny_bind (knd.pyHash ik ?_));have le:=jq ks i;refine wpAny_setAddHashed_of (knd:=knd) (s:={ s1 with toks:=s1.toks+1 }) ik sc x1 (by lia) λh' sb x2=>?_
  have et:ks.take (i+1)=ks.take i++[k]:=by rw[List.take_add_one,ek];rfl
  have x3:h'.SetOf knd a (λq=>decide (q∈ks.take (i+1))) (cntK ks (i+1)):=by
   refine lH x2 (funext λq=>?_) ?_
   ·rw[et];by_cases z:q∈ks.take i <;> by_cases y:q=k <;> simp[z,y]
   ·show(if decide (k∈ks.take i)=true then cntK ks i else cntK ks i+1)=match ks[i]? with|some k=>if k∈ks.take i then cntK ks i else cntK ks i+1|none=>cntK ks i
    rw[ek];by_cases z:k∈ks.take i <;> simp[z]
  refine wpAny_pure ⟨plainId_quiet F.plain_set_update_loop _,ih (i+1) { s1 with heap:=h',toks:=s1.toks+1 } (by lia) (W.frame (i+1) s1 h' (s1.toks+1) st1 (le_succ _) λb hbf o q=>(sb.2 b λz=>ha (z ▸ hbf)).trans q) x3 λs2 m2 x4=>?_⟩;refine fin s2 (Moved.trans W.gtrans ((m.mono λb hb=>mem_cons_of_mem a hb).then_heap (le_succ _) λb o hbn q=>?_) m2) x4;exact(sb.2 b λz=>hbn (z ▸ mem_cons_self)).trans q
abbrev iK(led:Bool):Obj:={ cls:=.type "set",dict:=none,data:=.set #[] 0 (.fresh 0 0 led) }
def Filled(knd:KeyKind prog w κ)(s:Shared)(ks:List κ)(h':Heap):Prop :=
 h'.SetOf knd s.heap.objs.size (λk=>decide (k∈ks)) (cntK ks ks.length)/\∀b o,b<s.heap.objs.size->s.heap.get? b=some o->h'.get? b=some o
theorem tE{l:Addr}{items:Array Value}{ks:List κ}{led:Bool}(hh:A.handled=none)(hl:s.heap.IsList l items)(hk:∀(i:Nat)(v:Value),items[i]?=some v->∃k,ks[i]?=some k/\knd.is k v=true/\v.scannable=true)(hn:ks.length=items.size)(hb:items.size+1<scanBound) :
  codeAny (model prog w) A (.call (.builtin "set.__init__") ⟨[.ref s.heap.objs.size,.ref l],[]⟩) (wants (λr s2=>r=.none/\∃h' tk,s2={ s with heap:=h',toks:=tk }/\Filled knd s ks h') E) { s with heap:=s.heap.push (iK led) }:=by
 have g0:(s.heap.push (iK led)).get? s.heap.objs.size=some (iK led):=Heap.get?_push_size s.heap U;have ty:Shared.TypeIs { s with heap:=s.heap.push (iK led) } (.ref s.heap.objs.size) "set" := ⟨iK led,g0,U⟩;refine codeAny_call_builtin F.called_set.init.plain F.entry_set_init (check_set_init_1 ty ?_);obtain⟨⟨c1,c2,c3,c4⟩,ho,hc,m,hd⟩:=hl;dsimp only at hc hd;subst hc hd;have g1:(s.heap.push (iK led)).get? l=some { cls:=.type "list",dict:=c2,data:=.seq items m,slots:=c4 }:=Heap.get?_push_of_some _ ho;have y1:=F.sub_list_set;have y2:=F.sub_list_frozenset;have y3:(Value.type "list" == Value.type "dict")=false:=by decide
 have l1:(s.heap.push (iK led)).IsList l items:=⟨_,g1,U,m,U⟩;have lt:l<s.heap.objs.size:=Heap.lt_size ho;unfold Builtin.«set.__init__» Builtin.Frozenset.updateFrom noKeywords;generalize hI:pyIter=it
 wp_walk
 subst hI;refine wpAny_pyIter_list l1 (wpAny_bind (wpAny_runValue ?_));have nl:l≠(s.heap.push (iK led)).objs.size:=by rw[Heap.size_push];exact ne_of_lt (lt_succ_of_lt lt)
 have nf:s.heap.objs.size ∉ [(s.heap.push (iK led)).objs.size,l]:=by
  rw[Heap.size_push];intro z;rcases mem_cons.mp z with z|z
  ·exact absurd z (ne_of_lt (lt_succ_self _))
  ·exact absurd (by simpa using z) (ne_of_gt lt)
 refine rJ (knd:=knd) ((Walks.list (by simp[hh]) _ l nl items).toS) nf (ks:=ks) hk hb items.size 0 _ (Nat.zero_add _).symm ⟨⟨_,Heap.get?_push_size _ U,U,U⟩,l1.push _⟩ (lH ((setObjOf_fresh (knd:=knd) led).setOf (Heap.get?_push_of_some _ g0) (by unfold scanBound;lia)) (funext λk=>by simp) U) λs' mv x=>?_
 obtain⟨h',g',d',t',o'⟩:=s';obtain rfl:g'=s.gens:=mv.gens;obtain rfl:d'=s.drawn:=mv.drawn;obtain rfl:o'=s.os:=mv.os;refine wpAny_pure (show wpAny (model prog w) _ (ret Value.none) _ _ _ from wpAny_pure ⟨U,h',t',U,?_,λb o hb' q=>?_⟩)
 ·rw[←hn]at x;exact lH x (funext λk=>by rw[take_length]) U
 ·refine mv.heap b o (λz=>?_) (Heap.get?_push_of_some _ (Heap.get?_push_of_some _ q));rcases mem_cons.mp z with z|z
  ·exact absurd z (ne_of_lt hb')
  ·have z2:b=(s.heap.push (iK led)).objs.size:=by simpa using z
   rw[Heap.size_push]at z2;exact absurd z2 (ne_of_lt (lt_succ_of_lt hb'))
set_option maxRecDepth 100000 in
theorem rK{l:Addr}{items:Array Value}{ks:List κ}{Q:Value->Shared->Prop}(hh:A.handled=none)(hl:s.heap.IsList l items)(hk:∀(i:Nat)(v:Value),items[i]?=some v->∃k,ks[i]?=some k/\knd.is k v=true/\v.scannable=true)(hn:ks.length=items.size)(hb:items.size+1<scanBound)
  (h:∀h' tk,Filled knd s ks h'->Q (.ref s.heap.objs.size) { s with heap:=h',toks:=tk }):wpAny (model prog w) A (call (.type "set") [.ref l]) Q E s:=by
 obtain⟨c,tl,mro⟩:=F.called_set.mro;have a1:=F.called_set.made;have a2:=F.called_set.sub;have a3:=F.called_set.notType;have a4:=F.called_set.canCreate;have a5:=F.typeCall_set_1 (.ref l);refine wpAny_call (codeAny_of_tree (show wpAny (model prog w) _ (callAny (.type "set") _) _ _ _ from wpAny_pure ⟨Code.quiet_builtin _ (by decide+kernel),codeAny_builtin F.entry_type_call ?_⟩));rw[Around.under_plain (A:=A) (weight_type_call_type "set" [.ref l] []) U]
 repeat (any_goals (first|assumption|wp_step))
 refine codeAny_mono (code_set_new_1 (.ref l) (E:=E) (Q₁:=λob s1=>∃led,ob=.ref s.heap.objs.size/\s1={ s with heap:=s.heap.push (iK led) }) λled=>⟨led,U,U⟩) λr s1 hr=>?_
 cases r with
 |error e=>exact hr
 |ok fl =>
  cases fl with
  |ret ob =>
   obtain⟨led,rfl,rfl⟩:=hr;have g0:(s.heap.push (iK led)).get? s.heap.objs.size=some (iK led):=Heap.get?_push_size s.heap U;have ty:Shared.TypeIs { s with heap:=s.heap.push (iK led) } (.ref s.heap.objs.size) "set" := ⟨iK led,g0,U⟩;have b1:=F.called_set.init.lookup;have b2:=F.called_set.init.bind (.ref s.heap.objs.size)
   repeat (any_goals (first|assumption|wp_step))
   refine codeAny_mono (tE (E:=E) (knd:=knd) (by simp[hh]) hl hk hn hb) λr2 s2 hr2=>?_
   cases r2 with
   |error e=>exact hr2
   |ok f2 =>
    cases f2 with
    |ret r =>
     obtain⟨rfl,h',tk,rfl,x⟩:=hr2
     repeat (any_goals (first|assumption|wp_step))
     exact h h' tk x
    |_=>exact hr2.elim
  |_=>exact hr.elim
end
def kC(P:Program)(w:World)(a:Addr)(zs:List Str):HO:=.ext λh=>h.SetOf (strKind P w) a (λz=>decide (z∈zs)) (cntK zs zs.length)
theorem mV:∀{zs:List Str}{us:List Value},Vals (zs.map V.str) us->∀(i:Nat)(v:Value),us[i]?=some v->∃z t,zs[i]?=some z/\v=.str z t
 | [],_,.nil,i,v,h=>by simp at h
 |z :: zs,_,.cons ⟨t,e⟩ r,0,v,h=>by simp at h;exact⟨z,t,U,by rw[←h,e]⟩
 |z :: zs,_,.cons _ r,i+1,v,h=>by
  obtain⟨z',t,e1,e2⟩:=mV r i v (by simpa using h);exact⟨z',t,by simpa using e1,e2⟩
theorem fA(hc:X.calm=true):eZ X (.type "set") (λxs H Q=>∃(p:Addr)(zs:List Str),xs=[.ref p]/\SqL X.K H p (zs.map V.str)/\zs.length<=1000/\∀l,H l=none->Q (.ref l) (upd H l (kC X.prog X.w l zs))):=by
 intro pins s σ H xs us Q I r h;obtain⟨p,zs,rfl,hS,hz,q⟩:=h;obtain⟨u,rfl,ru⟩:=r.one;obtain rfl:u=Value.ref p:=ru;obtain⟨its,rv,pl,_⟩:=I.list hS;have hl:=rv.length;rw[length_map]at hl;refine rK (knd:=strKind X.prog X.w) (ks:=zs) (I.ok.hd hc) pl.isList (λi v e=>?_) (by simpa using hl) (by unfold scanBound;simp;lia) λh' tk x=>?_
 ·obtain⟨z,t,e1,rfl⟩:=mV rv i v (by simpa using e);exact⟨z,e1,by show Value.isStrOf z (.str z t)=true;simp[Value.isStrOf],U⟩
 ·obtain⟨x1,x2⟩:=x;refine⟨.ref s.heap.objs.size,_,I.laid (a:=s.heap.objs.size) (o:=kC X.prog X.w s.heap.objs.size zs) (h':=h') (t':=tk) (λb o q=>x2 b o (Heap.lt_size q) q) (le_refl _) ?_,U,q _ I.fresh⟩;refine⟨x1,?_,λh1 h2 y k=>iJ y k⟩;obtain⟨o,_,_,_,g,_⟩:=x1;exact⟨o,g⟩
section
variable{Y:List Addr}
theorem Inv.excStepY(I:Inv X pins σ H s)(st:Stp (frs X.stack) Y s.heap h')(nY:∀b∈Y,fg X pins H b):Inv X pins σ H { s with heap:=h' }:=by
 have nI:∀b,b≠X.env.locals->b ∉ X.fs->b ∉ frs X.stack:=λb h1 h2 z=>(mem_cons.mp (I.stkSub b z)).elim h1 h2
 have qm:∀b o,X.s₀.heap.get? b=some o->b ∉ Y:=λb o q z=>by rw[(nY b z).ent]at q;cases q
 have neL:∀b o,X.s₀.heap.get? b=some o->b≠X.env.locals:=λb o q=>ne_of_lt (lt_of_lt_of_le (Heap.lt_size q) I.ok.above)
 have any:∀b o,b ∉ Y->s.heap.get? b=some o->∃sl,h'.get? b=some { o with slots:=sl }:=λb o hy q=>by
  by_cases hF:b∈frs X.stack
  ·exact st.slot b o hF q
  ·exact⟨o.slots,st.keep b o hF hy q⟩
 have cellK:∀x c,X.env.cells.lookup x=some c->∀v,s.heap.IsCell c v->h'.IsCell c v:=λx c ec v ⟨o,ho,hd⟩=>by
  obtain⟨sl,q⟩:=any c o (λz=>(nY c z).cel x c ec U) ho;exact⟨_,q,hd⟩
 refine⟨I.ok,I.os,I.bare,⟨λb o q n hb hxx=>?_,λb o q n hb hxx=>?_,I.base.free,λb o q hxx=>?_,I.base.tups,I.base.frzs,I.base.tbls⟩,?_,λx c ec=>?_,I.free,I.freeC,λp hp=>?_,I.hok.stp st I.stkFree (λb hb=>(nY b hb).unt),I.len⟩
 ·exact st.keep b o (nI b (neL b o q) hb) (qm b o q) (I.base.keep b o q n hb hxx)
 ·obtain⟨sl,q1⟩:=I.base.slot b o q n hb hxx;obtain⟨sl2,q2⟩:=any b _ (qm b o q) q1;exact⟨sl2,q2⟩
 ·obtain⟨o1,q1⟩:=I.base.there b o q hxx;obtain⟨sl2,q2⟩:=any b _ (qm b o q) q1;exact⟨_,q2⟩
 ·obtain⟨m,⟨oL,es,ep,hoL,r⟩,hl⟩:=I.loc;obtain⟨sl,q⟩:=any X.env.locals oL (λz=>(nY _ z).loc U) hoL;refine⟨m,⟨_,es,ep,q,r⟩,λi x v e1 e2 e3=>?_⟩;obtain⟨u,ru,l⟩:=hl i x v e1 e2 e3;refine⟨u,ru,?_⟩;rcases l with l|⟨k,c,ec,z⟩
  ·exact .inl l
  ·exact .inr ⟨k,c,ec,cellK x c ec _ z⟩
 ·obtain⟨v,z⟩:=I.cell x c ec;exact⟨v,cellK x c ec v z⟩
 ·obtain⟨q,n,nL,nf,d⟩:=I.pin p hp;exact⟨st.keep p.1 p.2 (nI p.1 nL nf) (λz=>(nY _ z).pin p hp U) q,n,nL,nf,d⟩
end
def wX(X:Cx)(L:Addr)(E:XK):Value->Shared->Prop:=λev s'=>∃(e C:Addr)(a0:Value×Value)(Ts:List Addr)(pins:List (Addr×Obj))(σ:St)(H':Hp),ev=.ref e/\Inv X pins σ H' s'/\tu s'.heap L e (.ref C) a0 Ts/\(∀b∈e :: Ts,fg X pins H' b)/\∃m,(m=none->a0.2=.none)/\E (.ref C) m H'
theorem eH{X:Cx}{L:Addr}{E:XK}(hst:X.stack=X.env :: X.outer)(hfr:X.env.frame=some L)(hx:X.ex=[]):PassesOwn (model X.prog X.w) X.A X.env (wX X L E):=by
 rintro ev s1 ⟨e,C,a0,Ts,pins,σ,H,rfl,I,x,ny,q⟩;have fr1:X.A.frames=some (X.env :: X.outer):=by rw[←hst];exact I.ok.frames
 have ff1:s1.heap.FunFrames X.base (X.env :: X.outer):=by rw[←hst];exact I.stack
 refine note fr1 ff1 hfr x λh2 T st x2 hT=>?_
 rw[←hst]at st;have I2:=I.excStepY st ny;have nT:fg X pins H T:=by
  rcases hT with z|z
  ·exact I.newAt hx z
  ·exact ny T (mem_cons_of_mem e z)
 have n2:∀b∈[e,T],fg X pins H b:=λb hb=>by
  rcases mem_cons.mp hb with z|z
  ·rw[z];exact ny e mem_cons_self
  ·rw[show b=T by simpa using z];exact nT
 show wpAny (model X.prog X.w) X.A (do
  if (←field (.ref e) 1) == .none then unsupported "frame.own-activation:exception-without-traceback"
  setFlight (.ref e) X.env.frame) _ _ { s1 with heap:=h2 }
 obtain⟨oe,vs,oT,ts,y1,y2,y3,y4,y5,y6,y7,y8⟩:=id x2;refine wpAny_bind (wpAny_field (s:={ s1 with heap:=h2 }) y1 y3 y4 ?_);rw[if_neg (show ¬ (Value.ref T == Value.none)=true by simp)];show wpAny (model X.prog X.w) X.A (setFlight (.ref e) X.env.frame) _ _ _;rw[hfr];refine qS (s:={ s1 with heap:=h2 }) (l:=X.stack) I2.stack x2 λh3 st3 x3=>?_
 exact⟨e,C,a0,[T],pins,σ,H,U,I2.excStepY st3 n2,.held x3,n2,q⟩
section
variable{qual:Str}{cd:Value}{s0:Shared}{H0:Hp}{E:XK}
abbrev cxE(P:Program)(w:World)(K:W.Frag)(mg:Str->Option Value)(base:Heap)(N:List Str)(qual:Str)(scope:Scope)(f:Addr)(cd:Value)(A:Around)(outer:List Env)(s0:Shared)(H0:Hp)(E:XK):Cx :=
 (jm (CX1 P w) P w K mg base N qual scope f cd A outer s0 H0 E).wish (wX (jm (CX1 P w) P w K mg base N qual scope f cd A outer s0 H0 E) s0.heap.objs.size E)
theorem rL{ev:Value}{s:Shared}(h:wX (jm (CX1 P w) P w K mg base N qual scope f cd A outer s0 H0 E) s0.heap.objs.size E ev s):(jm (CX1 P w) P w K mg base N qual scope f cd A outer s0 H0 E).xe ev s:=by
 obtain⟨e,C,a0,Ts,pins,σ,H,rfl,I,x,ny,q⟩:=h;have fr1:(jm (CX1 P w) P w K mg base N qual scope f cd A outer s0 H0 E).A.frames=some (envOfC qual scope s0.heap.objs.size f cd :: outer):=I.ok.frames;have hL:(envOfC qual scope s0.heap.objs.size f cd).frame=some s0.heap.objs.size:=rfl;show wpAny (model P w) _ (leaving (envOfC qual scope s0.heap.objs.size f cd) (.ref e)) _ _ s;unfold leaving;refine wpAny_bind (note fr1 I.stack hL x λh2 T st x2 hT=>?_);have I2:=I.excStepY st ny;have nT:fg (jm (CX1 P w) P w K mg base N qual scope f cd A outer s0 H0 E) pins H T:=by
  rcases hT with z|z
  ·exact I.newAt U z
  ·exact ny T (mem_cons_of_mem e z)
 have ne:=ny e mem_cons_self;have n2:∀b∈[e,T],fg (jm (CX1 P w) P w K mg base N qual scope f cd A outer s0 H0 E) pins H b:=λb hb=>by
  rcases mem_cons.mp hb with z|z
  ·rw[z];exact ne
  ·rw[show b=T by simpa using z];exact nT
 refine qS (s:={ s with heap:=h2 }) (l:=envOfC qual scope s0.heap.objs.size f cd :: outer) I2.stack x2 λh3 st3 x3=>?_
 refine⟨e,T,C,a0,H,U,I2.os,I2.bare,I2.base.stp st3 (λb o q hb=>?_) (λb hb=>?_) (λb hb=>(n2 b hb).ent),I2.hok.stp st3 I2.stkFree (λb hb=>(n2 b hb).unt),x3,ne.ent,nT.ent,ne.unt,nT.unt,q⟩
 ·rcases mem_cons.mp (I2.stkSub b hb)with z|z
  ·exact absurd (lt_of_lt_of_le (Heap.lt_size q) I2.ok.above) (by rw[z];exact lt_irrefl _)
  ·exact z
 ·show b∈frs (envOfC qual scope s0.heap.objs.size f cd :: outer);unfold frs;rw[filterMap_cons];exact mem_cons_of_mem _ hb
theorem PSs.leaves{st:List Stmt}{t:TS}(h:PSs (cxE P w K mg base N qual scope f cd A outer s0 H0 E) st t):PSs (jm (CX1 P w) P w K mg base N qual scope f cd A outer s0 H0 E) st t:=λpins s σ H D I hw =>
 wpAny_mono (h pins s σ H D (I.wish _) hw) (λ_ _ q=>q.unwish) λ_ _ z=>rL z
theorem Fun.okE{x:Str}{st:Stmt}{fd:FuncData}{ps:List Str}{k:Nat}{sp:Sp}(F:Fun K x qual st f fd)(S:aJ N ps (ao st))(len:∀vs H Q E,sp vs H Q E->vs.length=ps.length)
  (pw:∀(cdv:Value)(A:Around)(outer:List Env)(s:Shared)(H:Hp)(vs:List V)(Q:VK)(E:XK),cU k (A.deeper (envOfC qual (ao st) s.heap.objs.size f cdv))->sp vs H Q E ->
   ∃t,PSs (cxE P w K mg base N qual (ao st) f cdv A outer s H E) (aG st) t/\t { nx:=λ_ H'=>Q .non H',rt:=Q } (start N vs) H):bg P w K mg base (CX1 P w) (k+1) f fd ps sp:=by
 obtain⟨oc,od,kV,doc,pm,an,cdv,ct,osl,rfl,lk,hcd⟩:=F.ex;refine vR lk hcd S len λA outer s H vs Q E hr hsp=>?_
 obtain⟨t,h,q⟩:=pw cdv A outer s H vs Q E hr hsp;exact⟨t,h.leaves,q⟩
theorem dJ{x:Str}{C:Addr}{np gM pos:Pos}{e₀:Expr}{es:List Expr}{t:TA}(X:dI K C)(hd:A.handled=none)(hg:Gl (cxE P w K mg base N qual scope f cd A outer s0 H0 E) x)(hm:mg x=some (.ref C))
  (ha:PA (cxE P w K mg base N qual scope f cd A outer s0 H0 E) (e₀ :: es) t)(hdb:(x == ("__debug__" : Str))=false:=by decide)
  (he:starEach (e₀ :: es) (envOfC qual scope s0.heap.objs.size f cd)=(false,eval e₀ (envOfC qual scope s0.heap.objs.size f cd)) :: starEach es (envOfC qual scope s0.heap.objs.size f cd):=by rfl)
  (hpl:(backTo gM (starEach es (envOfC qual scope s0.heap.objs.size f cd))).any (·.1)=false:=by rfl) :
  PS (cxE P w K mg base N qual scope f cd A outer s0 H0 E) (.Raise (some (.Call (.Name x np) (e₀ :: es) [] gM)) none pos) (wR C E t):=by
 intro pins s σ H D I h;obtain⟨bmB,bmN,newId,B,Bn,nid,tx,inN,hx,F1,F2,F3⟩:=X.ex;obtain⟨bm,N',nm,q,bs,hdct,sn,sub,ab,col,dd,k0,k1,k2,k3,k5,mN,o1,o2,o3,o4⟩:=dI.obj I.ok.mod.kin hx;refine wpAny_Raise_call_subU (C:=C) (nm:=nm) (q:=q) (N:=N') (bs:=bs) (bm:=bm) (hdct:=hdct) (sn:=sn) (sub:=sub) (ab:=ab) (col:=col) (dd:=dd) (k0:=k0) (k1:=k1) (k2:=k2) (k3:=k3) (k5:=k5) F1 F2 F3 (OwnTail.hasType o4 F3.hasBase) hd (by
  show(backTo gM (starEach (e₀ :: es) (envOfC qual scope s0.heap.objs.size f cd))).any (·.1)=false;rw[he];show(false || (backTo gM (starEach es (envOfC qual scope s0.heap.objs.size f cd))).any (·.1))=false;rw[hpl];rfl) (mN:=mN) o3 (d7 I hg hm ⟨U,?_⟩ hdb)
 show wpAny _ _ (evalArgs (.ref C) true (backTo gM (starEach (e₀ :: es) (envOfC qual scope s0.heap.objs.size f cd))) []) _ _ s;rw[he];refine Calls.evalArgs_plain ?_;have z:wpAny (model P w) (cxE P w K mg base N qual scope f cd A outer s0 H0 E).A (spliced (backTo gM (starEach (e₀ :: es) (envOfC qual scope s0.heap.objs.size f cd)))) _ _ s:=ha gM pins s σ H _ I h;rw[he]at z;refine thn z λus s2 ⟨vs,H2,I2,r,hl,q2⟩=>⟨U,by rw[←r.length];exact hl,?_⟩
 refine⟨I2.bk C _ o1,?_,o4.keeps I2.bk,λh' e m=>?_⟩
 ·obtain⟨o,es',ep,g1,g2⟩:=o2;exact⟨o,es',ep,I2.bk _ _ g1,g2⟩
 ·have J:=I2.unwish;obtain⟨t',he',_,_⟩:=m.there;refine⟨e,C,(.ref t',.none),[],pins,σ,H2,U,J.kept (t':=s2.toks) m.keeps,.fresh he' U U U U U,λb hb=>?_,none,λ_=>U,q2⟩;rw[show b=e by simpa using hb];exact J.newAt U m.new
theorem qT:Passes (CX1 P w) (cxE P w K mg base N qual scope f cd A outer s0 H0 E) E:=λpins σ H s ev s' I h=>by
 obtain⟨e,T,C,a0,H',rfl,os,bare,un,hok,x,ne,nT,he,hT,q⟩:=h;have J:=(I.unwish).call' (ch:=[]) os un hok bare λb z=>absurd z (by simp)
 have a:=(I.unwish).newAt U ne;have c:=(I.unwish).newAt U nT;refine⟨e,C,a0,[T],pins,σ,H',U,J,.fly x,λb hb=>?_,q⟩;rcases mem_cons.mp hb with z|z
 ·rw[z];exact⟨a.ent,he,a.loc,a.cel,a.pin⟩
 ·rw[show b=T by simpa using z];exact⟨c.ent,hT,c.loc,c.cel,c.pin⟩
end
theorem fB:eZ X (.builtin "len") (λxs H Q=>∃(l:Addr)(zs:List Str),xs=[.ref l]/\H l=some (kC X.prog X.w l zs)/\zs.length<=1000/\Q (.int ((cntK zs zs.length:Nat):Int)) H):=by
 intro pins s σ H xs us Q I r h;obtain⟨l,zs,rfl,e,hz,q⟩:=h;obtain⟨u,rfl,ru⟩:=r.one;obtain rfl:u=Value.ref l:=ru;obtain⟨⟨o,es,ep,t,g1,g2,g3,_,_,_,g4,g5⟩,_,_⟩:=I.hok l _ e;have le:=jq zs zs.length;refine call_len_set g1 g2 g3 g4 (by rw[g5];lia) ⟨.int _,H,I.tok _,⟨_,U⟩,?_⟩;rw[g5];exact q
def Bf(sp:Sp)(E:XK)(t:TA):TE:=λσ H Q=>t σ H λvs H1=>sp vs H1 Q E
section
variable{k:Nat}{e:Expr}{E:XK}
theorem nJ(M:de X.prog X.w X.K X.mg X.base k x ps sp)(hx:Passes (CX1 X.prog X.w) X E)(hr:cU k X.A)(hg:Gl X x)(ha:PA X (e :: es) t)(hdb:(x == ("__debug__" : Str))=false:=by decide)
  (he:starEach (e :: es) X.env=(false,eval e X.env) :: starEach es X.env:=by rfl)(hpl:(backTo pos (starEach es X.env)).any (·.1)=false:=by rfl):PE X (.Call (.Name x p) (e :: es) [] pos) (Bf sp E t):=by
 obtain⟨f,fd,F,b,kk,hm⟩:=M;intro pins s σ H Q I h;refine wpAny_Call_Name_kw (d7 I hg hm ?_ hdb);refine W.callWith_K (h₀:=X.base) I.ok.mod.kin kk (thn (ha pos pins s σ H _ I h) λus s1 ⟨vs,H1,I1,r,q⟩=>⟨I1.kIn,wV F hr b hx I1 r q⟩) he hpl
end
def TyG(K:W.Frag)(H:Hp)(x:V)(t:Value):Prop:=jR K H x t\/∃a ys,x=.ref a/\SqT K H a ys/\t=.type "tuple"
inductive ClV:V->Value->Prop where
 |ty (T:String):ClV (.ty T) (.type T)
 |ref (C:Addr):ClV (.ref C) (.ref C)
theorem dM:eZ X (.builtin "isinstance") (λxs H Q=>∃x c cv t b,xs=[x,c]/\ClV c cv/\TyG X.K H x t/\W.kitOne X.K t cv=some b/\Q (.bl b) H):=by
 intro pins s σ H xs us Q I r h;obtain⟨x,c,cv,t,b,rfl,rc,ty,e,q⟩:=h;cases r with
 |cons rx r2 =>
  cases r2 with
  | @cons _ cu _ _ ry r3 =>
   cases r3;have ec:cu=cv:=by cases rc <;> exact ry
   subst ec;rcases ty with ty|⟨a,ys,rfl,hS,rfl⟩
   ·exact rq I rx ty e λtk=>⟨.bl b,H,I.tok tk,U,q⟩
   ·cases (show _=Value.ref a from rx);obtain⟨its,r,⟨o,h1,h2,_⟩,_⟩:=I.tuple hS;exact W.kia_one W.kitx_tuple I.kIn ⟨o,h1,h2⟩ e (λz=>nomatch z) λtk=>⟨.bl b,H,I.tok tk,U,q⟩
structure kD(K:W.Frag)(C:Addr):Prop where
 cl:Cls K C
 ha:W.findIn K (.ref C) "__class__" = some (some (.builtin "object.__class__"))
 hn:W.specialIn K (.builtin "object.__class__") "__get__" = some (some (.builtin "getset_descriptor.__get__"))
 tk:W.takesIn K (.builtin "object.__class__")=some true
 hm:W.mroIn K C (.type "object")=some true
theorem kD.ty{K:W.Frag}{C:Addr}(h:kD K C){H:Hp}{a dx:Addr}{fs:List (Str×V)}(e:H a=some (.ins C dx fs)):TyG K H (.ref a) (.ref C):=.inl (.ins e h.cl h.ha h.hn h.tk h.hm)
def ve(CX:CXT)(P:Program)(w:World)(K:W.Frag)(mg:Str->Option Value)(base:Heap)(k:Nat)(m:Str)(ps:List Str)(cs:List (Addr×Sp)):Prop :=
 ∀p∈cs,d8 CX P w K mg base k p.1 m ps p.2/\Cls K p.1
section
variable{k:Nat}{cs:List (Addr×Sp)}
theorem Bg:ve CX P w K mg base k m ps []:=λ_ h=>nomatch h
theorem yM(M:d8 CX P w K mg base k C m ps sp)(c:Cls K C)(r:ve CX P w K mg base k m ps cs):ve CX P w K mg base k m ps ((C,sp) :: cs):=λp h=>by
 rcases mem_cons.mp h with rfl|h
 ·exact⟨M,c⟩
 ·exact r p h
end
inductive vX(cs:List (Addr×Sp))(m:Str)(t:TA)(σ:St)(Q:VK)(x:V)(H1:Hp):Prop
 |mk (a p dx fs:_)(_:x=.ref a)(_:p∈cs)(_:H1 a=some (.ins p.1 dx fs))(_:fs.lookup m=none)(_:t σ H1 λvs H2=>p.2 (x :: vs) H2 Q E0):vX cs m t σ Q x H1
def Bh(cs:List (Addr×Sp))(m:Str)(ta:TE)(t:TA):TE:=λσ H Q=>ta σ H λx H1=>vX cs m t σ Q x H1
section
variable{k:Nat}{e:Expr}{cs:List (Addr×Sp)}
theorem wY{pl:Sem Bool}(M:ve CX X.prog X.w X.K X.mg X.base k m ps cs)(hx:Passes CX X E0)(hr:cU k X.A)(he:PE X o ta)(ha:PA X (e :: es) t)
  (hst:starEach (e :: es) X.env=(false,eval e X.env) :: starEach es X.env:=by rfl)(hpl:(backTo pos (starEach es X.env)).any (·.1)=false:=by rfl)
  (ht:eval (.Call (.Attribute o m apos) (e :: es) [] pos) X.env=(do
   let ov ←eval o X.env
   standAt apos.atName
   let (f,first) ←holding [ov] (getMethod ov m pl)
   callWith pos f first (backTo pos (starEach (e :: es) X.env)) (backToKw pos (keywordEach [] X.env))):=by rfl) :
  PE X (.Call (.Attribute o m apos) (e :: es) [] pos) (Bh cs m ta t):=by
 intro pins s σ H Q I h;refine W.methodCall_KW (pl:=pl) (thn (he pins s σ H _ I h) λu s1 ⟨x,H1,I1,rx,a,p,dx,fs,ex,hp,ea,l,q⟩=>?_) ht;obtain⟨⟨f,fd,hm,F,hb⟩,c⟩:=M p hp;subst ex;obtain rfl:u=Value.ref a:=rx;refine p8 I1 ea c hm l ?_;refine W.callWith_K (first:=[.ref a]) (h₀:=X.base) I.ok.mod.kin hm.kp (thn (ha pos pins s1 σ H1 _ I1 q) λus s2 ⟨vs,H2,I2,r,q2⟩=>⟨I2.kIn,?_⟩) hst hpl;exact wV (us:=.ref a :: us) (vs:=.ref a :: vs) F hr hb hx I2 (.cons U r) q2
theorem jS(M:aU CX X.prog X.w X.K X.mg X.base k x C ps sp)(hx:Passes CX X E0)(hr:cU (k+1) X.A)(hg:Gl X x)(hdb:(x == ("__debug__" : Str))=false:=by decide) :
  PE X (.Call (.Name x p) [] [] pos) (tMk C sp wH):=by
 obtain⟨f,fd,M,F,hb,hm⟩:=M;have h:=sN (E:=E0) (dvs:=[]) (ds:=[]) (p:=p) (pos:=pos) M F hr hg hm hb .nil hx hdb;intro pins s σ H Q I q;exact h pins s σ H Q I q
end
theorem kx{c A B:Prop} [Decidable c] (hc:c)(h:A):if decide c=true then A else B:=by rw[if_pos (decide_eq_true hc)];exact h
theorem jr{c A B:Prop} [Decidable c] (hc:¬ c)(h:B):if decide c=true then A else B:=by rw[if_neg (by rw[decide_eq_false hc];decide)];exact h
theorem Inv.turnedPair{ch:List Addr}{T:Addr}{x y:V}{u v:Value}(I:Inv X pins σ H s)(hf:∀b∈ch,jL X pins H b)(k:∀b o,b ∉ ch->s.heap.get? b=some o->h'.get? b=some o)
  (nT:s.heap.get? T=none)(hT:H T=none)(gT:IsPair h' T u v)(rx:RelV x u)(ry:RelV y v):Inv X pins σ (upd H T (.tup [x,y])) { s with heap:=h' }:=by
 have out:∀b u,H b=some u->b ∉ ch:=λb u e z=>by
  have f:=(hf b z).1;rw[f]at e;cases e
 have neT:∀{b o},s.heap.get? b=some o->b≠T:=λe z=>by rw[z,nT]at e;cases e
 have neH:∀{b u},H b=some u->b≠T:=λe z=>by rw[z,hT]at e;cases e
 have J:=Inv.step (H':=upd H T (.tup [x,y])) (h':=h') (g':=s.gens) (d':=s.drawn) (t':=s.toks) (ch:=ch) I
  (λb hb=>by obtain⟨_,f1,_,f3,f4,f5⟩:=hf b hb;exact⟨f3,f1,f4,f5⟩)
  (λb o _ _ hc e _=>k b o hc e)
  (λb o _ _ hc e _=>⟨o.slots,k b o hc e⟩)
  (λb o _ e n=>by rw[aD (neT e)];exact n)
  (λb o hc e=>⟨o,k b o hc e⟩)
  (λb xs e=>by rw[aD (neH e)];exact e)
  (λb o w e=>by rw[aD (neH e)];exact e)
  (λb ps e=>⟨#[],by rw[aD (neH e),e];simp⟩)
  (λm hm=>by
   obtain⟨o,es,ep,ho,r⟩:=hm;refine⟨o,es,ep,k _ o (λz=>?_) ho,r⟩;obtain⟨_,f1,_⟩:=hf _ z;exact f1 U)
  (λb w e=>by
   by_cases hb:b=T
   ·subst hb;rw[ae]at e;cases e;exact⟨by show 2<=sizeLine;decide,[u,v],.cons rx (.cons ry .nil),_,gT,U,_,U⟩
   ·rw[aD hb]at e;refine(I.hok b w e).stay (λc z hc q=>k c z ?_ q) (λc q=>?_) λc xs q=>?_
    ·rcases hc with z|z
     ·rw[z];exact out b w e
     ·exact out c _ z
    ·rw[aD (neH q)];exact q
    ·rw[aD (neH q)];exact q)
  I.bare
 exact J
theorem Inv.turnedL{ch:List Addr}(I:Inv X pins σ H s)(hf:∀b∈ch,jL X pins H b)(k:∀b o,b ∉ ch->s.heap.get? b=some o->h'.get? b=some o):Inv X pins σ H { s with heap:=h' }:=by
 have out:∀b u,H b=some u->b ∉ ch:=λb u e z=>by
  have f:=(hf b z).1;rw[f]at e;cases e
 have J:=Inv.step (H':=H) (h':=h') (g':=s.gens) (d':=s.drawn) (t':=s.toks) (ch:=ch) I
  (λb hb=>by obtain⟨_,f1,_,f3,f4,f5⟩:=hf b hb;exact⟨f3,f1,f4,f5⟩)
  (λb o _ _ hc e _=>k b o hc e)
  (λb o _ _ hc e _=>⟨o.slots,k b o hc e⟩)
  (λb o _ _ n=>n)
  (λb o hc e=>⟨o,k b o hc e⟩)
  (λb xs e=>e) (λb o w e=>e) (λb ps e=>⟨#[],by rw[e];simp⟩)
  (λm hm=>by
   obtain⟨o,es,ep,ho,r⟩:=hm;refine⟨o,es,ep,k _ o (λz=>?_) ho,r⟩;obtain⟨_,f1,_⟩:=hf _ z;exact f1 U)
  (λb w e=>by
   refine(I.hok b w e).stay (λc z hc q=>k c z ?_ q) (λc q=>q) λc xs q=>q
   rcases hc with z|z
   ·rw[z];exact out b w e
   ·exact out c _ z)
  I.bare
 exact J
def Itz(K:W.Frag)(a b:Addr):It :=
 ⟨λi H=>∃xs ys x y,SqL K H a xs/\SqL K H b ys/\xs[i]?=some x/\ys[i]?=some y,
 λi H v H'=>∃T,H T=none/\v=.ref T/\∀xs ys x y,SqL K H a xs->SqL K H b ys->xs[i]?=some x->ys[i]?=some y->H'=upd H T (.tup [x,y]),
 λi H=>∃xs ys,SqL K H a xs/\SqL K H b ys/\(xs.length<=i\/ys.length<=i)⟩
def vY(z TI TO i1 i2 a b:Addr)(i:Nat)(h:Heap):Prop:=IsZip h z TI TO .none/\IsPair h TI (.ref i1) (.ref i2)/\(∃p q,IsPair h TO p q)/\h.IsListIter i1 a i/\h.IsListIter i2 b i
theorem tF{P:Program}{w:World}{K:W.Frag}{elts:List Expr} {x1} {tp:Pos}{z TI TO i1 i2 a b:Addr}(D:ZipApart z TI TO i1 i2 a b) :
  Turn P w K (.Tuple elts x1 tp) (Itz K a b) [z,TI,TO,i1,i2] z (vY z TI TO i1 i2 a b) where
 mem:=by simp
 obj:=λi h st c hc=>by
  obtain⟨g1,g2,⟨p,q,g3⟩,⟨o4,g4,_,d4⟩,⟨o5,g5,_,d5⟩⟩:=st;simp only[mem_cons,not_mem_nil,or_false]at hc;rcases hc with rfl|rfl|rfl|rfl|rfl
  ·exact⟨_,g1,λv q=>nomatch q⟩
  ·exact⟨_,g2,λv q=>nomatch q⟩
  ·exact⟨_,g3,λv q=>nomatch q⟩
  ·exact⟨_,g4,λv q=>by rw[d4]at q;cases q⟩
  ·exact⟨_,g5,λv q=>by rw[d5]at q;cases q⟩
 keep:=λi h h' st k=>by
  obtain⟨g1,g2,⟨p,q,g3⟩,g4,g5⟩:=st;exact⟨k z (by simp) _ g1,k TI (by simp) _ g2,⟨p,q,k TO (by simp) _ g3⟩,g4.at λo e=>k i1 (by simp) o e,g5.at λo e=>k i2 (by simp) o e⟩
 item:=by
  intro X hP hw hK hc i pins s σ H E I hf st hg;subst hP hw hK;obtain⟨xs,ys,x,y,qa,qb,ex,ey⟩:=hg;obtain⟨g1,g2,⟨p,q,g3⟩,g4,g5⟩:=st;obtain⟨us,ru,pu,_⟩:=I.list qa;obtain⟨vs,rv,pv,_⟩:=I.list qb;obtain⟨u,eu,r1⟩:=ru.get ex;obtain⟨v,ev,r2⟩:=rv.get ey;refine wpAny_pyNext_zip_item D g1 g2 g3 g4 g5 pu.isList pv.isList (x:=u) (y:=v) (by simpa using eu) (by simpa using ev) λh1 a1 a2 a3 a4 a5 a6 a7=>?_
  refine⟨_,U,wpAny_letOwnedTupleGo_zip (s:={ s with heap:=h1 }) a1 λh2 b1 b2=>?_⟩;have nT:s.heap.get? s.heap.objs.size=none:=by
   cases q:s.heap.get? s.heap.objs.size with
   |none=>rfl
   |some o=>exact absurd (Heap.lt_size q) (lt_irrefl _)
  have hT:H s.heap.objs.size=none:=I.hok.fresh (le_refl _);have nz:s.heap.objs.size≠z:=ne_of_gt (Heap.lt_size g1);have kk:∀c o,c ∉ [z,TO,i1,i2]->s.heap.get? c=some o->h2.get? c=some o:=λc o hc e=>by
   simp only[mem_cons,not_mem_nil,or_false,not_or]at hc;exact b2.extBut _ _ hc.1 (a7 c o hc.1 hc.2.1 hc.2.2.1 hc.2.2.2 e)
  have J:=I.turnedPair (h':=h2) (ch:=[z,TO,i1,i2]) (T:=s.heap.objs.size) (x:=x) (y:=y) (u:=u) (v:=v) (λc hc=>hf c (by simp at hc⊢;rcases hc with e|e|e|e <;> simp[e])) kk nT hT (b2.extBut _ _ nz a5) r1 r2;refine⟨.ref s.heap.objs.size,upd H s.heap.objs.size (.tup [x,y]),J,U,⟨_,hT,U,λxs' ys' x' y' q1 q2 e1 e2=>?_⟩,⟨b1,b2.extBut _ _ D.TIz (a7 TI _ D.TIz D.TITO D.TIi1 D.TIi2 g2),⟨_,_,b2.extBut _ _ D.TOz a2⟩,a3.extBut b2.extBut D.i1z,a4.extBut b2.extBut D.i2z⟩,λc hc=>?_⟩
  ·rw[I.list_inj q1 qa]at e1;rw[I.list_inj q2 qb]at e2;rw[ex]at e1;rw[ey]at e2;cases e1;cases e2;rfl
  ·have h0:=(hf c hc).1;have:c≠s.heap.objs.size:=by
    obtain⟨o4,g4',_⟩:=g4;obtain⟨o5,g5',_⟩:=g5;simp only[mem_cons,not_mem_nil,or_false]at hc;rcases hc with rfl|rfl|rfl|rfl|rfl
    ·exact nz.symm
    ·exact ne_of_lt (Heap.lt_size g2)
    ·exact ne_of_lt (Heap.lt_size g3)
    ·exact ne_of_lt (Heap.lt_size g4')
    ·exact ne_of_lt (Heap.lt_size g5')
   rw[aD this];exact h0
 done:=by
  intro X hP hw hK hc i pins s σ H E I hf st hg;subst hP hw hK;obtain⟨xs,ys,qa,qb,hl⟩:=hg;obtain⟨g1,g2,⟨p,q,g3⟩,g4,g5⟩:=st;obtain⟨us,ru,pu,_⟩:=I.list qa;obtain⟨vs,rv,pv,_⟩:=I.list qb;have l1:=ru.length;have l2:=rv.length;refine wpAny_pyNext_zip_end (I.ok.hd hc) D g1 g2 g3 g4 g5 pu.isList pv.isList ?_ λh2 k=>⟨U,I.turnedL (ch:=[z,TO,i1,i2]) (λc hc=>hf c (by simp at hc⊢;rcases hc with e|e|e|e <;> simp[e])) λc o hc e=>?_⟩
  ·rcases hl with hl|hl
   ·exact .inl (by simp;lia)
   ·exact .inr (by simp;lia)
  ·simp only[mem_cons,not_mem_nil,or_false,not_or]at hc;exact k c o hc.1 hc.2.1 hc.2.2.1 hc.2.2.2 e
 self:=λ_ _ _ _ _ st h=>wpAny_pyIter_zip st.1 h
inductive vZ(K:W.Frag)(R:It->Hp->Prop)(vs:List V)(H1:Hp):Prop
 |mk (a b:_)(_:vs=[.ref a,.ref b])(_:(∃xs,SqL K H1 a xs))(_:(∃ys,SqL K H1 b ys))(_:R (Itz K a b) H1):vZ K R vs H1
def Bi(K:W.Frag)(ta:TA):TI:=λσ H R=>ta σ H λvs H1=>vZ K R vs H1
theorem tG{e1 e2:Expr}{ta:TA}{p pos:Pos}{elts:List Expr} {x1} {tp:Pos}(hg:Gl X "zip") (hm:X.mg "zip" = none) (ha:PA X [e1,e2] ta)
  (hs:starEach [e1,e2] X.env=[(false,eval e1 X.env),(false,eval e2 X.env)]:=by rfl)(hs2:starEach [e2] X.env=[(false,eval e2 X.env)]:=by rfl) :
  PI X (.Tuple elts x1 tp) (.Call (.Name "zip" p) [e1,e2] [] pos) (Bi X.K ta):=by
 intro pins s σ H R I h;refine Call_ (jJ I hg hm PyProof.Rows.boot_zip (PyProof.Rows.callWith_type1 (thn (ha pos pins s σ H _ I h) λus s1 ⟨vs,H1,I1,r1,q1⟩=>?_) (by rw[hs,hs2]) (by rw[hs2];rfl)));obtain⟨a,b,rfl,⟨xs,qa⟩,⟨ys,qb⟩,q⟩:=q1;obtain⟨u,v,rfl,ru,rv⟩:=r1.two;cases (show u=Value.ref a from ru);cases (show v=Value.ref b from rv);obtain⟨us,_,pu,_⟩:=I1.list qa;obtain⟨vs,_,pv,_⟩:=I1.list qb;obtain⟨oa,ea,_⟩:=id pu.isList;obtain⟨ob,eb,_⟩:=id pv.isList;have la:a<s1.heap.objs.size:=Heap.lt_size ea;have lb:b<s1.heap.objs.size:=Heap.lt_size eb;refine call_zip_2 pu.isList pv.isList λh' z1 z2 z3 z4 z5 z6 z7=>?_
 refine wpAny_pyIter_zip (s:={ s1 with heap:=h' }) z1 ?_;refine⟨s1.heap.objs.size+4,[s1.heap.objs.size+4,s1.heap.objs.size+2,s1.heap.objs.size+3,s1.heap.objs.size,s1.heap.objs.size+1],vY (s1.heap.objs.size+4) (s1.heap.objs.size+2) (s1.heap.objs.size+3) s1.heap.objs.size (s1.heap.objs.size+1) a b,Itz X.K a b,H1,U,I1.kept (t':=s1.toks) z7,tF ?_,⟨z1,z2,⟨_,_,z3⟩,z4,z5⟩,λc hc=>?_,q⟩
 ·refine⟨?_,?_,?_,?_,?_,?_,?_,?_,?_,?_,?_,?_,?_,?_,?_,?_,?_,?_⟩ <;> first|exact ne_of_lt (by lia)|exact ne_of_gt (by lia)|exact ne_of_lt la|exact ne_of_lt lb|exact ne_of_lt (lt_of_lt_of_le la (Nat.le_add_right _ _))|exact ne_of_lt (lt_of_lt_of_le lb (Nat.le_add_right _ _))
 ·have hc':s1.heap.objs.size<=c:=by
   simp only[mem_cons,not_mem_nil,or_false]at hc;rcases hc with rfl|rfl|rfl|rfl|rfl <;> lia
  exact I1.fpOk hc' (I1.hok.fresh hc')
theorem qU{K:W.Frag}{a b:Addr}{xs ys:List V}{g:TG}{tb:TS}{D:Ends}{σ:St}{H:Hp}(Pv:Nat->St->Hp->Prop)(h0:Pv 0 σ H)(hl:∀i σ H,Pv i σ H->SqL K H a xs/\SqL K H b ys)
  (hs:∀i x y σ H T,xs[i]?=some x->ys[i]?=some y->Pv i σ H->H T=none->g (.ref T) σ (upd H T (.tup [x,y])) λσ2 H2=>tb { D with nx:=Pv (i+1),ct:=Pv (i+1),bk:=D.nx } σ2 H2)
  (hd:∀σ H,Pv (min xs.length ys.length) σ H->D.nx σ H) :
  ∃W:Nat->Nat->St->Hp->Prop,(∃m,W 0 m σ H)/\∀i m σ H,W i m σ H ->
   ((Itz K a b).stop i H/\D.nx σ H)\/((Itz K a b).go i H/\∃N:St->Hp->Prop,(∀σ' H',N σ' H'->∃m',m'<m/\W (i+1) m' σ' H')/\∀x H',(Itz K a b).yld i H x H'->g x σ H' λσ2 H2=>tb { D with nx:=N,ct:=N,bk:=D.nx } σ2 H2):=by
 refine⟨λi m σ H=>m=min xs.length ys.length-i/\i<=min xs.length ys.length/\Pv i σ H,⟨min xs.length ys.length,by simp,zero_le _,h0⟩,?_⟩;rintro i m σ H ⟨rfl,hi,p⟩;obtain⟨q1,q2⟩:=hl i σ H p;by_cases lt:i<min xs.length ys.length
 ·have e1:xs[i]?=some xs[i]:=Jw (by lia);have e2:ys[i]?=some ys[i]:=Jw (by lia);refine .inr ⟨⟨xs,ys,_,_,q1,q2,e1,e2⟩,Pv (i+1),λσ' H' p'=>⟨_,?_,U,lt,p'⟩,λv H' yl=>?_⟩
  ·lia
  ·obtain⟨T,hT,rfl,e⟩:=yl;rw[e xs ys _ _ q1 q2 e1 e2];exact hs i _ _ σ H T e1 e2 p hT
 ·have e:i=min xs.length ys.length:=by lia
  subst e;exact .inl ⟨⟨xs,ys,q1,q2,by lia⟩,hd σ H p⟩
theorem iF{X:Cx}{K:W.Frag}(h:X.K=K):eZ X (.type "list") (λxs H Q=>∃p ys,xs=[.ref p]/\(SqL K H p ys\/SqT K H p ys)/\∀l,H l=none->Q (.ref l) (upd H l (.lst ys))):=h ▸ cx
variable{gt:TG}{fr:List Nat}{tt:TT}{te:TE}
section
variable{k:Nat}
end
theorem rM{K:W.Frag}(hK:X.K=K){a:Expr}{ta:TE}(ha:PE X a ta)(he:∀whole,isTrue a X.env whole=(do let v ←whole;standAt a.pos;holding [v] (truthy v)):=by intro _;rfl) :
  PT X a (λσ H Q=>ta σ H λx H'=>∃k,wD K x H' k/\Q k H'):=hK ▸ ph ha he
section
variable{elt iter:Expr}{ifs:List Expr}{cl:List (Str×Addr)}{k:Nat}
theorem tH{wi:TI}{i:Nat}{y:Str}{py tj:Pos}(hN:X.N.Nodup)(hy:X.N[i]?=some y)(hl:Loc X.env.scope y)(hi:PI X tg iter wi)(O:nG X N k fr scope cl)(hc:X.calm=true)(hg:∀fp C s H,PG (bL X N scope cl fp C s H) tg gt)
  (ht:∀fp C s H,PIf (bL X N scope cl fp C s H) ifs tt)(he:∀fp C s H,PE (bL X N scope cl fp C s H) elt te)(hs:∀v,foldedSetIterable iter X.env v=pure v:=by intro _;rfl)
  (hsw:swapsWith (.ListComp elt [⟨tg,iter,ifs,0⟩] scope pos) (some (.Name y py)) tj.line X.env=pure true:=by rfl)(hf:X.fn y=true\/X.env.scope.names.lookup y=some .local:=by first|exact .inl U|exact .inr U|assumption) :
  PS X (.Assign [.Name y py] (.ListComp elt [⟨tg,iter,ifs,0⟩] scope pos) tj) (uT (tm wi gt k fr tt te) (mI i)):=by
 intro pins s σ H D0 I h;rw[exec_Assign_Name_used _ _ _ _ hsw];refine wpAny_bind (wpAny_standAt (wpAny_bind ?_));show wpAny _ X.A (do let _ ←comprehension (.ListComp elt [⟨tg,iter,ifs,0⟩] scope pos) scope X.env _ (newList []) false (eval iter X.env) (some (assign (.Name y py) X.env))) _ _ s;refine wpAny_bind (wpAny_mono (wpAny_comprehension_free (use:=some (assign (.Name y py) X.env)) (Q:=λ_ s'=>SP X pins D0 .next s') U hs O.clos O.kind O.names (thn (hi pins s σ H _ I h) λv s1 h1=>thn h1 λitv s2 h2=>?_)) (λ_ s' hq=>wpAny_pure (wpAny_pure hq)) λ_ _ z=>z);obtain⟨it,fp,tn,J,H2,e,I2,T,st2,f2,hW⟩:=h2;subst e;refine lD (Q:=λv H1=>mI i v σ H1 D0.nx) (RR:=λacc C=>compPost (model X.prog X.w) X.A X.xe (some (assign (.Name y py) X.env)) (λ_ s'=>SP X pins D0 .next s') acc C) O hc I2 T st2 f2 ht he hg hW λD C s' H' hC hn ⟨m,hm⟩ I' q=>?_
 show wpAny _ X.A (assign (.Name y py) X.env (.ref D)) _ _ s';refine wpAny_assign_Name (jI I' hN hy hl (v:=.ref D) U (λs3 I3 ⟨a,hsa,ha⟩=>?_) hf);have hCa:C≠a:=by
  rcases ha with z|z
  ·rw[z];exact ne_of_gt (lt_of_lt_of_le I2.lt hC)
  ·obtain⟨v,o,ho,_⟩:=I2.cell y a z;exact ne_of_gt (lt_of_lt_of_le (Heap.lt_size ho) hC)
 exact⟨m,hm.sameBut hsa hCa,λh' hs'=>⟨_,H',I2.left I3 hC hn hs',q⟩⟩
end
set_option maxRecDepth 100000
theorem nK:typeLookup (.type "list") "keys" = pure none:=by rw[typeLookup_type,builtinLookup_eq_fast];kernel_rfl
theorem rN{a:Addr}{items:Array Value}{Q:Option Value->Shared->Prop}(hl:s.heap.IsList a items)(hdn:∀o,s.heap.get? a=some o->o.dict=none)(hA:A.handled=none)
  (h:∀h' tk,(∀b o,s.heap.get? b=some o->h'.get? b=some o)->Q none { s with heap:=h',toks:=tk }) :
  wpAny (model prog w) A (getAttr? (.ref a) "keys") Q E s:=by
 obtain⟨o,hx,hc,k,yY⟩:=hl;have hd:=hdn o hx;obtain⟨c,dct,dat,sl⟩:=o;simp only at hc yY hd;subst hc yY hd;obtain⟨hp,g,d,tk,os⟩:=s;have hT:∀tk',(⟨hp,g,d,tk',os⟩:Shared).TypeIs (.ref a) "list" := λ_=>⟨_,hx,U⟩
 have f1:=sub_AttributeError;have f3:=F.slot_list_getattribute.lookup;have f4:=F.slot_list_getattribute.bind (.ref a);have f5:=am_list_getattr_none;unfold getAttr? getAttrBy? getAttrBy
 repeat (any_goals (first|assumption|exact hT _|((with_reducible show wpAny _ _ (call (Value.builtin "list.__getattribute__") _ _) _ _ _);refine call_meets F.slot_list_getattribute (hT _) am_entry_list_getattribute (F.args_list_getattribute_2 _ _) (meets_getattribute_miss_list a _ k sl "keys" _ nK (by decide) (by decide)) ⟨hx,hA,λh' tk' e hx'=>?_⟩)|wp_step))
 obtain⟨t',u',he⟩:=hx'.there;show wpAny _ _ (getattributeRaised _ _ _ _ _ _ _) _ _ _;unfold getattributeRaised
 repeat (any_goals (first|assumption|wp_step))
 exact h _ _ hx'.of.keeps
theorem cP:plainId "dict.update.loop" = true:=by decide+kernel
theorem fj:entryFor table "dict.update.loop" = some Builtin.«dict.update.loop»:=entryFor_of_fast (by kernel_rfl)
theorem jT{κ:Type} [DecidableEq κ] {knd:KeyKind prog w κ}{d I ax:Addr}{items:Array Value}{ps:List (κ×Value)}{res:Value}(hh:A.handled=none)(hI:I≠ax)(hdI:d≠I)(hdx:d≠ax)(hps:ps.length=items.size) :
  ∀(k i:Nat)(s:Shared)(kvs:List (κ×Value))(t0:Tok)(R:Result->Shared->Prop),items.size-i=k->i<=items.size->s.heap.IsListIter I ax i->s.heap.IsList ax items->s.heap.DictOf knd d kvs ->
   (∀(j:Nat)(p:κ×Value),ps[j]?=some p->∃(t:Addr)(o:Obj)(n:Nat)(key:Value),items[j]?=some (.ref t)/\s.heap.get? t=some o/\o.cls=.type "tuple" /\ o.data=.seq #[key,p.2] n/\knd.is p.1 key=true/\t≠I/\t≠d) ->
   kvs.length+k<=sizeLine ->
   (∀h' tk,h'.DictOf knd d (merged kvs (ps.drop i))->(∀b o,b≠I->b≠d->s.heap.get? b=some o->h'.get? b=some o)->R (.ok (.ret res)) { s with heap:=h',toks:=tk }) ->
   codeAny (model prog w) A (.builtin "dict.update.loop" ⟨[.ref d,.ref I,.int (i:Int) t0,res],[]⟩) R s:=by
 intro k;induction k with
 |zero =>
  intro i s kvs t0 R hk hi hit hl hd hT hsz hR;have hin:i=items.size:=by lia
  refine codeAny_builtin fj ?_;rw[Around.under_plainId cP _];unfold Builtin.«dict.update.loop»;show wpAny _ A.in1 (pyNext (.ref I) >>= _) _ _ s;refine wpAny_bind (wpAny_pyNext_list_end (by simp[hh]) hit hl (by simp[hin]) λh' he'=>?_);show wpAny _ A.in1 (Builtin.Dict.addKeywords d [] >>= _) _ _ _;refine wpAny_bind (wpAny_pure (wpAny_pure ?_));have e:ps.drop i=[]:=List.drop_of_length_le (by lia);refine hR h' _ ?_ λb o hb _ e=>he' b o hb e
  rw[e];exact hd.extBut he' hdI
 |succ k ih =>
  intro i s kvs t0 R hk hi hit hl hd hT hsz hR;have hlt:i<items.size:=by lia
  have ep:=Jw (l:=ps) (i:=i) (by lia);obtain⟨t,o,n,key,e1,e2,e3,e4,e5,e6,e7⟩:=hT i _ ep;refine codeAny_builtin fj ?_;rw[Around.under_plainId cP _];unfold Builtin.«dict.update.loop»;show wpAny _ A.in1 (pyNext (.ref I) >>= _) _ _ s;refine wpAny_bind (wpAny_pyNext_list_item hit hl e1 λh' Bj hs'=>?_);have et':h'.get? t=some o:=(hs'.2 t e6).trans e2;refine wpAny_bind (wpAny_holding ?_);refine wpAny_bind (wpAny_tryCatch ?_);unfold Builtin.Dict.pairItems;refine wpAny_bind (wpAny_typeOf (T := "tuple") ⟨o,et',e3⟩ ?_);rw[if_pos (by decide)];refine wpAny_bind (wpAny_seqItems et' e4 (wpAny_pure ?_));show wpAny _ _ (holding [key,(ps[i]).2] (dictSet d key (ps[i]).2)) _ _ _;refine wpAny_holding ?_;have hd':h'.DictOf knd d kvs:=hd.extBut hs'.extBut hdI;refine wpAny_dictSet_pairs e5 hd' (λh2 hd2 hs2=>?_) (by lia);have kp:∀b ob,b≠I->b≠d->s.heap.get? b=some ob->h2.get? b=some ob:=λb ob n1 n2 e=>(hs2.2 b n2).trans ((hs'.2 b n1).trans e)
  have hsl:(stored kvs (ps[i]).1 (ps[i]).2).length<=kvs.length+1:=by
   unfold stored;split
   ·rw[length_map];lia
   ·rw[length_append];simp
  have edr:ps.drop i=ps[i] :: ps.drop (i+1):=List.drop_eq_getElem_cons (by lia);refine wpAny_pure ⟨plainId_quiet cP _,?_⟩;have go:=ih (i+1) { s with heap:=h2,toks:=s.toks+1 } (stored kvs (ps[i]).1 (ps[i]).2) 0 R (by lia) (by lia) (Bj.at λob e=>(hs2.2 I hdI.symm).trans e) (hl.at λob e=>kp ax ob hI.symm hdx.symm e) hd2 (λj p ej=>?_) (by lia) (λh3 tk hd3 kp3=>?_)
  ·exact go
  ·obtain⟨t',o',n',Bk,f1,f2,f3,f4,f5,f6,f7⟩:=hT j p ej;exact⟨t',o',n',Bk,f1,kp t' o' f6 f7 f2,f3,f4,f5,f6,f7⟩
  ·refine hR h3 tk ?_ λb ob n1 n2 e=>kp3 b ob n1 n2 (kp b ob n1 n2 e)
   rw[edr];exact hd3
theorem kE{κ:Type} [DecidableEq κ] {knd:KeyKind prog w κ}{ax:Addr}{items:Array Value}{ps:List (κ×Value)}{Q:Value->Shared->Prop}(hh:A.handled=none)(hl:s.heap.IsList ax items)(hdn:∀o,s.heap.get? ax=some o->o.dict=none)(hps:ps.length=items.size)(hsz:items.size<=sizeLine)(hnd:(ps.map (·.1)).Nodup)
  (hT:∀(j:Nat)(p:κ×Value),ps[j]?=some p->∃(t:Addr)(o:Obj)(n:Nat)(key:Value),items[j]?=some (.ref t)/\s.heap.get? t=some o/\o.cls=.type "tuple" /\ o.data=.seq #[key,p.2] n/\knd.is p.1 key=true)
  (hQ:∀h' tk,h'.DictOf knd s.heap.objs.size ps->(∀b o,s.heap.get? b=some o->h'.get? b=some o)->Q (.ref s.heap.objs.size) { s with heap:=h',toks:=tk }) :
  wpAny (model prog w) A (call (.type "dict") [.ref ax]) Q E s:=by
 refine callType_codes (Q₁:=λobj s₁=>obj=.ref s.heap.objs.size/\s₁={ s with heap:=s.heap.push { cls:=.type "dict",data:=.dict #[] } }) F.kt_called_dict (F.kt_typeCall_dict_1 _) F.entry_dict_init (kt_code_dict_new _ ⟨U,U⟩) ?_;rintro obj s₁ ⟨rfl,rfl⟩;have wZ:(s.heap.push { cls:=.type "dict",data:=.dict #[] }).DictOf knd s.heap.objs.size []:=Heap.DictOf.new s.heap;have k0:∀b o,s.heap.get? b=some o->(s.heap.push { cls:=.type "dict",data:=.dict #[] }).get? b=some o:=λb o e=>Heap.get?_push_of_some _ e
 have hl0:=hl.at λo e=>k0 ax o e
 refine⟨wZ.typeIs,F.args_dict_init_2 _ _,?_⟩;unfold Builtin.«dict.__init__»;refine wpAny_bind ?_;unfold Builtin.Dict.selfAndRest;refine wpAny_bind (wpAny_notOrdered_dict wZ.typeIs ?_);show wpAny _ _ (pure (s.heap.objs.size,[Value.ref ax])) _ _ _;refine wpAny_pure ?_;show wpAny _ _ (Builtin.Dict.updateFrom "dict.__init__" s.heap.objs.size (.ref ax) [] .none) _ _ _;unfold Builtin.Dict.updateFrom;refine wpAny_bind (wpAny_typeOf hl0.typeIs ?_);rw[if_pos (by decide)];have lax:ax<s.heap.objs.size:=by obtain⟨o,e,_⟩:=id hl;exact Heap.lt_size e
 have Bm:∀o,(s.heap.push { cls:=.type "dict",data:=.dict #[] }).get? ax=some o->o.dict=none:=λo e=>by
  obtain⟨o',e',_⟩:=id hl;have e2:=k0 ax o' e';rw[e2]at e;have e3:=Option.some.inj e;rw[←e3];exact hdn o' e'
 refine wpAny_bind (rN (s:={ s with heap:=s.heap.push { cls:=.type "dict",data:=.dict #[] } }) hl0 Bm (by simp[hh]) λh1 tk1 k1=>?_);rw[if_pos (by rfl)];refine wpAny_bind (wpAny_rule ?_);have k01:∀b o,s.heap.get? b=some o->h1.get? b=some o:=λb o e=>k1 b o (k0 b o e)
 have hl1:h1.IsList ax items:=hl.at λo e=>k01 ax o e
 refine wpAny_bind (wpAny_pyIter_list (s:={ s with heap:=h1,toks:=tk1 }) hl1 ?_);have k2:∀b o,h1.get? b=some o->(h1.push { cls:=.type "list_iterator",data:=.fields #[.ref ax,.int 0 0] }).get? b=some o:=λb o e=>Heap.get?_push_of_some _ e
 have eI:(h1.push { cls:=.type "list_iterator",data:=.fields #[.ref ax,.int 0 0] }).get? h1.objs.size=some { cls:=.type "list_iterator",data:=.fields #[.ref ax,.int 0 0] }:=Heap.get?_push_size _ U;have hd1:h1.DictOf knd s.heap.objs.size []:=by
  obtain⟨o,es,ep,ho,r⟩:=wZ;exact⟨o,es,ep,k1 _ _ ho,r⟩
 have hd2:(h1.push { cls:=.type "list_iterator",data:=.fields #[.ref ax,.int 0 0] }).DictOf knd s.heap.objs.size []:=hd1.push _;have ld:s.heap.objs.size<h1.objs.size:=by obtain⟨o,es,ep,ho,_⟩:=hd1;exact Heap.lt_size ho
 have lx1:ax<h1.objs.size:=lt_trans lax ld;refine wpAny_pure ⟨plainId_quiet cP _,?_⟩;refine jT (prog:=prog) (w:=w) (knd:=knd) (d:=s.heap.objs.size) (I:=h1.objs.size) (ax:=ax) (items:=items) (ps:=ps) (res:=.none) (by simp[hh]) (ne_of_gt lx1) (ne_of_lt ld) (ne_of_gt lax) hps items.size 0 { s with heap:=h1.push { cls:=.type "list_iterator",data:=.fields #[.ref ax,.int 0 0] },toks:=tk1 } [] 0 _ (by lia) (zero_le _) ⟨_,eI,U,U⟩ (hl1.at λo e=>k2 ax o e) hd2 (λj p ej=>?_) (by simpa using hsz) (λh' tk hd' kp=>?_)
 ·obtain⟨t,o,n,key,f1,f2,f3,f4,f5⟩:=hT j p ej;have lt:=Heap.lt_size f2;exact⟨t,o,n,key,f1,k2 _ _ (k01 _ _ f2),f3,f4,f5,ne_of_lt (lt_trans lt ld),ne_of_lt lt⟩
 ·rw[List.drop_zero,merged_nil_of_nodup ps hnd]at hd';refine⟨U,hQ h' tk hd' λb o e=>kp b o (ne_of_lt (lt_trans (Heap.lt_size e) ld)) (ne_of_lt (Heap.lt_size e)) (k2 _ _ (k01 _ _ e))⟩
theorem mW{α β:Type}{R:α->β->Prop}:∀{xs:List α}{ys:List β},xs.length=ys.length->(∀(j:Nat)(x:α)(y:β),xs[j]?=some x->ys[j]?=some y->R x y)->Paired R xs ys
 | [],[],_,_=>.nil
 |x :: xs,y :: ys,hl,h=>.cons (h 0 x y U U) (mW (by simpa using hl) λj x' y' e f=>h (j+1) x' y' (by simpa using e) (by simpa using f))
 | [],_ :: _,hl,_=>by simp at hl
 |_ :: _,[],hl,_=>by simp at hl
theorem nM{α:Type}{P:Nat->α->Prop}:∀n:Nat,(∀j,j<n->∃a,P j a)->∃l:List α,l.length=n/\∀(j:Nat)(a:α),l[j]?=some a->P j a
 |0,_=>⟨[],U,λj a e=>by simp at e⟩
 |n+1,h=>by
  obtain⟨l,hl,hp⟩:=nM n λj hj=>h j (by lia)
  obtain⟨a,ha⟩:=h n (by lia);refine⟨l++[a],by simp[hl],λj b e=>?_⟩;by_cases hj:j<l.length
  ·rw[getElem?_append_left hj]at e;exact hp j b e
  ·have:j=n:=by have:=(Jx.mp e).1;simp at this;lia
   subst this;rw[getElem?_append_right (by lia),hl,Nat.sub_self]at e;cases e;exact ha
def kvT(kvs:List (Str×V)):List (Key×V):=kvs.map λp=>(Sum.inr p.1,p.2)
theorem vf{kvs:List (Str×V)}{j:Nat}{x:Key×V}(e:(kvT kvs)[j]?=some x):∃p,kvs[j]?=some p/\x=(Sum.inr p.1,p.2):=by
 unfold kvT at e;rw[getElem?_map]at e;cases q:kvs[j]? with
 |none=>rw[q]at e;cases e
 |some p=>rw[q]at e;cases e;exact⟨p,U,U⟩
theorem qV:∀{kvs:List (Str×V)}{vs:List (Key×Value)}{k:Str}{v:V},KV (kvT kvs) vs->kvs.lookup k=some v->∃u,valueAt vs (Sum.inr k:Key)=some u/\RelV v u
 | [],_,_,_,_,e=>by cases e
 |(k0,v0) :: kvs,vs,k,v,r,e=>by
  unfold KV at r;cases r with
  | @cons p q ps qs h t =>
   obtain⟨h1,h2⟩:=h;have h1:(Sum.inr k0:Key)=q.1:=h1;by_cases hk:k=k0
   ·subst hk;rw[lookup_cons,beq_self_eq_true]at e;cases e;refine⟨q.2,?_,h2⟩;unfold valueAt;rw[List.find?_cons_of_pos (by simp[h1])];rfl
   ·have e:kvs.lookup k=some v:=by
     rw[lookup_cons,beq_eq_false_iff_ne.mpr hk]at e;exact e
    obtain⟨u,e1,e2⟩:=qV (vs:=qs) t e;refine⟨u,?_,e2⟩;have hne:¬ (q.1=(Sum.inr k:Key)):=λz=>hk (by rw[←h1]at z;injection z with z;exact z.symm)
    unfold valueAt at e1⊢;rw[List.find?_cons_of_neg (by simpa using hne)];exact e1
theorem vg{pins:List (Addr×Obj)}{σ:St}{H:Hp}{s:Shared}(I:Inv X pins σ H s):(s.heap.objs.size == sysModules)=false:=by
 have h:mainGlobals<s.heap.objs.size:=(I.mod.glob.keeps I.bk).lt;have h2:sysModules<s.heap.objs.size:=lt_trans (by decide) h;exact beq_eq_false_iff_ne.mpr (ne_of_gt h2)
theorem qo(hcm:X.calm=true):eZ X (.type "dict") (λxs H Q=>∃(l:Addr)(us:List V)(kvs:List (Str×V)),xs=[.ref l]/\H l=some (.lst us)/\us.length=kvs.length/\(∀(j:Nat)(p:Str×V),kvs[j]?=some p->∃t:Addr,us[j]?=some (.ref t)/\H t=some (.tup [.str p.1,p.2]))/\(kvs.map (·.1)).Nodup/\∀p,H p=none->Q (.ref p) (upd H p (.dK (kvT kvs)))):=by
 intro pins s σ H xs us0 Q I r h;obtain⟨l,us,kvs,rfl,el,hl,ht,hnd,q⟩:=h;obtain⟨u,rfl,rx⟩:=vals1 r;cases rx;obtain⟨its,n,rv,eg,hz⟩:=I.lst el;have hil:=rv.length;obtain⟨ps,hpl,hps⟩:=nM (P:=λj (a:Key×Value)=>∃(p:Str×V)(t:Addr)(o:Obj)(m:Nat)(key:Value),kvs[j]?=some p/\a.1=Sum.inr p.1/\its[j]?=some (.ref t)/\RelV p.2 a.2/\s.heap.get? t=some o/\o.cls=.type "tuple" /\ o.data=.seq #[key,a.2] m/\RelV (.str p.1) key) kvs.length λj hj=>by
  have ek:=Jw hj;obtain⟨t,e1,e2⟩:=ht j _ ek;obtain⟨w',e3,e4⟩:=rv.get e1;cases (show w'=Value.ref t from e4);obtain⟨_,its',rv',o,ho,hc,m,hd⟩:=I.hok t _ e2;obtain⟨key,rest,rfl,rk,rr⟩:∃key rest,its'=key :: rest/\RelV (.str kvs[j].1) key/\Vals [kvs[j].2] rest:=by
   cases rv' with
   |cons a b=>exact⟨_,_,U,a,b⟩
  obtain⟨vv,rfl,rv2⟩:=vals1 rr;exact⟨(Sum.inr kvs[j].1,vv),kvs[j],t,o,m,key,ek,U,e3,rv2,ho,hc,by simpa using hd,rk⟩
 have pE:ps.map (·.1)=kvs.map λp=>(Sum.inr p.1:Key):=by
  refine ext_getElem? λj=>?_
  rw[getElem?_map,getElem?_map];cases e:ps[j]? with
  |none =>
   have:kvs[j]?=none:=by rw[List.getElem?_eq_none_iff]at e⊢;lia
   rw[this];rfl
  |some a =>
   obtain⟨p,t,o,m,key,e1,e2,_⟩:=hps j a e;rw[e1];show some a.1=some (Sum.inr p.1);rw[e2]
 refine kE (knd:=jl X.prog X.w) (items:=its.toArray) (ps:=ps) (I.ok.hd hcm) ⟨_,eg,U,n,U⟩ (λo e=>by rw[eg]at e;cases e;rfl) (by rw[size_toArray,hpl,←hl,hil]) (by rw[size_toArray,←hil];exact hz) ?_ (λj a ea=>?_) λh' tk hd kp=>?_
 ·rw[pE,show(kvs.map λp=>(Sum.inr p.1:Key))=(kvs.map (·.1)).map λz=>(Sum.inr z:Key) by rw[map_map];rfl];rw[nodup_iff_pairwise_ne]at hnd⊢;rw[pairwise_map];exact hnd.imp λ{a b} hab z=>hab (by injection z)
 ·obtain⟨p,t,o,m,key,e1,e2,e3,e4,e5,e6,e7,e8⟩:=hps j a ea;refine⟨t,o,m,key,by simpa using e3,e5,e6,e7,?_⟩;rw[e2];obtain⟨tt,rfl⟩:=(show ∃tt,key=Value.str p.1 tt from e8);exact ko X.prog X.w p.1 tt
 ·refine⟨.ref s.heap.objs.size,_,I.laid (h':=h') (t':=tk) (o:=.dK (kvT kvs)) kp (le_refl _) ⟨by unfold kvT;rw[length_map,←hl];exact hz,vg I,ps,mW (by unfold kvT;rw[length_map,hpl]) λj x y ex ey=>?_,hd⟩,U,q _ (I.hok.fresh (le_refl _))⟩;obtain⟨p,ep,rfl⟩:=vf ex;obtain⟨p',t,o,m,key,e1,e2,e3,e4,_⟩:=hps j y ey;rw[ep]at e1;cases e1;exact⟨e2.symm,e4⟩
inductive yZ  (x:V)(y:V)(H:Hp)(Q:VK):Prop
 |mk (a:Addr)(kvs:List (Str×V))(k:Str)(v:V)(_:x=.ref a)(_:y=.str k)(_:H a=some (.dK (kvT kvs)))(_:kvs.lookup k=some v)(_:Q v H):yZ x y H Q
theorem vh:IxR X yZ:=by
 intro value slice pins s σ H x y v u Q I rx ry h hs;obtain⟨a,kvs,k,z,rfl,rfl,ea,el,q⟩:=h;cases rx;obtain⟨t,rfl⟩:=ry;obtain⟨_,_,vs,rel,dd⟩:=(show cX X.prog X.w H s.heap a (.dK (kvT kvs))from I.hok a _ ea);obtain⟨w',ew,rw'⟩:=qV rel el;exact PyProof.Rows.tail_any dd.mapOf.typeIs slot_dict_getitem.lookup (wpAny_getItem_of (ko X.prog X.w k t) dd.mapOf ew ⟨z,H,I.tok _,rw',q⟩) hs
theorem qp{X:Cx}{K:W.Frag}(h:X.K=K):OpR X (compareOp .In) (rIn K false):=h ▸ fE
theorem xa{a:Expr}{ta:TE}{c c':Str}{k k':Nat}{p1 p2 p3 pos:Pos}(ha:PE X a ta):PE X (.JoinedStr [.Constant (.str c) k p2,.FormattedValue a 114 none p1,.Constant (.str c') k' p3] pos) (λσ H Q=>c.length<=1000/\tFr c' ta σ H Q):=by
 intro pins s σ H Q I h;have hb:∀n,n<=20000->n<=sizeLine:=λn hn=>le_trans hn (by decide)
 have e0:∀y:Str,(Str.empty++y).length=y.length:=λy=>by rw[len_app];show 0+_=_;lia
 obtain⟨hcl,h⟩:=h;refine wpAny_JoinedStr (Joins_cons ?_);refine thn (ba (X:=X) (x:=c) (j:=k) (pos:=p2) pins s σ H (λv H'=>v=.str c/\H'=H) I ⟨U,U⟩) λv s2 ⟨y,H2,I2,r2,e1,e2⟩=>?_
 subst e1 e2;obtain⟨t2,rfl⟩:=r2;refine⟨_,_,U,hb _ (by rw[e0];lia),Joins_cons (wpAny_FormattedValue_repr (thn (ha pins s2 σ H2 _ I2 h) λv s1 ⟨x,H1,I1,r1,z,ez,hz,hc,hl,q⟩=>?_))⟩;subst ez;obtain⟨t,rfl⟩:=r1;have hr:=StrLaws.reprText_len z hc;refine pyReprObj_str (formatField_str (λt' tk=>?_) (hb _ (by lia))) (hb _ (by lia));refine⟨_,_,U,hb _ (by rw[len_app,e0];lia),Joins_cons ?_⟩;have J:Inv X pins σ H1 { s1 with toks:=tk }:=I1.tok tk;refine thn (ba (X:=X) (x:=c') (j:=k') (pos:=p3) pins { s1 with toks:=tk } σ H1 (λv H'=>v=.str c'/\H'=H1) J ⟨U,U⟩) λv s3 ⟨y,H3,I3,r3,e1,e2⟩=>?_
 subst e1 e2;obtain⟨t3,rfl⟩:=r3;refine⟨_,_,U,hb _ (by rw[len_app,len_app,e0];lia),Joins_nil ⟨hb _ (by rw[len_app,len_app,e0];lia),?_⟩⟩;exact⟨.str _,H3,I3.tok _,⟨_,U⟩,q _⟩
theorem tI{X:Cx}{K:W.Frag}{tg l:Expr}{tl:TE}(h:X.K=K)(hl:PE X l tl):PI X tg l (vO K tl):=h ▸ aW hl
structure Bo(X:Cx)(N:List Str)(k:Nat)(fr:List Nat)(scope:Scope)(cl:List (Str×Addr)):Prop where
 clos:closureFor scope X.env=pure cl
 kind:scope.kind=.function
 names:∀y∈scope.names,y.2=.local->scope.names.lookup y.1=some .local
 len:N.length=k+fr.length
 sub:∀(i:Nat)(y:Str),N[k+i]?=some y->∃j,fr[i]?=some j/\X.N[j]?=some y/\(X.env.kindOf y=some .cell\/X.env.kindOf y=some .free)/\((relabel scope X.env).names.lookup y=some .cell\/(relabel scope X.env).names.lookup y=some .free)/\∃c,cl.lookup y=some c/\∀C:Addr,(cellsFrom (C+1) scope.names cl).lookup y=some c
 cells:∀y c,cl.lookup y=some c->X.env.cells.lookup y=some c
 has:∀(C:Addr)(y:Str),((relabel scope X.env).names.lookup y=some .cell\/(relabel scope X.env).names.lookup y=some .free)->∃c,(cellsFrom (C+1) scope.names cl).lookup y=some c
section
variable{elt iter:Expr}{ifs:List Expr}{cl:List (Str×Addr)}{k:Nat}
end
end L2
set_option Elab.async false
set_option maxRecDepth 100000
set_option maxHeartbeats 4000000
set_option linter.all false
namespace My
open PySem L2
def top(i:Nat):Stmt:=PySem.Challenge.pw_rowjudge_k72_books_refused.main.body.getD i (.Pass ⟨0,0,0,0⟩)
abbrev Y21:Stmt:=top 15
abbrev Y23:Stmt:=top 16
abbrev Y22:Stmt:=top 17
abbrev Y20:Stmt:=top 21
abbrev Y41:Stmt:=top 26
abbrev Y44:Stmt:=top 28
abbrev Y43:Stmt:=top 30
abbrev Y46:Stmt:=top 31
abbrev Y39:Stmt:=top 32
abbrev Y49:Stmt:=top 41
abbrev Y45:Stmt:=top 46
abbrev Y42:Stmt:=top 48
abbrev Y48:Stmt:=top 50
abbrev Y47:Stmt:=top 51
abbrev Y40:Stmt:=top 52
abbrev Y26:Stmt:=top 54
abbrev Y38:Stmt:=top 55
abbrev Y28:Stmt:=top 56
abbrev Y32:Stmt:=top 57
abbrev Y34:Stmt:=top 58
abbrev Y33:Stmt:=top 59
abbrev Y27:Stmt:=top 60
abbrev Y30:Stmt:=top 61
abbrev Y36:Stmt:=top 62
abbrev Y29:Stmt:=top 63
abbrev Y31:Stmt:=top 64
abbrev Y35:Stmt:=top 65
abbrev Y25:Stmt:=top 66
abbrev Y37:Stmt:=top 67
abbrev Y0:Stmt:=inClass (top 25) 0
abbrev Y9:Stmt:=inClass (top 19) 0
abbrev Y1:Stmt:=inClass (top 18) 0
abbrev Y19:Stmt:=inClass (top 20) 0
abbrev Y2:Stmt:=inClass (top 18) 0
abbrev Y12:Stmt:=inClass (top 45) 0
abbrev Y5:Stmt:=inClass (top 35) 0
abbrev Y13:Stmt:=inClass (top 34) 0
abbrev Y10:Stmt:=inClass (top 36) 0
abbrev Y17:Stmt:=inClass (top 34) 0
abbrev Y7:Stmt:=inClass (top 37) 0
abbrev Y15:Stmt:=inClass (top 34) 0
abbrev Y8:Stmt:=inClass (top 38) 0
abbrev Y16:Stmt:=inClass (top 34) 0
abbrev Y6:Stmt:=inClass (top 39) 0
abbrev Y14:Stmt:=inClass (top 34) 0
abbrev Y11:Stmt:=inClass (top 40) 0
abbrev Y18:Stmt:=inClass (top 34) 0
abbrev Y3:Stmt:=inClass (top 18) 5
abbrev Y4:Stmt:=inClass (top 18) 5
abbrev Y24:Stmt:=top 68
theorem Z21:aJ ["text","signs","sign"] ["text","signs"] (ao Y21):=⟨U,U,U,by decide+kernel,U,by decide+kernel,by decide+kernel⟩
theorem Z23:aJ ["text"] ["text"] (ao Y23):=⟨U,U,U,by decide+kernel,U,by decide+kernel,by decide+kernel⟩
theorem Z22:aJ ["value"] ["value"] (ao Y22):=⟨U,U,U,by decide+kernel,U,by decide+kernel,by decide+kernel⟩
theorem Z20:aJ ["one","other"] ["one","other"] (ao Y20):=⟨U,U,U,by decide+kernel,U,by decide+kernel,by decide+kernel⟩
theorem Z41:aJ ["facts","tables"] ["facts","tables"] (ao Y41):=⟨U,U,U,by decide+kernel,U,by decide+kernel,by decide+kernel⟩
theorem Z44:aJ ["facts","tables","name","domain","names","table"] ["facts","tables"] (ao Y44):=⟨U,U,U,by decide+kernel,U,by decide+kernel,by decide+kernel⟩
theorem Z43:aJ ["facts","tables","due","table","name","domain"] ["facts","tables"] (ao Y43):=⟨U,U,U,by decide+kernel,U,by decide+kernel,by decide+kernel⟩
theorem Z46:aJ ["tables","left","names","waiting"] ["tables"] (ao Y46):=⟨U,U,U,by decide+kernel,U,by decide+kernel,by decide+kernel⟩
theorem Z39:aJ ["table","names"] ["table","names"] (ao Y39):=⟨U,U,U,by decide+kernel,U,by decide+kernel,by decide+kernel⟩
theorem Z49:aJ ["name","way"] ["name"] (ao Y49):=⟨U,U,U,by decide+kernel,U,by decide+kernel,by decide+kernel⟩
theorem Z45:aJ ["names","name"] ["names"] (ao Y45):=⟨U,U,U,by decide+kernel,U,by decide+kernel,by decide+kernel⟩
theorem Z42:aJ ["names","rows"] ["names","rows"] (ao Y42):=⟨U,U,U,by decide+kernel,U,by decide+kernel,by decide+kernel⟩
theorem Z48:aJ ["way","outcome"] ["way","outcome"] (ao Y48):=⟨U,U,U,by decide+kernel,U,by decide+kernel,by decide+kernel⟩
theorem Z47:aJ ["domains","outcome","cells","code","domain","spans","low","high"] ["domains","outcome","cells","code"] (ao Y47):=⟨U,U,U,by decide+kernel,U,by decide+kernel,by decide+kernel⟩
theorem Z40:aJ ["cells","code"] ["cells","code"] (ao Y40):=⟨U,U,U,by decide+kernel,U,by decide+kernel,by decide+kernel⟩
theorem Z26:aJ ["script","k"] ["script","k"] (ao Y26):=⟨U,U,U,by decide+kernel,U,by decide+kernel,by decide+kernel⟩
theorem Z38:aJ ["cell","count","letters","head","tail"] ["cell","count"] (ao Y38):=⟨U,U,U,by decide+kernel,U,by decide+kernel,by decide+kernel⟩
theorem Z28:aJ ["cell","low","width","words"] ["cell"] (ao Y28):=⟨U,U,U,by decide+kernel,U,by decide+kernel,by decide+kernel⟩
theorem Z32:aJ ["domain","cell","width"] ["domain","cell"] (ao Y32):=⟨U,U,U,by decide+kernel,U,by decide+kernel,by decide+kernel⟩
theorem Z34:aJ ["kind","one","two","domain","parts"] ["kind","one","two","domain"] (ao Y34):=⟨U,U,U,by decide+kernel,U,by decide+kernel,by decide+kernel⟩
theorem Z33:aJ ["columns","domains","pools","own","cell","number","parts","k","one","two"] ["columns","domains","pools","own","cell"] (ao Y33):=⟨U,U,U,by decide+kernel,U,by decide+kernel,by decide+kernel⟩
theorem Z27:aJ ["script","facts","total","domains","pools","tables","own","cell","columns","way","k","table"] ["script"] (ao Y27):=⟨U,U,U,by decide+kernel,U,by decide+kernel,by decide+kernel⟩
theorem Z30:aJ ["domain"] ["domain"] (ao Y30):=⟨U,U,U,by decide+kernel,U,by decide+kernel,by decide+kernel⟩
theorem Z36:aJ ["plan","k","names","domains","tables","own","columns","rows","heads","taken"] ["plan","k"] (ao Y36):=⟨U,U,U,by decide+kernel,U,by decide+kernel,by decide+kernel⟩
theorem Z29:aJ ["plan","names","domains","tables"] ["plan"] (ao Y29):=⟨U,U,U,by decide+kernel,U,by decide+kernel,by decide+kernel⟩
theorem Z31:aJ ["domain"] ["domain"] (ao Y31):=⟨U,U,U,by decide+kernel,U,by decide+kernel,by decide+kernel⟩
theorem Z35:aJ ["kind","cell","plan","facts","made","names","domains","tables","used","bad","present","other"] ["kind","cell","plan","facts","made"] (ao Y35):=⟨U,U,U,by decide+kernel,U,by decide+kernel,by decide+kernel⟩
theorem Z25:aJ ["plan","names","domains","tables","first","asked","columns","way","rows"] ["plan"] (ao Y25):=⟨U,U,U,by decide+kernel,U,by decide+kernel,by decide+kernel⟩
theorem Z37:aJ ["kind","plan","facts","made","names","domains","tables","letters","at","old","outcome","new","more","k","name","strange","heads","columns","ring"] ["kind","plan","facts","made"] (ao Y37):=⟨U,U,U,by decide+kernel,U,by decide+kernel,by decide+kernel⟩
theorem Z0:aJ ["self","facts","tables"] ["self","facts","tables"] (ao Y0):=⟨U,U,U,by decide+kernel,U,by decide+kernel,by decide+kernel⟩
theorem Z9:aJ ["self","low","high"] ["self","low","high"] (ao Y9):=⟨U,U,U,by decide+kernel,U,by decide+kernel,by decide+kernel⟩
theorem Z1:aJ ["self","low","high"] ["self","low","high"] (ao Y1):=⟨U,U,U,by decide+kernel,U,by decide+kernel,by decide+kernel⟩
theorem Z19:aJ ["self","words","word"] ["self","words"] (ao Y19):=⟨U,U,U,by decide+kernel,U,by decide+kernel,by decide+kernel⟩
theorem Z2:aJ ["self","low","high"] ["self","low","high"] (ao Y2):=⟨U,U,U,by decide+kernel,U,by decide+kernel,by decide+kernel⟩
theorem Z12:aJ ["self","name","names","domains","outcome","way","rows","cells","code"] ["self","name","names","domains","outcome","way","rows"] (ao Y12):=⟨U,U,U,by decide+kernel,U,by decide+kernel,by decide+kernel⟩
theorem Z5:aJ ["self"] ["self"] (ao Y5):=⟨U,U,U,by decide+kernel,U,by decide+kernel,by decide+kernel⟩
theorem Z13:aJ ["self","called"] ["self","called"] (ao Y13):=⟨U,U,U,by decide+kernel,U,by decide+kernel,by decide+kernel⟩
theorem Z10:aJ ["self"] ["self"] (ao Y10):=⟨U,U,U,by decide+kernel,U,by decide+kernel,by decide+kernel⟩
theorem Z17:aJ ["self","called"] ["self","called"] (ao Y17):=⟨U,U,U,by decide+kernel,U,by decide+kernel,by decide+kernel⟩
theorem Z7:aJ ["self"] ["self"] (ao Y7):=⟨U,U,U,by decide+kernel,U,by decide+kernel,by decide+kernel⟩
theorem Z15:aJ ["self","called"] ["self","called"] (ao Y15):=⟨U,U,U,by decide+kernel,U,by decide+kernel,by decide+kernel⟩
theorem Z8:aJ ["self"] ["self"] (ao Y8):=⟨U,U,U,by decide+kernel,U,by decide+kernel,by decide+kernel⟩
theorem Z16:aJ ["self","called"] ["self","called"] (ao Y16):=⟨U,U,U,by decide+kernel,U,by decide+kernel,by decide+kernel⟩
theorem Z6:aJ ["self"] ["self"] (ao Y6):=⟨U,U,U,by decide+kernel,U,by decide+kernel,by decide+kernel⟩
theorem Z14:aJ ["self","called"] ["self","called"] (ao Y14):=⟨U,U,U,by decide+kernel,U,by decide+kernel,by decide+kernel⟩
theorem Z11:aJ ["self"] ["self"] (ao Y11):=⟨U,U,U,by decide+kernel,U,by decide+kernel,by decide+kernel⟩
theorem Z18:aJ ["self","called"] ["self","called"] (ao Y18):=⟨U,U,U,by decide+kernel,U,by decide+kernel,by decide+kernel⟩
theorem Z3:aJ ["self","value"] ["self","value"] (ao Y3):=⟨U,U,U,by decide+kernel,U,by decide+kernel,by decide+kernel⟩
theorem Z4:aJ ["self","value"] ["self","value"] (ao Y4):=⟨U,U,U,by decide+kernel,U,by decide+kernel,by decide+kernel⟩
theorem Z24:aJ ["script","plan","facts","made","kinds","k","due","found","book","handed","e"] ["script"] (ao Y24):=⟨U,U,U,by decide+kernel,U,by decide+kernel,by decide+kernel⟩
structure Bl(K:W.Frag)(mg:Str->Option Value)(yA yI yH yG ah yN yO yP yQ yR yS yT yU yV yW yX ai:Addr):Prop where
 TableError_:mg "TableError" = some (.ref yA)
 dk:W.nsIn K mainGlobals "TableError" = some (some (.ref yA))
 TooMany_:mg "TooMany" = some (.ref yI)
 fI:W.nsIn K mainGlobals "TooMany" = some (some (.ref yI))
 BadName_:mg "BadName" = some (.ref yH)
 fJ:W.nsIn K mainGlobals "BadName" = some (some (.ref yH))
 Unlike_:mg "Unlike" = some (.ref yG)
 gN:W.nsIn K mainGlobals "Unlike" = some (some (.ref yG))
 Ring_:mg "Ring" = some (.ref ah)
 lI:W.nsIn K mainGlobals "Ring" = some (some (.ref ah))
 Way_:mg "Way" = some (.ref yN)
 gO:W.nsIn K mainGlobals "Way" = some (some (.ref yN))
 First_:mg "First" = some (.ref yO)
 ib:W.nsIn K mainGlobals "First" = some (some (.ref yO))
 Only_:mg "Only" = some (.ref yP)
 jU:W.nsIn K mainGlobals "Only" = some (some (.ref yP))
 Like_:mg "Like" = some (.ref yQ)
 jV:W.nsIn K mainGlobals "Like" = some (some (.ref yQ))
 Low_:mg "Low" = some (.ref yR)
 mX:W.nsIn K mainGlobals "Low" = some (some (.ref yR))
 High_:mg "High" = some (.ref yS)
 jW:W.nsIn K mainGlobals "High" = some (some (.ref yS))
 Sum_:mg "Sum" = some (.ref yT)
 mY:W.nsIn K mainGlobals "Sum" = some (some (.ref yT))
 Domain_:mg "Domain" = some (.ref yU)
 eM:W.nsIn K mainGlobals "Domain" = some (some (.ref yU))
 Numbers_:mg "Numbers" = some (.ref yV)
 eJ:W.nsIn K mainGlobals "Numbers" = some (some (.ref yV))
 Words_:mg "Words" = some (.ref yW)
 ie:W.nsIn K mainGlobals "Words" = some (some (.ref yW))
 Table_:mg "Table" = some (.ref yX)
 ig:W.nsIn K mainGlobals "Table" = some (some (.ref yX))
 Book_:mg "Book" = some (.ref ai)
 jX:W.nsIn K mainGlobals "Book" = some (some (.ref ai))
 x_TooMany:dI K yI
 l_TooMany:fh K yI
 x_BadName:dI K yH
 l_BadName:fh K yH
 x_Unlike:dI K yG
 l_Unlike:fh K yG
 x_Ring:dI K ah
 l_Ring:fh K ah
 k_First:Cls K yO
 k_Only:Cls K yP
 k_Like:Cls K yQ
 k_Low:Cls K yR
 k_High:Cls K yS
 k_Sum:Cls K yT
 k_Numbers:Cls K yV
 k_Words:Cls K yW
 k_Table:Cls K yX
 k_Book:Cls K ai
 t_First:kD K yO
 t_Only:kD K yP
 t_Like:kD K yQ
 t_Low:kD K yR
 t_High:kD K yS
 t_Sum:kD K yT
 t_Numbers:kD K yV
 t_Words:kD K yW
 t_Table:kD K yX
 t_Book:kD K ai
 na_First_called:bx K yO "called"
 na_Only_called:bx K yP "called"
 na_Like_called:bx K yQ "called"
 na_Low_called:bx K yR "called"
 na_High_called:bx K yS "called"
 na_Sum_called:bx K yT "called"
 na_Numbers_low:bx K yV "low"
 na_Numbers_high:bx K yV "high"
 cV:bx K yV "words"
 na_Words_low:bx K yW "low"
 na_Words_high:bx K yW "high"
 na_Words_words:bx K yW "words"
 na_Table_name:bx K yX "name"
 na_Table_names:bx K yX "names"
 na_Table_domains:bx K yX "domains"
 na_Table_outcome:bx K yX "outcome"
 na_Table_way:bx K yX "way"
 na_Table_rows:bx K yX "rows"
 na_Book_facts:bx K ai "facts"
 na_Book_tables:bx K ai "tables"
 f_nn:W.kitOne K (.ref yV) (.ref yV)=some true
 f_wn:W.kitOne K (.ref yW) (.ref yV)=some false
 f_ww:W.kitOne K (.ref yW) (.ref yW)=some true
 vi:W.kitOne K (.ref yX) (.ref yX)=some true
 f_nw:W.kitOne K (.ref yV) (.ref yW)=some false
 e_TooMany:W.exmOne K (.ref yI) (.ref yA)=some true
 v_TooMany:W.kitOne K (.ref yI) (.type "ValueError")=some true
 g_TooMany_TooMany:W.kitOne K (.ref yI) (.ref yI)=some true
 g_TooMany_BadName:W.kitOne K (.ref yI) (.ref yH)=some false
 g_TooMany_Unlike:W.kitOne K (.ref yI) (.ref yG)=some false
 g_TooMany_Ring:W.kitOne K (.ref yI) (.ref ah)=some false
 e_BadName:W.exmOne K (.ref yH) (.ref yA)=some true
 v_BadName:W.kitOne K (.ref yH) (.type "ValueError")=some true
 g_BadName_TooMany:W.kitOne K (.ref yH) (.ref yI)=some false
 g_BadName_BadName:W.kitOne K (.ref yH) (.ref yH)=some true
 g_BadName_Unlike:W.kitOne K (.ref yH) (.ref yG)=some false
 g_BadName_Ring:W.kitOne K (.ref yH) (.ref ah)=some false
 e_Unlike:W.exmOne K (.ref yG) (.ref yA)=some true
 v_Unlike:W.kitOne K (.ref yG) (.type "ValueError")=some true
 g_Unlike_TooMany:W.kitOne K (.ref yG) (.ref yI)=some false
 g_Unlike_BadName:W.kitOne K (.ref yG) (.ref yH)=some false
 g_Unlike_Unlike:W.kitOne K (.ref yG) (.ref yG)=some true
 g_Unlike_Ring:W.kitOne K (.ref yG) (.ref ah)=some false
 e_Ring:W.exmOne K (.ref ah) (.ref yA)=some true
 v_Ring:W.kitOne K (.ref ah) (.type "ValueError")=some true
 g_Ring_TooMany:W.kitOne K (.ref ah) (.ref yI)=some false
 g_Ring_BadName:W.kitOne K (.ref ah) (.ref yH)=some false
 g_Ring_Unlike:W.kitOne K (.ref ah) (.ref yG)=some false
 g_Ring_Ring:W.kitOne K (.ref ah) (.ref ah)=some true
 len_:mg "len" = none
 isinstance_:mg "isinstance" = none
 int_:mg "int" = none
 bool_:mg "bool" = none
 set_:mg "set" = none
 dict_:mg "dict" = none
 zip_:mg "zip" = none
 list_:mg "list" = none
 range_:mg "range" = none
 min_:mg "min" = none
 max_:mg "max" = none
 ValueError_:mg "ValueError" = none
 MOST_SIGNS_:∃u,mg "MOST_SIGNS" = some u/\RelV (V.int 12) u
 SMALL_LETTERS_:∃u,mg "SMALL_LETTERS" = some u/\RelV (V.str "abcdefghijklmnopqrstuvwxyz") u
 MOST_FACTS_:∃u,mg "MOST_FACTS" = some u/\RelV (V.int 20) u
 MOST_TABLES_:∃u,mg "MOST_TABLES" = some u/\RelV (V.int 30) u
 MOST_ROWS_:∃u,mg "MOST_ROWS" = some u/\RelV (V.int 200) u
 MOST_COLUMNS_:∃u,mg "MOST_COLUMNS" = some u/\RelV (V.int 4) u
 MOST_WORDS_:∃u,mg "MOST_WORDS" = some u/\RelV (V.int 40) u
theorem p10(n:Nat):(0:Int)<10^n:=Int.pow_pos (by decide)
theorem iL{H:Hp}{r:Addr}{o:HO}{b:Addr}{u:HO}(h:H r=some u)(n:H b=none):upd H b o r=some u:=by rw[aD (aV h n)];exact h
theorem take_snoc{α:Type}{l:List α}{i:Nat}{x:α}(e:l[i]?=some x):l.take (i+1)=l.take i++[x]:=by rw[List.take_add_one,e];rfl
def lets:Str := "abcdefghijklmnopqrstuvwxyz"
def isw(z:Str):Bool:=decide ((1:Int)<=((z.length:Nat):Int)) && (decide (((z.length:Nat):Int)<=12) && (!decide (V.str z=V.str "not") && lF z lets))
theorem xb{l:List Nat}{i:Nat}{c:Nat}{p:Nat->Bool}(e:l[i]?=some c)(h:p c=false):l.all p=false:=by
 cases q:l.all p with
 |false=>rfl
 |true=>rw[all_eq_true.mp q c (Jy e)]at h;cases h
theorem all_succ{l:List Nat}{i:Nat}{c:Nat}{p:Nat->Bool}(e:l[i]?=some c)(h:p c=true)(ha:(l.take i).all p=true):(l.take (i+1)).all p=true:=by
 rw[take_snoc e,List.all_append,ha];simp[h]
theorem tJ{z g:Str}(h:(z.cps.toList.take z.cps.size).all (sg g)=true):lF z g=true:=by
 have e:z.cps.toList.take z.cps.size=z.cps.toList:=by rw[←length_toList];exact take_length
 rw[e]at h;exact h
theorem xf{g:Str}{c:Nat}(h:(!(!(Builtin.Str.occurrences g ⟨#[c]⟩ 0 g.length 1).isEmpty))=true):sg g c=false:=by unfold sg;simpa using h
theorem y9{g:Str}{c:Nat}(h:¬ (!(!(Builtin.Str.occurrences g ⟨#[c]⟩ 0 g.length 1).isEmpty))=true):sg g c=true:=by unfold sg;simpa using h
theorem big{n:Nat}(h:n<=1000):n<=sizeLine:=le_of_lt (aw h)
def mkd(C:Addr)(H:Hp)(x dx:Addr)(lo hi:Int):Hp:=upd (upd H x (.ins C dx [("low",.int lo)])) x (.ins C dx [("low",.int lo),("high",.int hi)])
theorem put2(v u:V):bE (Str.ofString "high") u [(Str.ofString "low",v)]=[(Str.ofString "low",v),(Str.ofString "high",u)]:=by
 unfold bE bE;rw[if_neg (by decide)]
theorem put3(v u t:V):bE (Str.ofString "words") t [(Str.ofString "low",v),(Str.ofString "high",u)]=[(Str.ofString "low",v),(Str.ofString "high",u),(Str.ofString "words",t)]:=by
 unfold bE bE bE;rw[if_neg (by decide),if_neg (by decide)]
def hiW(zs:List Str):Int:=((zs.length:Nat):Int)-1
structure Good(zs:List Str):Prop where
 some_:1<=zs.length
 few:zs.length<=40
 words:∀z∈zs,isw z=true
 once:zs.Nodup
theorem mZ(zs:List Str):(zs.map V.str).all dg=true:=by
 rw[List.all_map];exact all_eq_true.mpr λ_ _=>U
theorem eO{zs:List Str}{i:Nat}{x:V}(e:(zs.map V.str)[i]?=some x):∃z,x=.str z/\zs[i]?=some z:=by
 rw[getElem?_map]at e;cases q:zs[i]? with
 |none=>rw[q]at e;cases e
 |some z=>rw[q]at e;cases e;exact⟨z,U,U⟩
theorem bY{zs:List Str}{i:Nat}{z:Str}(e:zs[i]?=some z):(zs.map V.str)[i]?=some (.str z):=by rw[getElem?_map,e];rfl
def six:List Str:=[Str.ofString "first",Str.ofString "only",Str.ofString "like",Str.ofString "low",Str.ofString "high",Str.ofString "sum"]
def WyN(C:Addr)(H:Hp)(x:Addr)(z:Str):Prop:=∃dx,H x=some (.ins C dx [("called",.str z)])
theorem WyN.same{C:Addr}{H H':Hp}{x:Addr}{z:Str}(h:WyN C H x z)(s:au H H'):WyN C H' x z:=by obtain⟨dx,e⟩:=h;exact⟨dx,s _ _ e⟩
def rO(C:Addr)(z:Str):Sp:=λvs H Q _=>∃(x dx:Addr),vs=[.ref x]/\H x=some (.ins C dx [])/\Q .non (upd H x (.ins C dx [("called",.str z)]))
theorem bf:2<=sizeLine:=by decide
def cl6(a b c d e f:Addr):List Addr:=[a,b,c,d,e,f]
def xg(C:Addr)(H:Hp)(a:Addr)(lo hi:Int):Prop:=∃dx fs,H a=some (.ins C dx fs)/\fs.lookup (Str.ofString "low")=some (.int lo)/\fs.lookup (Str.ofString "high")=some (.int hi)/\fs.lookup (Str.ofString "has_code")=none
def Dom(cN cW:Addr)(H:Hp)(a:Addr)(b:Int×Int):Prop:=∃C,(C=cN\/C=cW)/\xg C H a b.1 b.2
theorem Dom.same{cN cW:Addr}{H H':Hp}{a:Addr}{b:Int×Int}(h:Dom cN cW H a b)(s:au H H'):Dom cN cW H' a b:=by obtain⟨C,hC,dx,fs,e,r⟩:=h;exact⟨C,hC,dx,fs,s _ _ e,r⟩
def ar{α:Type}(xs:List V)(as:List α)(P:Addr->α->Prop):Prop:=xs.length=as.length/\∀(j:Nat)(a:α),as[j]?=some a->∃r,xs[j]?=some (.ref r)/\P r a
theorem ar.mono{α:Type}{xs:List V}{as:List α}{P Q:Addr->α->Prop}(h:ar xs as P)(k:∀r a,P r a->Q r a):ar xs as Q:=⟨h.1,λj a e=>let ⟨r,e1,p⟩:=h.2 j a e;⟨r,e1,k r a p⟩⟩
theorem ar.nil{α:Type}{P:Addr->α->Prop}:ar [] [] P:=⟨U,(λj a e=>by simp at e)⟩
theorem ar.snoc{α:Type}{xs:List V}{as:List α}{P:Addr->α->Prop}{r:Addr}{a:α}(h:ar xs as P)(p:P r a):ar (xs++[.ref r]) (as++[a]) P:=by
 refine⟨by simp[h.1],λj b e=>?_⟩;by_cases hj:j<as.length
 ·rw[getElem?_append_left hj]at e;obtain⟨r',e1,q⟩:=h.2 j b e;exact⟨r',by rw[getElem?_append_left (by rw[h.1];exact hj)];exact e1,q⟩
 ·have hj2:j=as.length:=by
   have:=(Jx.mp e).1;simp at this;lia
  subst hj2;simp at e;subst e;exact⟨r,by rw[←h.1];simp,p⟩
theorem ar.get{α:Type}{xs:List V}{as:List α}{P:Addr->α->Prop}(h:ar xs as P){j:Nat}{x:V}(e:xs[j]?=some x):∃r a,x=.ref r/\as[j]?=some a/\P r a:=by
 have hj:=(Jx.mp e).1;have ea:=Jw (l:=as) (i:=j) (by rw[←h.1];exact hj);obtain⟨r,e1,p⟩:=h.2 j _ ea;rw[e]at e1;cases e1;exact⟨r,_,U,ea,p⟩
abbrev Prs:=List (Int×Int)
def SpA(N:Addr->Prop)(H:Hp)(l:Addr)(ps:Prs):Prop:=N l/\∃ys,H l=some (.lst ys)/\PL H ys ps
def CL(N:Addr->Prop)(H:Hp)(xs:List V)(pss:List Prs):Prop:=ar xs pss (SpA N H)
abbrev Rw:=List Prs×Int
def fK(N:Addr->Prop)(H:Hp)(r:Addr)(rw_:Rw):Prop:=∃ce cs,H r=some (.tup [.ref ce,.int rw_.2])/\N ce/\H ce=some (.lst cs)/\CL N H cs rw_.1
def RL(N:Addr->Prop)(H:Hp)(xs:List V)(rws:List Rw):Prop:=ar xs rws (fK N H)
theorem SpA.same{N:Addr->Prop}{H H':Hp}{l:Addr}{ps:Prs}(h:SpA N H l ps)(s:au H H'):SpA N H' l ps:=by obtain⟨n,ys,e,p⟩:=h;exact⟨n,ys,s _ _ e,p.mono s.tups⟩
theorem CL.same{N:Addr->Prop}{H H':Hp}{xs:List V}{pss:List Prs}(h:CL N H xs pss)(s:au H H'):CL N H' xs pss:=ar.mono h λ_ _ p=>p.same s
theorem fK.same{N:Addr->Prop}{H H':Hp}{r:Addr}{w:Rw}(h:fK N H r w)(s:au H H'):fK N H' r w:=by obtain⟨ce,cs,e,n,f,c⟩:=h;exact⟨ce,cs,s _ _ e,n,s _ _ f,c.same s⟩
theorem RL.same{N:Addr->Prop}{H H':Hp}{xs:List V}{rws:List Rw}(h:RL N H xs rws)(s:au H H'):RL N H' xs rws:=ar.mono h λ_ _ p=>p.same s
abbrev NT:Addr->Prop:=λ_=>True
theorem SpA.any{N:Addr->Prop}{H:Hp}{l:Addr}{ps:Prs}(h:SpA N H l ps):SpA NT H l ps:=⟨trivial,h.2⟩
theorem CL.any{N:Addr->Prop}{H:Hp}{xs:List V}{pss:List Prs}(h:CL N H xs pss):CL NT H xs pss:=ar.mono h λ_ _ p=>p.any
theorem fK.any{N:Addr->Prop}{H:Hp}{r:Addr}{w:Rw}(h:fK N H r w):fK NT H r w:=by obtain⟨ce,cs,e,_,f,c⟩:=h;exact⟨ce,cs,e,trivial,f,c.any⟩
theorem RL.any{N:Addr->Prop}{H:Hp}{xs:List V}{rws:List Rw}(h:RL N H xs rws):RL NT H xs rws:=ar.mono h λ_ _ p=>p.any
theorem SpA.wk{N N':Addr->Prop}{H:Hp}{l:Addr}{ps:Prs}(h:SpA N H l ps)(k:∀a,N a->N' a):SpA N' H l ps:=⟨k _ h.1,h.2⟩
theorem CL.wk{N N':Addr->Prop}{H:Hp}{xs:List V}{pss:List Prs}(h:CL N H xs pss)(k:∀a,N a->N' a):CL N' H xs pss:=ar.mono h λ_ _ p=>p.wk k
theorem fK.wk{N N':Addr->Prop}{H:Hp}{r:Addr}{w:Rw}(h:fK N H r w)(k:∀a,N a->N' a):fK N' H r w:=by obtain⟨ce,cs,e,n,f,c⟩:=h;exact⟨ce,cs,e,k _ n,f,c.wk k⟩
theorem SpA.updN{N:Addr->Prop}{D:Addr}{H:Hp}{l:Addr}{ps:Prs}{zs:List V}{o:HO}(h:SpA N H l ps)(n:¬ N D)(e:H D=some (.lst zs)):SpA N (upd H D o) l ps:=by
 obtain⟨m,ys,f,p⟩:=h;exact⟨m,ys,(aD (λz=>n (by rw[←z];exact m))).trans f,p.mono (mS e)⟩
theorem CL.updN{N:Addr->Prop}{D:Addr}{H:Hp}{xs:List V}{pss:List Prs}{zs:List V}{o:HO}(h:CL N H xs pss)(n:¬ N D)(e:H D=some (.lst zs)):CL N (upd H D o) xs pss:=ar.mono h λ_ _ p=>p.updN n e
theorem fK.updN{N:Addr->Prop}{D:Addr}{H:Hp}{r:Addr}{w:Rw}{zs:List V}{o:HO}(h:fK N H r w)(n:¬ N D)(e:H D=some (.lst zs)):fK N (upd H D o) r w:=by
 obtain⟨ce,cs,f,m,g,c⟩:=h;exact⟨ce,cs,(aD (bK f e (by intro z;cases z))).trans f,m,(aD (λz=>n (by rw[←z];exact m))).trans g,c.updN n e⟩
theorem RL.updN{N:Addr->Prop}{D:Addr}{H:Hp}{xs:List V}{rws:List Rw}{zs:List V}{o:HO}(h:RL N H xs rws)(n:¬ N D)(e:H D=some (.lst zs)):RL N (upd H D o) xs rws:=ar.mono h λ_ _ p=>p.updN n e
def Fr(H:Hp)(D:Addr):Addr->Prop:=λa=>H a=none/\a≠D
theorem Fr.out{H:Hp}{D:Addr}:¬ Fr H D D:=λh=>h.2 U
structure Jd(b:Int×Int)(zs:List Str):Prop where
 le:b.1<=b.2
 ws:zs≠[]->Good zs/\b=(0,hiW zs)
structure pF(bs:Prs)(o:Int×Int)(w:Rw):Prop where
 len:w.1.length=bs.length
 inn:∀(j:Nat)(ps:Prs)(b:Int×Int),w.1[j]?=some ps->bs[j]?=some b->∀p∈ps,b.1<=p.1/\p.2<=b.2
 lo:o.1<=w.2
 hi:w.2<=o.2
def Bp(pss:List Prs)(cs:List Int):Bool:=(List.range cs.length).all λj=>inP (pss.getD j []) (cs.getD j 0)
theorem pf1(v0 v1:V):bE (Str.ofString "names") v1 [(Str.ofString "name",v0)]=[(Str.ofString "name",v0),(Str.ofString "names",v1)]:=by
 unfold bE bE;rw[if_neg (by decide)]
theorem pf2(v0 v1 v2:V):bE (Str.ofString "domains") v2 [(Str.ofString "name",v0),(Str.ofString "names",v1)]=[(Str.ofString "name",v0),(Str.ofString "names",v1),(Str.ofString "domains",v2)]:=by
 unfold bE bE bE;rw[if_neg (by decide),if_neg (by decide)]
theorem pf3(v0 v1 v2 v3:V):bE (Str.ofString "outcome") v3 [(Str.ofString "name",v0),(Str.ofString "names",v1),(Str.ofString "domains",v2)]=[(Str.ofString "name",v0),(Str.ofString "names",v1),(Str.ofString "domains",v2),(Str.ofString "outcome",v3)]:=by
 unfold bE bE bE bE;rw[if_neg (by decide),if_neg (by decide),if_neg (by decide)]
theorem pf4(v0 v1 v2 v3 v4:V):bE (Str.ofString "way") v4 [(Str.ofString "name",v0),(Str.ofString "names",v1),(Str.ofString "domains",v2),(Str.ofString "outcome",v3)]=[(Str.ofString "name",v0),(Str.ofString "names",v1),(Str.ofString "domains",v2),(Str.ofString "outcome",v3),(Str.ofString "way",v4)]:=by
 unfold bE bE bE bE bE;rw[if_neg (by decide),if_neg (by decide),if_neg (by decide),if_neg (by decide)]
theorem pf5(v0 v1 v2 v3 v4 v5:V):bE (Str.ofString "rows") v5 [(Str.ofString "name",v0),(Str.ofString "names",v1),(Str.ofString "domains",v2),(Str.ofString "outcome",v3),(Str.ofString "way",v4)]=[(Str.ofString "name",v0),(Str.ofString "names",v1),(Str.ofString "domains",v2),(Str.ofString "outcome",v3),(Str.ofString "way",v4),(Str.ofString "rows",v5)]:=by
 unfold bE bE bE bE bE bE;rw[if_neg (by decide),if_neg (by decide),if_neg (by decide),if_neg (by decide),if_neg (by decide)]
def hide(H:Hp)(x:Addr):Hp:=λb=>if b=x then none else H b
theorem bj{H:Hp}{x b:Addr}{o:HO}(e:H b=some o)(n:b≠x):hide H x b=some o:=by unfold hide;rw[if_neg n];exact e
theorem m4{H H':Hp}{x:Addr}(k:∀b o,b≠x->H b=some o->H' b=some o):au (hide H x) H':=λb o e=>by
 unfold hide at e;by_cases h:b=x
 ·rw[if_pos h]at e;cases e
 ·rw[if_neg h]at e;exact k b o h e
theorem PL.hide{H:Hp}{x C dx:Addr}{fs:List (Str×V)}(hx:H x=some (.ins C dx fs)){ys:List V}{ps:Prs}(h:PL H ys ps):PL (hide H x) ys ps :=
 h.mono λb xs e=>bj e (bK e hx (by intro z;cases z))
theorem RL.hide{H:Hp}{x C dx:Addr}{fs:List (Str×V)}(hx:H x=some (.ins C dx fs)){xs:List V}{rws:List Rw}(h:RL NT H xs rws):RL NT (My.hide H x) xs rws :=
 ar.mono h λr w ⟨ce,cs,e,_,f,c⟩=>⟨ce,cs,bj e (bK e hx (by intro z;cases z)),trivial,bj f (bK f hx (by intro z;cases z)),ar.mono c λl ps ⟨_,ys,g,p⟩=>⟨trivial,ys,bj g (bK g hx (by intro z;cases z)),PL.hide hx p⟩⟩
def wcs(c k:Int):List Nat:=List.replicate (c / 26%6).toNat (97+(c%26).toNat)++([97+(k / 7%7).toNat,97+(k%7).toNat]++List.replicate (k%5).toNat (97+(c / 156%26).toNat))
def wd(c k:Int):Str:=⟨(wcs c k).toArray⟩
theorem xh{c:Nat}(h:97<=c/\c<=122):sg lets c=true:=by
 have:∀d:Nat,d<26->sg lets (97+d)=true:=by decide+kernel
 have z:=this (c-97) (by lia);rw[show 97+(c-97)=c by lia]at z;exact z
theorem js{s:Str}{n:Nat}(h:s.cps.toList=(List.range n).map (97 + ·)){k:Int}(h0:0<=k)(h1:k<n):atI s.cps.toList k=some (97+k.toNat):=by
 have hk:k.toNat<n:=by lia
 have z:s.cps.toList[k.toNat]?=some (97+k.toNat):=by rw[h,getElem?_map,getElem?_range hk];rfl
 have q:=aP z;rw[show((k.toNat:Nat):Int)=k by lia]at q;exact q
theorem pG:(Str.ofString "abcdefghijklmnopqrstuvwxyz").cps.toList=(List.range 26).map (97 + ·):=by decide+kernel
abbrev SI:=Str×Int
def tp(p:SI):List V:=[.str p.1,.int p.2]
def msk(f:Nat->Bool):Nat->Nat
 |0=>0
 |n+1=>(if f n then 2^n else 0)+msk f n
def fl(rws:List Rw)(cs:List Int):List Int:=(rws.filter λw=>Bp w.1 cs).map (·.2)
def w6:List Str:=[Str.ofString "low",Str.ofString "high",Str.ofString "like",Str.ofString "only",Str.ofString "first",Str.ofString "sum"]
structure Col where
 prs:Prs
 w:Bool
 sd:Int
structure Ch(ps:Prs):Prop where
 le:∀(i:Nat)(p:Int×Int),ps[i]?=some p->p.1<=p.2
 nxt:∀(i:Nat)(p q:Int×Int),ps[i]?=some p->ps[i+1]?=some q->q.1=p.2+1
structure Je(c:Col):Prop where
 some_:1<=c.prs.length
 few:c.prs.length<=6
 ch:Ch c.prs
 w0:c.w=true->∀p,c.prs[0]?=some p->p.1=0
 wl:c.w=true->∀(i:Nat)(p:Int×Int),c.prs[i]?=some p->p.2<40
def Col.lo(c:Col):Int:=(c.prs.headD (0,0)).1
def Col.hi(c:Col):Int:=(c.prs.getLastD (0,0)).2
def Col.b(c:Col):Int×Int:=(c.lo,c.hi)
structure Srt(ps:Prs):Prop where
 le:∀(i:Nat)(p:Int×Int),ps[i]?=some p->p.1<=p.2
 lt:∀(i j:Nat)(p q:Int×Int),i<j->ps[i]?=some p->ps[j]?=some q->p.2<q.1
structure Bq(prs:Prs)(b n:Nat)(ps:Prs):Prop where
 srt:Srt ps
 iff:∀x:Int,inP ps x=true↔∃(k:Nat)(p:Int×Int),k<n/\prs[k]?=some p/\b.testBit k=true/\p.1<=x/\x<=p.2
def mrg(prs:Prs)(b:Nat):Nat->Prs
 |0=>[]
 |n+1=>if b.testBit n then(if (decide (0<n) && b.testBit (n-1)) then(mrg prs b n).dropLast++[(((mrg prs b n).getLastD (0,0)).1,(prs.getD n (0,0)).2)]else mrg prs b n++[prs.getD n (0,0)])else mrg prs b n
abbrev BW:=List Nat×Int
def vN(bs:List Nat):List V:=bs.map λb:Nat=>V.int (b:Int)
theorem fC(bs:List Nat):(vN bs).length=bs.length:=by unfold vN;rw[length_map]
theorem qW{bs:List Nat}{j:Nat}{x:V}(e:(vN bs)[j]?=some x):∃b:Nat,x=.int (b:Int)/\bs[j]?=some b:=by
 unfold vN at e;rw[getElem?_map]at e;cases q:bs[j]? with
 |none=>rw[q]at e;cases e
 |some b=>rw[q]at e;cases e;exact⟨b,U,U⟩
theorem tK(bs cs:List Nat):vN bs++vN cs=vN (bs++cs):=by unfold vN;rw[map_append]
structure Jf(cs:List Col)(o:Col)(w:BW):Prop where
 len:w.1.length=cs.length
 lt:∀(j b:Nat)(c:Col),w.1[j]?=some b->cs[j]?=some c->b<2^c.prs.length
 lo:o.lo<=w.2
 hi:w.2<=o.hi
theorem qX(xs:List V)(k:Nat):gK xs none (some (k:Int))=xs.take k:=by
 unfold gK;have e:HT.sIx xs.length xs.length (some (k:Int))=min k xs.length:=by
  simp only[HT.sIx];split <;> lia
 have e2:HT.sIx xs.length 0 none=0:=by simp[HT.sIx]
 rw[e,e2,List.drop_zero,Nat.sub_zero];rcases Nat.le_total k xs.length with h|h
 ·rw[Nat.min_eq_left h]
 ·rw[Nat.min_eq_right h,take_length,List.take_of_length_le h]
theorem vj(xs:List V)(k:Nat):gK xs (some (k:Int)) none=xs.drop k:=by
 unfold gK;have e:HT.sIx xs.length 0 (some (k:Int))=min k xs.length:=by
  simp only[HT.sIx];split <;> lia
 have e2:HT.sIx xs.length xs.length none=xs.length:=by simp[HT.sIx]
 rw[e,e2,←length_drop,take_length];rcases Nat.le_total k xs.length with h|h
 ·rw[Nat.min_eq_left h]
 ·rw[Nat.min_eq_right h,List.drop_length,List.drop_of_length_le h]
structure Jo(cs:List Col)(w:BW)(x:Rw):Prop where
 code:x.2=w.2
 len:x.1.length=cs.length
 sp:∀(j:Nat)(ps:Prs)(c:Col)(b:Nat),x.1[j]?=some ps->cs[j]?=some c->w.1[j]?=some b->Bq c.prs b c.prs.length ps
 is:∀(j:Nat)(ps:Prs)(c:Col)(b:Nat),x.1[j]?=some ps->cs[j]?=some c->w.1[j]?=some b->ps=mrg c.prs b c.prs.length
def grow(pts:List (List Nat))(n:Nat):List (List Nat):=pts.flatMap λp=>(List.range n).map λk=>p++[k]
def prm{α:Type}(os:List Nat)(xs:List α):List α:=os.filterMap (xs[·]?)
structure Pm(os:List Nat)(n:Nat):Prop where
 len:os.length=n
 lt:∀k∈os,k<n
 nd:os.Nodup
 all:∀k,k<n->k∈os
theorem pH{α:Type}{o:Nat}{os:List Nat}{xs:List α}(h:o<xs.length):prm (o :: os) xs=xs[o] :: prm os xs:=by
 unfold prm;rw[filterMap_cons,Jw h]
theorem cF{α:Type}:∀{os:List Nat}{xs:List α},(∀k∈os,k<xs.length)->(prm os xs).length=os.length/\∀(j k:Nat),os[j]?=some k->(prm os xs)[j]?=xs[k]?
 | [],xs,_=>⟨U,λj k e=>by simp at e⟩
 |o :: os,xs,h=>by
  obtain⟨h1,h2⟩:=cF (os:=os) (xs:=xs) λk hk=>h k (mem_cons_of_mem _ hk)
  have ho:=h o mem_cons_self;rw[pH ho];refine⟨by rw[length_cons,length_cons,h1],λj k f=>?_⟩
  match j,f with
  |0,f =>
   have:o=k:=by simpa using f
   subst this;rw[Jw ho];rfl
  |j+1,f=>exact h2 j k (by simpa using f)
theorem tL{α:Type}{os:List Nat}{k:Nat}{xs:List α}{x:α}(e:xs[k]?=some x):prm (os++[k]) xs=prm os xs++[x]:=by
 unfold prm;rw[List.filterMap_append];simp[e]
theorem qY{α β:Type}(f:α->β)(os:List Nat)(xs:List α):prm os (xs.map f)=(prm os xs).map f:=by
 unfold prm;rw[List.map_filterMap]
 congr 1
 funext k
 rw[getElem?_map]
theorem nN{α:Type}{os:List Nat}{xs:List α}{x:α}(h:x∈prm os xs):x∈xs:=by
 unfold prm at h;obtain⟨k,_,e⟩:=mem_filterMap.mp h;exact Jy e
theorem gB{α:Type}{xs:List α}(h:xs.Nodup){i j:Nat}{x:α}(e:xs[i]?=some x)(f:xs[j]?=some x):i=j:=by
 obtain⟨hi,ei⟩:=Jx.mp e;obtain⟨hj,ej⟩:=Jx.mp f;have p:=List.pairwise_iff_getElem.mp (nodup_iff_pairwise_ne.mp h);rcases Nat.lt_trichotomy i j with q|q|q
 ·exact absurd (ei.trans ej.symm) (p i j hi hj q)
 ·exact q
 ·exact absurd (ej.trans ei.symm) (p j i hj hi q)
theorem m6{α:Type}{os:List Nat}{xs:List α}(ho:os.Nodup)(hx:xs.Nodup)(hl:∀k∈os,k<xs.length):(prm os xs).Nodup:=by
 induction os with
 |nil=>exact nodup_nil
 |cons o os ih =>
  rw[nodup_cons]at ho;have hi:=ih ho.2 λk hk=>hl k (mem_cons_of_mem _ hk)
  have h0:=hl o mem_cons_self;rw[pH h0,nodup_cons];refine⟨λhm=>?_,hi⟩;unfold prm at hm;obtain⟨k,hk,f⟩:=mem_filterMap.mp hm;have:k=o:=gB hx f (Jw h0);subst this;exact ho.1 hk
def TF(cT:Addr)(H:Hp)(t:Addr)(nm wy:Str)(ou:Addr)(zs:List Str)(dv:List V)(rws:List Rw):Prop:=∃(rl dx na dl:Addr)(fs:List (Str×V))(xs:List V),H t=some (.ins cT dx fs)/\fs.lookup (Str.ofString "rows")=some (.ref rl)/\fs.lookup (Str.ofString "name")=some (.str nm)/\fs.lookup (Str.ofString "way")=some (.str wy)/\fs.lookup (Str.ofString "outcome")=some (.ref ou)/\fs.lookup (Str.ofString "names")=some (.ref na)/\fs.lookup (Str.ofString "domains")=some (.ref dl)/\H na=some (.lst (zs.map V.str))/\H dl=some (.lst dv)/\H rl=some (.lst xs)/\RL NT H xs rws/\xs.length<=200
theorem TF.same{cT:Addr}{H H':Hp}{t:Addr}{nm wy:Str}{ou:Addr}{zs:List Str}{dv:List V}{rws:List Rw}(h:TF cT H t nm wy ou zs dv rws)(s:au H H'):TF cT H' t nm wy ou zs dv rws:=by
 obtain⟨rl,dx,na,dl,fs,xs,h1,h2,h3,h4,h5,h6,h7,h8,h9,h10,h11,r⟩:=h;exact⟨rl,dx,na,dl,fs,xs,s _ _ h1,h2,h3,h4,h5,h6,h7,s _ _ h8,s _ _ h9,s _ _ h10,h11.same s,r⟩
structure TOk(cN cW:Addr)(H:Hp)(nm wy:Str)(ou:Addr)(zs:List Str)(dv:List V)(rws:List Rw)(bs:Prs)(o:Int×Int):Prop where
 words:∀z∈nm :: zs,isw z=true
 once:(nm :: zs).Nodup
 one:1<=zs.length
 four:zs.length<=4
 way:wy∈six
 sum:wy=Str.ofString "sum" -> ∃dx fs,H ou=some (.ins cN dx fs)
 doms:ar dv bs (Dom cN cW H)
 out:Dom cN cW H ou o
 len:bs.length=zs.length
 rows:∀w∈rws,pF bs o w
 few:rws.length<=200
theorem eP{H:Hp}{D:Addr}{o:HO}:hide (upd H D o) D=hide H D:=by
 funext b
 unfold hide;by_cases h:b=D
 ·rw[if_pos h,if_pos h]
 ·rw[if_neg h,if_neg h,aD h]
theorem dN{H H':Hp}{D:Addr}(s:au H H'):au (hide H D) (hide H' D):=λb o e=>by
 unfold hide at e⊢;by_cases h:b=D
 ·rw[if_pos h]at e;cases e
 ·rw[if_neg h]at e⊢;exact s b o e
theorem ij(H:Hp)(D:Addr):au (hide H D) H:=λb o e=>by
 unfold hide at e;by_cases h:b=D
 ·rw[if_pos h]at e;cases e
 ·rw[if_neg h]at e;exact e
def vk(C:Addr)(H:Hp)(a:Addr)(zs:List Str):Prop:=∃dx l,H a=some (.ins C dx [("low",.int 0),("high",.int (hiW zs)),("words",.ref l)])/\H l=some (.lst (zs.map V.str))
def fL(C:Addr)(H:Hp)(a:Addr)(lo hi:Int):Prop:=∃dx,H a=some (.ins C dx [("low",.int lo),("high",.int hi)])
theorem vk.same{C:Addr}{H H':Hp}{a:Addr}{zs:List Str}(h:vk C H a zs)(s:au H H'):vk C H' a zs:=by obtain⟨dx,l,e,f⟩:=h;exact⟨dx,l,s _ _ e,s _ _ f⟩
theorem fL.same{C:Addr}{H H':Hp}{a:Addr}{lo hi:Int}(h:fL C H a lo hi)(s:au H H'):fL C H' a lo hi:=by obtain⟨dx,e⟩:=h;exact⟨dx,s _ _ e⟩
def bnd(i:Int):Prop:=i.natAbs<10^60
theorem tM{l:List Nat}(h1:1<=l.length)(h2:l.length<=12)(h3:∀x∈l,97<=x/\x<=122)(h4:l≠[110,111,116]):isw ⟨l.toArray⟩=true:=by
 have ha:lF ⟨l.toArray⟩ lets=true:=by
  unfold lF;rw[all_eq_true];intro x hx;exact xh (h3 x (by simpa using hx))
 have hn:¬ (V.str ⟨l.toArray⟩=V.str (Str.ofString "not")):=λh=>by
  injection h with h;have e:Str.ofString "not" = ⟨[110,111,116].toArray⟩:=by decide+kernel
  rw[e]at h;injection h with h;exact h4 (by simpa using congrArg Array.toList h)
 have hl:(⟨l.toArray⟩:Str).length=l.length:=by simp[Str.length]
 unfold isw;rw[ha,decide_eq_true (show(1:Int)<=(((⟨l.toArray⟩:Str).length:Nat):Int) by lia),decide_eq_true (show(((⟨l.toArray⟩:Str).length:Nat):Int)<=12 by lia)];show(true && (true && (!decide (V.str ⟨l.toArray⟩=V.str (Str.ofString "not")) && true)))=true;rw[decide_eq_false hn];rfl
theorem zb{k:Int}(h0:0<=k)(h1:k<40):bnd k:=by
 unfold bnd;have e:(40:Nat)<=10^60:=by decide
 generalize (10^60:Nat)=W at e⊢;lia
abbrev Dk:=Option (List Str)×Int×Int
def dc(cN cW:Addr)(H:Hp)(d:Addr)(k:Dk):Prop:=match k.1 with
 |none=>fL cN H d k.2.1 k.2.2
 |some zs=>vk cW H d zs/\k.2.1=0/\k.2.2=hiW zs/\Good zs
theorem dc.same{cN cW:Addr}{H H':Hp}{d:Addr}{k:Dk}(h:dc cN cW H d k)(s:au H H'):dc cN cW H' d k:=by
 obtain⟨w,lo,hi⟩:=k;cases w with
 |none=>exact fL.same h s
 |some zs=>exact⟨h.1.same s,h.2⟩
structure Br(k:Dk)(p:Pr):Prop where
 lo:k.2.1<=p.1
 le:p.1<=p.2
 hi:p.2<=k.2.2
 b1:bnd p.1
 b2:bnd p.2
def GdK(k:Dk):Prop:=match k.1 with
 |none=>True
 |some zs=>Good zs
def gD(N:Addr->Prop)(cN cW:Addr)(H:Hp)(d:Addr)(k:Dk):Prop:=match k.1 with
 |none=>fL cN H d k.2.1 k.2.2
 |some zs=>(∃dx l,N l/\H d=some (.ins cW dx [("low",.int 0),("high",.int (hiW zs)),("words",.ref l)])/\H l=some (.lst (zs.map V.str)))/\k.2.1=0/\k.2.2=hiW zs/\Good zs
theorem gD.dom{N:Addr->Prop}{cN cW:Addr}{H:Hp}{d:Addr}{k:Dk}(h:gD N cN cW H d k):dc cN cW H d k:=by
 obtain⟨w,lo,hi⟩:=k;cases w with
 |none=>exact h
 |some zs=>obtain⟨⟨dx,l,_,e,f⟩,r⟩:=h;exact⟨⟨dx,l,e,f⟩,r⟩
theorem gD.same{N:Addr->Prop}{cN cW:Addr}{H H':Hp}{d:Addr}{k:Dk}(h:gD N cN cW H d k)(s:au H H'):gD N cN cW H' d k:=by
 obtain⟨w,lo,hi⟩:=k;cases w with
 |none=>exact fL.same h s
 |some zs=>obtain⟨⟨dx,l,n,e,f⟩,r⟩:=h;exact⟨⟨dx,l,n,s _ _ e,s _ _ f⟩,r⟩
theorem gD.upd{N:Addr->Prop}{cN cW:Addr}{H:Hp}{d D:Addr}{k:Dk}{o:HO}{zs:List V}(h:gD N cN cW H d k)(n:¬ N D)(e:H D=some (.lst zs)):gD N cN cW (upd H D o) d k:=by
 obtain⟨w,lo,hi⟩:=k;cases w with
 |none =>
  obtain⟨dx,f⟩:=h;exact⟨dx,(aD (bK f e (by intro z;cases z))).trans f⟩
 |some ws =>
  obtain⟨⟨dx,l,m,f,g⟩,r⟩:=h;exact⟨⟨dx,l,m,(aD (bK f e (by intro z;cases z))).trans f,(aD (λ(z:l=D)=>n (by rw[←z];exact m))).trans g⟩,r⟩
theorem vm{z:Str}(h:isw z=true):z.length<=12:=by
 unfold isw at h;simp only[and_eq_true,decide_eq_true_eq]at h;lia
theorem xi{zs:List Str}{m:Nat}(h:∀z∈zs,z.length<=m):(zs.map (·.length)).sum<=zs.length*m:=by
 induction zs with
 |nil=>simp
 |cons z zs ih =>
  have h1:=h z (by simp);have h2:=ih λy hy=>h y (mem_cons_of_mem _ hy)
  rw[map_cons,List.sum_cons,length_cons,Nat.succ_mul];lia
theorem vn{zs:List Str}{m n:Nat}(h:∀z∈zs,z.length<=m)(hl:zs.length<=n)(hm:n*m+n*64<=16777216):(zs.map (·.length)).sum+zs.length*64<=16777216:=by
 have h1:=xi h;have h2:zs.length*m<=n*m:=Nat.mul_le_mul_right m hl;have h3:zs.length*64<=n*64:=Nat.mul_le_mul_right 64 hl;lia
theorem qq(a b:Str):(a++b).length=a.length+b.length:=by
 show(Str.append a b).length=_;unfold Str.append Str.length;simp
def hcs(c:Int):List Nat:=(List.range (c%6).toNat).map λj:Nat=>97+(c / (3*(0+(j:Int))+1)%13).toNat
def tcs(c:Int):List Nat:=(List.range (c / 7%6).toNat).map λj:Nat=>97+(c / (5*(0+(j:Int))+2)%13).toNat
def lwc(c k:Int):List Nat:=hcs c++([97+((c / 11+3*k)%26).toNat]++tcs c)
def lw(c k:Int):Str:=⟨(lwc c k).toArray⟩
def lws(c:Int)(n:Nat):List Str:=(List.range n).map λj:Nat=>lw c (0+(j:Int))
theorem tO(c:Int)(n:Nat):lws c (n+1)=lws c n++[lw c (0+(n:Int))]:=by unfold lws;rw[range_succ,map_append];rfl
theorem il(c:Int)(n:Nat):(lws c n).length=n:=by unfold lws;simp
theorem fZ{c k:Int}{x:Nat}(h:x∈lwc c k):(97<=x/\x<=109)\/x=97+((c / 11+3*k)%26).toNat:=by
 unfold lwc at h;rcases mem_append.mp h with h|h
 ·unfold hcs at h;obtain⟨j,_,rfl⟩:=mem_map.mp h;have:=emod_lt_of_pos (c / (3*(0+(j:Int))+1)) (show(0:Int)<13 by decide);lia
 ·rcases mem_append.mp h with h|h
  ·exact .inr (by simpa using h)
  ·unfold tcs at h;obtain⟨j,_,rfl⟩:=mem_map.mp h;have:=emod_lt_of_pos (c / (5*(0+(j:Int))+2)) (show(0:Int)<13 by decide);lia
theorem kG(c:Int):(hcs c).length<=5:=by
 unfold hcs;rw[length_map,length_range];have:=emod_lt_of_pos c (show(0:Int)<6 by decide);lia
theorem kH(c:Int):(tcs c).length<=5:=by
 unfold tcs;rw[length_map,length_range];have:=emod_lt_of_pos (c / 7) (show(0:Int)<6 by decide);lia
theorem tP(c k:Int):isw (lw c k)=true:=by
 have h1:=kG c;have h2:=kH c;have m1:=emod_lt_of_pos (c / 11+3*k) (show(0:Int)<26 by decide);refine tM (by unfold lwc;simp;lia) (by unfold lwc;simp;lia) (λx hx=>?_) (λh=>?_)
 ·rcases fZ hx with hx|hx <;> lia
 ·have a:(110:Nat)∈lwc c k:=by rw[h];simp
  have b:(111:Nat)∈lwc c k:=by rw[h];simp
  rcases fZ a with a|a
  ·lia
  ·rcases fZ b with b|b <;> lia
theorem xj{c k k':Int}(h0:0<=k)(h1:k<8)(h2:0<=k')(h3:k'<8)(e:lw c k=lw c k'):k=k':=by
 unfold lw at e;injection e with e;have e:lwc c k=lwc c k':=by simpa using congrArg Array.toList e
 unfold lwc at e;have e:=List.append_cancel_left e;injection e with e1 e2;have:=emod_nonneg (c / 11+3*k) (show(26:Int)≠0 by decide);have:=emod_nonneg (c / 11+3*k') (show(26:Int)≠0 by decide);generalize c / 11=d at *
 lia
theorem m7{c:Int}{n:Nat}(h:n<=8):(lws c n).Nodup:=by
 unfold lws;rw[nodup_iff_pairwise_ne,pairwise_map];refine List.Pairwise.imp_of_mem (R:=λa b=>a≠b) (λ{a b} ha hb hab e=>?_) nodup_range;have ha:=mem_range.mp ha;have hb:=mem_range.mp hb;have:=xj (by lia) (by lia) (by lia) (by lia) e;lia
theorem qZ{c:Int}{n:Nat}{z:Str}(hz:z∈lws c n):isw z=true:=by
 unfold lws at hz;obtain⟨j,_,rfl⟩:=mem_map.mp hz;exact tP _ _
theorem tQ{c:Int}{n:Nat}(h1:1<=n)(h2:n<=8):Good (lws c n):=⟨by rw[il];exact h1,by rw[il];lia,λz hz=>qZ hz,m7 h2⟩
theorem lJ:∀xs:List Nat,Txt.join (Str.ofString "") (xs.map λx=>(⟨#[x]⟩:Str))=⟨xs.toArray⟩:=λxs=>by
 rw[show Txt.join (Str.ofString "") (xs.map λx=>(⟨#[x]⟩:Str))=(Str.ofString "").join (xs.map λx=>(⟨#[x]⟩:Str))from StrLaws.glued_eq_join _ _];have e0:Str.ofString "" = Str.empty:=by decide+kernel
 rw[e0];induction xs with
 |nil=>rfl
 |cons x xs ih =>
  cases xs with
  |nil=>rfl
  |cons y ys =>
   show(⟨#[x]⟩:Str)++Str.empty++Str.join Str.empty ((y :: ys).map λx=>(⟨#[x]⟩:Str))=_;rw[ih];show Str.append (Str.append _ _) _=_;unfold Str.append Str.empty;simp
theorem pI(xs:List Nat)(h:xs.length<=5):((xs.map λx=>(⟨#[x]⟩:Str)).map (·.length)).sum+(xs.map λx=>(⟨#[x]⟩:Str)).length*64<=16777216 :=
 vn (m:=1) (n:=5) (λz hz=>by obtain⟨x,_,rfl⟩:=mem_map.mp hz;exact le_refl 1) (by rw[length_map];exact h) (by decide)
structure PD where
 lo:Int
 hi:Int
 ws:List Str
def PDA(N:Addr->Prop)(H:Hp)(r:Addr)(p:PD):Prop:=∃l:Addr,N r/\N l/\H r=some (.tup [.int p.lo,.int p.hi,.ref l])/\H l=some (.lst (p.ws.map V.str))
theorem PDA.same{N:Addr->Prop}{H H':Hp}{r:Addr}{p:PD}(h:PDA N H r p)(s:au H H'):PDA N H' r p:=by obtain⟨l,n,m,e,f⟩:=h;exact⟨l,n,m,s _ _ e,s _ _ f⟩
theorem PDA.wk{N N':Addr->Prop}{H:Hp}{r:Addr}{p:PD}(h:PDA N H r p)(w:∀x,N x->N' x):PDA N' H r p:=by obtain⟨l,n,m,e,f⟩:=h;exact⟨l,w _ n,w _ m,e,f⟩
def PD.k(p:PD):Dk:=(if p.ws=[]then none else some p.ws,p.lo,p.hi)
structure qr(p:PD):Prop where
 le:p.lo<=p.hi
 wd:p.ws≠[]->Good p.ws/\p.lo=0/\p.hi=hiW p.ws
 bd:∀x:Int,p.lo<=x->x<=p.hi->bnd x
theorem p30:(10:Int)^(30:Int).toNat=((10^30:Nat):Int):=by decide
theorem p29:(10:Int)^(29:Int).toNat=((10^29:Nat):Int):=by decide
theorem zc{x:Int}(h0 : -((10^31:Nat):Int)<=x)(h1:x<=((10^31:Nat):Int)):bnd x:=by
 unfold bnd;have k:(10^31:Nat)<10^60:=by decide
 generalize (10^31:Nat)=A at h0 h1 k;generalize (10^60:Nat)=W at k⊢;lia
theorem iM{i j:Int}(h:0<j)(h2:j<1000):yo i j:=⟨h,by lia⟩
theorem pl1{H:Hp}{t l:Addr}{a b:Int}(ht:H t=none)(hl:upd H t (.tup [.int a,.int b]) l=none):au H (upd (upd H t (.tup [.int a,.int b])) l (.lst [.ref t]))/\upd (upd H t (.tup [.int a,.int b])) l (.lst [.ref t]) l=some (.lst [.ref t])/\PL (upd (upd H t (.tup [.int a,.int b])) l (.lst [.ref t])) [.ref t] [(a,b)] :=
 ⟨(af ht _).trans (af hl _),ae,.cons ⟨t,U,af hl _ _ _ ae⟩ .nil⟩
theorem pl2{H:Hp}{t u l:Addr}{a b c d:Int}(ht:H t=none)(hu:upd H t (.tup [.int a,.int b]) u=none)(hl:upd (upd H t (.tup [.int a,.int b])) u (.tup [.int c,.int d]) l=none):au H (upd (upd (upd H t (.tup [.int a,.int b])) u (.tup [.int c,.int d])) l (.lst [.ref t,.ref u]))/\upd (upd (upd H t (.tup [.int a,.int b])) u (.tup [.int c,.int d])) l (.lst [.ref t,.ref u]) l=some (.lst [.ref t,.ref u])/\PL (upd (upd (upd H t (.tup [.int a,.int b])) u (.tup [.int c,.int d])) l (.lst [.ref t,.ref u])) [.ref t,.ref u] [(a,b),(c,d)] :=
 ⟨((af ht _).trans (af hu _)).trans (af hl _),ae,.cons ⟨t,U,af hl _ _ _ (af hu _ _ _ ae)⟩ (.cons ⟨u,U,af hl _ _ _ ae⟩ .nil)⟩
def SPI(p:PD)(H H':Hp)(pl:Addr):Prop:=au H H'/\∃(ts:List V)(ps:Prs),H' pl=some (.lst ts)/\PL H' ts ps/\(∀x∈ps,p.lo<=x.1/\x.2<=p.hi)/\ps.length<=2
theorem SPI.one{p:PD}{H H1 H2:Hp}{l t:Addr}{a b:Int}(s:au H H1)(h:au H1 H2/\H2 l=some (.lst [.ref t])/\PL H2 [.ref t] [(a,b)])(h1:p.lo<=a)(h2:b<=p.hi):SPI p H H2 l :=
 ⟨s.trans h.1,_,_,h.2.1,h.2.2,(λx hx=>by rw[show x=(a,b) by simpa using hx];exact⟨h1,h2⟩),by simp⟩
theorem SPI.two{p:PD}{H H1 H2:Hp}{l t u:Addr}{a b c d:Int}(s:au H H1)(h:au H1 H2/\H2 l=some (.lst [.ref t,.ref u])/\PL H2 [.ref t,.ref u] [(a,b),(c,d)])(h1:p.lo<=a)(h2:b<=p.hi)(h3:p.lo<=c)(h4:d<=p.hi):SPI p H H2 l :=
 ⟨s.trans h.1,_,_,h.2.1,h.2.2,(λx hx=>by
  rcases mem_cons.mp hx with rfl|hx
  ·exact⟨h1,h2⟩
  ·rw[show x=(c,d) by simpa using hx];exact⟨h3,h4⟩),by simp⟩
def PoA(N:Addr->Prop)(H:Hp)(a:Addr)(p:PD):Prop:=N a/\∃xs:List Int,H a=some (.lst (xs.map V.int))/\xs.length=3/\∀x∈xs,p.lo<=x/\x<=p.hi
theorem PoA.same{N:Addr->Prop}{H H':Hp}{a:Addr}{p:PD}(h:PoA N H a p)(s:au H H'):PoA N H' a p:=by obtain⟨n,xs,e,r⟩:=h;exact⟨n,xs,s _ _ e,r⟩
theorem PoA.pick{N:Addr->Prop}{H:Hp}{a:Addr}{p:PD}(h:PoA N H a p){K:W.Frag}(m:Int):∃xs x,SqL K H a xs/\atI xs (m%3)=some (.int x)/\p.lo<=x/\x<=p.hi:=by
 obtain⟨_,xs,e,hl,hb⟩:=h;have m0:=emod_nonneg m (show(3:Int)≠0 by decide);have m1:=emod_lt_of_pos m (show(0:Int)<3 by decide);obtain⟨k,ek⟩:∃k:Nat,m%3=(k:Int):=⟨_,(toNat_of_nonneg m0).symm⟩;have hk:k<xs.length:=by lia
 have ex:=Jw hk;refine⟨_,xs[k],SqL.of e,?_,hb _ (Jy ex)⟩;rw[ek];exact aP (by rw[getElem?_map,ex];rfl)
structure nO(ds:List PD)(cols:List Nat)(ow:Nat)(w:Rw):Prop where
 len:w.1.length=cols.length
 inn:∀(j k:Nat)(ps:Prs)(p:PD),w.1[j]?=some ps->cols[j]?=some k->ds[k]?=some p->∀x∈ps,p.lo<=x.1/\x.1<=x.2/\x.2<=p.hi
 few:∀ps∈w.1,ps.length<=2
 code:∀p,ds[ow]?=some p->p.lo<=w.2/\w.2<=p.hi
theorem PDA.updN{N:Addr->Prop}{H:Hp}{r D:Addr}{p:PD}{zs:List V}{o:HO}(h:PDA N H r p)(n:¬ N D)(e:H D=some (.lst zs)):PDA N (upd H D o) r p:=by
 obtain⟨l,n1,n2,f,g⟩:=h;exact⟨l,n1,n2,(aD (bK f e (by intro z;cases z))).trans f,(aD (λ(z:l=D)=>n (by rw[←z];exact n2))).trans g⟩
theorem PoA.updN{N:Addr->Prop}{H:Hp}{r D:Addr}{p:PD}{o:HO}(h:PoA N H r p)(n:¬ N D):PoA N (upd H D o) r p:=by
 obtain⟨n1,xs,f,g⟩:=h;exact⟨n1,xs,(aD (λ(z:r=D)=>n (by rw[←z];exact n1))).trans f,g⟩
theorem PoA.any{N:Addr->Prop}{H:Hp}{r:Addr}{p:PD}(h:PoA N H r p):PoA NT H r p:=⟨trivial,h.2⟩
def hideL(H:Hp)(F:List Addr):Hp:=λb=>if b∈F then none else H b
theorem dq{H:Hp}{F:List Addr}{b:Addr}{o:HO}(e:H b=some o)(n:b ∉ F):hideL H F b=some o:=by unfold hideL;rw[if_neg n];exact e
theorem eQ(H:Hp)(F:List Addr):au (hideL H F) H:=λb o e=>by
 unfold hideL at e;by_cases h:b∈F
 ·rw[if_pos h]at e;cases e
 ·rw[if_neg h]at e;exact e
theorem iN{H H':Hp}{F:List Addr}(s:au H H'):au (hideL H F) (hideL H' F):=λb o e=>by
 by_cases h:b∈F
 ·unfold hideL at e;rw[if_pos h]at e;cases e
 ·exact dq (s b o (eQ H F b o e)) h
theorem m8{H:Hp}{F:List Addr}{D:Addr}{o:HO}(h:D∈F):hideL (upd H D o) F=hideL H F:=by
 funext b
 unfold hideL;by_cases hb:b∈F
 ·rw[if_pos hb,if_pos hb]
 ·rw[if_neg hb,if_neg hb];exact aD λz=>hb (by rw[z];exact h)
theorem qt{H H':Hp}{F:List Addr}(s:au H H')(n:∀D∈F,H D=none):au H (hideL H' F):=λb o e=>dq (s b o e) λhb=>by rw[n b hb]at e;cases e
theorem lK{H:Hp}{F:List Addr}(hF:∀D∈F,∃zs,H D=some (.lst zs)):mR H (hideL H F):=λb t e=>dq e λhb=>by
 obtain⟨zs,ez⟩:=hF b hb;rw[ez]at e;cases e
theorem fK.hideL{H H2:Hp}{F:List Addr}{r:Addr}{w:Rw}(h:fK (λa=>H a=none) H2 r w)(hF:∀D∈F,∃zs,H D=some (.lst zs))(s:au H H2):fK NT (My.hideL H2 F) r w:=by
 obtain⟨ce,cs,e,n,f,c⟩:=h;have hF2:∀D∈F,∃zs,H2 D=some (.lst zs):=λD hD=>let ⟨zs,ez⟩:=hF D hD;⟨zs,s _ _ ez⟩
 have out:∀x,H x=none->x ∉ F:=λx hx hm=>by obtain⟨zs,ez⟩:=hF x hm;rw[ez]at hx;cases hx
 refine⟨ce,cs,lK hF2 _ _ e,trivial,dq f (out _ n),ar.mono c λl ps h=>?_⟩;obtain⟨n1,ys,g,pl⟩:=h;exact⟨trivial,ys,dq g (out _ n1),pl.mono (lK hF2)⟩
def TT(H:Hp)(r:Addr)(t:(List Nat×Str)×Addr):Prop:=∃cl:Addr,H r=some (.tup [.ref cl,.str t.1.2,.ref t.2])/\H cl=some (.lst (vN t.1.1))
theorem TT.same{H H':Hp}{r:Addr}{t:(List Nat×Str)×Addr}(h:TT H r t)(s:au H H'):TT H' r t:=by obtain⟨cl,e,f⟩:=h;exact⟨cl,s _ _ e,s _ _ f⟩
structure xk(fN:Nat)(ds:List PD)(j:Nat)(t:List Nat×Str):Prop where
 some_:1<=t.1.length
 few:t.1.length<=3
 lt:∀k∈t.1,k<fN+j
 nd:t.1.Nodup
 way:t.2∈six
 sum:t.2=Str.ofString "sum" -> ∀p,ds[fN+j]?=some p->p.ws=[]
def clm(c:Int)(ow:Nat)(m:Nat):List Nat:=(List.range m).map λj:Nat=>((c / 3+(0+(j:Int)))%(ow:Int)).toNat
theorem xl{c:Int}{ow m:Nat}(h:1<=ow):∀k∈clm c ow m,k<ow:=λk hk=>by
 unfold clm at hk;obtain⟨j,_,rfl⟩:=mem_map.mp hk;have h1:=emod_lt_of_pos (c / 3+(0+(j:Int))) (show(0:Int)<(ow:Int) by lia);have h0:=emod_nonneg (c / 3+(0+(j:Int))) (show(ow:Int)≠0 by lia);lia
theorem rP{x i j n:Int}(h0:0<=i)(h1:i<n)(h2:0<=j)(h3:j<n)(e:(x+i)%n=(x+j)%n):i=j:=by
 have key:∀a b:Int,0<=a->a<n->0<=b->b<n->b<=a->(x+a)%n=(x+b)%n->a=b:=λa b a0 a1 b0 b1 hab e=>by
  have h:=Int.emod_eq_emod_iff_emod_sub_eq_zero.mp e;rw[show x+a-(x+b)=a-b by lia,Int.emod_eq_of_lt (by lia) (by lia)]at h;lia
 by_cases h:j<=i
 ·exact key i j h0 h1 h2 h3 h e
 ·exact(key j i h2 h3 h0 h1 (by lia) e.symm).symm
theorem xm{c:Int}{ow m:Nat}(h:1<=ow)(hm:m<=ow):(clm c ow m).Nodup:=by
 unfold clm;rw[nodup_iff_pairwise_ne,pairwise_map];refine List.Pairwise.imp_of_mem (R:=λa b=>a≠b) (λ{a b} ha hb hab e=>?_) nodup_range;have ha:=mem_range.mp ha;have hb:=mem_range.mp hb;have a0:=emod_nonneg (c / 3+(0+(a:Int))) (show(ow:Int)≠0 by lia);have b0:=emod_nonneg (c / 3+(0+(b:Int))) (show(ow:Int)≠0 by lia);have:=rP (x:=c / 3) (i:=0+(a:Int)) (j:=0+(b:Int)) (n:=(ow:Int)) (by lia) (by lia) (by lia) (by lia) (by lia);lia
theorem nP(c:Int)(ow m:Nat):(clm c ow m).length=m:=by unfold clm;simp
theorem tR(c:Int)(ow m:Nat):vN (clm c ow (m+1))=vN (clm c ow m)++[.int ((((c / 3+(0+(m:Int)))%(ow:Int)).toNat:Nat):Int)]:=by
 unfold clm vN;rw[range_succ,map_append,map_append];rfl
structure PT where
 cols:List Nat
 way:Str
 rows:List Rw
def PTA(H:Hp)(r:Addr)(t:PT):Prop:=∃(cl rl:Addr)(zs:List V),H r=some (.tup [.ref cl,.str t.way,.ref rl])/\H cl=some (.lst (vN t.cols))/\H rl=some (.lst zs)/\RL NT H zs t.rows
theorem PTA.same{H H':Hp}{r:Addr}{t:PT}(h:PTA H r t)(s:au H H'):PTA H' r t:=by obtain⟨cl,rl,zs,e,f,g,k⟩:=h;exact⟨cl,rl,zs,s _ _ e,s _ _ f,s _ _ g,k.same s⟩
structure Bs(fN:Nat)(ds:List PD)(j:Nat)(t:PT):Prop where
 ok:xk fN ds j (t.cols,t.way)
 rows:∀w∈t.rows,nO ds t.cols (fN+j) w
 few:t.rows.length<=200
def PlA(H:Hp)(r:Addr)(zs:List Str)(ds:List PD)(ts:List PT):Prop:=∃(nl dl tl_:Addr)(dv tv:List V),H r=some (.tup [.ref nl,.ref dl,.ref tl_])/\H nl=some (.lst (zs.map V.str))/\H dl=some (.lst dv)/\ar dv ds (PDA NT H)/\H tl_=some (.lst tv)/\ar tv ts (PTA H)
theorem PlA.same{H H':Hp}{r:Addr}{zs:List Str}{ds:List PD}{ts:List PT}(h:PlA H r zs ds ts)(s:au H H'):PlA H' r zs ds ts:=by
 obtain⟨nl,dl,tl_,dv,tv,e1,e2,e3,h1,e4,h2⟩:=h;exact⟨nl,dl,tl_,dv,tv,s _ _ e1,s _ _ e2,s _ _ e3,ar.mono h1 (λ_ _ p=>p.same s),s _ _ e4,ar.mono h2 λ_ _ p=>p.same s⟩
structure cS(zs:List Str)(ds:List PD)(ts:List PT)(fN:Nat):Prop where
 words:∀z∈zs,isw z=true
 nd:zs.Nodup
 len:zs.length=ds.length
 n7:ds.length<=7
 tab:fN+ts.length=ds.length
 some_:1<=ts.length
 doms:∀p∈ds,qr p
 tabs:∀(j:Nat)(t:PT),ts[j]?=some t->Bs fN ds j t
theorem m9{H H9:Hp}{F F':List Addr}(h:∀b o,b ∉ F->H b=some o->H9 b=some o/\b ∉ F'):au (hideL H F) (hideL H9 F'):=λb o e=>by
 by_cases hb:b∈F
 ·unfold hideL at e;rw[if_pos hb]at e;cases e
 ·obtain⟨e9,n9⟩:=h b o hb (eQ H F b o e);exact dq e9 n9
def rls(ts:List ((List Nat×Str)×Addr)):List Addr:=ts.map (·.2)
theorem tS(ts:List ((List Nat×Str)×Addr))(t:(List Nat×Str)×Addr):rls (ts++[t])=rls ts++[t.2]:=by unfold rls;rw[map_append];rfl
theorem vo{c:Int}{ow:Nat}(h1:1<=ow):∃m:Nat,(if (ow:Int)<1+c%3 then(ow:Int)else 1+c%3)=(m:Int)/\1<=m/\m<=3/\m<=ow:=by
 have c0:=emod_nonneg c (show(3:Int)≠0 by decide);have c1:=emod_lt_of_pos c (show(0:Int)<3 by decide);refine⟨(if (ow:Int)<1+c%3 then(ow:Int)else 1+c%3).toNat,?_,?_,?_,?_⟩ <;> split <;> lia
theorem kJ{ts:List ((List Nat×Str)×Addr)}{j:Nat}{t:(List Nat×Str)×Addr}(e:ts[j]?=some t):(rls ts)[j]?=some t.2:=by unfold rls;rw[getElem?_map,e];rfl
theorem kK{ts:List ((List Nat×Str)×Addr)}{j:Nat}{t:(List Nat×Str)×Addr}(e:ts[j]?=some t):t.2∈rls ts:=Jy (kJ e)
def mkT(t:(List Nat×Str)×Addr)(rs:List Rw):PT:=⟨t.1.1,t.1.2,rs⟩
def RwI(H:Hp)(F:List Addr)(fN:Nat)(ds:List PD)(ts:List ((List Nat×Str)×Addr))(rss:List (List Rw))(n:Nat):Prop:=rss.length=ts.length/\∀(j:Nat)(t:(List Nat×Str)×Addr)(rs:List Rw),ts[j]?=some t->rss[j]?=some rs->(∃zs,H t.2=some (.lst zs)/\RL NT (hideL H F) zs rs)/\(∀w∈rs,nO ds t.1.1 (fN+j) w)/\rs.length<=n
theorem RwI.grow{H H2:Hp}{fN n jj:Nat}{ds:List PD}{ts:List ((List Nat×Str)×Addr)}{rss:List (List Rw)}{t:(List Nat×Str)×Addr}{rs:List Rw}{zs:List V}{r:Addr}{w:Rw}(h:RwI H (rls ts) fN ds ts rss n)(hnd:(rls ts).Nodup)(s:au H H2)(et:ts[jj]?=some t)(er:rss[jj]?=some rs)(ez:H t.2=some (.lst zs))(hz:RL NT (hideL H (rls ts)) zs rs)(hw:fK NT (hideL H2 (rls ts)) r w)(hf:nO ds t.1.1 (fN+jj) w):RwI (upd H2 t.2 (.lst (zs++[.ref r]))) (rls ts) fN ds ts (rss.set jj (rs++[w])) (n+1):=by
 refine⟨by rw[List.length_set];exact h.1,λj t' rs' e1 e2=>?_⟩;have hh:hideL (upd H2 t.2 (.lst (zs++[.ref r]))) (rls ts)=hideL H2 (rls ts):=m8 (kK et);rw[hh];by_cases hj:jj=j
 ·subst hj;rw[et]at e1;cases e1;rw[getElem?_set_self (Jx.mp er).1]at e2;cases e2;obtain⟨_,h2,h3⟩:=h.2 jj t rs et er;refine⟨⟨_,ae,ar.snoc (hz.same (iN s)) hw⟩,λw' hw'=>?_,by rw[length_append,List.length_singleton];lia⟩;rcases mem_append.mp hw' with hw' | hw'
  ·exact h2 w' hw'
  ·rw[show w'=w by simpa using hw'];exact hf
 ·rw[getElem?_set_ne hj]at e2;obtain⟨⟨zs',f1,f2⟩,h2,h3⟩:=h.2 j t' rs' e1 e2;refine⟨⟨zs',(aD λz=>?_).trans (s _ _ f1),f2.same (iN s)⟩,h2,by lia⟩;have a1:=kJ e1;have a2:=kJ et;rw[z]at a1;exact hj (gB hnd a2 a1)
structure Bt(k:Dk)(ps:Prs):Prop where
 few:ps.length<=2
 inn:∀p∈ps,Br k p
 gd:GdK k
 w0:∀zs,k.1=some zs->k.2=(0,hiW zs)
theorem PD.k_none{p:PD}(h:p.ws=[]):p.k=(none,p.lo,p.hi):=by unfold PD.k;rw[if_pos h]
theorem PD.k_some{p:PD}(h:p.ws≠[]):p.k=(some p.ws,p.lo,p.hi):=by unfold PD.k;rw[if_neg h]
theorem dc.dom{cN cW:Addr}{H:Hp}{d:Addr}{k:Dk}(h:dc cN cW H d k):Dom cN cW H d k.2:=by
 obtain⟨w,lo,hi⟩:=k;cases w with
 |none=>obtain⟨dx,e⟩:=h;exact⟨cN,.inl U,dx,_,e,U,U,U⟩
 |some zs =>
  obtain⟨⟨dx,l,e,_⟩,h0,h1,_⟩:=h;have h0:lo=0:=h0;have h1:hi=hiW zs:=h1;subst h0 h1;exact⟨cW,.inr U,dx,_,e,U,U,U⟩
theorem cS.own{zs:List Str}{ds:List PD}{ts:List PT}{fN:Nat}(h:cS zs ds ts fN){k:Nat}{t:PT}(e:ts[k]?=some t):fN+k<ds.length:=by
 have:=(Jx.mp e).1;have:=h.tab;lia
theorem cS.lt{zs:List Str}{ds:List PD}{ts:List PT}{fN:Nat}(h:cS zs ds ts fN){k:Nat}{t:PT}(e:ts[k]?=some t):∀j∈t.cols,j<ds.length:=λj hj=>by
 have h1:=(h.tabs k t e).ok.lt j hj;have h2:=h.own e;lia
theorem cS.rows{zs:List Str}{ds:List PD}{ts:List PT}{fN:Nat}(h:cS zs ds ts fN){k:Nat}{t:PT}(e:ts[k]?=some t){po:PD}(eo:ds[fN+k]?=some po):∀w∈t.rows,pF (prm t.cols (ds.map λp=>(p.lo,p.hi))) (po.lo,po.hi) w:=λw hw=>by
 have f:=(h.tabs k t e).rows w hw;have lt:=h.lt e;have lt2:∀j∈t.cols,j<(ds.map λp=>(p.lo,p.hi)).length:=λj hj=>by rw[length_map];exact lt j hj
 have g:=cF (os:=t.cols) (xs:=ds.map λp=>(p.lo,p.hi)) lt2;have c:=f.code po eo;refine⟨by rw[f.len,g.1],λj ps b e1 e2 p hp=>?_,c.1,c.2⟩;have hj:j<t.cols.length:=by rw[←f.len];exact(Jx.mp e1).1
 have ec:=Jw hj;rw[g.2 j _ ec,getElem?_map]at e2;have ed:=Jw (lt _ (Jy ec));rw[ed]at e2;cases e2;have:=f.inn j _ ps _ e1 ec ed p hp;exact⟨this.1,this.2.2⟩
theorem dO{H:Hp}{D:Addr}{zs:List V}(e:H D=some (.lst zs)):mR H (hide H D):=λb t f=>bj f (bK f e (by intro z;cases z))
theorem rQ{α:Type}{os:List Nat}{o:Nat}{xs:List α}{x:α}(e:xs[o]?=some x):prm (os++[o]) xs=prm os xs++[x]:=by
 unfold prm;rw[List.filterMap_append];simp[e]
theorem gD.wk{N N':Addr->Prop}{cN cW:Addr}{H:Hp}{d:Addr}{k:Dk}(h:gD N cN cW H d k)(w:∀x,N x->N' x):gD N' cN cW H d k:=by
 obtain⟨w_,lo,hi⟩:=k;cases w_ with
 |none=>exact h
 |some zs=>obtain⟨⟨dx,l,n,e,f⟩,r⟩:=h;exact⟨⟨dx,l,w _ n,e,f⟩,r⟩
theorem q0{bs:List Bool}{i:Nat}{x:V}(e:(bs.map V.bl)[i]?=some x):∃b,x=.bl b/\bs[i]?=some b:=by
 rw[getElem?_map]at e;cases q:bs[i]? with
 |none=>rw[q]at e;cases e
 |some z=>rw[q]at e;cases e;exact⟨z,U,U⟩
theorem tT{K:W.Frag}{H:Hp}{Q:VK}{a b:Addr}{xs ys:List Bool}{r:Bool}(ha:SqL K H a (xs.map V.bl))(hb:SqL K H b (ys.map V.bl))(hr:r=true↔xs=ys)(q:Q (.bl r) H):rD K false (.ref a) (.ref b) H Q:=by
 by_cases hl:xs.length=ys.length
 ·refine⟨a,b,_,_,U,U,ha,hb,.inr ⟨by rw[length_map,length_map];exact hl,λj=>decide (xs[j]?=ys[j]?),λj x y e1 e2=>?_,?_⟩⟩
  ·obtain⟨z,rfl,f1⟩:=q0 e1;obtain⟨z2,rfl,f2⟩:=q0 e2;have h1:=EqI.flat (K:=K) (H:=H) (x:=V.bl z) (y:=V.bl z2) U U;have h2:eqV (V.bl z) (V.bl z2)=decide (xs[j]?=ys[j]?):=by
    rw[f1,f2,Bool.eq_iff_iff];simp[eqV]
   rw[h2]at h1;exact h1
  ·have e:(List.range (xs.map V.bl).length).all (λj=>decide (xs[j]?=ys[j]?))=r:=by
    rw[Bool.eq_iff_iff,hr,all_eq_true];constructor
    ·intro h;apply ext_getElem?
     intro j;by_cases hj:j<xs.length
     ·exact of_decide_eq_true (h j (mem_range.mpr (by rw[length_map];exact hj)))
     ·rw[getElem?_eq_none (by lia),getElem?_eq_none (by lia)]
    ·intro h j _;rw[h];exact decide_eq_true U
   rw[if_neg Bool.false_ne_true,e];exact q
 ·have e:r=false:=by
   rw[eq_false_iff];intro z;exact hl (by rw[hr.mp z])
  rw[e]at q;exact⟨a,b,_,_,U,U,ha,hb,.inl ⟨by rw[length_map,length_map];exact hl,q⟩⟩
theorem pJ(z:Str)(ns:List Str):inV (.str z) (ns.map V.str)=ns.contains z:=by
 unfold inV;induction ns with
 |nil=>rfl
 |cons n ns ih =>
  rw[map_cons,any_cons,List.contains_cons,ih]
  congr 1
  show(n == z)=(z == n);rw[Bool.eq_iff_iff,beq_iff_eq,beq_iff_eq];exact⟨Eq.symm,Eq.symm⟩
def TbA(cT cN cW:Addr)(H:Hp)(zs:List Str)(ds:List PD)(ts:List PT)(fN:Nat)(a:Addr)(k:Nat):Prop:=∃(t:PT)(nm:Str)(po:PD)(ou:Addr)(dv:List V),ts[k]?=some t/\zs[fN+k]?=some nm/\ds[fN+k]?=some po/\TF cT H a nm t.way ou (prm t.cols zs) dv t.rows/\ar dv (prm t.cols (ds.map PD.k)) (dc cN cW H)/\dc cN cW H ou po.k
def FcA(cN cW:Addr)(H:Hp)(zs:List Str)(ds:List PD)(r:Addr)(k:Nat):Prop:=∃(nm:Str)(po:PD)(d:Addr),zs[k]?=some nm/\ds[k]?=some po/\H r=some (.tup [.str nm,.ref d])/\dc cN cW H d po.k
structure BkI(cT cN cW:Addr)(H:Hp)(zs:List Str)(ds:List PD)(ts:List PT)(fN:Nat)(fv mv:List V)(L:List Nat):Prop where
 ok:cS zs ds ts fN
 facts:ar fv (List.range fN) (FcA cN cW H zs ds)
 tabs:ar mv L (TbA cT cN cW H zs ds ts fN)
 lt:∀k∈L,k<ts.length
 nd:L.Nodup
 len:L.length=ts.length
 all:∀k,k<ts.length->k∈L
section
variable{cT cN cW:Addr}{H:Hp}{zs:List Str}{ds:List PD}{ts:List PT}{fN:Nat}{fv mv:List V}{L:List Nat}
end
def FcN(N:Addr->Prop)(cN cW:Addr)(H:Hp)(zs:List Str)(ds:List PD)(r:Addr)(k:Nat):Prop:=∃(nm:Str)(po:PD)(d:Addr),zs[k]?=some nm/\ds[k]?=some po/\H r=some (.tup [.str nm,.ref d])/\gD N cN cW H d po.k
theorem FcN.same{N:Addr->Prop}{cN cW:Addr}{H H':Hp}{zs:List Str}{ds:List PD}{r:Addr}{k:Nat}(h:FcN N cN cW H zs ds r k)(s:au H H'):FcN N cN cW H' zs ds r k:=by
 obtain⟨nm,po,d,h1,h2,h3,h4⟩:=h;exact⟨nm,po,d,h1,h2,s _ _ h3,h4.same s⟩
theorem FcN.upd{N:Addr->Prop}{cN cW:Addr}{H:Hp}{zs:List Str}{ds:List PD}{r D:Addr}{k:Nat}{o:HO}{ys:List V}(h:FcN N cN cW H zs ds r k)(n:¬ N D)(e:H D=some (.lst ys)):FcN N cN cW (L2.upd H D o) zs ds r k:=by
 obtain⟨nm,po,d,h1,h2,h3,h4⟩:=h;exact⟨nm,po,d,h1,h2,(aD (bK h3 e (by intro z;cases z))).trans h3,h4.upd n e⟩
theorem FcN.fc{N:Addr->Prop}{cN cW:Addr}{H:Hp}{zs:List Str}{ds:List PD}{r:Addr}{k:Nat}(h:FcN N cN cW H zs ds r k):FcA cN cW H zs ds r k:=by
 obtain⟨nm,po,d,h1,h2,h3,h4⟩:=h;exact⟨nm,po,d,h1,h2,h3,h4.dom⟩
section
variable{cT cN cW:Addr}{H:Hp}{zs:List Str}{ds:List PD}{ts:List PT}{fN:Nat}{fv mv:List V}{L:List Nat}
theorem vp{kvs:List (Str×V)}(hn:(kvs.map (·.1)).Nodup):∀{j:Nat}{k:Str}{v:V},kvs[j]?=some (k,v)->kvs.lookup k=some v:=by
 induction kvs with
 |nil=>intro j k v e;simp at e
 |cons p kvs ih =>
  intro j k v e;obtain⟨k0,v0⟩:=p;rw[map_cons]at hn;have hn':=nodup_cons.mp hn;cases j with
  |zero =>
   cases e;rw[lookup_cons,beq_self_eq_true]
  |succ j =>
   have e:kvs[j]?=some (k,v):=by simpa using e
   have hk:k≠k0:=λz=>hn'.1 (mem_map.mpr ⟨(k,v),Jy e,z⟩)
   rw[lookup_cons,beq_eq_false_iff_ne.mpr hk];exact ih hn'.2 e
end
def SmB(z:Str):Prop:=z.length<=1000/\∀n∈z.cps.toList,n<16^8
def BkA(cB:Addr)(H:Hp)(b:Addr)(mv:List V):Prop:=∃(dx:Addr)(fs:List (Str×V))(ta:Addr),H b=some (.ins cB dx fs)/\fs.lookup (Str.ofString "tables")=some (.ref ta)/\H ta=some (.lst mv)
structure BkT(cT cN cW cB:Addr)(H:Hp)(b:Addr)(zs:List Str)(ds:List PD)(ts:List PT)(fN:Nat)(mv:List V)(L:List Nat):Prop where
 bk:BkA cB H b mv
 ok:cS zs ds ts fN
 tabs:ar mv L (TbA cT cN cW H zs ds ts fN)
 lt:∀k∈L,k<ts.length
 few:L.length<=7
theorem tU{c:Int}{n:Nat}:∀z∈lws c n,∀y∈lws c n,z.length=y.length:=λz hz y hy=>by
 obtain⟨i,_,rfl⟩:=mem_map.mp hz;obtain⟨j,_,rfl⟩:=mem_map.mp hy;show(lwc c _).toArray.size=(lwc c _).toArray.size;unfold lwc;simp
theorem fM{H H':Hp}{x a:Addr}{o:HO}(k:∀b o,b≠x->H b=some o->H' b=some o)(hx:H' x=some o)(h:H' a=none):H a=none:=by
 cases e:H a with
 |none=>rfl
 |some u =>
  have n:a≠x:=λz=>by rw[z,hx]at h;cases h
  rw[k a u n e]at h;cases h
theorem RL.hideN{N:Addr->Prop}{H:Hp}{x C dx:Addr}{fs:List (Str×V)}(hx:H x=some (.ins C dx fs)){xs:List V}{rws:List Rw}(h:RL N H xs rws):RL N (My.hide H x) xs rws :=
 ar.mono h λr w ⟨ce,cs,e,n,f,c⟩=>⟨ce,cs,bj e (bK e hx (by intro z;cases z)),n,bj f (bK f hx (by intro z;cases z)),ar.mono c λl ps ⟨m,ys,g,p⟩=>⟨m,ys,bj g (bK g hx (by intro z;cases z)),PL.hide hx p⟩⟩
def TbN(N:Addr->Prop)(cT cN cW:Addr)(H:Hp)(zs:List Str)(ds:List PD)(ts:List PT)(fN:Nat)(a:Addr)(k:Nat):Prop:=∃(t:PT)(nm:Str)(po:PD)(ou:Addr)(dv:List V)(rl dx na dl:Addr)(fs:List (Str×V))(xs:List V),ts[k]?=some t/\zs[fN+k]?=some nm/\ds[fN+k]?=some po/\H a=some (.ins cT dx fs)/\fs.lookup (Str.ofString "rows")=some (.ref rl)/\fs.lookup (Str.ofString "name")=some (.str nm)/\fs.lookup (Str.ofString "way")=some (.str t.way)/\fs.lookup (Str.ofString "outcome")=some (.ref ou)/\fs.lookup (Str.ofString "names")=some (.ref na)/\fs.lookup (Str.ofString "domains")=some (.ref dl)/\N na/\N dl/\N rl/\H na=some (.lst ((prm t.cols zs).map V.str))/\H dl=some (.lst dv)/\H rl=some (.lst xs)/\RL N H xs t.rows/\xs.length<=200/\ar dv (prm t.cols (ds.map PD.k)) (gD N cN cW H)/\gD N cN cW H ou po.k
section
variable{N N':Addr->Prop}{cT cN cW:Addr}{H H':Hp}{zs:List Str}{ds:List PD}{ts:List PT}{fN:Nat}{a:Addr}{k:Nat}
theorem TbN.tb(h:TbN N cT cN cW H zs ds ts fN a k):TbA cT cN cW H zs ds ts fN a k:=by
 obtain⟨t,nm,po,ou,dv,rl,dx,na,dl,fs,xs,h1,h2,h3,h4,h5,h6,h7,h8,h9,h10,_,_,_,h11,h12,h13,h14,h15,h16,h17⟩:=h;exact⟨t,nm,po,ou,dv,h1,h2,h3,⟨rl,dx,na,dl,fs,xs,h4,h5,h6,h7,h8,h9,h10,h11,h12,h13,h14.any,h15⟩,ar.mono h16 (λ_ _ p=>p.dom),h17.dom⟩
theorem TbN.same(h:TbN N cT cN cW H zs ds ts fN a k)(s:au H H'):TbN N cT cN cW H' zs ds ts fN a k:=by
 obtain⟨t,nm,po,ou,dv,rl,dx,na,dl,fs,xs,h1,h2,h3,h4,h5,h6,h7,h8,h9,h10,n1,n2,n3,h11,h12,h13,h14,h15,h16,h17⟩:=h;exact⟨t,nm,po,ou,dv,rl,dx,na,dl,fs,xs,h1,h2,h3,s _ _ h4,h5,h6,h7,h8,h9,h10,n1,n2,n3,s _ _ h11,s _ _ h12,s _ _ h13,h14.same s,h15,ar.mono h16 (λ_ _ p=>p.same s),h17.same s⟩
theorem TbN.wk(h:TbN N cT cN cW H zs ds ts fN a k)(w:∀x,N x->N' x):TbN N' cT cN cW H zs ds ts fN a k:=by
 obtain⟨t,nm,po,ou,dv,rl,dx,na,dl,fs,xs,h1,h2,h3,h4,h5,h6,h7,h8,h9,h10,n1,n2,n3,h11,h12,h13,h14,h15,h16,h17⟩:=h;exact⟨t,nm,po,ou,dv,rl,dx,na,dl,fs,xs,h1,h2,h3,h4,h5,h6,h7,h8,h9,h10,w _ n1,w _ n2,w _ n3,h11,h12,h13,ar.mono h14 (λ_ _ p=>p.wk w),h15,ar.mono h16 (λ_ _ p=>p.wk w),h17.wk w⟩
theorem TbN.upd{D:Addr}{zz:List V}{o:HO}(h:TbN N cT cN cW H zs ds ts fN a k)(n:¬ N D)(e:H D=some (.lst zz)):TbN N cT cN cW (L2.upd H D o) zs ds ts fN a k:=by
 obtain⟨t,nm,po,ou,dv,rl,dx,na,dl,fs,xs,h1,h2,h3,h4,h5,h6,h7,h8,h9,h10,n1,n2,n3,h11,h12,h13,h14,h15,h16,h17⟩:=h;have ne:∀{b:Addr},N b->b≠D:=λhb z=>n (z ▸ hb)
 exact⟨t,nm,po,ou,dv,rl,dx,na,dl,fs,xs,h1,h2,h3,(aD (bK h4 e (by intro z;cases z))).trans h4,h5,h6,h7,h8,h9,h10,n1,n2,n3,(aD (ne n1)).trans h11,(aD (ne n2)).trans h12,(aD (ne n3)).trans h13,h14.updN n e,h15,ar.mono h16 (λ_ _ p=>p.upd n e),h17.upd n e⟩
end
theorem lL{K:W.Frag}{H:Hp}{Q:VK}{a b:Addr}{xs:List V}(ha:SqL K H a xs)(hb:SqL K H b xs)(fl:∀x∈xs,dg x=true)(q:Q (.bl false) H):rD K true (.ref a) (.ref b) H Q:=by
 refine⟨a,b,xs,xs,U,U,ha,hb,.inr ⟨U,λ_=>true,λj x y e1 e2=>?_,?_⟩⟩
 ·rw[e1]at e2;cases e2;have z:=fl x (Jy e1);have:=EqI.flat (K:=K) (H:=H) z z;rw[pB z]at this;exact this
 ·have:(List.range xs.length).all (λ_=>true)=true:=by simp
  rw[this];exact q
theorem nQ(zs:List Str):∀x∈zs.map V.str,dg x=true:=λx hx=>by
 obtain⟨z,_,rfl⟩:=mem_map.mp hx;rfl
theorem xn{c:Int}{n:Nat}:∀z∈lws c n,SmB z:=λz hz=>by
 obtain⟨i,_,rfl⟩:=mem_map.mp hz;refine⟨le_trans (vm (tP c _)) (by decide),λx hx=>?_⟩;have hx:x∈lwc c (0+(i:Int)):=by simpa[lw]using hx
 have m0:=emod_nonneg (c / 11+3*(0+(i:Int))) (show(26:Int)≠0 by decide);have m1:=emod_lt_of_pos (c / 11+3*(0+(i:Int))) (show(0:Int)<26 by decide);show x<4294967296;rcases fZ hx with h|h <;> lia
theorem nc{K:W.Frag}{H:Hp}{Q:VK}{a b:Addr}{xs ys:List Str}{r:Bool}(ha:SqL K H a (xs.map V.str))(hb:SqL K H b (ys.map V.str))(hr:r=true↔xs=ys)(q:Q (.bl r) H):rD K false (.ref a) (.ref b) H Q:=by
 by_cases hl:xs.length=ys.length
 ·refine⟨a,b,_,_,U,U,ha,hb,.inr ⟨by rw[length_map,length_map];exact hl,λj=>decide (xs[j]?=ys[j]?),λj x y e1 e2=>?_,?_⟩⟩
  ·obtain⟨z,rfl,f1⟩:=eO e1;obtain⟨z2,rfl,f2⟩:=eO e2;have h1:=EqI.flat (K:=K) (H:=H) (x:=V.str z) (y:=V.str z2) U U;have h2:eqV (V.str z) (V.str z2)=decide (xs[j]?=ys[j]?):=by
    rw[f1,f2,Bool.eq_iff_iff];simp[eqV]
   rw[h2]at h1;exact h1
  ·have e:(List.range (xs.map V.str).length).all (λj=>decide (xs[j]?=ys[j]?))=r:=by
    rw[Bool.eq_iff_iff,hr,all_eq_true];constructor
    ·intro h;apply ext_getElem?
     intro j;by_cases hj:j<xs.length
     ·exact of_decide_eq_true (h j (mem_range.mpr (by rw[length_map];exact hj)))
     ·rw[getElem?_eq_none (by lia),getElem?_eq_none (by lia)]
    ·intro h j _;rw[h];exact decide_eq_true U
   rw[if_neg Bool.false_ne_true,e];exact q
 ·have e:r=false:=by
   rw[eq_false_iff];intro z;exact hl (by rw[hr.mp z])
  rw[e]at q;exact⟨a,b,_,_,U,U,ha,hb,.inl ⟨by rw[length_map,length_map];exact hl,q⟩⟩
def LtM(z:Str):Prop:=z.length<=11/\∀x:Nat,97<=x->x<=122->isw (z++(⟨#[x]⟩:Str))=true
theorem tV{c:Int}{n:Nat}:∀z∈lws c n,LtM z:=λz hz=>by
 obtain⟨i,_,rfl⟩:=mem_map.mp hz;generalize (0+(i:Int))=k;have h1:=kG c;have h2:=kH c;have m0:=emod_nonneg (c / 11+3*k) (show(26:Int)≠0 by decide);have m1:=emod_lt_of_pos (c / 11+3*k) (show(0:Int)<26 by decide);refine⟨by show(lwc c k).toArray.size<=11;unfold lwc;simp;lia,λx hx0 hx1=>?_⟩;have e:(lw c k:Str)++(⟨#[x]⟩:Str)=⟨(lwc c k++[x]).toArray⟩:=by
  show Str.append _ _=_;unfold Str.append lw;simp
 rw[e];refine tM (by simp) (by unfold lwc;simp;lia) (λy hy=>?_) (λh=>?_)
 ·rcases mem_append.mp hy with hy|hy
  ·rcases fZ hy with hy|hy <;> lia
  ·have:=mem_singleton.mp hy;lia
 ·have hl:lwc c k=[110,111]:=(List.append_inj' (s₂:=[110,111]) (t₂:=[116]) h U).1;have a:(110:Nat)∈lwc c k:=by rw[hl];simp
  have b:(111:Nat)∈lwc c k:=by rw[hl];simp
  rcases fZ a with a|a
  ·lia
  ·rcases fZ b with b|b <;> lia
def lkD(k k':Dk):Bool:=match k.1,k'.1 with
 |none,none=>decide (k.2=k'.2)
 |some zs,some zs'=>decide (zs=zs')
 |_,_=>false
theorem pK(k:Dk):lkD k k=true:=by
 obtain⟨w,p⟩:=k;cases w <;> simp[lkD]
structure BT where
 nm:Str
 cs:List Str
 ks:List Dk
 o:Dk
 way:Str
 rws:List Rw
def TbG(cT cN cW:Addr)(H:Hp)(a:Addr)(t:BT):Prop:=∃(ou:Addr)(dv:List V),TF cT H a t.nm t.way ou t.cs dv t.rws/\ar dv t.ks (dc cN cW H)/\dc cN cW H ou t.o
theorem TbG.same{cT cN cW:Addr}{H H':Hp}{a:Addr}{t:BT}(h:TbG cT cN cW H a t)(s:au H H'):TbG cT cN cW H' a t:=by
 obtain⟨ou,dv,h1,h2,h3⟩:=h;exact⟨ou,dv,h1.same s,ar.mono h2 (λ_ _ p=>p.same s),h3.same s⟩
abbrev Fc:=Str×Dk
def FcG(cN cW:Addr)(H:Hp)(r:Addr)(f:Fc):Prop:=∃d:Addr,H r=some (.tup [.str f.1,.ref d])/\dc cN cW H d f.2
theorem FcG.same{cN cW:Addr}{H H':Hp}{r:Addr}{f:Fc}(h:FcG cN cW H r f)(s:au H H'):FcG cN cW H' r f:=by
 obtain⟨d,h1,h2⟩:=h;exact⟨d,s _ _ h1,h2.same s⟩
def bN(fs:List Fc)(ts:List BT):List Str:=fs.map (·.1)++ts.map BT.nm
structure fO(fs:List Fc)(ts:List BT):Prop where
 w:∀f∈fs,isw f.1=true
 nd:(bN fs ts).Nodup
 al:∀t∈ts,∀c∈t.cs,c∈bN fs ts
def eR(fs:List Fc)(ts:List BT):List Fc:=fs++ts.map λt=>(t.nm,t.o)
def mz(fs:List Fc)(ts:List BT):Prop:=∀t∈ts,∀(i:Nat)(c:Str)(k k':Dk),t.cs[i]?=some c->t.ks[i]?=some k->(c,k')∈eR fs ts->lkD k k'=true
def Sml(z:Str):Prop:=z.length<=100/\∀n∈z.cps.toList,n<16^8
structure BkG(cT cN cW:Addr)(H:Hp)(fv mv:List V)(fs:List Fc)(ts:List BT):Prop where
 facts:ar fv fs (FcG cN cW H)
 tabs:ar mv ts (TbG cT cN cW H)
 sf:∀f∈fs,Sml f.1
 st:∀t∈ts,(∀c∈t.cs,Sml c)/\t.cs.length<=4/\t.ks.length=t.cs.length
 few:fs.length<=100/\ts.length<=100
theorem BkG.same{cT cN cW:Addr}{H H':Hp}{fv mv:List V}{fs:List Fc}{ts:List BT}(h:BkG cT cN cW H fv mv fs ts)(s:au H H'):BkG cT cN cW H' fv mv fs ts :=
 ⟨ar.mono h.facts (λ_ _ p=>p.same s),ar.mono h.tabs (λ_ _ p=>p.same s),h.sf,h.st,h.few⟩
def rR(ts:List BT):Prop:=∃rk:Str->Nat,∀t∈ts,∀c∈t.cs,c∈ts.map BT.nm->rk c<rk t.nm
def vq(ts:List BT):Prop:=∃S:List Str,(∃t∈ts,t.nm∈S)/\(∀t∈ts,t.nm∈S->∃c∈t.cs,c∈S)/\∀c∈S,c∈ts.map BT.nm
def wtg(ns:List Str)(t:BT):Bool:=t.cs.any λc=>ns.contains c
theorem ip{α:Type}{P:α->Prop}{xs:List α}{i:Nat}{x:α}(e:xs[i]?=some x)(h:∀z∈xs.take i,P z)(hx:P x):∀z∈xs.take (i+1),P z:=λz hz=>by
 rw[take_snoc e]at hz;rcases mem_append.mp hz with hz|hz
 ·exact h z hz
 ·rw[mem_singleton.mp hz];exact hx
theorem iq{α:Type}{xs:List α}{i:Nat}{x:α}{p:α->Bool}(e:xs[i]?=some x):(xs.take (i+1)).filter p=(xs.take i).filter p++(if p x then[x] else[]):=by
 rw[take_snoc e,List.filter_append]
 congr 1
 cases h:p x with
 |true=>rw[List.filter_cons_of_pos h,filter_nil];rfl
 |false=>rw[List.filter_cons_of_neg (by rw[h];exact Bool.false_ne_true),filter_nil];rfl
theorem rS{t:BT}{ns:List Str}:(!(t.cs.filter λz=>ns.contains z).isEmpty)=wtg ns t:=by
 unfold wtg;induction t.cs with
 |nil=>rfl
 |cons c cs ih =>
  cases h:ns.contains c with
  |true=>rw[List.filter_cons_of_pos h,any_cons,h];rfl
  |false=>rw[List.filter_cons_of_neg (by rw[h];exact Bool.false_ne_true),any_cons,h,ih];rfl
theorem tW{α:Type}(f:α->Nat):∀{L:List α},L≠[]->∃k∈L,∀j∈L,f k<=f j
 | [],h=>absurd U h
 | [x],_=>⟨x,by simp,λj hj=>by rw[show j=x by simpa using hj];exact le_refl _⟩
 |x :: y :: r,_=>by
  obtain⟨k,hk,hm⟩:=tW f (L:=y :: r) (by simp);by_cases h:f x<=f k
  ·refine⟨x,by simp,λj hj=>?_⟩;rcases mem_cons.mp hj with rfl|hj
   ·exact le_refl _
   ·exact le_trans h (hm j hj)
  ·refine⟨k,mem_cons_of_mem _ hk,λj hj=>?_⟩;rcases mem_cons.mp hj with rfl|hj
   ·lia
   ·exact hm j hj
theorem tX{ts L:List BT}(h:rR ts)(hs:∀t∈L,t∈ts)(hL:L≠[]):(L.filter (wtg (L.map BT.nm))).length<L.length:=by
 obtain⟨rk,hr⟩:=h;obtain⟨k,hk,hm⟩:=tW (λt:BT=>rk t.nm) hL;have hw:wtg (L.map BT.nm) k=false:=by
  unfold wtg;rw[List.any_eq_false];intro c hc hb;have hb:c∈L.map BT.nm:=by simpa using hb
  obtain⟨t,ht,rfl⟩:=mem_map.mp hb;have h1:=hr k (hs k hk) _ hc (mem_map.mpr ⟨t,hs t ht,U⟩);have h2:=hm t ht;lia
 have h1:=length_filter_le (wtg (L.map BT.nm)) L;by_cases h:(L.filter (wtg (L.map BT.nm))).length=L.length
 ·have:=List.length_filter_eq_length_iff.mp h k hk;rw[hw]at this;cases this
 ·lia
def Bu(cN cW:Addr)(H:Hp)(fs:List Fc)(ts:List BT)(kvs:List (Str×V)):Prop:=∀(z:Str),z∈bN fs ts->∃(d:Addr)(k:Dk),kvs.lookup z=some (.ref d)/\(z,k)∈eR fs ts/\dc cN cW H d k
theorem ng(fs:List Fc)(ts:List BT):(eR fs ts).map (·.1)=bN fs ts:=by
 unfold eR bN;rw[map_append,map_map];rfl
theorem nR{fs:List Fc}{ts:List BT}(hn:(bN fs ts).Nodup){z:Str}{k k':Dk}(h:(z,k)∈eR fs ts)(h':(z,k')∈eR fs ts):k=k':=by
 rw[←ng]at hn;obtain⟨i,ei⟩:=getElem?_of_mem h;obtain⟨j,ej⟩:=getElem?_of_mem h';have e1:((eR fs ts).map (·.1))[i]?=some z:=by rw[getElem?_map,ei];rfl
 have e2:((eR fs ts).map (·.1))[j]?=some z:=by rw[getElem?_map,ej];rfl
 have:=gB hn e1 e2;subst this;rw[ei]at ej;cases ej;rfl
def cD(p:PD):Dk:=if p.ws=[] then(none,p.lo,p.hi+1) else(none,0,p.hi)
theorem lM(p:PD):lkD p.k (cD p)=false:=by
 unfold cD PD.k;by_cases h:p.ws=[]
 ·rw[if_pos h,if_pos h];show decide ((p.lo,p.hi)=(p.lo,p.hi+1))=false;exact decide_eq_false λz=>by injection z with _ z;lia
 ·rw[if_neg h,if_neg h];rfl
theorem dr{C:Addr}{H:Hp}{x dx:Addr}{lo hi:Int}(hx:H x=none)(hdx:H dx=none):au H (mkd C (upd (upd H dx (.own x)) x (.ins C dx [])) x dx lo hi)/\fL C (mkd C (upd (upd H dx (.own x)) x (.ins C dx [])) x dx lo hi) x lo hi :=
 ⟨by unfold mkd;exact(((af hdx _).upd hx).upd hx).upd hx,⟨dx,ae⟩⟩
def pL:List Str:=[Str.ofString "",Str.ofString "Ab",Str.ofString "not",Str.ofString "a b",Str.ofString "a1",Str.ofString "abcdefghijklm"]
theorem tY:∀b∈pL,isw b=false:=by decide+kernel
theorem tZ:∀b∈pL,b.length<=100/\(b.cps.toList.all λn=>decide (n<200))=true:=by decide+kernel
theorem vt{b:Str}(h:b∈pL):Sml b:=by
 obtain⟨h1,h2⟩:=tZ b h;refine⟨h1,λn hn=>?_⟩;have:=of_decide_eq_true (all_eq_true.mp h2 n hn);show n<4294967296;lia
theorem vw(c:Int):∃b∈pL,atI (pL.map V.str) (c%6)=some (.str b):=by
 have h0:=emod_nonneg c (show(6:Int)≠0 by decide);have h1:=emod_lt_of_pos c (show(0:Int)<6 by decide);obtain⟨f,ef⟩:∃f:Nat,c%6=(f:Int):=⟨(c%6).toNat,by lia⟩;have hf:f<pL.length:=by show f<6;lia
 rw[ef];exact⟨pL[f],getElem_mem hf,aP (bY (Jw hf))⟩
inductive SpI(un:Str)(pu:PD)(fs:List Fc)(ts:List BT):Int->List Fc->List BT->Prop
 |same {kd:Int}(h:kd<=0\/8<=kd):SpI un pu fs ts kd fs ts
 |one {b:Str}(k:Dk)(h:isw b=false):SpI un pu fs ts 1 (fs++[(b,k)]) ts
 |two {z:Str}(k:Dk)(h:z∈bN fs ts):SpI un pu fs ts 2 ([(z,k)]++fs) ts
 |three {t:BT}(h:t∈ts):SpI un pu fs ts 3 fs (ts++[t])
 |four:SpI un pu fs ts 4 (fs.filter λf=>decide (f.1≠un)) ts
 |five:SpI un pu fs ts 5 (fs.map λf=>if f.1=un then(f.1,cD pu)else f) ts
 |six (f:Fc):SpI un pu fs ts 6 (fs++List.replicate 21 f) ts
 |seven (t:BT)(h:t∈ts):SpI un pu fs ts 7 fs (ts++List.replicate 30 t)
theorem ar.appL{α:Type}{xs ys:List V}{as bs:List α}{P:Addr->α->Prop}(h:ar xs as P)(h':ar ys bs P):ar (xs++ys) (as++bs) P:=by
 refine⟨by rw[length_append,length_append,h.1,h'.1],λj a e=>?_⟩;by_cases hj:j<as.length
 ·rw[getElem?_append_left hj]at e;obtain⟨r,e1,p⟩:=h.2 j a e;exact⟨r,by rw[getElem?_append_left (by rw[h.1];exact hj)];exact e1,p⟩
 ·rw[getElem?_append_right (by lia)]at e;obtain⟨r,e1,p⟩:=h'.2 _ a e;exact⟨r,by rw[getElem?_append_right (by rw[h.1];lia),h.1];exact e1,p⟩
theorem ar.one{α:Type}{P:Addr->α->Prop}{r:Addr}{a:α}(p:P r a):ar [.ref r] [a] P:=ar.snoc (xs:=[]) (as:=[]) ar.nil p
theorem pM{z q:Str}(h:Sml z)(hl:z.length<=11)(h1:q.length=1)(hc:(q.cps.toList.all λn=>decide (n<200))=true):Sml (z++q):=by
 refine⟨by rw[qq];lia,λn hn=>?_⟩;have hn:n∈(Str.append z q).cps.toList:=hn;unfold Str.append at hn;have hn:n∈z.cps\/n∈q.cps:=by simpa using hn
 rcases hn with g|g
 ·exact h.2 n (by simpa using g)
 ·have:=of_decide_eq_true (all_eq_true.mp hc n (by simpa using g));show n<4294967296;lia
def zd(t:BT):Prop:=(∀c∈t.cs,Sml c)/\t.cs.length<=4/\t.ks.length=t.cs.length
theorem ar.rep{α:Type}{P:Addr->α->Prop}{r:Addr}{a:α}(p:P r a)(n:Nat):ar (List.replicate n (V.ref r)) (List.replicate n a) P:=by
 refine⟨by rw[length_replicate,length_replicate],λj b e=>?_⟩;rw[getElem?_replicate]at e;split at e
 ·rename_i h
  cases e;exact⟨r,by rw[getElem?_replicate,if_pos h],p⟩
 ·cases e
def akq(fN:Nat)(cols:List Nat):List Nat:=(cols.filter λc=>decide (fN<=c)).map λc=>c-fN
def akP(pts:List PT)(fN:Nat):List Nat:=pts.flatMap λt=>akq fN t.cols
theorem nS(fN:Nat)(cols:List Nat):(akq fN cols).length<=cols.length:=by unfold akq;rw[length_map];exact length_filter_le ..
theorem t6{fN:Nat}{cols:List Nat}{i j:Nat}(e:cols[i]?=some j):akq fN (cols.take (i+1))=akq fN (cols.take i)++(if fN<=j then[j-fN] else[]):=by
 unfold akq;rw[iq e,map_append]
 congr 1
 by_cases h:fN<=j
 ·rw[if_pos (decide_eq_true h),if_pos h];rfl
 ·rw[if_neg (λz=>h (of_decide_eq_true z)),if_neg h];rfl
theorem t7{pts:List PT}{fN i:Nat}{t:PT}(e:pts[i]?=some t):akP (pts.take (i+1)) fN=akP (pts.take i) fN++akq fN t.cols:=by
 unfold akP;rw[take_snoc e,List.flatMap_append];simp
theorem q8{fN:Nat}:∀{pts:List PT},(∀t∈pts,t.cols.length<=3)->(akP pts fN).length<=3*pts.length
 | [],_=>le_refl _
 |t :: pts,h=>by
  have h1:=q8 (fN:=fN) (pts:=pts) λt' ht=>h t' (mem_cons_of_mem _ ht)
  have h2:=nS fN t.cols;have h3:=h t mem_cons_self;unfold akP at h1⊢;rw[List.flatMap_cons,length_append,length_cons];lia
abbrev k01:Dk:=(none,0,1)
def ltr(i:Nat):Str:=⟨#[97+i]⟩
theorem ofx:Str.ofString "x" = ltr 23:=by decide+kernel
theorem ofy:Str.ofString "y" = ltr 24:=by decide+kernel
theorem ir(i:Nat):(ltr i).length=1:=rfl
theorem xo{z:Str}{i:Nat}(h:Sml z)(hl:z.length<=11)(hi:i<26):Sml (z++ltr i):=pM h hl (ir i) (by show(decide (97+i<200) && true)=true;rw[Bool.and_true];exact decide_eq_true (by lia))
theorem dS{z:Str}{i:Nat}(h:LtM z)(hi:i<26):isw (z++ltr i)=true:=h.2 (97+i) (by lia) (by lia)
def fsP(zs:List Str)(ds:List PD)(fN:Nat):List Fc:=(List.range fN).map λk=>(zs.getD k Str.empty,(ds.map PD.k).getD k k01)
def btP(zs:List Str)(ds:List PD)(fN:Nat)(k:Nat)(t:PT):BT:=⟨zs.getD (fN+k) Str.empty,prm t.cols zs,prm t.cols (ds.map PD.k),(ds.map PD.k).getD (fN+k) k01,t.way,t.rows⟩
def tsP(zs:List Str)(ds:List PD)(pts:List PT)(fN:Nat):List BT:=pts.mapIdx (btP zs ds fN)
theorem gc{α:Type}{xs:List α}{i:Nat}{x d:α}(e:xs[i]?=some x):xs.getD i d=x:=by rw[List.getD_eq_getElem?_getD,e];rfl
theorem jt{ds:List PD}{i:Nat}{p:PD}(e:ds[i]?=some p):(ds.map PD.k).getD i k01=p.k:=gc (by rw[getElem?_map,e];rfl)
theorem qu{zs:List Str}{ds:List PD}{fN j:Nat}{z:Str}{p:PD}(hj:j<fN)(e1:zs[j]?=some z)(e2:ds[j]?=some p):(fsP zs ds fN)[j]?=some (z,p.k):=by
 unfold fsP;rw[getElem?_map,getElem?_range hj];show some (zs.getD j Str.empty,(ds.map PD.k).getD j k01)=_;rw[gc e1,jt e2]
theorem iu(zs:List Str)(ds:List PD)(fN:Nat):(fsP zs ds fN).length=fN:=by unfold fsP;rw[length_map,length_range]
theorem kL(zs:List Str)(ds:List PD)(pts:List PT)(fN:Nat):(tsP zs ds pts fN).length=pts.length:=by unfold tsP;rw[List.length_mapIdx]
theorem gP{zs:List Str}{ds:List PD}{pts:List PT}{fN k:Nat}{t:PT}(e:pts[k]?=some t):(tsP zs ds pts fN)[k]?=some (btP zs ds fN k t):=by unfold tsP;rw[List.getElem?_mapIdx,e];rfl
theorem t8{zs:List Str}{ds:List PD}{pts:List PT}{fN k:Nat}{b:BT}(e:(tsP zs ds pts fN)[k]?=some b):∃t,pts[k]?=some t/\b=btP zs ds fN k t:=by
 unfold tsP at e;rw[List.getElem?_mapIdx]at e;cases h:pts[k]? with
 |none=>rw[h]at e;cases e
 |some t=>rw[h]at e;cases e;exact⟨t,U,U⟩
theorem ze{cN cW:Addr}{H:Hp}{zs:List Str}{ds:List PD}{fN:Nat}{fv:List V}(h:ar fv (List.range fN) (FcA cN cW H zs ds)):ar fv (fsP zs ds fN) (FcG cN cW H):=by
 refine⟨by rw[iu,h.1,length_range],λj f e=>?_⟩;have hj:=(Jx.mp e).1;rw[iu]at hj;obtain⟨r,er,nm,po,d,h1,h2,h3,h4⟩:=h.2 j j (getElem?_range hj);rw[qu hj h1 h2]at e;cases e;exact⟨r,er,d,h3,h4⟩
theorem zf{cT cN cW:Addr}{H:Hp}{zs:List Str}{ds:List PD}{pts:List PT}{fN:Nat}{mv:List V}(h:ar mv (List.range pts.length) (TbA cT cN cW H zs ds pts fN)):ar mv (tsP zs ds pts fN) (TbG cT cN cW H):=by
 refine⟨by rw[kL,h.1,length_range],λj b e=>?_⟩;obtain⟨t,et,rfl⟩:=t8 e;have hj:=(Jx.mp et).1;obtain⟨r,er,t',nm,po,ou,dv,h1,h2,h3,h4,h5,h6⟩:=h.2 j j (getElem?_range hj);rw[et]at h1;cases h1;refine⟨r,er,ou,dv,?_,h5,?_⟩
 ·show TF cT H r (zs.getD (fN+j) Str.empty) _ _ _ _ _;rw[gc h2];exact h4
 ·show dc cN cW H ou ((ds.map PD.k).getD (fN+j) k01);rw[jt h3];exact h6
structure TbV(t:BT):Prop where
 w:∀z∈t.nm :: t.cs,isw z=true
 nd:(t.nm :: t.cs).Nodup
 c1:1<=t.cs.length
 c4:t.cs.length<=4
 kl:t.ks.length=t.cs.length
 way:t.way∈six
 sum:t.way=Str.ofString "sum" -> t.o.1=none
 rws:∀w∈t.rws,pF (t.ks.map (·.2)) t.o.2 w
 few:t.rws.length<=200
theorem qv{zs:List Str}{ds:List PD}{pts:List PT}{fN k:Nat}{t:PT}(ok:cS zs ds pts fN)(et:pts[k]?=some t):TbV (btP zs ds fN k t):=by
 have tok:=ok.tabs k t et;have hlt:=ok.lt et;have zg:=ok.own et;have hl1:=ok.len;have ltz:∀j∈t.cols,j<zs.length:=λj hj=>by rw[hl1];exact hlt j hj
 have gz:=cF (os:=t.cols) (xs:=zs) ltz;have gk:=cF (os:=t.cols) (xs:=ds.map PD.k) λj hj=>by rw[length_map];exact hlt j hj
 have enm:=Jw (l:=zs) (i:=fN+k) (by lia);have epo:=Jw (l:=ds) (i:=fN+k) zg;generalize zs[fN+k]=nm at enm;generalize ds[fN+k]=po at epo;have e1:(btP zs ds fN k t).nm=nm:=gc enm;have e2:(btP zs ds fN k t).o=po.k:=jt epo;have nzs:nm ∉ prm t.cols zs:=λhm=>by
  obtain⟨j,ej⟩:=getElem?_of_mem hm;have hj:j<t.cols.length:=by rw[←gz.1];exact(Jx.mp ej).1
  have ec:=Jw hj;rw[gz.2 j _ ec]at ej;have:=gB ok.nd ej enm;have h9:=tok.ok.lt _ (Jy ec);lia
 refine⟨λz hz=>?_,?_,?_,?_,?_,tok.ok.way,λz=>?_,λw hw=>?_,tok.few⟩
 ·rw[e1]at hz;rcases mem_cons.mp hz with rfl|hz
  ·exact ok.words _ (Jy enm)
  ·exact ok.words z (nN hz)
 ·rw[e1];exact nodup_cons.mpr ⟨nzs,m6 tok.ok.nd ok.nd ltz⟩
 ·show 1<=(prm t.cols zs).length;rw[gz.1];exact tok.ok.some_
 ·show(prm t.cols zs).length<=4;have:t.cols.length<=3:=tok.ok.few;rw[gz.1];lia
 ·show(prm t.cols (ds.map PD.k)).length=(prm t.cols zs).length;rw[gz.1,gk.1]
 ·rw[e2];rw[PD.k_none (tok.ok.sum z po epo)]
 ·rw[e2];have:=ok.rows et epo w hw;have e:prm t.cols (ds.map λp=>(p.lo,p.hi))=(prm t.cols (ds.map PD.k)).map (·.2):=by
   rw[←qY,map_map];rfl
  rw[e]at this;exact this
theorem vx{cN cW:Addr}{H:Hp}{dv:List V}{ks:List Dk}(h:ar dv ks (dc cN cW H)):ar dv (ks.map (·.2)) (Dom cN cW H):=by
 refine⟨by rw[length_map];exact h.1,λj b eb=>?_⟩;rw[getElem?_map]at eb;cases ec:ks[j]? with
 |none=>rw[ec]at eb;cases eb
 |some kk =>
  rw[ec]at eb;cases eb;obtain⟨r1,e1,p1⟩:=h.2 j kk ec;exact⟨r1,e1,p1.dom⟩
theorem vy{cN cW:Addr}{H:Hp}{ou:Addr}{o:Dk}(h:dc cN cW H ou o)(hn:o.1=none):∃dx fs,H ou=some (.ins cN dx fs):=by
 obtain⟨w,lo,hi⟩:=o;cases hn;obtain⟨dx,e⟩:=h;exact⟨dx,_,e⟩
theorem ar.takeL{α:Type}{xs:List V}{as:List α}{P:Addr->α->Prop}(h:ar xs as P)(n:Nat):ar (xs.take n) (as.take n) P:=by
 refine⟨by rw[length_take,length_take,h.1],λj a e=>?_⟩;rw[List.getElem?_take]at e;split at e
 ·rename_i hj
  obtain⟨r,e1,p⟩:=h.2 j a e;exact⟨r,by rw[List.getElem?_take,if_pos hj];exact e1,p⟩
 ·cases e
theorem ar.dropL{α:Type}{xs:List V}{as:List α}{P:Addr->α->Prop}(h:ar xs as P)(n:Nat):ar (xs.drop n) (as.drop n) P:=by
 refine⟨by rw[length_drop,length_drop,h.1],λj a e=>?_⟩;rw[List.getElem?_drop]at e;obtain⟨r,e1,p⟩:=h.2 _ a e;exact⟨r,by rw[List.getElem?_drop];exact e1,p⟩
theorem pN{H H':Hp}{D:Addr}(s:au H H')(n:H D=none):au H (hide H' D):=λb u e=>bj (s _ _ e) (λz=>by rw[z,n]at e;cases e)
theorem pO{N:Addr->Prop}{H:Hp}{D:Addr}{yy:List V}(eD:H D=some (.lst yy))(n:¬ N D){xs:List V}{rws:List Rw}(h:RL N H xs rws):RL NT (hide H D) xs rws :=
 ar.mono h λ_ _ ⟨ce,cs,e,m,f,c⟩=>⟨ce,cs,dO eD _ _ e,trivial,bj f (λz=>n (z ▸ m)),ar.mono c λ_ _ ⟨m2,ys,g,p⟩=>⟨trivial,ys,bj g (λz=>n (z ▸ m2)),p.mono (dO eD)⟩⟩
theorem iv{x y:Str}{i j:Nat}(h:x++ltr i=y++ltr j):x=y/\i=j:=by
 have h:Str.append x (ltr i)=Str.append y (ltr j):=h;unfold Str.append ltr at h;injection h with h;have h:=congrArg Array.toList h;have h:x.cps.toList++[97+i]=y.cps.toList++[97+j]:=by simpa using h
 obtain⟨h1,h2⟩:=List.append_inj' h U;refine⟨?_,by simpa using h2⟩;obtain⟨x⟩:=x;obtain⟨y⟩:=y
 congr 1
 exact Array.toList_inj.mp h1
theorem cL{zs:List Str}(h:∀z∈zs,∀y∈zs,z.length=y.length){z:Str}(hz:z∈zs)(i:Nat):z++ltr i ∉ zs:=λhm=>by
 have:=h _ hm z hz;rw[qq,ir]at this;lia
def dP(z:Str):BT:=⟨z++ltr 24,[z++ltr 23],[k01],k01,Str.ofString "first",[]⟩
def gQ(z:Str)(kd:Int):BT:=⟨z++ltr 23,[z++ltr 24],[(none,0,kd-11)],k01,Str.ofString "first",[]⟩
def pP(z0 z1:Str)(b:BT)(k:Nat):BT:={ b with nm:=(if k<26 then z0 else z1)++ltr (k%26),rws:=b.rws.take 1 }
inductive WdI(zs:List Str)(ds:List PD)(pts:List PT)(fN:Nat):Int->List Fc->List BT->Prop
 |same {kd:Int}(h:¬ (9<=kd/\kd<=13))(h8:kd=8->akP pts fN=[]):WdI zs ds pts fN kd (fsP zs ds fN) (tsP zs ds pts fN)
 |eight {a:Nat}{t:PT}{p:PD}{rest:List Nat}(ha:akP pts fN=a :: rest)(et:pts[a]?=some t)(ep:ds[fN+a]?=some p):WdI zs ds pts fN 8 (fsP zs ds fN) ((tsP zs ds pts fN).take a++[{ btP zs ds fN a t with o:=cD p }]++(tsP zs ds pts fN).drop (a+1))
 |nine {z0:Str}(e:zs[0]?=some z0):WdI zs ds pts fN 9 (fsP zs ds fN++(List.range (20-fN)).map λk=>(z0++ltr k,k01)) (tsP zs ds pts fN)
 |ten {z0 z1:Str}{t0:PT}(e0:zs[0]?=some z0)(e1:zs[1]?=some z1)(et:pts[0]?=some t0):WdI zs ds pts fN 10 (fsP zs ds fN) (tsP zs ds pts fN++(List.range (30-pts.length)).map (pP z0 z1 (btP zs ds fN 0 t0)))
 |eleven {z0:Str}(e:zs[0]?=some z0):WdI zs ds pts fN 11 (fsP zs ds fN) (tsP zs ds pts fN++[dP z0])
 |ring {z0:Str}{kd:Int}(e:zs[0]?=some z0)(h:kd=12\/kd=13):WdI zs ds pts fN kd (fsP zs ds fN) ([dP z0,gQ z0 kd]++tsP zs ds pts fN)
theorem q9{z:Str}(h:LtM z):TbV (dP z):=by
 have h1:=dS h (i:=24) (by decide);have h2:=dS h (i:=23) (by decide);refine⟨λy hy=>?_,nodup_cons.mpr ⟨λhm=>?_,by simp[dP]⟩,le_refl _,by show 1<=4;decide,U,by show Str.ofString "first" ∈ six;unfold six;simp,λ_=>U,(λw hw=>by cases hw),zero_le _⟩
 ·rcases mem_cons.mp hy with rfl|hy
  ·exact h1
  ·rw[mem_singleton.mp hy];exact h2
 ·have:=mem_singleton.mp hm;exact absurd (iv this).2 (by decide)
theorem vz{zs:List Str}{ds:List PD}{fN k:Nat}{t:PT}{z0 z1:Str}(v:TbV (btP zs ds fN 0 t))(h:∀z∈zs,∀y∈zs,z.length=y.length)(hl:∀z∈zs,LtM z)(h0:z0∈zs)(h1:z1∈zs):TbV (pP z0 z1 (btP zs ds fN 0 t) k):=by
 have hz:(if k<26 then z0 else z1)∈zs:=by split <;> assumption
 refine⟨λy hy=>?_,nodup_cons.mpr ⟨λhm=>cL h hz _ (nN hm),(nodup_cons.mp v.nd).2⟩,v.c1,v.c4,v.kl,v.way,v.sum,(λw hw=>v.rws w (mem_of_mem_take hw)),?_⟩
 ·rcases mem_cons.mp hy with rfl|hy
  ·exact dS (hl _ hz) (mod_lt _ (by decide))
  ·exact v.w y (mem_cons_of_mem _ hy)
 ·show(t.rows.take 1).length<=200;rw[length_take];lia
theorem vA{z:Str}{kd:Int}(h:LtM z):TbV (gQ z kd):=by
 have h1:=dS h (i:=24) (by decide);have h2:=dS h (i:=23) (by decide);refine⟨λy hy=>?_,nodup_cons.mpr ⟨λhm=>?_,by simp[gQ]⟩,le_refl _,by show 1<=4;decide,U,by show Str.ofString "first" ∈ six;unfold six;simp,λ_=>U,(λw hw=>by cases hw),zero_le _⟩
 ·rcases mem_cons.mp hy with rfl|hy
  ·exact h2
  ·rw[mem_singleton.mp hy];exact h1
 ·have:=mem_singleton.mp hm;exact absurd (iv this).2 (by decide)
section
variable{zs:List Str}{ds:List PD}{pts:List PT}{fN:Nat}
theorem lN(ok:cS zs ds pts fN):(fsP zs ds fN).map (·.1)=zs.take fN:=by
 have h1:=ok.len;have h2:=ok.tab;refine ext_getElem? λj=>?_
 rw[getElem?_map,List.getElem?_take];by_cases hj:j<fN
 ·have e1:=Jw (l:=zs) (i:=j) (by lia);have e2:=Jw (l:=ds) (i:=j) (by lia);rw[qu hj e1 e2,if_pos hj,e1];rfl
 ·rw[if_neg hj,getElem?_eq_none (by rw[iu];lia)];rfl
theorem lO(ok:cS zs ds pts fN):(tsP zs ds pts fN).map BT.nm=zs.drop fN:=by
 have h1:=ok.len;have h2:=ok.tab;refine ext_getElem? λj=>?_
 rw[getElem?_map,List.getElem?_drop];by_cases hj:j<pts.length
 ·have e1:=Jw (l:=zs) (i:=fN+j) (by lia);rw[gP (Jw hj),e1];show some (zs.getD (fN+j) Str.empty)=_;rw[gc e1]
 ·rw[getElem?_eq_none (by rw[kL];lia),getElem?_eq_none (by lia)];rfl
structure ClT(zs:List Str)(ds:List PD)(pts:List PT)(k:Nat)(t:BT):Prop where
 ex:∃pt:PT,pts[k]?=some pt/\t.cs=prm pt.cols zs/\t.ks=prm pt.cols (ds.map PD.k)
theorem ClT.col(ok:cS zs ds pts fN){k:Nat}{t:BT}(h:ClT zs ds pts k t){i:Nat}{c:Str}{q:Dk}(e1:t.cs[i]?=some c)(e2:t.ks[i]?=some q):∃(j:Nat)(p:PD),j<fN+k/\zs[j]?=some c/\ds[j]?=some p/\q=p.k:=by
 obtain⟨pt,ep,h1,h2⟩:=h.ex;have hlt:=ok.lt ep;have hl1:=ok.len;have gz:=cF (os:=pt.cols) (xs:=zs) λj hj=>by rw[hl1];exact hlt j hj
 have gk:=cF (os:=pt.cols) (xs:=ds.map PD.k) λj hj=>by rw[length_map];exact hlt j hj
 rw[h1]at e1;rw[h2]at e2;have hi:i<pt.cols.length:=by rw[←gz.1];exact(Jx.mp e1).1
 have ec:=Jw hi;have hm:=Jy ec;generalize pt.cols[i]=j at ec hm;rw[gz.2 i j ec]at e1;rw[gk.2 i j ec,getElem?_map]at e2;have ed:=Jw (hlt j hm);rw[ed]at e2;cases e2;exact⟨j,_,(ok.tabs k pt ep).ok.lt j hm,e1,ed,U⟩
theorem ClT.mem(ok:cS zs ds pts fN){k:Nat}{t:BT}(h:ClT zs ds pts k t){c:Str}(hc:c∈t.cs):∃j,j<fN+k/\zs[j]?=some c:=by
 obtain⟨i,ei⟩:=getElem?_of_mem hc;obtain⟨pt,ep,h1,h2⟩:=h.ex;have hlt:=ok.lt ep;have hl1:=ok.len;have gz:=cF (os:=pt.cols) (xs:=zs) λj hj=>by rw[hl1];exact hlt j hj
 have gk:=cF (os:=pt.cols) (xs:=ds.map PD.k) λj hj=>by rw[length_map];exact hlt j hj
 have hi:i<t.ks.length:=by
  have:=(Jx.mp ei).1;rw[h1,gz.1]at this;rw[h2,gk.1];exact this
 obtain⟨j,p,h3,h4,_⟩:=h.col ok ei (Jw hi);exact⟨j,h3,h4⟩
structure NrI(zs:List Str)(ds:List PD)(pts:List PT)(fN:Nat)(fs:List Fc)(ts:List BT):Prop where
 pm:∃E:List Str,E.Nodup/\(∀e∈E,e ∉ zs/\isw e=true)/\(bN fs ts).Perm (zs++E)
 fx:∀f∈fs,(∃j p,j<fN/\zs[j]?=some f.1/\ds[j]?=some p/\f.2=p.k)\/(f.1 ∉ zs/\isw f.1=true)
 nm:∀t∈ts,(∃k,zs[fN+k]?=some t.nm/\k<pts.length/\ClT zs ds pts k t)\/t.nm ∉ zs
 t0:∃t∈ts,ClT zs ds pts 0 t
theorem NrI.nd(ok:cS zs ds pts fN){fs:List Fc}{ts:List BT}(h:NrI zs ds pts fN fs ts):(bN fs ts).Nodup:=by
 obtain⟨E,h1,h2,h3⟩:=h.pm;rw[h3.nodup_iff];exact nodup_append.mpr ⟨ok.nd,h1,λa ha b hb e=>(h2 b hb).1 (e ▸ ha)⟩
theorem NrI.has{fs:List Fc}{ts:List BT}(h:NrI zs ds pts fN fs ts){z:Str}(hz:z∈zs):z∈bN fs ts:=by
 obtain⟨E,h1,h2,h3⟩:=h.pm;exact h3.mem_iff.mpr (mem_append_left _ hz)
theorem NrI.inv(ok:cS zs ds pts fN){fs:List Fc}{ts:List BT}(h:NrI zs ds pts fN fs ts){t0:PT}{u:Nat}{un:Str}{pu:PD}(et:pts[0]?=some t0)(eu:t0.cols[0]?=some u)(eun:zs[u]?=some un)(epu:ds[u]?=some pu):(∃t∈ts,t.cs[0]?=some un/\t.ks[0]?=some pu.k)/\∀t∈ts,t.nm≠un:=by
 have hu:u<fN+0:=(ok.tabs 0 t0 et).ok.lt u (Jy eu);refine⟨?_,λt ht e=>?_⟩
 ·obtain⟨t,ht,pt,ep,h1,h2⟩:=h.t0;rw[et]at ep;cases ep;have hlt:=ok.lt et;have hl1:=ok.len;refine⟨t,ht,?_,?_⟩
  ·rw[h1,(cF (os:=t0.cols) (xs:=zs) λj hj=>by rw[hl1];exact hlt j hj).2 0 u eu];exact eun
  ·rw[h2,(cF (os:=t0.cols) (xs:=ds.map PD.k) λj hj=>by rw[length_map];exact hlt j hj).2 0 u eu,getElem?_map,epu];rfl
 ·rcases h.nm t ht with⟨k,h1,_⟩|h1
  ·rw[e]at h1;have:=gB ok.nd h1 eun;lia
  ·rw[e]at h1;exact h1 (Jy eun)
theorem NrI.ok(ok:cS zs ds pts fN){fs:List Fc}{ts:List BT}(h:NrI zs ds pts fN fs ts)(hk:∀t∈ts,∀c∈t.cs,c∈bN fs ts):fO fs ts:=by
 refine⟨λf hf=>?_,h.nd ok,hk⟩;rcases h.fx f hf with⟨j,p,_,h1,_⟩|h1
 ·exact ok.words _ (Jy h1)
 ·exact h1.2
theorem NrI.due(ok:cS zs ds pts fN){fs:List Fc}{ts:List BT}(h:NrI zs ds pts fN fs ts)(ho:∀t∈ts,∀k,zs[fN+k]?=some t.nm->∃p,ds[fN+k]?=some p/\t.o=p.k){c:Str}{q:Dk}(hq:(c,q)∈eR fs ts){j:Nat}{p:PD}(e1:zs[j]?=some c)(e2:ds[j]?=some p):q=p.k:=by
 unfold eR at hq;rcases mem_append.mp hq with hq|hq
 ·rcases h.fx _ hq with⟨j',p',_,h1,h2,h3⟩|h1
  ·have:=gB ok.nd h1 e1;subst this;rw[e2]at h2;cases h2;exact h3
  ·exact absurd (Jy e1) h1.1
 ·obtain⟨t,ht,et⟩:=mem_map.mp hq;injection et with et1 et2;rcases h.nm t ht with⟨k,h1,_⟩|h1
  ·obtain⟨p',h2,h3⟩:=ho t ht k h1;rw[et1]at h1;have:=gB ok.nd h1 e1;subst this;rw[e2]at h2;cases h2;rw[←et2,h3]
  ·rw[et1]at h1;exact absurd (Jy e1) h1
end
section
variable{zs:List Str}{ds:List PD}{pts:List PT}{fN:Nat}
theorem t9(k:Nat){t:PT}(et:pts[k]?=some t):ClT zs ds pts k (btP zs ds fN k t):=⟨t,et,U,U⟩
theorem gg(ok:cS zs ds pts fN){b:BT}(h:b∈tsP zs ds pts fN):∃k t,pts[k]?=some t/\k<pts.length/\b=btP zs ds fN k t/\zs[fN+k]?=some b.nm/\ClT zs ds pts k b:=by
 obtain⟨k,ek⟩:=getElem?_of_mem h;obtain⟨t,et,rfl⟩:=t8 ek;have hk:=(Jx.mp et).1;have h1:=ok.len;have h2:=ok.tab;have e1:=Jw (l:=zs) (i:=fN+k) (by lia);refine⟨k,t,et,hk,U,?_,t9 k et⟩;rw[e1];show _=some (zs.getD (fN+k) Str.empty);rw[gc e1]
theorem nU(ok:cS zs ds pts fN){f:Fc}(h:f∈fsP zs ds fN):∃j p,j<fN/\zs[j]?=some f.1/\ds[j]?=some p/\f.2=p.k:=by
 obtain⟨j,ej⟩:=getElem?_of_mem h;have hj:=(Jx.mp ej).1;rw[iu]at hj;have h1:=ok.len;have h2:=ok.tab;have e1:=Jw (l:=zs) (i:=j) (by lia);have e2:=Jw (l:=ds) (i:=j) (by lia);rw[qu hj e1 e2]at ej;cases ej;exact⟨j,_,hj,e1,e2,U⟩
theorem ra(ok:cS zs ds pts fN){b:BT}(h:b∈tsP zs ds pts fN){k:Nat}(e:zs[fN+k]?=some b.nm):∃p,ds[fN+k]?=some p/\b.o=p.k:=by
 obtain⟨k',t,et,hk,rfl,e',_⟩:=gg ok h;have:=gB ok.nd e e';have:k=k':=by lia
 subst this;have h2:=ok.tab;have e2:=Jw (l:=ds) (i:=fN+k) (by lia);exact⟨_,e2,jt e2⟩
theorem ju(ok:cS zs ds pts fN){t0:PT}(et:pts[0]?=some t0){fs:List Fc}{ts:List BT}{E:List Str}(hE:E.Nodup)(hE2:∀e∈E,e ∉ zs/\isw e=true)(hp:(bN fs ts).Perm (zs++E))(hf:∀f∈fs,f∈fsP zs ds fN\/(f.1 ∉ zs/\isw f.1=true))(ht:∀t∈ts,t∈tsP zs ds pts fN\/t.nm ∉ zs)(h0:btP zs ds fN 0 t0∈ts):NrI zs ds pts fN fs ts:=by
 refine⟨⟨E,hE,hE2,hp⟩,λf hf'=>?_,λt ht'=>?_,⟨_,h0,t9 0 et⟩⟩
 ·rcases hf f hf' with h|h
  ·exact .inl (nU ok h)
  ·exact .inr h
 ·rcases ht t ht' with h|h
  ·obtain⟨k,t,_,hk,rfl,e,hc⟩:=gg ok h;exact .inl ⟨k,e,hk,hc⟩
  ·exact .inr h
theorem ua(ok:cS zs ds pts fN){fs:List Fc}{ts:List BT}(h:NrI zs ds pts fN fs ts)(ho:∀t∈ts,∀k,zs[fN+k]?=some t.nm->∃p,ds[fN+k]?=some p/\t.o=p.k)(hc:∀t∈ts,∃k,ClT zs ds pts k t):mz fs ts:=by
 intro t ht i c k k' e1 e2 e3;obtain⟨q,hq⟩:=hc t ht;obtain⟨j,p,_,h1,h2,rfl⟩:=hq.col ok e1 e2;rw[h.due ok ho e3 h1 h2];exact pK _
theorem ub(ok:cS zs ds pts fN){j:Nat}{z:Str}(e:zs[j]?=some z):zs.idxOf z=j:=by
 have hm:=Jy e;have hl:=List.idxOf_lt_length_iff.mpr hm;have e2:zs[zs.idxOf z]?=some z:=by rw[Jw hl,List.getElem_idxOf hl]
 exact gB ok.nd e2 e
theorem uc(ok:cS zs ds pts fN){ts:List BT}(h:∀t∈ts,(t∈tsP zs ds pts fN)\/(t.nm ∉ zs/\∃k,ClT zs ds pts k t)):rR ts:=by
 refine⟨λz=>zs.idxOf z,λt ht c hc _=>?_⟩;rcases h t ht with h1|⟨h1,k,h2⟩
 ·obtain⟨k,pt,_,hk,rfl,e,hcl⟩:=gg ok h1;obtain⟨j,hj,ej⟩:=hcl.mem ok hc;show zs.idxOf c<zs.idxOf (btP zs ds fN k pt).nm;rw[ub ok ej,ub ok e];exact hj
 ·obtain⟨j,hj,ej⟩:=h2.mem ok hc;show zs.idxOf c<zs.idxOf t.nm;rw[List.idxOf_eq_length h1];exact List.idxOf_lt_length_iff.mpr (Jy ej)
theorem ud{α:Type}{xs:List α}{a:Nat}{x:α}(e:xs[a]?=some x):xs.take a++[x]++xs.drop (a+1)=xs:=by
 obtain⟨h,rfl⟩:=Jx.mp e;rw[append_assoc];show xs.take a++(xs[a] :: xs.drop (a+1))=xs;rw[←List.drop_eq_getElem_cons h,take_append_drop]
structure WdR(zs:List Str)(ds:List PD)(pts:List PT)(fN:Nat)(kd:Int)(fs:List Fc)(ts:List BT):Prop where
 nr:NrI zs ds pts fN fs ts
 bad:kd=11->¬ fO fs ts
 good:kd≠11->fO fs ts
 un:kd=13\/(kd=8/\akP pts fN≠[])->¬ mz fs ts
 dm:kd≠11->kd≠13->¬ (kd=8/\akP pts fN≠[])->mz fs ts
 st:kd=12->vq ts
 rk:kd≠11->kd≠12->kd≠13->¬ (kd=8/\akP pts fN≠[])->rR ts
 len:fs.length<=20/\ts.length<=30/\1<=ts.length
theorem rb(ok:cS zs ds pts fN){fs:List Fc}{ts:List BT}(h:NrI zs ds pts fN fs ts)(hc:∀t∈ts,∃k,ClT zs ds pts k t):fO fs ts :=
 h.ok ok λt ht c hcc=>by
  obtain⟨k,hk⟩:=hc t ht;obtain⟨j,_,ej⟩:=hk.mem ok hcc;exact h.has (Jy ej)
theorem gh(ok:cS zs ds pts fN):∀t∈tsP zs ds pts fN,∃k,ClT zs ds pts k t:=λt ht=>let ⟨k,_,_,_,_,_,h⟩:=gg ok ht;⟨k,h⟩
theorem zh(ok:cS zs ds pts fN)(hf1:1<=fN)(hlz:∀z∈zs,∀y∈zs,z.length=y.length)(hlt:∀z∈zs,LtM z){t0:PT}(et0:pts[0]?=some t0){kd:Int}{fs:List Fc}{ts:List BT}(h:WdI zs ds pts fN kd fs ts):WdR zs ds pts fN kd fs ts:=by
 have h1:=ok.len;have h2:=ok.tab;have h7:=ok.n7;have hp1:=ok.some_;have hbN:bN (fsP zs ds fN) (tsP zs ds pts fN)=zs:=by unfold bN;rw[lN ok,lO ok,take_append_drop]
 have h0:btP zs ds fN 0 t0∈tsP zs ds pts fN:=Jy (gP et0);have lf:=iu zs ds fN;have lt:=kL zs ds pts fN;cases h with
 |same hk h8 =>
  have nr:NrI zs ds pts fN (fsP zs ds fN) (tsP zs ds pts fN):=ju ok et0 (E:=[]) nodup_nil (λe he=>by cases he) (by rw[hbN,append_nil]) (λf hf=>.inl hf) (λt ht=>.inl ht) h0;exact⟨nr,λz=>by lia,λ_=>rb ok nr (gh ok),λz=>by rcases z with z|⟨z,y⟩;lia;exact absurd (h8 z) y,λ_ _ _=>ua ok nr (λt ht k e=>ra ok ht e) (gh ok),λz=>by lia,λ_ _ _ _=>uc ok λt ht=>.inl ht,by lia⟩
 |eight ha et ep =>
  rename_i a t p rest
  have eb:=gP (zs:=zs) (ds:=ds) (fN:=fN) et;have hsp:=ud eb;have Bv:∀b∈(tsP zs ds pts fN).take a++[{ btP zs ds fN a t with o:=cD p }]++(tsP zs ds pts fN).drop (a+1),∃b'∈tsP zs ds pts fN,b.nm=b'.nm/\b.cs=b'.cs/\b.ks=b'.ks:=λb hb=>by
   rcases mem_append.mp hb with hb|hb
   ·rcases mem_append.mp hb with hb|hb
    ·exact⟨b,mem_of_mem_take hb,U,U,U⟩
    ·rw[mem_singleton.mp hb];exact⟨_,Jy eb,U,U,U⟩
   ·exact⟨b,List.mem_of_mem_drop hb,U,U,U⟩
  have v7:∀b'∈tsP zs ds pts fN,∃b∈(tsP zs ds pts fN).take a++[{ btP zs ds fN a t with o:=cD p }]++(tsP zs ds pts fN).drop (a+1),b.nm=b'.nm/\b.cs=b'.cs/\b.ks=b'.ks:=λb' hb=>by
   rw[←hsp]at hb;rcases mem_append.mp hb with hb|hb
   ·rcases mem_append.mp hb with hb|hb
    ·exact⟨b',mem_append_left _ (mem_append_left _ hb),U,U,U⟩
    ·rw[mem_singleton.mp hb];exact⟨_,mem_append_left _ (mem_append_right _ mem_cons_self),U,U,U⟩
   ·exact⟨b',mem_append_right _ hb,U,U,U⟩
  have hnm:((tsP zs ds pts fN).take a++[{ btP zs ds fN a t with o:=cD p }]++(tsP zs ds pts fN).drop (a+1)).map BT.nm=(tsP zs ds pts fN).map BT.nm:=by
   have:=congrArg (List.map BT.nm) hsp;rw[map_append,map_append]at this⊢;exact this
  have Bw:bN (fsP zs ds fN) ((tsP zs ds pts fN).take a++[{ btP zs ds fN a t with o:=cD p }]++(tsP zs ds pts fN).drop (a+1))=zs:=by
   unfold bN;rw[hnm];exact hbN
  have hcl:∀b∈(tsP zs ds pts fN).take a++[{ btP zs ds fN a t with o:=cD p }]++(tsP zs ds pts fN).drop (a+1),∃k,zs[fN+k]?=some b.nm/\k<pts.length/\ClT zs ds pts k b:=λb hb=>by
   obtain⟨b',hb',n1,n2,n3⟩:=Bv b hb;obtain⟨k,pt,ept,hk,rfl,e,_⟩:=gg ok hb';exact⟨k,by rw[n1];exact e,hk,⟨pt,ept,n2,n3⟩⟩
  obtain⟨b0,hb0,_,m2,m3⟩:=v7 _ h0;have nr:NrI zs ds pts fN (fsP zs ds fN) ((tsP zs ds pts fN).take a++[{ btP zs ds fN a t with o:=cD p }]++(tsP zs ds pts fN).drop (a+1)):=⟨⟨[],nodup_nil,(λe he=>by cases he),by rw[Bw,append_nil]⟩,(λf hf=>.inl (nU ok hf)),(λb hb=>.inl (hcl b hb)),b0,hb0,⟨t0,et0,m2,m3⟩⟩;refine⟨nr,λz=>by lia,λ_=>rb ok nr λb hb=>let ⟨k,_,_,h⟩:=hcl b hb;⟨k,h⟩,λ_ hD=>?_,λ_ _ z=>absurd ⟨U,by rw[ha];simp⟩ z,λz=>by lia,λ_ _ _ z=>absurd ⟨U,by rw[ha];simp⟩ z,?_⟩
  ·have ham:a∈akP pts fN:=by rw[ha];exact mem_cons_self
   unfold akP akq at ham;obtain⟨t',ht',hm⟩:=List.mem_flatMap.mp ham;obtain⟨cc,hc,hcc⟩:=mem_map.mp hm;obtain⟨hc1,hc2⟩:=mem_filter.mp hc;have hc2:=of_decide_eq_true hc2;have hcc:cc=fN+a:=by lia
   subst hcc;obtain⟨k',ek'⟩:=getElem?_of_mem ht';obtain⟨b,hb,_,n2,n3⟩:=v7 _ (Jy (gP (zs:=zs) (ds:=ds) (fN:=fN) ek'));obtain⟨i,ei⟩:=getElem?_of_mem hc1;have zi:=ok.lt ek';have e1:b.cs[i]?=zs[fN+a]?:=by rw[n2];exact(cF (os:=t'.cols) (xs:=zs) λj hj=>by rw[h1];exact zi j hj).2 i _ ei
   have e2:b.ks[i]?=some p.k:=by rw[n3];show(prm t'.cols (ds.map PD.k))[i]?=_;rw[(cF (os:=t'.cols) (xs:=ds.map PD.k) λj hj=>by rw[length_map];exact zi j hj).2 i _ ei,getElem?_map,ep];rfl
   obtain⟨za,e3⟩:∃z,zs[fN+a]?=some z:=⟨_,Jw (l:=zs) (i:=fN+a) (by have:=(Jx.mp ep).1;lia)⟩;rw[e3]at e1;have hq:(za,cD p)∈eR (fsP zs ds fN) ((tsP zs ds pts fN).take a++[{ btP zs ds fN a t with o:=cD p }]++(tsP zs ds pts fN).drop (a+1)):=by
    refine mem_append_right _ (mem_map.mpr ⟨_,mem_append_left _ (mem_append_right _ mem_cons_self),?_⟩);show(zs.getD (fN+a) Str.empty,cD p)=_;rw[gc e3]
   have:=hD b hb i _ _ _ e1 e2 hq;rw[lM]at this;cases this
  ·have:=congrArg List.length hnm;rw[length_map,length_map]at this;lia
 |nine e =>
  rename_i z0
  have hz0:=Jy e;have hEn:((List.range (20-fN)).map λk=>z0++ltr k).Nodup:=by
   rw[nodup_iff_pairwise_ne,pairwise_map];exact List.Pairwise.imp (R:=λa b=>a≠b) (λhab z=>hab (iv z).2) nodup_range
  have hE2:∀e∈(List.range (20-fN)).map λk=>z0++ltr k,e ∉ zs/\isw e=true:=λe he=>by
   obtain⟨k,hk,rfl⟩:=mem_map.mp he;have:=mem_range.mp hk;exact⟨cL hlz hz0 _,dS (hlt z0 hz0) (by lia)⟩
  have nr:NrI zs ds pts fN (fsP zs ds fN++(List.range (20-fN)).map λk=>(z0++ltr k,k01)) (tsP zs ds pts fN):=ju ok et0 hEn hE2 (by
   unfold bN;rw[map_append,lN ok,lO ok,map_map];show(zs.take fN++((List.range (20-fN)).map λk=>z0++ltr k)++zs.drop fN).Perm _;rw[append_assoc];refine(List.Perm.append_left _ List.perm_append_comm).trans ?_;rw[←append_assoc,take_append_drop]) (λf hf=>by
    rcases mem_append.mp hf with h|h
    ·exact .inl h
    ·obtain⟨k,hk,rfl⟩:=mem_map.mp h;exact .inr (hE2 _ (mem_map.mpr ⟨k,hk,U⟩))) (λt ht=>.inl ht) h0
  exact⟨nr,λz=>by lia,λ_=>rb ok nr (gh ok),λz=>by lia,λ_ _ _=>ua ok nr (λt ht k e=>ra ok ht e) (gh ok),λz=>by lia,λ_ _ _ _=>uc ok λt ht=>.inl ht,by rw[length_append,length_map,length_range];lia⟩
 |ten e0 e1 et =>
  rename_i z0 z1 t0'
  rw[et0]at et;cases et;have hz0:=Jy e0;have hz1:=Jy e1;have hz:∀k,(if k<26 then z0 else z1)∈zs:=λk=>by split <;> assumption
  have hEn:((List.range (30-pts.length)).map λk=>(if k<26 then z0 else z1)++ltr (k%26)).Nodup:=by
   rw[nodup_iff_pairwise_ne,pairwise_map];refine List.Pairwise.imp_of_mem (R:=λa b=>a≠b) (λ{a b} ha hb hab z=>?_) nodup_range;have ha:=mem_range.mp ha;have hb:=mem_range.mp hb;obtain⟨g1,g2⟩:=iv z;by_cases ha6:a<26
   ·by_cases hb6:b<26
    ·lia
    ·rw[if_pos ha6,if_neg hb6]at g1;rw[←g1]at e1;have:=gB ok.nd e0 e1;lia
   ·by_cases hb6:b<26
    ·rw[if_neg ha6,if_pos hb6]at g1;rw[g1]at e1;have:=gB ok.nd e0 e1;lia
    ·lia
  have hE2:∀e∈(List.range (30-pts.length)).map λk=>(if k<26 then z0 else z1)++ltr (k%26),e ∉ zs/\isw e=true:=λe he=>by
   obtain⟨k,hk,rfl⟩:=mem_map.mp he;exact⟨cL hlz (hz k) _,dS (hlt _ (hz k)) (mod_lt _ (by decide))⟩
  have ue:∀t∈(List.range (30-pts.length)).map (pP z0 z1 (btP zs ds fN 0 t0)),t.nm ∉ zs/\ClT zs ds pts 0 t:=λt ht=>by
   obtain⟨k,hk,rfl⟩:=mem_map.mp ht;exact⟨cL hlz (hz k) _,⟨t0,et0,U,U⟩⟩
  have nr:NrI zs ds pts fN (fsP zs ds fN) (tsP zs ds pts fN++(List.range (30-pts.length)).map (pP z0 z1 (btP zs ds fN 0 t0))):=ju ok et0 hEn hE2 (by
   unfold bN;rw[map_append,lN ok,lO ok,map_map,←append_assoc,take_append_drop];exact List.Perm.refl _) (λf hf=>.inl hf) (λt ht=>by
    rcases mem_append.mp ht with h|h
    ·exact .inl h
    ·exact .inr (ue t h).1) (mem_append_left _ h0)
  have hc:∀t∈tsP zs ds pts fN++(List.range (30-pts.length)).map (pP z0 z1 (btP zs ds fN 0 t0)),∃k,ClT zs ds pts k t:=λt ht=>by
   rcases mem_append.mp ht with h|h
   ·exact gh ok t h
   ·exact⟨0,(ue t h).2⟩
  refine⟨nr,λz=>by lia,λ_=>rb ok nr hc,λz=>by lia,λ_ _ _=>ua ok nr (λt ht k e=>?_) hc,λz=>by lia,λ_ _ _ _=>uc ok λt ht=>?_,by rw[length_append,length_map,length_range];lia⟩
  ·rcases mem_append.mp ht with h|h
   ·exact ra ok h e
   ·exact absurd (Jy e) (ue t h).1
  ·rcases mem_append.mp ht with h|h
   ·exact .inl h
   ·exact .inr ⟨(ue t h).1,0,(ue t h).2⟩
 |eleven e =>
  rename_i z0
  have hz0:=Jy e;have hE2:∀e∈[z0++ltr 24],e ∉ zs/\isw e=true:=λe he=>by
   rw[mem_singleton.mp he];exact⟨cL hlz hz0 _,dS (hlt _ hz0) (by decide)⟩
  have zj:(bN (fsP zs ds fN) (tsP zs ds pts fN++[dP z0]))=zs++[z0++ltr 24]:=by
   unfold bN;rw[map_append,lN ok,lO ok,←append_assoc,take_append_drop];rfl
  have nr:NrI zs ds pts fN (fsP zs ds fN) (tsP zs ds pts fN++[dP z0]):=ju ok et0 (E:=[z0++ltr 24]) (by simp) hE2 (by rw[zj]) (λf hf=>.inl hf) (λt ht=>by
    rcases mem_append.mp ht with h|h
    ·exact .inl h
    ·rw[mem_singleton.mp h];exact .inr (cL hlz hz0 _)) (mem_append_left _ h0)
  refine⟨nr,λ_ hN=>?_,λz=>absurd U z,λz=>by lia,λz=>absurd U z,λz=>by lia,λz=>absurd U z,by rw[length_append];show _/\_+1<=30/\1<=_+1;lia⟩;have:=hN.al (dP z0) (mem_append_right _ mem_cons_self) (z0++ltr 23) mem_cons_self;rw[zj]at this;rcases mem_append.mp this with h|h
  ·exact cL hlz hz0 _ h
  ·exact absurd (iv (mem_singleton.mp h)).2 (by decide)
 |ring e hk =>
  rename_i z0
  have hz0:=Jy e;have n1:=cL hlz hz0 23;have n2:=cL hlz hz0 24;have hne:z0++ltr 24≠z0++ltr 23:=λz=>absurd (iv z).2 (by decide)
  have hE2:∀e∈[z0++ltr 24,z0++ltr 23],e ∉ zs/\isw e=true:=λe he=>by
   rcases mem_cons.mp he with rfl|he
   ·exact⟨n2,dS (hlt _ hz0) (by decide)⟩
   ·rw[mem_singleton.mp he];exact⟨n1,dS (hlt _ hz0) (by decide)⟩
  have hx:∀t∈[dP z0,gQ z0 kd]++tsP zs ds pts fN,t=dP z0\/t=gQ z0 kd\/t∈tsP zs ds pts fN:=λt ht=>by
   rcases mem_append.mp ht with h|h
   ·rcases mem_cons.mp h with h|h
    ·exact .inl h
    ·exact .inr (.inl (mem_singleton.mp h))
   ·exact .inr (.inr h)
  have nr:NrI zs ds pts fN (fsP zs ds fN) ([dP z0,gQ z0 kd]++tsP zs ds pts fN):=ju ok et0 (E:=[z0++ltr 24,z0++ltr 23]) (by simp[hne]) hE2 (by
   unfold bN;rw[map_append,lN ok,lO ok];show(zs.take fN++([z0++ltr 24,z0++ltr 23]++zs.drop fN)).Perm _;refine(List.Perm.append_left _ List.perm_append_comm).trans ?_;rw[←append_assoc,take_append_drop]) (λf hf=>.inl hf) (λt ht=>by
    rcases hx t ht with rfl|rfl|h
    ·exact .inr n2
    ·exact .inr n1
    ·exact .inl h) (mem_append_right _ h0)
  have m1:dP z0∈[dP z0,gQ z0 kd]++tsP zs ds pts fN:=by simp
  have m2:gQ z0 kd∈[dP z0,gQ z0 kd]++tsP zs ds pts fN:=by simp
  have hN:fO (fsP zs ds fN) ([dP z0,gQ z0 kd]++tsP zs ds pts fN):=nr.ok ok λt ht c hc=>by
   rcases hx t ht with rfl|rfl|h
   ·rw[mem_singleton.mp hc];exact mem_append_right _ (mem_map.mpr ⟨_,m2,U⟩)
   ·rw[mem_singleton.mp hc];exact mem_append_right _ (mem_map.mpr ⟨_,m1,U⟩)
   ·obtain⟨k,hcl⟩:=gh ok t h;obtain⟨j,_,ej⟩:=hcl.mem ok hc;exact nr.has (Jy ej)
  have d1:(z0++ltr 24,k01)∈eR (fsP zs ds fN) ([dP z0,gQ z0 kd]++tsP zs ds pts fN):=mem_append_right _ (mem_map.mpr ⟨_,m1,U⟩);have d2:(z0++ltr 23,k01)∈eR (fsP zs ds fN) ([dP z0,gQ z0 kd]++tsP zs ds pts fN):=mem_append_right _ (mem_map.mpr ⟨_,m2,U⟩);refine⟨nr,λz=>by lia,λ_=>hN,λz hD=>?_,λ_ n13 _=>?_,λ_=>⟨[z0++ltr 24,z0++ltr 23],⟨_,m1,mem_cons_self⟩,λt ht hS=>?_,λc hc=>?_⟩,λ_ z z3 _=>by lia,by rw[length_append];show _/\2+_<=30/\1<=2+_;lia⟩
  ·have hk3:kd=13:=by rcases z with z|z <;> lia
   have:=hD _ m2 0 (z0++ltr 24) (none,0,kd-11) k01 U U d1;rw[hk3]at this;exact absurd this (by decide)
  ·have hk2:kd=12:=by lia
   intro t ht i c k k' e1 e2 e3;rcases hx t ht with rfl|rfl|h
   ·cases i with
    |succ i=>cases e1
    |zero =>
     cases e1;cases e2;rw[nR hN.nd e3 d2];rfl
   ·cases i with
    |succ i=>cases e1
    |zero =>
     cases e1;cases e2;rw[nR hN.nd e3 d1,hk2];rfl
   ·obtain⟨q,hq⟩:=gh ok t h;obtain⟨j,p,_,g1,g2,rfl⟩:=hq.col ok e1 e2;have ho:∀t∈[dP z0,gQ z0 kd]++tsP zs ds pts fN,∀k,zs[fN+k]?=some t.nm->∃p,ds[fN+k]?=some p/\t.o=p.k:=λt ht k e=>by
     rcases hx t ht with rfl|rfl|h
     ·exact absurd (Jy e) n2
     ·exact absurd (Jy e) n1
     ·exact ra ok h e
    rw[nr.due ok ho e3 g1 g2];exact pK _
  ·rcases hx t ht with rfl|rfl|h
   ·exact⟨_,mem_cons_self,by simp⟩
   ·exact⟨_,mem_cons_self,by simp⟩
   ·obtain⟨k,_,_,_,_,en,_⟩:=gg ok h;exact absurd (Jy en) (hE2 _ hS).1
  ·rcases mem_cons.mp hc with rfl|hc
   ·exact mem_map.mpr ⟨_,m1,U⟩
   ·rw[mem_singleton.mp hc];exact mem_map.mpr ⟨_,m2,U⟩
end
def uf(un:Str)(k:Dk)(ts:List BT):Prop:=(∃t∈ts,t.cs[0]?=some un/\t.ks[0]?=some k)/\∀t∈ts,t.nm≠un
section
variable{un:Str}{pu:PD}{fs fs':List Fc}{ts ts':List BT}{kd:Int}
theorem SpI.inv(h:SpI un pu fs ts kd fs' ts')(hi:uf un pu.k ts):uf un pu.k ts':=by
 obtain⟨⟨t0,h0,h1⟩,h2⟩:=hi;cases h with
 |three ht =>
  refine⟨⟨t0,mem_append_left _ h0,h1⟩,λt h=>?_⟩;rcases mem_append.mp h with h|h
  ·exact h2 t h
  ·rw[mem_singleton.mp h];exact h2 _ ht
 |seven t ht =>
  refine⟨⟨t0,mem_append_left _ h0,h1⟩,λt h=>?_⟩;rcases mem_append.mp h with h|h
  ·exact h2 t h
  ·rw[(List.mem_replicate.mp h).2];exact h2 _ ht
 |_=>exact⟨⟨t0,h0,h1⟩,h2⟩
theorem SpI.bad(h:SpI un pu fs ts kd fs' ts')(hi:uf un pu.k ts)(h1:1<=kd)(h4:kd<=4):¬ fO fs' ts':=λhN=>by
 obtain⟨⟨t0,h0,h1',_⟩,h2⟩:=hi;cases h with
 |same h=>lia
 |one k hb =>
  have:=hN.w _ (mem_append_right _ mem_cons_self);rw[hb]at this;cases this
 |two k hz =>
  have:=hN.nd;unfold bN at this;exact(nodup_cons.mp this).1 hz
 |three ht =>
  have:=hN.nd;unfold bN at this;rw[map_append,←append_assoc]at this;exact(nodup_append.mp this).2.2 _ (mem_append_right _ (mem_map.mpr ⟨_,ht,U⟩)) _ mem_cons_self U
 |four =>
  have:=hN.al t0 h0 un (Jy h1');unfold bN at this;rcases mem_append.mp this with h|h
  ·obtain⟨f,hf,e⟩:=mem_map.mp h;exact of_decide_eq_true (mem_filter.mp hf).2 e
  ·obtain⟨t,ht,e⟩:=mem_map.mp h;exact h2 t ht e
 |five=>lia
 |six f=>lia
 |seven t ht=>lia
theorem nV:bN (fs.map λf=>if f.1=un then(f.1,cD pu)else f) ts=bN fs ts:=by
 unfold bN;rw[map_map]
 congr 1
 refine List.map_congr_left λf _=>?_
 show(if f.1=un then(f.1,cD pu)else f).1=f.1;split <;> rfl
theorem SpI.five_n(h:SpI un pu fs ts 5 fs' ts'):(fO fs' ts'↔fO fs ts)/\fs'.length=fs.length/\ts'=ts:=by
 cases h with
 |same h=>lia
 |five =>
  refine⟨⟨λh=>⟨λf hf=>?_,?_,λt ht c hc=>?_⟩,λh=>⟨λf hf=>?_,?_,λt ht c hc=>?_⟩⟩,length_map _,U⟩
  ·have:=h.w _ (mem_map.mpr ⟨f,hf,U⟩);split at this <;> exact this
  ·have:=h.nd;rw[nV]at this;exact this
  ·have:=h.al t ht c hc;rw[nV]at this;exact this
  ·obtain⟨g,hg,rfl⟩:=mem_map.mp hf;split <;> exact h.w g hg
  ·rw[nV];exact h.nd
  ·rw[nV];exact h.al t ht c hc
theorem SpI.five_d(h:SpI un pu fs ts 5 fs' ts')(hi:uf un pu.k ts)(hN:fO fs ts):¬ mz fs' ts':=λhD=>by
 obtain⟨⟨t0,h0,h1,h1'⟩,h2⟩:=hi;cases h with
 |same h=>lia
 |five =>
  have:=hN.al t0 h0 un (Jy h1);unfold bN at this;rcases mem_append.mp this with h|h
  ·obtain⟨f,hf,e⟩:=mem_map.mp h;have hq:(un,cD pu)∈eR (fs.map λf=>if f.1=un then(f.1,cD pu)else f) ts:=mem_append_left _ (mem_map.mpr ⟨f,hf,by rw[if_pos e,e]⟩);have:=hD t0 h0 0 un pu.k (cD pu) h1 h1' hq;rw[lM]at this;cases this
  ·obtain⟨t,ht,e⟩:=mem_map.mp h;exact h2 t ht e
theorem SpI.len(h:SpI un pu fs ts kd fs' ts'):fs'.length<=fs.length+21/\ts'.length<=ts.length+30/\ts.length<=ts'.length/\(kd=6->21<=fs'.length)/\(kd=7->30+ts.length<=ts'.length):=by
 cases h with
 |same h=>lia
 |one k h=>rw[length_append];show _+1<=_/\_;lia
 |two k h=>rw[length_append];show 1+_<=_/\_;lia
 |three h=>rw[length_append];show _/\_+1<=_/\_<=_+1/\_;lia
 |four=>have:=length_filter_le (λf:Fc=>decide (f.1≠un)) fs;lia
 |five=>rw[length_map];lia
 |six f=>rw[length_append,length_replicate];lia
 |seven t h=>rw[length_append,length_replicate];lia
theorem SpI.keep(h:SpI un pu fs ts kd fs' ts')(hk:kd<=0\/8<=kd):fs'=fs/\ts'=ts:=by
 cases h with
 |same h=>exact⟨U,U⟩
 |_=>lia
end
theorem zk{zs:List Str}{ds:List PD}{pts:List PT}{fN:Nat}{un:Str}{pu:PD}{k0 k1:Int}{fs1 fs2 fs:List Fc}{ts1 ts2 ts:List BT}(w:WdR zs ds pts fN k0 fs1 ts1)(hi:uf un pu.k ts1)(s1:SpI un pu fs1 ts1 k0 fs2 ts2)(s2:SpI un pu fs2 ts2 k1 fs ts)(h0:0<=k0/\k0<=13)(h1:0<=k1/\k1<=7)(few:fs.length<=20/\ts.length<=30) :
  (((1<=k0/\k0<=4)\/k0=11\/(1<=k1/\k1<=4))->¬ fO fs ts)/\(¬ ((1<=k0/\k0<=4)\/k0=11\/(1<=k1/\k1<=4))->fO fs ts/\((k0=5\/k1=5\/k0=13\/(k0=8/\akP pts fN≠[]))->¬ mz fs ts)/\(¬ (k0=5\/k1=5\/k0=13\/(k0=8/\akP pts fN≠[]))->mz fs ts/\(k0=12->vq ts)/\(k0≠12->rR ts))):=by
 have hi2:=s1.inv hi;have l1:=s1.len;have l2:=s2.len;have lw:=w.len;by_cases hb1:1<=k1/\k1<=4
 ·have:=s2.bad hi2 hb1.1 hb1.2;exact⟨λ_=>this,λz=>absurd (.inr (.inr hb1)) z⟩
 have hk1:k1=0\/k1=5:=by
  rcases(show k1=0\/k1=5\/k1=6\/k1=7 by lia)with h|h|h|h
  ·exact .inl h
  ·exact .inr h
  ·have:=l2.2.2.2.1 h;lia
  ·have:=l2.2.2.2.2 h;lia
 have kl:fs.length=fs2.length/\ts=ts2/\(fO fs ts↔fO fs2 ts2):=by
  rcases hk1 with h|h
  ·obtain⟨rfl,rfl⟩:=s2.keep (by lia);exact⟨U,U,Iff.rfl⟩
  ·subst h;obtain⟨a,b,c⟩:=s2.five_n;exact⟨b,c,a⟩
 obtain⟨kl1,rfl,kl2⟩:=kl;by_cases hb0:1<=k0/\k0<=4
 ·have:=s1.bad hi hb0.1 hb0.2;exact⟨λ_ hN=>this (kl2.mp hN),λz=>absurd (.inl hb0) z⟩
 have hk0:k0<=0\/8<=k0\/k0=5:=by
  rcases(show k0<=0\/8<=k0\/k0=5\/k0=6\/k0=7 by lia)with h|h|h|h|h
  ·exact .inl h
  ·exact .inr (.inl h)
  ·exact .inr (.inr h)
  ·have:=l1.2.2.2.1 h;lia
  ·have:=l1.2.2.2.2 h;lia
 have km:ts=ts1/\(fO fs2 ts↔fO fs1 ts1)/\(k0≠5->fs2=fs1):=by
  by_cases h5:k0=5
  ·subst h5;obtain⟨a,b,c⟩:=s1.five_n;exact⟨c,a,λz=>absurd U z⟩
  ·obtain⟨rfl,rfl⟩:=s1.keep (by lia);exact⟨U,Iff.rfl,λ_=>U⟩
 obtain⟨rfl,km1,km2⟩:=km;refine⟨λz hN=>?_,λz=>?_⟩
 ·exact w.bad (by lia) (km1.mp (kl2.mp hN))
 have hN1:=w.good (by lia);have hN2:=km1.mpr hN1;refine⟨kl2.mpr hN2,λy hD=>?_,λy=>?_⟩
 ·rcases hk1 with h|h
  ·obtain⟨rfl,_⟩:=s2.keep (by lia);by_cases h5:k0=5
   ·subst h5;exact s1.five_d hi hN1 hD
   ·have e:=km2 h5;subst e;exact w.un (by rcases y with y|y|y|y;exact absurd y h5;lia;exact .inl y;exact .inr y) hD
  ·subst h;exact s2.five_d hi hN2 hD
 ·have n5:k0≠5:=λh=>y (.inl h)
  have m5:k1≠5:=λh=>y (.inr (.inl h))
  have e:=km2 n5;subst e;obtain⟨rfl,_⟩:=s2.keep (by lia);refine⟨w.dm (by lia) (λh=>y (.inr (.inr (.inl h)))) (λh=>y (.inr (.inr (.inr h)))),w.st,λh=>w.rk (by lia) h (λh=>y (.inr (.inr (.inl h)))) (λh=>y (.inr (.inr (.inr h))))⟩
def eS(k0 k1:Int)(ak:List Nat)(fl tl:Nat):List Bool :=
 if 20<fl\/30<tl then[true,true,true,false,false,false]
 else if (1<=k0/\k0<=4)\/k0=11\/(1<=k1/\k1<=4) then[true,true,false,true,false,false]
 else if k0=5\/k1=5\/k0=13\/(k0=8/\ak≠[]) then[true,true,false,false,true,false]
 else if k0=12 then[true,true,false,false,false,true] else[]
def bdK(k:Int):Bool:=(decide (1<=k) && decide (k<=4)) || decide (k=11)
theorem vB{k0 k1:Int}(h1:k1<=7):([k0,k1].filter bdK≠[])↔((1<=k0/\k0<=4)\/k0=11\/(1<=k1/\k1<=4)):=by
 have e:∀k,bdK k=true↔((1<=k/\k<=4)\/k=11):=λk=>by unfold bdK;rw[or_eq_true,and_eq_true,decide_eq_true_iff,decide_eq_true_iff,decide_eq_true_iff]
 rw[Ne,List.filter_eq_nil_iff];constructor
 ·intro h;by_cases h0:bdK k0=true
  ·have:=(e k0).mp h0;lia
  ·by_cases h2:bdK k1=true
   ·have:=(e k1).mp h2;lia
   ·exact absurd (λa ha=>by rcases mem_cons.mp ha with rfl|ha;exact h0;rw[mem_singleton.mp ha];exact h2) h
 ·intro h hn;rcases h with h|h|h
  ·exact hn k0 (by simp) ((e k0).mpr (.inl h))
  ·exact hn k0 (by simp) ((e k0).mpr (.inr h))
  ·exact hn k1 (by simp) ((e k1).mpr (.inl h))
theorem zl{k0 k1:Int}{i:Nat}{y:V}(e:[V.int k0,V.int k1][i]?=some y):∃kk,y=.int kk/\[k0,k1][i]?=some kk:=by
 rw[show[V.int k0,V.int k1]=[k0,k1].map V.int from U,getElem?_map]at e;cases h:[k0,k1][i]? with
 |none=>rw[h]at e;cases e
 |some v=>rw[h]at e;exact⟨v,(Option.some.inj e).symm,U⟩
theorem fk{k0 k1 c:Int}:inV (.int c) [V.int k0,V.int k1]=true↔(k0=c\/k1=c):=by
 show((k0 == c) || ((k1 == c) || false))=true↔_;rw[Bool.or_false,or_eq_true,beq_iff_eq,beq_iff_eq]
theorem zm{zs:List Str}{ds:List PD}{pts:List PT}{fN:Nat}(ok:cS zs ds pts fN)(hlt:∀z∈zs,LtM z)(hsm:∀z∈zs,Sml z){kd:Int}{fs:List Fc}{ts:List BT}(h:WdI zs ds pts fN kd fs ts):(∀f∈fs,Sml f.1)/\∀t∈ts,zd t/\Sml t.nm:=by
 have hf:∀f∈fsP zs ds fN,Sml f.1:=λf hf=>by
  obtain⟨j,p,_,e,_⟩:=nU ok hf;exact hsm _ (Jy e)
 have ht:∀t∈tsP zs ds pts fN,zd t/\Sml t.nm:=λt h=>by
  obtain⟨k,pt,et,hk,rfl,e,hc⟩:=gg ok h;have v:=qv ok et;exact⟨⟨λc hc'=>by obtain⟨j,_,ej⟩:=hc.mem ok hc';exact hsm _ (Jy ej),v.c4,v.kl⟩,hsm _ (Jy e)⟩
 have hx:∀z∈zs,∀i<26,Sml (z++ltr i):=λz hz i hi=>xo (hsm z hz) (hlt z hz).1 hi
 cases h with
 |same h h8=>exact⟨hf,ht⟩
 |eight ha et ep =>
  refine⟨hf,λt h=>?_⟩;rcases mem_append.mp h with h|h
  ·rcases mem_append.mp h with h|h
   ·exact ht t (mem_of_mem_take h)
   ·rw[mem_singleton.mp h];have hh:=ht _ (Jy (gP (zs:=zs) (ds:=ds) (fN:=fN) et));exact⟨⟨hh.1.1,hh.1.2.1,hh.1.2.2⟩,hh.2⟩
  ·exact ht t (List.mem_of_mem_drop h)
 |nine e =>
  refine⟨λf h=>?_,ht⟩;rcases mem_append.mp h with h|h
  ·exact hf f h
  ·obtain⟨k,hk,rfl⟩:=mem_map.mp h;have:=mem_range.mp hk;exact hx _ (Jy e) k (by lia)
 |ten e0 e1 et =>
  rename_i z0 z1 t0
  refine⟨hf,λt h=>?_⟩;rcases mem_append.mp h with h|h
  ·exact ht t h
  ·obtain⟨k,hk,rfl⟩:=mem_map.mp h;have hz:(if k<26 then z0 else z1)∈zs:=by split;exact Jy e0;exact Jy e1
   have hh:=ht _ (Jy (gP (zs:=zs) (ds:=ds) (fN:=fN) et));exact⟨⟨hh.1.1,hh.1.2.1,hh.1.2.2⟩,hx _ hz _ (mod_lt _ (by decide))⟩
 |eleven e =>
  refine⟨hf,λt h=>?_⟩;rcases mem_append.mp h with h|h
  ·exact ht t h
  ·rw[mem_singleton.mp h];exact⟨⟨λc hc=>by rw[mem_singleton.mp hc];exact hx _ (Jy e) 23 (by decide),by show 1<=4;decide,U⟩,hx _ (Jy e) 24 (by decide)⟩
 |ring e hk =>
  refine⟨hf,λt h=>?_⟩;rcases mem_append.mp h with h|h
  ·rcases mem_cons.mp h with rfl|h
   ·exact⟨⟨λc hc=>by rw[mem_singleton.mp hc];exact hx _ (Jy e) 23 (by decide),by show 1<=4;decide,U⟩,hx _ (Jy e) 24 (by decide)⟩
   ·rw[mem_singleton.mp h];exact⟨⟨λc hc=>by rw[mem_singleton.mp hc];exact hx _ (Jy e) 24 (by decide),by show 1<=4;decide,U⟩,hx _ (Jy e) 23 (by decide)⟩
  ·exact ht t h
def Bx(W:List Fc->List BT->Prop)(S0 S1:List Fc->List BT->List Fc->List BT->Prop)(i:Nat)(fs:List Fc)(ts:List BT):Prop:=match i with
 |0=>W fs ts
 |1=>∃fs1 ts1,W fs1 ts1/\S0 fs1 ts1 fs ts
 |_=>∃fs1 ts1 fs2 ts2,W fs1 ts1/\S0 fs1 ts1 fs2 ts2/\S1 fs2 ts2 fs ts
theorem zo{k0 k1:Int}{i:Nat}(hi:i<2):∃kk,atI [V.int k0,V.int k1] (0+(i:Int))=some (.int kk)/\(i=0->kk=k0)/\(i=1->kk=k1):=by
 rw[zero_add];rcases(show i=0\/i=1 by lia)with rfl|rfl
 ·exact⟨k0,aP (j:=0) (by rw[List.getElem?_cons_zero]),λ_=>U,λz=>by lia⟩
 ·exact⟨k1,aP (j:=1) (by rw[List.getElem?_cons_succ,List.getElem?_cons_zero]),λz=>by lia,λ_=>U⟩
section
variable{un:Str}{pu:PD}{fs0 fs fs':List Fc}{ts0 ts ts':List BT}{k0 k1 kk:Int}{i:Nat}
def Stg(un:Str)(pu:PD)(fs0:List Fc)(ts0:List BT)(k0 k1:Int)(i:Nat)(fs:List Fc)(ts:List BT):Prop:=Bx (λf t=>f=fs0/\t=ts0) (λf t f' t'=>SpI un pu f t k0 f' t') (λf t f' t'=>SpI un pu f t k1 f' t') i fs ts
theorem vC(hi:i<2)(hst:Stg un pu fs0 ts0 k0 k1 i fs ts)(hw:fs0.length<=20/\ts0.length<=30/\1<=ts0.length):fs.length<=41/\ts.length<=60/\1<=ts.length:=by
 rcases(show i=0\/i=1 by lia)with h|h
 ·subst h;obtain⟨e1,e2⟩:=(show fs=fs0/\ts=ts0 from hst);rw[e1,e2];lia
 ·subst h;obtain⟨f1,t1,⟨e1,e2⟩,h⟩:=(show ∃fs1 ts1,(fs1=fs0/\ts1=ts0)/\SpI un pu fs1 ts1 k0 fs ts from hst);have:=h.len;rw[e1,e2]at this;lia
theorem ug(hi:i<2)(hst:Stg un pu fs0 ts0 k0 k1 i fs ts)(h0:i=0->kk=k0)(h1:i=1->kk=k1)(hsp:SpI un pu fs ts kk fs' ts'):Stg un pu fs0 ts0 k0 k1 (i+1) fs' ts':=by
 rcases(show i=0\/i=1 by lia)with h|h
 ·subst h;rw[h0 U]at hsp;exact(show ∃fs1 ts1,(fs1=fs0/\ts1=ts0)/\SpI un pu fs1 ts1 k0 fs' ts' from⟨fs,ts,hst,hsp⟩)
 ·subst h;rw[h1 U]at hsp;obtain⟨f1,t1,e,h⟩:=(show ∃fs1 ts1,(fs1=fs0/\ts1=ts0)/\SpI un pu fs1 ts1 k0 fs ts from hst);exact(show ∃fs1 ts1 fs2 ts2,(fs1=fs0/\ts1=ts0)/\SpI un pu fs1 ts1 k0 fs2 ts2/\SpI un pu fs2 ts2 k1 fs' ts' from⟨f1,t1,fs,ts,e,h,hsp⟩)
theorem vD(h:Stg un pu fs0 ts0 k0 k1 2 fs ts):∃fs2 ts2,SpI un pu fs0 ts0 k0 fs2 ts2/\SpI un pu fs2 ts2 k1 fs ts:=by
 obtain⟨f1,t1,fs2,ts2,⟨e1,e2⟩,h,h'⟩:=(show ∃fs1 ts1 fs2 ts2,(fs1=fs0/\ts1=ts0)/\SpI un pu fs1 ts1 k0 fs2 ts2/\SpI un pu fs2 ts2 k1 fs ts from h);rw[e1,e2]at h;exact⟨fs2,ts2,h,h'⟩
end
inductive d9(K:W.Frag)(yA yI yH yG ah yN yO yP yQ yR yS yT yU yV yW yX ai:Addr)(vs:List V)(H:Hp)(Q:VK)(e_:XK):Prop
 |mk (z g:Str)(_:vs=[.str z,.str g])(_:Q (.bl (lF z g)) H):d9 K yA yI yH yG ah yN yO yP yQ yR yS yT yU yV yW yX ai vs H Q e_
inductive dZ(K:W.Frag)(yA yI yH yG ah yN yO yP yQ yR yS yT yU yV yW yX ai:Addr)(vs:List V)(H:Hp)(Q:VK)(e_:XK):Prop
 |mk (i:Int)(_:vs=[.int i])(_:Q (.bl true) H):dZ K yA yI yH yG ah yN yO yP yQ yR yS yT yU yV yW yX ai vs H Q e_
inductive jv(K:W.Frag)(yA yI yH yG ah yN yO yP yQ yR yS yT yU yV yW yX ai:Addr)(vs:List V)(H:Hp)(Q:VK)(e_:XK):Prop
 |mk (a b:Addr)(k k':Dk)(_:vs=[.ref a,.ref b])(_:dc yV yW H a k)(_:dc yV yW H b k')(_:Q (.bl (lkD k k')) H):jv K yA yI yH yG ah yN yO yP yQ yR yS yT yU yV yW yX ai vs H Q e_
inductive bV(K:W.Frag)(yA yI yH yG ah yN yO yP yQ yR yS yT yU yV yW yX ai:Addr)(vs:List V)(H:Hp)(Q:VK)(E:XK):Prop
 |mk (fa ma:Addr)(fv mv:List V)(_:vs=[.ref fa,.ref ma])(_:H fa=some (.lst fv))(_:H ma=some (.lst mv))(_:((fv.length<=20/\mv.length<=30)->Q .non H))(_:(¬ (fv.length<=20/\mv.length<=30)->E (.ref yI) none H)):bV K yA yI yH yG ah yN yO yP yQ yR yS yT yU yV yW yX ai vs H Q E
inductive dz(K:W.Frag)(yA yI yH yG ah yN yO yP yQ yR yS yT yU yV yW yX ai:Addr)(vs:List V)(H:Hp)(Q:VK)(e_:XK):Prop
 |mk (t na ou:Addr)(nm wy:Str)(zs ns:List Str)(dv:List V)(rws:List Rw)(_:vs=[.ref t,.ref na])(_:TF yX H t nm wy ou zs dv rws)(_:H na=some (.lst (ns.map V.str)))(_:zs.length<=100)(_:∀(l:Addr)(H':Hp),au H H'->H l=none->H' l=some (.lst ((zs.filter λz=>ns.contains z).map V.str))->Q (.ref l) H'):dz K yA yI yH yG ah yN yO yP yQ yR yS yT yU yV yW yX ai vs H Q e_
inductive bR(K:W.Frag)(yA yI yH yG ah yN yO yP yQ yR yS yT yU yV yW yX ai:Addr)(vs:List V)(H:Hp)(Q:VK)(e_:XK):Prop
 |mk (p r:Addr)(xs ys:List V)(_:vs=[.ref p,.ref r])(_:SqL K H p xs)(_:SqL K H r ys)(_:1<=xs.length)(_:xs.length<=4)(_:ys.length<=200)(_:Q .non H):bR K yA yI yH yG ah yN yO yP yQ yR yS yT yU yV yW yX ai vs H Q e_
inductive gi(K:W.Frag)(yA yI yH yG ah yN yO yP yQ yR yS yT yU yV yW yX ai:Addr)(vs:List V)(H:Hp)(Q:VK)(e_:XK):Prop
 |mk (cl:Addr)(xs:List V)(w:Rw)(_:vs=[.ref cl,.int w.2])(_:H cl=some (.lst xs))(_:CL NT H xs w.1)(_:w.1.length<=100)(_:∀(r:Addr)(H':Hp),au H H'->H r=none->fK (λa=>H a=none) H' r w->Q (.ref r) H'):gi K yA yI yH yG ah yN yO yP yQ yR yS yT yU yV yW yX ai vs H Q e_
inductive fP(K:W.Frag)(yA yI yH yG ah yN yO yP yQ yR yS yT yU yV yW yX ai:Addr)(vs:List V)(H:Hp)(Q:VK)(e_:XK):Prop
 |mk (a:Addr)(ns:List Int)(k:Int)(_:vs=[.ref a,.int k])(_:SqL K H a (ns.map V.int))(_:0<=k)(_:∀r:Int,Q (.int r) H):fP K yA yI yH yG ah yN yO yP yQ yR yS yT yU yV yW yX ai vs H Q e_
inductive dA(K:W.Frag)(yA yI yH yG ah yN yO yP yQ yR yS yT yU yV yW yX ai:Addr)(vs:List V)(H:Hp)(Q:VK)(e_:XK):Prop
 |mk (c:Int)(n:Nat)(_:vs=[.int c,.int (n:Int)])(_:n<=40)(_:∀(l:Addr)(H':Hp),au H H'->H l=none->H' l=some (.lst ((lws c n).map V.str))->Q (.ref l) H'):dA K yA yI yH yG ah yN yO yP yQ yR yS yT yU yV yW yX ai vs H Q e_
inductive fm(K:W.Frag)(yA yI yH yG ah yN yO yP yQ yR yS yT yU yV yW yX ai:Addr)(vs:List V)(H:Hp)(Q:VK)(e_:XK):Prop
 |mk (r:Addr)(p:PD)(c:Int)(_:vs=[.ref r,.int c])(_:PDA NT H r p)(_:qr p)(_:∀(l:Addr)(xs:List Int)(H':Hp),au H H'->H l=none->H' l=some (.lst (xs.map V.int))->xs.length=3->(∀x∈xs,p.lo<=x/\x<=p.hi)->Q (.ref l) H'):fm K yA yI yH yG ah yN yO yP yQ yR yS yT yU yV yW yX ai vs H Q e_
inductive ee(K:W.Frag)(yA yI yH yG ah yN yO yP yQ yR yS yT yU yV yW yX ai:Addr)(vs:List V)(H:Hp)(Q:VK)(e_:XK):Prop
 |mk (kd one two:Int)(r:Addr)(p:PD)(_:vs=[.int kd,.int one,.int two,.ref r])(_:PDA NT H r p)(_:p.lo<=one)(_:one<=two)(_:two<=p.hi)(_:∀(l:Addr)(ps:Prs)(H':Hp),au H H'->SpA (λa=>H a=none) H' l ps->(∀x∈ps,p.lo<=x.1/\x.1<=x.2/\x.2<=p.hi)->ps.length<=2->Q (.ref l) H'):ee K yA yI yH yG ah yN yO yP yQ yR yS yT yU yV yW yX ai vs H Q e_
inductive dB(K:W.Frag)(yA yI yH yG ah yN yO yP yQ yR yS yT yU yV yW yX ai:Addr)(vs:List V)(H:Hp)(Q:VK)(e_:XK):Prop
 |mk (r:Addr)(zs:List Str)(ds:List PD)(pts:List PT)(fN:Nat)(_:vs=[.ref r])(_:PlA H r zs ds pts)(_:cS zs ds pts fN)(_:∀(l:Addr)(H':Hp),au H H'->H' l=some (.lst (vN (akP pts fN)))->Q (.ref l) H'):dB K yA yI yH yG ah yN yO yP yQ yR yS yT yU yV yW yX ai vs H Q e_
inductive bB(K:W.Frag)(yA yI yH yG ah yN yO yP yQ yR yS yT yU yV yW yX ai:Addr)(vs:List V)(H:Hp)(Q:VK)(e_:XK):Prop
 |mk (x dx:Addr)(lo hi:Int)(_:vs=[.ref x,.int lo,.int hi])(_:H x=some (.ins yV dx []))(_:Q .non (mkd yV H x dx lo hi)):bB K yA yI yH yG ah yN yO yP yQ yR yS yT yU yV yW yX ai vs H Q e_
inductive bI(K:W.Frag)(yA yI yH yG ah yN yO yP yQ yR yS yT yU yV yW yX ai:Addr)(vs:List V)(H:Hp)(Q:VK)(e_:XK):Prop
 |mk (x dx:Addr)(lo hi:Int)(_:vs=[.ref x,.int lo,.int hi])(_:H x=some (.ins yW dx []))(_:Q .non (mkd yW H x dx lo hi)):bI K yA yI yH yG ah yN yO yP yQ yR yS yT yU yV yW yX ai vs H Q e_
inductive bZ(K:W.Frag)(yA yI yH yG ah yN yO yP yQ yR yS yT yU yV yW yX ai:Addr)(vs:List V)(H:Hp)(Q:VK)(e_:XK):Prop
 |mk (x dx:Addr)(z:Str)(_:vs=[.ref x,.str z])(_:H x=some (.ins yO dx []))(_:Q .non (upd H x (.ins yO dx [("called",.str z)]))):bZ K yA yI yH yG ah yN yO yP yQ yR yS yT yU yV yW yX ai vs H Q e_
inductive cz(K:W.Frag)(yA yI yH yG ah yN yO yP yQ yR yS yT yU yV yW yX ai:Addr)(vs:List V)(H:Hp)(Q:VK)(e_:XK):Prop
 |mk (x dx:Addr)(z:Str)(_:vs=[.ref x,.str z])(_:H x=some (.ins yP dx []))(_:Q .non (upd H x (.ins yP dx [("called",.str z)]))):cz K yA yI yH yG ah yN yO yP yQ yR yS yT yU yV yW yX ai vs H Q e_
inductive cA(K:W.Frag)(yA yI yH yG ah yN yO yP yQ yR yS yT yU yV yW yX ai:Addr)(vs:List V)(H:Hp)(Q:VK)(e_:XK):Prop
 |mk (x dx:Addr)(z:Str)(_:vs=[.ref x,.str z])(_:H x=some (.ins yQ dx []))(_:Q .non (upd H x (.ins yQ dx [("called",.str z)]))):cA K yA yI yH yG ah yN yO yP yQ yR yS yT yU yV yW yX ai vs H Q e_
inductive cG(K:W.Frag)(yA yI yH yG ah yN yO yP yQ yR yS yT yU yV yW yX ai:Addr)(vs:List V)(H:Hp)(Q:VK)(e_:XK):Prop
 |mk (x dx:Addr)(z:Str)(_:vs=[.ref x,.str z])(_:H x=some (.ins yR dx []))(_:Q .non (upd H x (.ins yR dx [("called",.str z)]))):cG K yA yI yH yG ah yN yO yP yQ yR yS yT yU yV yW yX ai vs H Q e_
inductive cC(K:W.Frag)(yA yI yH yG ah yN yO yP yQ yR yS yT yU yV yW yX ai:Addr)(vs:List V)(H:Hp)(Q:VK)(e_:XK):Prop
 |mk (x dx:Addr)(z:Str)(_:vs=[.ref x,.str z])(_:H x=some (.ins yS dx []))(_:Q .non (upd H x (.ins yS dx [("called",.str z)]))):cC K yA yI yH yG ah yN yO yP yQ yR yS yT yU yV yW yX ai vs H Q e_
inductive cH(K:W.Frag)(yA yI yH yG ah yN yO yP yQ yR yS yT yU yV yW yX ai:Addr)(vs:List V)(H:Hp)(Q:VK)(e_:XK):Prop
 |mk (x dx:Addr)(z:Str)(_:vs=[.ref x,.str z])(_:H x=some (.ins yT dx []))(_:Q .non (upd H x (.ins yT dx [("called",.str z)]))):cH K yA yI yH yG ah yN yO yP yQ yR yS yT yU yV yW yX ai vs H Q e_
inductive dQ(K:W.Frag)(yA yI yH yG ah yN yO yP yQ yR yS yT yU yV yW yX ai:Addr)(vs:List V)(H:Hp)(Q:VK)(e_:XK):Prop
 |mk (z:Str)(_:vs=[.str z])(_:z.length<=1000)(_:Q (.bl (isw z)) H):dQ K yA yI yH yG ah yN yO yP yQ yR yS yT yU yV yW yX ai vs H Q e_
inductive cQ(K:W.Frag)(yA yI yH yG ah yN yO yP yQ yR yS yT yU yV yW yX ai:Addr)(vs:List V)(H:Hp)(Q:VK)(E:XK):Prop
 |mk (fa ma:Addr)(fv mv:List V)(fs:List Fc)(ts:List BT)(_:vs=[.ref fa,.ref ma])(_:H fa=some (.lst fv))(_:H ma=some (.lst mv))(_:BkG yX yV yW H fv mv fs ts)(_:fO fs ts)(_:(mz fs ts->∀H',au H H'->Q .non H'))(_:(¬ mz fs ts->∀H',au H H'->E (.ref yG) none H')):cQ K yA yI yH yG ah yN yO yP yQ yR yS yT yU yV yW yX ai vs H Q E
inductive df(K:W.Frag)(yA yI yH yG ah yN yO yP yQ yR yS yT yU yV yW yX ai:Addr)(vs:List V)(H:Hp)(Q:VK)(E:XK):Prop
 |mk (ma:Addr)(mv:List V)(ts:List BT)(_:vs=[.ref ma])(_:H ma=some (.lst mv))(_:ar mv ts (TbG yX yV yW H))(_:ts.length<=100)(_:(∀t∈ts,t.cs.length<=4))(_:((rR ts/\∀H',au H H'->Q .non H')\/(vq ts/\∀H',au H H'->E (.ref ah) none H'))):df K yA yI yH yG ah yN yO yP yQ yR yS yT yU yV yW yX ai vs H Q E
inductive dU(K:W.Frag)(yA yI yH yG ah yN yO yP yQ yR yS yT yU yV yW yX ai:Addr)(vs:List V)(H:Hp)(Q:VK)(e_:XK):Prop
 |mk (c:Int)(_:vs=[.int c])(_:∀(r:Addr)(p:PD)(H':Hp),au H H'->PDA (λa=>H a=none) H' r p->qr p->Q (.ref r) H'):dU K yA yI yH yG ah yN yO yP yQ yR yS yT yU yV yW yX ai vs H Q e_
inductive gj(K:W.Frag)(yA yI yH yG ah yN yO yP yQ yR yS yT yU yV yW yX ai:Addr)(vs:List V)(H:Hp)(Q:VK)(e_:XK):Prop
 |mk (cl dl pl:Addr)(ow:Nat)(c:Int)(cols:List Nat)(dv pvs:List V)(ds:List PD)(_:vs=[.ref cl,.ref dl,.ref pl,.int (ow:Int),.int c])(_:H cl=some (.lst (vN cols)))(_:H dl=some (.lst dv))(_:ar dv ds (PDA NT H))(_:H pl=some (.lst pvs))(_:ar pvs ds (PoA NT H))(_:(∀k∈cols,k<ds.length))(_:ow<ds.length)(_:cols.length<=10)(_:∀(r:Addr)(w:Rw)(H':Hp),au H H'->fK (λa=>H a=none) H' r w->nO ds cols ow w->Q (.ref r) H'):gj K yA yI yH yG ah yN yO yP yQ yR yS yT yU yV yW yX ai vs H Q e_
inductive aS(K:W.Frag)(yA yI yH yG ah yN yO yP yQ yR yS yT yU yV yW yX ai:Addr)(vs:List V)(H:Hp)(Q:VK)(e_:XK):Prop
 |mk (x dx:Addr)(lo hi:Int)(_:vs=[.ref x,.int lo,.int hi])(_:H x=some (.ins yV dx []))(_:lo<=hi)(_:Q .non (mkd yV H x dx lo hi)):aS K yA yI yH yG ah yN yO yP yQ yR yS yT yU yV yW yX ai vs H Q e_
def J0(K:W.Frag)(yO:Addr):Sp:=rO yO (Str.ofString "first")
def J4(K:W.Frag)(yP:Addr):Sp:=rO yP (Str.ofString "only")
def J2(K:W.Frag)(yQ:Addr):Sp:=rO yQ (Str.ofString "like")
def J3(K:W.Frag)(yR:Addr):Sp:=rO yR (Str.ofString "low")
def J1(K:W.Frag)(yS:Addr):Sp:=rO yS (Str.ofString "high")
def J5(K:W.Frag)(yT:Addr):Sp:=rO yT (Str.ofString "sum")
inductive bC(K:W.Frag)(yA yI yH yG ah yN yO yP yQ yR yS yT yU yV yW yX ai:Addr)(vs:List V)(H:Hp)(Q:VK)(e_:XK):Prop
 |mk (a:Addr)(b:Int×Int)(i:Int)(_:vs=[.ref a,.int i])(_:xg yV H a b.1 b.2)(_:b.1<=i)(_:i<=b.2)(_:Q (.bl true) H):bC K yA yI yH yG ah yN yO yP yQ yR yS yT yU yV yW yX ai vs H Q e_
inductive bJ(K:W.Frag)(yA yI yH yG ah yN yO yP yQ yR yS yT yU yV yW yX ai:Addr)(vs:List V)(H:Hp)(Q:VK)(e_:XK):Prop
 |mk (a:Addr)(b:Int×Int)(i:Int)(_:vs=[.ref a,.int i])(_:xg yW H a b.1 b.2)(_:b.1<=i)(_:i<=b.2)(_:Q (.bl true) H):bJ K yA yI yH yG ah yN yO yP yQ yR yS yT yU yV yW yX ai vs H Q e_
inductive cb(K:W.Frag)(yA yI yH yG ah yN yO yP yQ yR yS yT yU yV yW yX ai:Addr)(vs:List V)(H:Hp)(Q:VK)(E:XK):Prop
 |mk (fa ma:Addr)(fv mv:List V)(fs:List Fc)(ts:List BT)(_:vs=[.ref fa,.ref ma])(_:H fa=some (.lst fv))(_:H ma=some (.lst mv))(_:BkG yX yV yW H fv mv fs ts)(_:(fO fs ts->∀H',au H H'->Q .non H'))(_:(¬ fO fs ts->∀H',au H H'->E (.ref yH) none H')):cb K yA yI yH yG ah yN yO yP yQ yR yS yT yU yV yW yX ai vs H Q E
inductive bW(K:W.Frag)(yA yI yH yG ah yN yO yP yQ yR yS yT yU yV yW yX ai:Addr)(vs:List V)(H:Hp)(Q:VK)(e_:XK):Prop
 |mk (p:Addr)(zs:List Str)(_:vs=[.ref p])(_:SqL K H p (zs.map V.str))(_:(∀z∈zs,isw z=true))(_:zs.Nodup)(_:zs.length<=100)(_:∀H',au H H'->Q .non H'):bW K yA yI yH yG ah yN yO yP yQ yR yS yT yU yV yW yX ai vs H Q e_
inductive dW(K:W.Frag)(yA yI yH yG ah yN yO yP yQ yR yS yT yU yV yW yX ai:Addr)(vs:List V)(H:Hp)(Q:VK)(e_:XK):Prop
 |mk (dl ou cl:Addr)(dv xs:List V)(bs:Prs)(o:Int×Int)(w:Rw)(_:vs=[.ref dl,.ref ou,.ref cl,.int w.2])(_:SqL K H dl dv)(_:ar dv bs (Dom yV yW H))(_:Dom yV yW H ou o)(_:H cl=some (.lst xs))(_:CL NT H xs w.1)(_:pF bs o w)(_:∀H',au H H'->Q .non H'):dW K yA yI yH yG ah yN yO yP yQ yR yS yT yU yV yW yX ai vs H Q e_
inductive fq(K:W.Frag)(yA yI yH yG ah yN yO yP yQ yR yS yT yU yV yW yX ai:Addr)(vs:List V)(H:Hp)(Q:VK)(e_:XK):Prop
 |mk (a:Addr)(ns:List Int)(_:vs=[.ref a])(_:SqL K H a (ns.map V.int))(_:∀(r:Addr)(zs:List Str)(ds:List PD)(ts:List PT)(fN:Nat)(H':Hp),au H H'->PlA H' r zs ds ts->cS zs ds ts fN->1<=fN->(∀z∈zs,∀y∈zs,z.length=y.length)->(∀z∈zs,SmB z)->(∀z∈zs,LtM z)->2<=zs.length->Q (.ref r) H'):fq K yA yI yH yG ah yN yO yP yQ yR yS yT yU yV yW yX ai vs H Q e_
inductive bS(K:W.Frag)(yA yI yH yG ah yN yO yP yQ yR yS yT yU yV yW yX ai:Addr)(vs:List V)(H:Hp)(Q:VK)(e_:XK):Prop
 |mk (x dx p:Addr)(zs:List Str)(_:vs=[.ref x,.ref p])(_:H x=some (.ins yW dx []))(_:H p=some (.lst (zs.map V.str)))(_:Good zs)(_:∀(H':Hp)(l:Addr),(∀b o,b≠x->H b=some o->H' b=some o)->H' x=some (.ins yW dx [("low",.int 0),("high",.int (hiW zs)),("words",.ref l)])->H' l=some (.lst (zs.map V.str))->H l=none->Q .non H'):bS K yA yI yH yG ah yN yO yP yQ yR yS yT yU yV yW yX ai vs H Q e_
inductive iw(K:W.Frag)(yA yI yH yG ah yN yO yP yQ yR yS yT yU yV yW yX ai:Addr)(vs:List V)(H:Hp)(Q:VK)(e_:XK):Prop
 |mk (z:Str)(_:vs=[.str z])(_:z∈six)(_:(∀i:Nat,six[i]?=some z->∀(x C:Addr)(H':Hp),au H H'->(cl6 yO yP yQ yR yS yT)[i]?=some C->WyN C H' x z->Q (.ref x) H')):iw K yA yI yH yG ah yN yO yP yQ yR yS yT yU yV yW yX ai vs H Q e_
inductive dC(K:W.Frag)(yA yI yH yG ah yN yO yP yQ yR yS yT yU yV yW yX ai:Addr)(vs:List V)(H:Hp)(Q:VK)(e_:XK):Prop
 |mk (r:Addr)(p:PD)(_:vs=[.ref r])(_:PDA NT H r p)(_:qr p)(_:∀(a:Addr)(H':Hp),au H H'->fL yV H' a (cD p).2.1 (cD p).2.2->dc yV yW H' a (cD p)->Q (.ref a) H'):dC K yA yI yH yG ah yN yO yP yQ yR yS yT yU yV yW yX ai vs H Q e_
inductive cg(K:W.Frag)(yA yI yH yG ah yN yO yP yQ yR yS yT yU yV yW yX ai:Addr)(vs:List V)(H:Hp)(Q:VK)(E:XK):Prop
 |mk (x dx fa ma:Addr)(fv mv:List V)(fs:List Fc)(ts:List BT)(_:vs=[.ref x,.ref fa,.ref ma])(_:H x=some (.ins ai dx []))(_:H fa=some (.lst fv))(_:H ma=some (.lst mv))(_:BkG yX yV yW H fv mv fs ts)(_:((¬ (fs.length<=20/\ts.length<=30)/\∀H',au H H'->E (.ref yI) none H')\/((fs.length<=20/\ts.length<=30)/\((¬ fO fs ts/\∀H',au H H'->E (.ref yH) none H')\/(fO fs ts/\((¬ mz fs ts/\∀H',au H H'->E (.ref yG) none H')\/(mz fs ts/\((vq ts/\∀H',au H H'->E (.ref ah) none H')\/(rR ts/\∀(H':Hp)(fl:List (Str×V))(ta fc:Addr)(fw:List V),(∀b o,b≠x->H b=some o->H' b=some o)->H' x=some (.ins ai dx fl)->fl.lookup (Str.ofString "tables")=some (.ref ta)->fl.lookup (Str.ofString "facts")=some (.ref fc)->H ta=none->H fc=none->H' ta=some (.lst mv)->H' fc=some (.lst fw)->ar fw fs (λp f=>∃d:V,H' p=some (.tup [.str f.1,d]))->Q .non H'))))))))):cg K yA yI yH yG ah yN yO yP yQ yR yS yT yU yV yW yX ai vs H Q E
inductive dX(K:W.Frag)(yA yI yH yG ah yN yO yP yQ yR yS yT yU yV yW yX ai:Addr)(vs:List V)(H:Hp)(Q:VK)(e_:XK):Prop
 |mk (z:Str)(ou:Addr)(_:vs=[.str z,.ref ou])(_:z∈six)(_:(z=Str.ofString "sum" -> ∃dx fs,H ou=some (.ins yV dx fs))) (_:∀H',au H H'->Q .non H'):dX K yA yI yH yG ah yN yO yP yQ yR yS yT yU yV yW yX ai vs H Q e_
inductive d6(K:W.Frag)(yA yI yH yG ah yN yO yP yQ yR yS yT yU yV yW yX ai:Addr)(vs:List V)(H:Hp)(Q:VK)(e_:XK):Prop
 |mk (r:Addr)(p:PD)(_:vs=[.ref r])(_:PDA NT H r p)(_:qr p)(_:∀(a:Addr)(H':Hp),au H H'->gD (λx=>H x=none) yV yW H' a p.k->Q (.ref a) H'):d6 K yA yI yH yG ah yN yO yP yQ yR yS yT yU yV yW yX ai vs H Q e_
inductive dY(K:W.Frag)(yA yI yH yG ah yN yO yP yQ yR yS yT yU yV yW yX ai:Addr)(vs:List V)(H:Hp)(Q:VK)(e_:XK):Prop
 |mk (kd c:Int)(r fa ma:Addr)(zs:List Str)(ds:List PD)(pts:List PT)(fN:Nat)(t0:PT)(u:Nat)(un z0:Str)(pu:PD)(fv mv:List V)(fs:List Fc)(ts:List BT)(_:vs=[.int kd,.int c,.ref r,.ref fa,.ref ma])(_:PlA H r zs ds pts)(_:cS zs ds pts fN)(_:pts[0]?=some t0)(_:t0.cols[0]?=some u)(_:zs[u]?=some un)(_:ds[u]?=some pu)(_:zs[0]?=some z0)(_:LtM z0)(_:Sml z0)(_:H fa=some (.lst fv))(_:H ma=some (.lst mv))(_:BkG yX yV yW H fv mv fs ts)(_:fs.length<=70)(_:ts.length<=70)(_:1<=ts.length)(_:(∀t∈ts,Sml t.nm))(_:∀(x fa' ma':Addr)(fv' mv':List V)(fs':List Fc)(ts':List BT)(H':Hp),au H H'->H' x=some (.tup [.ref fa',.ref ma'])->H' fa'=some (.lst fv')->H' ma'=some (.lst mv')->BkG yX yV yW H' fv' mv' fs' ts'->(∀t∈ts',Sml t.nm)->SpI un pu fs ts kd fs' ts'->Q (.ref x) H'):dY K yA yI yH yG ah yN yO yP yQ yR yS yT yU yV yW yX ai vs H Q e_
inductive eA(K:W.Frag)(yA yI yH yG ah yN yO yP yQ yR yS yT yU yV yW yX ai:Addr)(vs:List V)(H:Hp)(Q:VK)(e_:XK):Prop
 |mk (r:Addr)(zs:List Str)(ds:List PD)(ts:List PT)(fN:Nat)(_:vs=[.ref r])(_:PlA H r zs ds ts)(_:cS zs ds ts fN)(_:∀(l:Addr)(fv:List V)(H':Hp),au H H'->H' l=some (.lst fv)->ar fv (List.range fN) (FcA yV yW H' zs ds)->Q (.ref l) H'):eA K yA yI yH yG ah yN yO yP yQ yR yS yT yU yV yW yX ai vs H Q e_
inductive bw(K:W.Frag)(yA yI yH yG ah yN yO yP yQ yR yS yT yU yV yW yX ai:Addr)(vs:List V)(H:Hp)(Q:VK)(e_:XK):Prop
 |mk (x dx na dl ou rl:Addr)(nm wy:Str)(zs:List Str)(dv rx:List V)(bs:Prs)(o:Int×Int)(rws:List Rw)(_:vs=[.ref x,.str nm,.ref na,.ref dl,.ref ou,.str wy,.ref rl])(_:H x=some (.ins yX dx []))(_:H na=some (.lst (zs.map V.str)))(_:(∀z∈nm :: zs,isw z=true))(_:(nm :: zs).Nodup)(_:1<=zs.length)(_:zs.length<=4)(_:wy∈six)(_:(wy=Str.ofString "sum" -> ∃dx fs,H ou=some (.ins yV dx fs))) (_:H dl=some (.lst dv))(_:ar dv bs (Dom yV yW H))(_:Dom yV yW H ou o)(_:H rl=some (.lst rx))(_:RL NT H rx rws)(_:rx.length<=200)(_:bs.length<=4)(_:(∀w∈rws,pF bs o w))(_:∀(H':Hp)(fs:List (Str×V))(rl':Addr)(xs':List V),(∀b o,b≠x->H b=some o->H' b=some o)->H' x=some (.ins yX dx fs)->fs.lookup (Str.ofString "rows")=some (.ref rl')->fs.lookup (Str.ofString "way")=some (.str wy)->fs.lookup (Str.ofString "outcome")=some (.ref ou)->fs.lookup (Str.ofString "name")=some (.str nm)->(∃na' dl':Addr,H na'=none/\H dl'=none/\fs.lookup (Str.ofString "names")=some (.ref na')/\fs.lookup (Str.ofString "domains")=some (.ref dl')/\H' na'=some (.lst (zs.map V.str))/\H' dl'=some (.lst dv))->H rl'=none->H' rl'=some (.lst xs')->RL (λa=>H a=none) H' xs' rws->Q .non H'):bw K yA yI yH yG ah yN yO yP yQ yR yS yT yU yV yW yX ai vs H Q e_
inductive eB(K:W.Frag)(yA yI yH yG ah yN yO yP yQ yR yS yT yU yV yW yX ai:Addr)(vs:List V)(H:Hp)(Q:VK)(e_:XK):Prop
 |mk (r:Addr)(k:Nat)(zs:List Str)(ds:List PD)(ts:List PT)(fN:Nat)(t:PT)(nm:Str)(po:PD)(_:vs=[.ref r,.int (k:Int)])(_:PlA H r zs ds ts)(_:cS zs ds ts fN)(_:ts[k]?=some t)(_:zs[fN+k]?=some nm)(_:ds[fN+k]?=some po)(_:∀(x:Addr)(H':Hp),au H H'->TbN (λa=>H a=none) yX yV yW H' zs ds ts fN x k->Q (.ref x) H'):eB K yA yI yH yG ah yN yO yP yQ yR yS yT yU yV yW yX ai vs H Q e_
inductive dD(K:W.Frag)(yA yI yH yG ah yN yO yP yQ yR yS yT yU yV yW yX ai:Addr)(vs:List V)(H:Hp)(Q:VK)(e_:XK):Prop
 |mk (kd:Int)(r fa ma:Addr)(zs:List Str)(ds:List PD)(pts:List PT)(fN:Nat)(z0 z1:Str)(t0:PT)(fv mv:List V)(_:vs=[.int kd,.ref r,.ref fa,.ref ma])(_:PlA H r zs ds pts)(_:cS zs ds pts fN)(_:pts[0]?=some t0)(_:zs[0]?=some z0)(_:zs[1]?=some z1)(_:(∀z∈zs,LtM z))(_:(∀z∈zs,Sml z))(_:(∀z∈zs,∀y∈zs,z.length=y.length))(_:H fa=some (.lst fv))(_:H ma=some (.lst mv))(_:ar fv (fsP zs ds fN) (FcG yV yW H))(_:ar mv (tsP zs ds pts fN) (TbG yX yV yW H))(_:∀(x fa' ma':Addr)(fv' mv':List V)(fs':List Fc)(ts':List BT)(H':Hp),au H H'->H' x=some (.tup [.ref fa',.ref ma'])->H' fa'=some (.lst fv')->H' ma'=some (.lst mv')->ar fv' fs' (FcG yV yW H')->ar mv' ts' (TbG yX yV yW H')->WdI zs ds pts fN kd fs' ts'->Q (.ref x) H'):dD K yA yI yH yG ah yN yO yP yQ yR yS yT yU yV yW yX ai vs H Q e_
def J6(K:W.Frag):Sp:=λvs H Q _=>∃(a:Addr)(ns:List Int),vs=[.ref a]/\SqL K H a (ns.map V.int)/\ns.length<=63/\∀H',Q (.bl true) H'
section
variable{P:Program}{w:World}{K:W.Frag}{mg:Str->Option Value}{base:Heap}{f:Addr}{fd:FuncData}{yA yI yH yG ah yN yO yP yQ yR yS yT yU yV yW yX ai:Addr}
theorem By(F:Fun K "all_among" "all_among" Y21 f fd) (bl:Bl K mg yA yI yH yG ah yN yO yP yQ yR yS yT yU yV yW yX ai)  : bg P w K mg base CX0 1 f fd ["text","signs"] (d9 K yA yI yH yG ah yN yO yP yQ yR yS yT yU yV yW yX ai):=by
 refine F.ok Z21 (λvs H Q E h=>?_) (λcdv A outer s H vs Q E hr h=>?_)
 ·obtain⟨z,g,rfl,q⟩:=h;rfl
 obtain⟨z,g,rfl,q⟩:=h
 refine⟨_,(aE (cO PassesOwn.never U (wO (pv 0)) (aK (i:=2) Z21.nd U (Or.inl U))
  (aq (aZ (aF nk (pv 2) (pv 1) (by with_unfolding_all rfl))
  (aq (aT ck))
  aM)))
  (aq (aT ck))),?_⟩
 show(let r1:TS:=_;cj _ r1 _ _ _);intro _;refine⟨_,U,z,U,vb (λi σ H'=>(∃c2:Option V,σ=[some (.str z),some (.str g),c2])/\H'=H/\(z.cps.toList.take i).all (sg g)=true) ⟨⟨_,U⟩,U,U⟩ (λi c σ H' e h=>?_) (λσ H' h=>?_)⟩
 ·obtain⟨⟨c2,rfl⟩,e0,ha⟩:=h;rw[e0];refine⟨_,U,_,U,_,_,U,U,_,U,?_⟩;refine bM (λd=>?_) (λd=>?_)
  ·have z2:lF z g=false:=xb e (xf d);rw[z2]at q;exact q
  ·exact⟨⟨_,U⟩,U,all_succ e (y9 d) ha⟩
 ·obtain⟨⟨c2,rfl⟩,e0,ha⟩:=h;rw[e0];rw[tJ ha]at q;exact q
theorem Bz(F:Fun K "is_whole" "is_whole" Y22 f fd) (bl:Bl K mg yA yI yH yG ah yN yO yP yQ yR yS yT yU yV yW yX ai)  : bg P w K mg base CX0 1 f fd ["value"] (dZ K yA yI yH yG ah yN yO yP yQ yR yS yT yU yV yW yX ai):=by
 refine F.ok Z22 (λvs H Q E h=>?_) (λcdv A outer s H vs Q E hr h=>?_)
 ·obtain⟨i,rfl,q⟩:=h;rfl
 obtain⟨i,rfl,q⟩:=h;refine⟨_,(aq (aT (jK (az dM U bl.isinstance_ PyProof.Rows.boot_isinstance (aa (pv 0) (aa (ni (v:=.ty "int") U bl.int_ PyProof.Rows.boot_int U) ag))) (lp (wt (az dM U bl.isinstance_ PyProof.Rows.boot_isinstance (aa (pv 0) (aa (ni (v:=.ty "bool") U bl.bool_ PyProof.Rows.boot_bool U) ag)))))))),?_⟩;exact⟨_,U,_,_,_,_,true,U,.ty _,.inl (.int _),(by first|rfl|with_unfolding_all rfl|decide+kernel),_,U,gC ⟨_,U,_,_,_,_,false,U,.ty _,.inl (.int _),(by first|rfl|with_unfolding_all rfl|decide+kernel),_,U,q⟩⟩
theorem BA(F:Fun K "alike" "alike" Y20 f fd) (bl:Bl K mg yA yI yH yG ah yN yO yP yQ yR yS yT yU yV yW yX ai)  : bg P w K mg base CX0 1 f fd ["one","other"] (jv K yA yI yH yG ah yN yO yP yQ yR yS yT yU yV yW yX ai):=by
 refine F.ok Z20 (λvs H Q E h=>?_) (λcdv A outer s H vs Q E hr h=>?_)
 ·obtain⟨a,b,k,k',rfl,ha,hb,q⟩:=h;rfl
 obtain⟨a,b,k,k',rfl,ha,hb,q⟩:=h
 refine⟨_,(aE (aZ (PW.pt (gJ (fu (az dM U bl.isinstance_ PyProof.Rows.boot_isinstance (aa (pv 0) (aa (dR (v:=.ref yV) U bl.Numbers_ U) ag)))) (eY (fu (az dM U bl.isinstance_ PyProof.Rows.boot_isinstance (aa (pv 1) (aa (dR (v:=.ref yV) U bl.Numbers_ U) ag)))))))
  (aq (aT (jK (fV cw (bu (pv 0) U) (bu (pv 1) U) (aN _)) (lp (fV cw (bu (pv 0) U) (bu (pv 1) U) (aN _))))))
  aM)
  (aE (aZ (PW.pt (gJ (fu (az dM U bl.isinstance_ PyProof.Rows.boot_isinstance (aa (pv 0) (aa (dR (v:=.ref yW) U bl.Words_ U) ag)))) (eY (fu (az dM U bl.isinstance_ PyProof.Rows.boot_isinstance (aa (pv 1) (aa (dR (v:=.ref yW) U bl.Words_ U) ag)))))))
  (aq (aT (fV (qj hr) (bu (pv 0) U) (bu (pv 1) U) (aN _))))
  aM)
  (aq (aT ck)))),?_⟩
 show(let r2:TS:=_;let r1:TS:=cj _ r2;cj _ r1 _ _ _);intro _ _;obtain⟨w,lo,hi⟩:=k;obtain⟨w',lo',hi'⟩:=k';cases w with
 |none =>
  obtain⟨dx,e⟩:=ha;refine⟨_,U,_,_,_,_,true,U,.ref _,bl.t_Numbers.ty e,bl.f_nn,_,U,gC ?_⟩;cases w' with
  |none =>
   obtain⟨dx2,e2⟩:=hb;refine⟨_,U,_,_,_,_,true,U,.ref _,bl.t_Numbers.ty e2,bl.f_nn,_,U,gC ?_⟩;refine⟨_,U,a,_,_,_,_,U,e,bl.k_Numbers,bl.na_Numbers_low,U,_,U,b,_,_,_,_,U,e2,bl.k_Numbers,bl.na_Numbers_low,U,U,_,U,?_⟩;by_cases g:lo=lo'
   ·subst g;refine kx U ⟨_,U,a,_,_,_,_,U,e,bl.k_Numbers,bl.na_Numbers_high,U,_,U,b,_,_,_,_,U,e2,bl.k_Numbers,bl.na_Numbers_high,U,U,?_⟩;have e0:decide (V.int hi=V.int hi')=lkD (none,lo,hi) (none,lo,hi'):=by
     show _=decide ((lo,hi)=(lo,hi'));rw[Bool.eq_iff_iff,decide_eq_true_iff,decide_eq_true_iff];exact⟨λz=>by injection z with z;rw[z],λz=>by injection z with _ z;rw[z]⟩
    have q':Q (.bl (decide (V.int hi=V.int hi'))) H:=by rw[e0];exact q
    exact q'
   ·refine bM (λg2=>absurd (V.int.inj (of_decide_eq_true g2)) g) (λg2=>?_);have er:lkD (none,lo,hi) (none,lo',hi')=false:=by
     show decide ((lo,hi)=(lo',hi'))=false;exact decide_eq_false λz=>g (by injection z)
    rw[er]at q;exact q
  |some zs2 =>
   obtain⟨⟨dx2,l2,e2,f2⟩,_⟩:=hb;refine⟨_,U,_,_,_,_,false,U,.ref _,bl.t_Words.ty e2,bl.f_wn,_,U,dF ?_⟩;exact⟨_,U,_,_,_,_,false,U,.ref _,bl.t_Numbers.ty e,bl.f_nw,_,U,dF (dF q)⟩
 |some zs =>
  obtain⟨⟨dx,l,e,f⟩,_⟩:=ha;refine⟨_,U,_,_,_,_,false,U,.ref _,bl.t_Words.ty e,bl.f_wn,_,U,dF (dF ?_)⟩;refine⟨_,U,_,_,_,_,true,U,.ref _,bl.t_Words.ty e,bl.f_ww,_,U,gC ?_⟩;cases w' with
  |none =>
   obtain⟨dx2,e2⟩:=hb;exact⟨_,U,_,_,_,_,false,U,.ref _,bl.t_Numbers.ty e2,bl.f_nw,_,U,dF q⟩
  |some zs2 =>
   obtain⟨⟨dx2,l2,e2,f2⟩,_⟩:=hb;refine⟨_,U,_,_,_,_,true,U,.ref _,bl.t_Words.ty e2,bl.f_ww,_,U,gC ?_⟩;refine⟨_,U,a,_,_,_,_,U,e,bl.k_Words,bl.na_Words_words,U,_,U,b,_,_,_,_,U,e2,bl.k_Words,bl.na_Words_words,U,?_⟩;exact nc (SqL.of f) (SqL.of f2) (by show decide (zs=zs2)=true↔_;rw[decide_eq_true_iff]) q
theorem BB(F:Fun K "refuse_counts" "refuse_counts" Y41 f fd) (bl:Bl K mg yA yI yH yG ah yN yO yP yQ yR yS yT yU yV yW yX ai)  : bg P w K mg base (CX1 P w) 1 f fd ["facts","tables"] (bV K yA yI yH yG ah yN yO yP yQ yR yS yT yU yV yW yX ai):=by
 refine F.okE Z41 (λvs H Q E h=>?_) (λcdv A outer s H vs Q E hr h=>?_)
 ·obtain⟨fa,ma,fv,mv,rfl,e1,e2,q,qE⟩:=h;rfl
 obtain⟨fa,ma,fv,mv,rfl,e1,e2,q,qE⟩:=h
 refine⟨_,(aE (aZ (aF fD (az av U bl.len_ boot_len (aa (pv 0) ag)) (lE U bl.MOST_FACTS_) (aN _))
  (aq (dJ bl.x_TooMany hr.hd U bl.TooMany_ (aa ba ag)))
  aM)
  (aq (aZ (aF fD (az av U bl.len_ boot_len (aa (pv 1) ag)) (lE U bl.MOST_TABLES_) (aN _))
  (aq (dJ bl.x_TooMany hr.hd U bl.TooMany_ (aa ba ag)))
  aM))),?_⟩
 show(let r1:TS:=_;cj _ r1 _ _ _);intro _;refine⟨_,U,fa,_,U,.inl (SqL.of e1),_,_,U,U,_,U,bM (λg=>?_) (λg=>?_)⟩
 ·have g':=fF g;exact⟨(by show 1<=sizeLine;decide),qE (by lia)⟩
 have g':=fG g;refine⟨_,U,ma,_,U,.inl (SqL.of e2),_,_,U,U,_,U,bM (λg2=>?_) (λg2=>?_)⟩
 ·have g2':=fF g2;exact⟨(by show 1<=sizeLine;decide),qE (by lia)⟩
 ·have g2':=fG g2;exact q (by lia)
theorem BC(F:Fun K "named_among" "named_among" Y39 f fd) (bl:Bl K mg yA yI yH yG ah yN yO yP yQ yR yS yT yU yV yW yX ai)  : bg P w K mg base CX0 1 f fd ["table","names"] (dz K yA yI yH yG ah yN yO yP yQ yR yS yT yU yV yW yX ai):=by
 refine F.ok Z39 (λvs H Q E h=>?_) (λcdv A outer s H vs Q E hr h=>?_)
 ·obtain⟨t,na,ou,nm,wy,zs,ns,dv,rws,rfl,⟨rl,dx,tna,dl,fs,xs,ht,f1,f2,f3,f4,f5,f6,ena,edl,erl,hR,iO⟩,hna,xp,q⟩:=h;rfl
 obtain⟨t,na,ou,nm,wy,zs,ns,dv,rws,rfl,⟨rl,dx,tna,dl,fs,xs,ht,f1,f2,f3,f4,f5,f6,ena,edl,erl,hR,iO⟩,hna,xp,q⟩:=h;refine⟨_,(aq (aT (bq (aW (bu (pv 0) U)) (aY (N:=["name","names"]) (fr:=[1]) (cl:=[("names",s.heap.objs.size+1)]) U U (by decide+kernel) (by decide+kernel) U (by decide+kernel) U U U (forall_mem_cons.mpr ⟨U,forall_mem_nil _⟩) U) U (λ_ _ _ _=>(hX (aF (qp (K:=K) U) (pv 0) (pv 1) (by with_unfolding_all rfl)))) (λ_ _ _ _=>(pv 0))))),?_⟩;have hzl:(zs.map V.str).length=zs.length:=length_map _;refine⟨_,U,t,_,_,_,_,U,ht,bl.k_Table,bl.na_Table_names,f5,tna,U,⟨_,SqL.of ena⟩,bh (xs:=zs.map V.str) (λD i ys H'=>au H H'/\H' D=some (.lst ys)/\ys=((zs.take i).filter λz=>ns.contains z).map V.str) (λD hD=>⟨af hD _,ae,U⟩) (λD i ys H' hD _ h=>SqL.of (h.1 _ _ ena)) (λD i y ys H' hD e h=>?_) (λD ys H' hD h=>?_)⟩
 ·obtain⟨sm,eD,rfl⟩:=h;obtain⟨z,rfl,ez⟩:=eO e;have hi:i<(zs.map V.str).length:=(Jx.mp e).1;have hfl:((zs.take i).filter λz=>ns.contains z).length<=i:=le_trans (length_filter_le ..) (by rw[length_take];lia);refine⟨_,U,_,U,na,_,U,.inl (SqL.of (sm _ _ hna)),U,mZ ns,_,U,?_⟩;rw[show(if false=true then !inV (V.str z) (ns.map V.str)else inV (V.str z) (ns.map V.str))=ns.contains z by rw[if_neg Bool.false_ne_true,pJ]];have hf:((zs.take (i+1)).filter λz=>ns.contains z)=((zs.take i).filter λz=>ns.contains z)++(if ns.contains z then[z] else[]):=by
   rw[take_snoc ez,List.filter_append]
   congr 1
   cases h:ns.contains z with
   |true=>rw[List.filter_cons_of_pos h,filter_nil];rfl
   |false=>rw[List.filter_cons_of_neg (by rw[h];exact Bool.false_ne_true),filter_nil];rfl
  cases hc:ns.contains z with
  |true =>
   rw[hc]at hf;refine gC ⟨_,U,cn.mk hi eD (aw (by rw[length_map];lia)) ⟨sm.upd hD,ae,?_⟩⟩;rw[hf,map_append];rfl
  |false =>
   rw[hc]at hf;refine dF (fe.mk (zs:=((zs.take i).filter λz=>ns.contains z).map V.str) hi ⟨sm,eD,?_⟩);rw[hf];simp
 ·obtain⟨sm,eD,rfl⟩:=h;rw[hzl,take_length]at eD;exact q D H' sm hD eD
theorem BD(F:Fun K "refuse_counts" "refuse_counts" Y42 f fd) (bl:Bl K mg yA yI yH yG ah yN yO yP yQ yR yS yT yU yV yW yX ai)  : bg P w K mg base CX0 1 f fd ["names","rows"] (bR K yA yI yH yG ah yN yO yP yQ yR yS yT yU yV yW yX ai):=by
 refine F.ok Z42 (λvs H Q E h=>?_) (λcdv A outer s H vs Q E hr h=>?_)
 ·obtain⟨p,r,xs,ys,rfl,hP,hR,h1,h4,iO,q⟩:=h;rfl
 obtain⟨p,r,xs,ys,rfl,hP,hR,h1,h4,iO,q⟩:=h
 refine⟨_,(aE (aZ (iH (pf fb fb aj (az av U bl.len_ boot_len (aa (pv 0) ag)) (lE U bl.MOST_COLUMNS_)))
  (aq cI)
  aM)
  (aq (aZ (aF fD (az av U bl.len_ boot_len (aa (pv 1) ag)) (lE U bl.MOST_ROWS_) (aN _))
  (aq cI)
  aM))),?_⟩
 show(let r1:TS:=_;cj _ r1 _ _ _);intro _;refine⟨_,U,p,_,U,.inl (hP),_,_,U,U,_,U,kx (by lia) ?_⟩;refine⟨_,_,U,U,_,U,?_⟩;rw[decide_eq_true (show((xs.length:Nat):Int)<=4 by lia)];refine dF ?_;exact⟨_,U,r,_,U,.inl (hR),_,_,U,U,_,U,jr (by lia) q⟩
theorem BE(F:Fun K "own_row" "own_row" Y40 f fd) (bl:Bl K mg yA yI yH yG ah yN yO yP yQ yR yS yT yU yV yW yX ai)  : bg P w K mg base CX0 1 f fd ["cells","code"] (gi K yA yI yH yG ah yN yO yP yQ yR yS yT yU yV yW yX ai):=by
 refine F.ok Z40 (λvs H Q E h=>?_) (λcdv A outer s H vs Q E hr h=>?_)
 ·obtain⟨cl,xs,w_,rfl,hC,hcl,xp,q⟩:=h;rfl
 obtain⟨cl,xs,w_,rfl,hC,hcl,xp,q⟩:=h;refine⟨_,(aq (aT (bc (aa (bq (aW (pv 0)) (bF U (by decide+kernel) (by decide+kernel) (by decide+kernel) U) U (λ_ _ _ _=>bb) (λ_ _ _ _=>(bO (iF (K:=K) U) U bl.list_ PyProof.Rows.boot_list (aa (pv 0) ag)))) (aa (pv 1) ag))))),?_⟩
 refine⟨_,U,cl,U,⟨_,SqL.of hC⟩,bh (xs:=xs) (λD i zs H'=>au H H'/\H' D=some (.lst zs)/\CL (Fr H D) H' zs (w_.1.take i))
  (λD hD=>⟨af hD _,ae,ar.nil⟩) (λD i zs H' hD _ h=>SqL.of (h.1 _ _ hC)) (λD i x zs H' hD e h=>?_) (λD zs H' hD h=>?_)⟩
 ·obtain⟨sm,eD,hz⟩:=h;obtain⟨l,ps,rfl,ep,hl⟩:=ar.get hcl e;obtain⟨_,ys,el,hp⟩:=hl.same sm;have hi:i<xs.length:=(Jx.mp e).1;have hlz:zs.length<sizeLine:=by
   have h1:=hz.1;rw[length_take]at h1;exact aw (by lia)
  refine⟨_,U,l,_,U,.inl (SqL.of el),λl2 hl2=>?_⟩;have s2:=af hl2 (.lst ys);have e2:upd H' l2 (.lst ys) l2=some (.lst ys):=ae;have eD2:=s2 _ _ eD;generalize upd H' l2 (.lst ys)=H2 at s2 e2 eD2⊢;have n2:H l2=none:=sm.free hl2;have nD:l2≠D:=λz=>by rw[z,eD]at hl2;cases hl2
  refine cn.mk hi eD2 hlz ⟨(sm.trans s2).upd hD,ae,?_⟩;rw[take_snoc ep];exact CL.updN (ar.snoc (hz.same s2) ⟨⟨n2,nD⟩,ys,e2,hp.mono s2.tups⟩) Fr.out eD2
 ·obtain⟨sm,eD,hz⟩:=h;rw[hcl.1,take_length]at hz;refine⟨_,U,bf,λr hr'=>q r _ (sm.trans (af hr' _)) (sm.free hr') ⟨D,zs,ae,hD,af hr' _ _ _ eD,?_⟩⟩;exact(hz.same (af hr' _)).wk λa h=>h.1
theorem BF(F:Fun K "_law_at" "_law_at" Y26 f fd) (bl:Bl K mg yA yI yH yG ah yN yO yP yQ yR yS yT yU yV yW yX ai)  : bg P w K mg base CX0 1 f fd ["script","k"] (fP K yA yI yH yG ah yN yO yP yQ yR yS yT yU yV yW yX ai):=by
 refine F.ok Z26 (λvs H Q E h=>?_) (λcdv A outer s H vs Q E hr h=>?_)
 ·obtain⟨a,ns,k,rfl,hS,h0,q⟩:=h;rfl
 obtain⟨a,ns,k,rfl,hS,h0,q⟩:=h
 refine⟨_,(aE (aZ (aF pe (pv 1) (az av U bl.len_ boot_len (aa (pv 0) ag)) (aN _))
  (aq (aT (aH aQ (pv 0) (pv 1) (λ_ _=>U))))
  aM)
  (aq (aT aj))),?_⟩
 show(let r1:TS:=_;cj _ r1 _ _ _);intro _;refine⟨_,U,_,U,a,_,U,.inl hS,_,_,U,U,_,U,?_⟩;refine bM (λc=>?_) (λc=>?_)
 ·have c':k<(((ns.map V.int).length:Nat):Int):=fF c;rw[length_map]at c';have hk:k.toNat<ns.length:=by lia
  have hv:atI (ns.map V.int) k=some (.int ns[k.toNat]):=by
   have z:atI (ns.map V.int) ((k.toNat:Nat):Int)=some (.int ns[k.toNat]):=aP (by rw[getElem?_map,Jw hk];rfl);rw[show((k.toNat:Nat):Int)=k by lia]at z;exact z
  exact⟨_,U,_,U,a,_,_,_,U,U,hS,hv,q _⟩
 ·exact q 0
theorem BG(F:Fun K "_law_words" "_law_words" Y38 f fd) (bl:Bl K mg yA yI yH yG ah yN yO yP yQ yR yS yT yU yV yW yX ai)  : bg P w K mg base CX0 1 f fd ["cell","count"] (dA K yA yI yH yG ah yN yO yP yQ yR yS yT yU yV yW yX ai):=by
 refine F.ok Z38 (λvs H Q E h=>?_) (λcdv A outer s H vs Q E hr h=>?_)
 ·obtain⟨c,n,rfl,h40,q⟩:=h;rfl
 obtain⟨c,n,rfl,h40,q⟩:=h
 refine⟨_,(aE (aL (i:=2) Z38.nd U (Or.inr U) ba)
  (ay (aL (i:=3) Z38.nd U (Or.inr U) (lz PySem.F.plainAttrs_str PySem.F.slot_str_join PySem.F.type_str_join qR ba (aa (bq (bG U bl.range_ (aa (aC bA (pv 0) aj) ag)) (aY (N:=["j","cell","letters"]) (fr:=[0,2]) (cl:=[("letters",s.heap.objs.size+1+1),("cell",s.heap.objs.size+1)]) U U (by decide+kernel) (by decide+kernel) U (by decide+kernel) U U U (forall_mem_cons.mpr ⟨U,forall_mem_cons.mpr ⟨U,forall_mem_nil _⟩⟩) U) U (λ_ _ _ _=>bb) (λ_ _ _ _=>(aH ly (pv 2) (aC bA (aC bU (pv 1) (aC bT (aC jN aj (pv 0)) aj)) aj) (λ_ _=>U)))) ag)))
  (ay (aL (i:=4) Z38.nd U (Or.inr U) (lz PySem.F.plainAttrs_str PySem.F.slot_str_join PySem.F.type_str_join qR ba (aa (bq (bG U bl.range_ (aa (aC bA (aC bU (pv 0) aj) aj) ag)) (aY (N:=["j","cell","letters"]) (fr:=[0,2]) (cl:=[("letters",s.heap.objs.size+1+1),("cell",s.heap.objs.size+1)]) U U (by decide+kernel) (by decide+kernel) U (by decide+kernel) U U U (forall_mem_cons.mpr ⟨U,forall_mem_cons.mpr ⟨U,forall_mem_nil _⟩⟩) U) U (λ_ _ _ _=>bb) (λ_ _ _ _=>(aH ly (pv 2) (aC bA (aC bU (pv 1) (aC bT (aC jN aj (pv 0)) aj)) aj) (λ_ _=>U)))) ag)))
  (aq (aT (bq (bG U bl.range_ (aa (pv 1) ag)) (aY (N:=["k","cell","letters","head","tail"]) (fr:=[0,2,3,4]) (cl:=[("tail",s.heap.objs.size+1+1+1+1),("letters",s.heap.objs.size+1+1),("head",s.heap.objs.size+1+1+1),("cell",s.heap.objs.size+1)]) U U (by decide+kernel) (by decide+kernel) U (by decide+kernel) U U U (forall_mem_cons.mpr ⟨U,forall_mem_cons.mpr ⟨U,forall_mem_cons.mpr ⟨U,forall_mem_cons.mpr ⟨U,forall_mem_nil _⟩⟩⟩⟩) U) U (λ_ _ _ _=>bb) (λ_ _ _ _=>(aC cJ (aC cJ (pv 3) (aH ly (pv 2) (aC bA (aC bT (aC bU (pv 1) aj) (aC jN aj (pv 0))) aj) (λ_ _=>U))) (pv 4))))))))),?_⟩
 show(let r3:TS:=_;let r2:TS:=bp _ r3;let r1:TS:=bp _ r2;cj _ r1 _ _ _);intro _ _ _;have c0:=emod_nonneg c (show(6:Int)≠0 by decide);have c1:=emod_lt_of_pos c (show(0:Int)<6 by decide);have d0:=emod_nonneg (c / 7) (show(6:Int)≠0 by decide);have d1:=emod_lt_of_pos (c / 7) (show(0:Int)<6 by decide);refine⟨λσ' H'=>au H H'/\σ'=[some (.int c),some (.int (n:Int)),some (.str (Str.ofString "abcdefghijklmnopqrstuvwxyz")),some (.str ⟨(hcs c).toArray⟩),none],?_,?_⟩
 ·refine⟨U,_,U,_,_,U,U,(by show(0:Int)<6;decide),_,U,(by show -(2^62)<=c%6;lia),(by show c%6<2^62;lia),bH (λD i zs H'=>au H H'/\H' D=some (.lst zs)/\zs=(((List.range i).map λj:Nat=>97+(c / (3*(0+(j:Int))+1)%13).toNat).map λx=>(⟨#[x]⟩:Str)).map V.str) (λD hD=>⟨af hD _,ae,U⟩) (λD i zs H' hD hi h=>?_) (λD zs H' hD h=>?_)⟩
  ·obtain⟨sm,eD,rfl⟩:=h;have a0:=emod_nonneg (c / (3*(0+(i:Int))+1)) (show(13:Int)≠0 by decide);have a1:=emod_lt_of_pos (c / (3*(0+(i:Int))+1)) (show(0:Int)<13 by decide);refine⟨_,U,_,U,_,U,_,_,U,U,.inl ⟨by decide,by decide⟩,_,_,U,U,_,_,U,U,iM (by lia) (by lia),_,_,U,U,(by show(0:Int)<13;decide),_,_,_,U,U,(by decide),js pG a0 (by lia),cn.mk hi eD (aw (by simp;lia)) ⟨sm.upd hD,ae,?_⟩⟩;rw[range_succ,map_append,map_append,map_append];rfl
  ·obtain⟨sm,eD,rfl⟩:=h;have el:=kG c;have ec:((List.range (c%6).toNat).map λj:Nat=>97+(c / (3*(0+(j:Int))+1)%13).toNat)=hcs c:=rfl;rw[ec]at eD;refine⟨_,D,_,U,U,SqL.of eD,(by decide+kernel),pI _ el,sm,?_⟩;rw[lJ];rfl
 rintro σ1 H1 ⟨s1,rfl⟩;refine⟨λσ' H'=>au H1 H'/\σ'=[some (.int c),some (.int (n:Int)),some (.str (Str.ofString "abcdefghijklmnopqrstuvwxyz")),some (.str ⟨(hcs c).toArray⟩),some (.str ⟨(tcs c).toArray⟩)],?_,?_⟩
 ·refine⟨U,_,U,_,_,U,U,⟨by decide,by decide⟩,_,_,U,U,(by show(0:Int)<6;decide),_,U,(by show -(2^62)<=c / 7%6;lia),(by show c / 7%6<2^62;lia),bH (λD i zs H'=>au H1 H'/\H' D=some (.lst zs)/\zs=(((List.range i).map λj:Nat=>97+(c / (5*(0+(j:Int))+2)%13).toNat).map λx=>(⟨#[x]⟩:Str)).map V.str) (λD hD=>⟨af hD _,ae,U⟩) (λD i zs H' hD hi h=>?_) (λD zs H' hD h=>?_)⟩
  ·obtain⟨sm,eD,rfl⟩:=h;have a0:=emod_nonneg (c / (5*(0+(i:Int))+2)) (show(13:Int)≠0 by decide);have a1:=emod_lt_of_pos (c / (5*(0+(i:Int))+2)) (show(0:Int)<13 by decide);refine⟨_,U,_,U,_,U,_,_,U,U,.inl ⟨by decide,by decide⟩,_,_,U,U,_,_,U,U,iM (by lia) (by lia),_,_,U,U,(by show(0:Int)<13;decide),_,_,_,U,U,(by decide),js pG a0 (by lia),cn.mk hi eD (aw (by simp;lia)) ⟨sm.upd hD,ae,?_⟩⟩;rw[range_succ,map_append,map_append,map_append];rfl
  ·obtain⟨sm,eD,rfl⟩:=h;have el:=kH c;have ec:((List.range (c / 7%6).toNat).map λj:Nat=>97+(c / (5*(0+(j:Int))+2)%13).toNat)=tcs c:=rfl;rw[ec]at eD;refine⟨_,D,_,U,U,SqL.of eD,(by decide+kernel),pI _ el,sm,?_⟩;rw[lJ];rfl
 rintro σ2 H2 ⟨s2,rfl⟩;have s12:=s1.trans s2;have n1:(⟨(hcs c).toArray⟩:Str).length<=5:=by have:=kG c;simpa[Str.length]using this
 have n2:(⟨(tcs c).toArray⟩:Str).length<=5:=by have:=kH c;simpa[Str.length]using this
 have o1:∀x:Nat,(⟨#[x]⟩:Str).length=1:=λ_=>U
 refine⟨_,U,_,U,(by lia),(by lia),bH (λD i zs H'=>au H2 H'/\H' D=some (.lst zs)/\zs=(lws c i).map V.str) (λD hD=>⟨af hD _,ae,U⟩) (λD i zs H' hD hi h=>?_) (λD zs H' hD h=>?_)⟩
 ·obtain⟨sm,eD,rfl⟩:=h;have a0:=emod_nonneg (c / 11+3*(0+(i:Int))) (show(26:Int)≠0 by decide);have a1:=emod_lt_of_pos (c / 11+3*(0+(i:Int))) (show(0:Int)<26 by decide);have ew:(⟨(hcs c).toArray⟩:Str)++(⟨#[97+((c / 11+3*(0+(i:Int)))%26).toNat]⟩:Str)++(⟨(tcs c).toArray⟩:Str)=lw c (0+(i:Int)):=by
   show Str.append (Str.append _ _) _=_;unfold Str.append lw lwc;simp
  refine⟨_,U,_,U,_,U,_,_,U,U,⟨by decide,by decide⟩,_,U,_,_,U,U,.inl ⟨by decide,by decide⟩,_,_,U,U,_,_,U,U,(by show(0:Int)<26;decide),_,_,_,U,U,(by decide),js pG a0 a1,_,_,U,U,big (by rw[o1];lia),_,U,_,_,U,U,big (by rw[qq,o1];lia),?_⟩;rw[ew];refine cn.mk hi eD (aw (by rw[length_map,il];lia)) ⟨sm.upd hD,ae,?_⟩;rw[tO,map_append];rfl
 ·obtain⟨sm,eD,rfl⟩:=h;rw[toNat_natCast]at eD;exact q D H' (s12.trans sm) (s12.free hD) eD
theorem BH(F:Fun K "_law_pool" "_law_pool" Y32 f fd) (bl:Bl K mg yA yI yH yG ah yN yO yP yQ yR yS yT yU yV yW yX ai)  : bg P w K mg base CX0 1 f fd ["domain","cell"] (fm K yA yI yH yG ah yN yO yP yQ yR yS yT yU yV yW yX ai):=by
 refine F.ok Z32 (λvs H Q E h=>?_) (λcdv A outer s H vs Q E hr h=>?_)
 ·obtain⟨r,p,c,rfl,⟨wl,_,_,er,ewl⟩,ok,q⟩:=h;rfl
 obtain⟨r,p,c,rfl,⟨wl,_,_,er,ewl⟩,ok,q⟩:=h
 refine⟨_,(aE (aL (i:=2) Z32.nd U (Or.inr U) (aC bT (aC cY (aH bX (pv 0) aj (λ_ _=>U)) (aH bX (pv 0) aj (λ_ _=>U))) aj))
  (aq (aT (bq (bG U bl.range_ (aa aj ag)) (aY (N:=["j","domain","cell","width"]) (fr:=[0,1,2]) (cl:=[("width",s.heap.objs.size+1+1+1),("domain",s.heap.objs.size+1),("cell",s.heap.objs.size+1+1)]) U U (by decide+kernel) (by decide+kernel) U (by decide+kernel) U U U (forall_mem_cons.mpr ⟨U,forall_mem_cons.mpr ⟨U,forall_mem_cons.mpr ⟨U,forall_mem_nil _⟩⟩⟩) U) U (λ_ _ _ _=>bb) (λ_ _ _ _=>(aC bT (aH (di (K:=K) U) (pv 1) aj (λ_ _=>U)) (aC bA (aC bT (aC bU (pv 2) (aC bT (aC jN aj (pv 0)) aj)) (aC jN (pv 0) (pv 2))) (pv 3)))))))),?_⟩
 show(let r1:TS:=_;cj _ r1 _ _ _);intro _;have hle:=ok.le;refine⟨_,U,r,_,_,_,U,U,SqT.of er,U,_,U,r,_,_,_,U,U,SqT.of er,U,_,_,U,U,_,_,U,U,?_⟩;have hw:0<p.hi-p.lo+1:=by lia
 refine⟨_,U,(by decide),(by decide),bH (λD i zs H'=>au H H'/\H' D=some (.lst zs)/\∃xs:List Int,zs=xs.map V.int/\xs.length=i/\∀x∈xs,p.lo<=x/\x<=p.hi) (λD hD=>⟨af hD _,ae,[],U,U,(λx hx=>by cases hx)⟩) (λD i zs H' hD hi h=>?_) (λD zs H' hD h=>?_)⟩
 ·obtain⟨sm,eD,xs,rfl,hl,hx⟩:=h;have hi3:i<3:=hi;have a0:=emod_nonneg (c / (3*(0+(i:Int))+1)+(0+(i:Int))*c) (Int.ne_of_gt hw);have a1:=emod_lt_of_pos (c / (3*(0+(i:Int))+1)+(0+(i:Int))*c) hw;refine⟨_,U,r,_,_,_,U,U,SqT.of (sm _ _ er),U,_,U,_,U,_,_,U,U,.inl ⟨by decide,by decide⟩,_,_,U,U,_,_,U,U,iM (by lia) (by lia),_,U,_,U,_,_,U,U,.inl ⟨by lia,by lia⟩,_,_,U,U,_,U,_,_,U,U,hw,_,_,U,U,cn.mk hi eD (aw (by rw[length_map];lia)) ⟨sm.upd hD,ae,xs++[_],by rw[map_append];rfl,by rw[length_append,hl];rfl,λx hx'=>?_⟩⟩;rcases mem_append.mp hx' with hx' | hx'
  ·exact hx x hx'
  ·have e:x=p.lo+(c / (3*(0+(i:Int))+1)+(0+(i:Int))*c)%(p.hi-p.lo+1):=by simpa using hx'
   generalize (c / (3*(0+(i:Int))+1)+(0+(i:Int))*c)%(p.hi-p.lo+1)=m at a0 a1 e;lia
 ·obtain⟨sm,eD,xs,rfl,hl,hx⟩:=h;exact q D xs H' sm hD eD hl hx
theorem BI(F:Fun K "_law_spans" "_law_spans" Y34 f fd) (bl:Bl K mg yA yI yH yG ah yN yO yP yQ yR yS yT yU yV yW yX ai)  : bg P w K mg base CX0 1 f fd ["kind","one","two","domain"] (ee K yA yI yH yG ah yN yO yP yQ yR yS yT yU yV yW yX ai):=by
 refine F.ok Z34 (λvs H Q E h=>?_) (λcdv A outer s H vs Q E hr h=>?_)
 ·obtain⟨kd,one,two,r,p,rfl,⟨wl,_,_,er,ewl⟩,h1,h2,h3,q⟩:=h;rfl
 obtain⟨kd,one,two,r,p,rfl,⟨wl,_,_,er,ewl⟩,h1,h2,h3,q⟩:=h
 refine⟨_,(ay (aL (i:=4) Z34.nd U (Or.inl U) (aX (aa (bc (aa (aH bX (pv 3) aj (λ_ _=>U)) (aa (aH bX (pv 3) aj (λ_ _=>U)) ag))) ag)))
  (ay (aZ (aF cw (pv 0) aj (aN _))
  (aq (aL (i:=4) Z34.nd U (Or.inl U) (aX (aa (bc (aa (pv 1) (aa (pv 2) ag))) ag))))
  aM)
  (ay (aZ (aF cw (pv 0) aj (aN _))
  (aq (aL (i:=4) Z34.nd U (Or.inl U) (aX (aa (bc (aa (pv 1) (aa (pv 1) ag))) ag))))
  aM)
  (ay (aZ (aF cw (pv 0) aj (aN _))
  (aq (aL (i:=4) Z34.nd U (Or.inl U) (aX (aa (bc (aa (aH bX (pv 3) aj (λ_ _=>U)) (aa (aC cY (pv 1) aj) ag))) (aa (bc (aa (aC bT (pv 2) aj) (aa (aH bX (pv 3) aj (λ_ _=>U)) ag))) ag)))))
  aM)
  (ay (aZ (aF cw (pv 0) aj (aN _))
  (aq (aL (i:=4) Z34.nd U (Or.inl U) (aX (aa (bc (aa (pv 1) (aa (pv 1) ag))) (aa (bc (aa (pv 2) (aa (pv 2) ag))) ag)))))
  aM)
  (ay (aZ (PW.pt (gJ (aF cw (pv 0) aj (aN _)) (eY (aF fb (pv 2) (aC bT (pv 1) aj) (aN _)))))
  (aq (aL (i:=4) Z34.nd U (Or.inl U) (aX (aa (bc (aa (pv 1) (aa (pv 2) ag))) ag))))
  aM)
  (ay (aZ (aF cw (pv 0) aj (aN _))
  (aq (aL (i:=4) Z34.nd U (Or.inl U) (aX ag)))
  aM)
  (aq (aT (bq (aW (pv 4)) (bF U (by decide+kernel) (by decide+kernel) (by decide+kernel) U) U (λ_ _ _ _=>(hX (aF fb (aH (di (K:=K) U) (pv 0) aj (λ_ _=>U)) (aH (di (K:=K) U) (pv 0) aj (λ_ _=>U)) (aN _)))) (λ_ _ _ _=>(pv 0)))))))))))),?_⟩
 show(let r7:TS:=_;let r6:TS:=bp _ r7;let r5:TS:=bp _ r6;let r4:TS:=bp _ r5;let r3:TS:=bp _ r4;let r2:TS:=bp _ r3;let r1:TS:=bp _ r2;bp _ r1 _ _ _);intro _ _ _ _ _ _ _;refine⟨λσ' H'=>∃pl,SPI p H H' pl/\σ'=[some (.int kd),some (.int one),some (.int two),some (.ref r),some (.ref pl)],⟨_,U,r,_,_,_,U,U,SqT.of er,U,_,U,r,_,_,_,U,U,SqT.of er,U,bf,λt ht=>⟨(by show 1<=sizeLine;decide),λl hl=>⟨l,SPI.one (au.refl H) (pl1 ht hl) (Int.le_refl _) (Int.le_refl _),U⟩⟩⟩,?_⟩;rintro σ1 H1 ⟨pl,hs,rfl⟩;refine⟨λσ' H'=>∃pl,SPI p H H' pl/\σ'=[some (.int kd),some (.int one),some (.int two),some (.ref r),some (.ref pl)],?_,?_⟩
 ·refine⟨_,U,U,_,U,bM (λ_=>?_) (λ_=>⟨pl,hs,U⟩)⟩;have s1:=hs.1;exact⟨_,U,_,U,bf,λt ht=>⟨(by show 1<=sizeLine;decide),λl hl=>⟨l,SPI.one s1 (pl1 ht hl) (by lia) (by lia),U⟩⟩⟩
 clear hs pl;rintro σ2 H2 ⟨pl,hs,rfl⟩;refine⟨λσ' H'=>∃pl,SPI p H H' pl/\σ'=[some (.int kd),some (.int one),some (.int two),some (.ref r),some (.ref pl)],?_,?_⟩
 ·refine⟨_,U,U,_,U,bM (λ_=>?_) (λ_=>⟨pl,hs,U⟩)⟩;have s1:=hs.1;exact⟨_,U,_,U,bf,λt ht=>⟨(by show 1<=sizeLine;decide),λl hl=>⟨l,SPI.one s1 (pl1 ht hl) (by lia) (by lia),U⟩⟩⟩
 clear hs pl;rintro σ3 H3 ⟨pl,hs,rfl⟩;refine⟨λσ' H'=>∃pl,SPI p H H' pl/\σ'=[some (.int kd),some (.int one),some (.int two),some (.ref r),some (.ref pl)],?_,?_⟩
 ·refine⟨_,U,U,_,U,bM (λ_=>?_) (λ_=>⟨pl,hs,U⟩)⟩;have s1:=hs.1;refine⟨_,U,r,_,_,_,U,U,SqT.of (s1 _ _ er),U,_,U,_,_,U,U,bf,λt ht=>⟨_,U,_,_,U,U,_,U,r,_,_,_,U,U,SqT.of (((s1.trans (af ht _)) _ _ er)),U,bf,λu hu=>⟨(by show 2<=sizeLine;decide),λl hl=>⟨l,SPI.two s1 (pl2 ht hu hl) (Int.le_refl _) (by lia) (by lia) (Int.le_refl _),U⟩⟩⟩⟩
 clear hs pl;rintro σ4 H4 ⟨pl,hs,rfl⟩;refine⟨λσ' H'=>∃pl,SPI p H H' pl/\σ'=[some (.int kd),some (.int one),some (.int two),some (.ref r),some (.ref pl)],?_,?_⟩
 ·refine⟨_,U,U,_,U,bM (λ_=>?_) (λ_=>⟨pl,hs,U⟩)⟩;have s1:=hs.1;refine⟨_,U,_,U,bf,λt ht=>⟨_,U,_,U,bf,λu hu=>⟨(by show 2<=sizeLine;decide),λl hl=>⟨l,SPI.two s1 (pl2 ht hu hl) h1 (by lia) (by lia) h3,U⟩⟩⟩⟩
 clear hs pl;rintro σ5 H5 ⟨pl,hs,rfl⟩;refine⟨λσ' H'=>∃pl,SPI p H H' pl/\σ'=[some (.int kd),some (.int one),some (.int two),some (.ref r),some (.ref pl)],?_,?_⟩
 ·refine⟨_,U,U,_,U,bM (λ_=>?_) (λ_=>?_)⟩
  ·refine⟨_,U,_,U,_,_,U,U,_,_,U,U,_,U,bM (λ_=>?_) (λ_=>⟨pl,hs,U⟩)⟩;have s1:=hs.1;exact⟨_,U,_,U,bf,λt ht=>⟨(by show 1<=sizeLine;decide),λl hl=>⟨l,SPI.one s1 (pl1 ht hl) h1 h3,U⟩⟩⟩
  ·exact⟨pl,hs,U⟩
 clear hs pl;rintro σ6 H6 ⟨pl,hs,rfl⟩;refine⟨λσ' H'=>∃pl,SPI p H H' pl/\σ'=[some (.int kd),some (.int one),some (.int two),some (.ref r),some (.ref pl)],?_,?_⟩
 ·refine⟨_,U,U,_,U,bM (λ_=>?_) (λ_=>⟨pl,hs,U⟩)⟩;have s1:=hs.1;exact⟨(by show 0<=sizeLine;decide),λl hl=>⟨l,⟨s1.trans (af hl _),[],[],ae,.nil,(λx hx=>by cases hx),by simp⟩,U⟩⟩
 clear hs pl;rintro σ7 H7 ⟨pl,hs,rfl⟩;obtain⟨s7,ts,ps,epl,hP,hb,hl2⟩:=hs;have htl:=hP.length;refine⟨_,U,pl,U,⟨_,SqL.of epl⟩,bh (xs:=ts) (λD i zs H'=>au H7 H'/\H' D=some (.lst zs)/\∃ps':Prs,PL H' zs ps'/\(∀x∈ps',p.lo<=x.1/\x.1<=x.2/\x.2<=p.hi)/\ps'.length<=i) (λD hD=>⟨af hD _,ae,[],.nil,(λx hx=>by cases hx),zero_le _⟩) (λD i zs H' hD _ h=>SqL.of (h.1 _ _ epl)) (λD i y zs H' hD e h=>?_) (λD zs H' hD h=>?_)⟩
 ·obtain⟨sm,eD,ps',hP',hb',hl'⟩:=h;obtain⟨x,t,ex,rfl,et⟩:=hP.get e;have hi:i<ts.length:=(Jx.mp e).1;have et':=sm _ _ et;refine⟨_,U,t,_,_,_,U,U,SqT.of et',U,_,U,t,_,_,_,U,U,SqT.of et',U,_,_,U,U,_,U,?_⟩;refine bM (λg=>?_) (λg=>?_)
  ·have g':x.1<=x.2:=fF g;have st:mR H' (upd H' D (.lst (zs++[.ref t]))):=mS eD;refine⟨_,U,cn.mk hi eD (aw (by have:=hP'.length;lia)) ⟨sm.upd hD,ae,ps'++[x],(hP'.mono st).snoc (st _ _ et'),λy hy=>?_,by rw[length_append,List.length_singleton];lia⟩⟩;rcases mem_append.mp hy with hy|hy
   ·exact hb' y hy
   ·rw[show y=x by simpa using hy];have:=hb x (Jy ex);lia
  ·exact fe.mk (zs:=zs) hi ⟨sm,eD,ps',hP',hb',by lia⟩
 ·obtain⟨sm,eD,ps',hP',hb',hl'⟩:=h;have s:=s7.trans sm;exact q D ps' H' s ⟨s7.free hD,zs,eD,hP'⟩ hb' (by lia)
theorem BJ(F:Fun K "_law_asked" "_law_asked" Y25 f fd) (bl:Bl K mg yA yI yH yG ah yN yO yP yQ yR yS yT yU yV yW yX ai)  : bg P w K mg base CX0 1 f fd ["plan"] (dB K yA yI yH yG ah yN yO yP yQ yR yS yT yU yV yW yX ai):=by
 refine F.ok Z25 (λvs H Q E h=>?_) (λcdv A outer s H vs Q E hr h=>?_)
 ·obtain⟨r,zs,ds,pts,fN,rfl,hPl,ok,q⟩:=h;rfl
 obtain⟨r,zs,ds,pts,fN,rfl,hPl,ok,q⟩:=h
 refine⟨_,(ay (iI (pv 0) (dh U (aO (aK (i:=1) Z25.nd U (Or.inl U)) (aO (aK (i:=2) Z25.nd U (Or.inl U)) (aO (aK (i:=3) Z25.nd U (Or.inl U)) cE)))))
  (ay (aL (i:=4) Z25.nd U (Or.inr U) (aC cY (az av U bl.len_ boot_len (aa (pv 1) ag)) (az av U bl.len_ boot_len (aa (pv 3) ag))))
  (ay (aL (i:=5) Z25.nd U (Or.inl U) (aX ag))
  (ay (cO PassesOwn.never U (aW (pv 3)) (dh U (aO (aK (i:=6) Z25.nd U (Or.inl U)) (aO (aK (i:=7) Z25.nd U (Or.inl U)) (aO (aK (i:=8) Z25.nd U (Or.inl U)) cE))))
  (aq (bz (lz PySem.F.plainAttrs_list PySem.F.slot_list_extend PySem.F.type_list_extend rA (pv 5) (aa (bq (aW (pv 6)) (aY (N:=["j","first"]) (fr:=[4]) (cl:=[("first",s.heap.objs.size+1)]) U U (by decide+kernel) (by decide+kernel) U (by decide+kernel) U U U (forall_mem_cons.mpr ⟨U,forall_mem_nil _⟩) U) U (λ_ _ _ _=>(hX (aF yq (pv 0) (pv 1) (aN _)))) (λ_ _ _ _=>(aC cY (pv 0) (pv 1)))) ag)))))
  (aq (aT (pv 5))))))),?_⟩
 show(let r4:TS:=_;let r3:TS:=bp _ r4;let r2:TS:=bp _ r3;let r1:TS:=bp _ r2;bp _ r1 _ _ _);intro _ _ _ _;obtain⟨nl,dl,tl_,dv,tv,er,enl,edl,hdv,etl,htv⟩:=id hPl;have hzl:(zs.map V.str).length=zs.length:=length_map _;have hl1:=ok.len;have hl2:=ok.tab;have h7:=ok.n7;have htl:tv.length=pts.length:=htv.1;have h3:∀t∈pts,t.cols.length<=3:=λt ht=>by
  obtain⟨j,ej⟩:=getElem?_of_mem ht;exact(ok.tabs j t ej).ok.few
 refine⟨λσ' H'=>H'=H/\σ'=[some (.ref r),some (.ref nl),some (.ref dl),some (.ref tl_),none,none,none,none,none],⟨_,U,r,_,U,SqT.of er,U,_,_,U,_,_,U,_,_,U,U,U,U⟩,?_⟩;rintro σ1 H1 ⟨e1,rfl⟩;rw[e1];clear e1 H1;refine⟨λσ' H'=>H'=H/\σ'=[some (.ref r),some (.ref nl),some (.ref dl),some (.ref tl_),some (.int (fN:Int)),none,none,none,none],⟨_,U,nl,_,U,.inl (SqL.of enl),_,U,tl_,_,U,.inl (SqL.of etl),_,_,U,U,U,?_⟩,?_⟩
 ·rw[show(fN:Int)=(((zs.map V.str).length:Nat):Int)-((tv.length:Nat):Int) by lia];rfl
 rintro σ1 H1 ⟨e1,rfl⟩;rw[e1];clear e1 H1;refine⟨λσ' H'=>au H H'/\∃as:Addr,H as=none/\H' as=some (.lst [])/\σ'=[some (.ref r),some (.ref nl),some (.ref dl),some (.ref tl_),some (.int (fN:Int)),some (.ref as),none,none,none],⟨(by show 0<=sizeLine;decide),λl hl=>⟨af hl _,l,hl,ae,U⟩⟩,?_⟩;rintro σ2 H1 ⟨s1,as,nas,eas,rfl⟩;refine⟨λσ' H'=>au H H'/\H' as=some (.lst (vN (akP pts fN)))/\∃c6 c7 c8:Option V,σ'=[some (.ref r),some (.ref nl),some (.ref dl),some (.ref tl_),some (.int (fN:Int)),some (.ref as),c6,c7,c8],?_,?_⟩
 ·refine⟨_,U,tl_,U,⟨_,SqL.of (s1 _ _ etl)⟩,cR (xs:=tv) (λi σ H'=>au H H'/\H' as=some (.lst (vN (akP (pts.take i) fN)))/\∃c6 c7 c8:Option V,σ=[some (.ref r),some (.ref nl),some (.ref dl),some (.ref tl_),some (.int (fN:Int)),some (.ref as),c6,c7,c8]) ⟨s1,eas,_,_,_,U⟩ (λi σ H' _ h=>SqL.of (h.1 _ _ etl)) (λi y σ H' e h=>?_) (λσ H' h=>by rw[htl,take_length]at h;exact h)⟩;obtain⟨sm,vE,c6,c7,c8,rfl⟩:=h;obtain⟨ta,t,rfl,et,cl,rl,rx,f1,f2,f3,f4⟩:=ar.get htv e;have hi:i<tv.length:=(Jx.mp e).1;have hc3:=h3 t (Jy et);refine⟨ta,_,U,SqT.of (sm _ _ f1),U,_,_,U,_,_,U,_,_,U,U,?_⟩;refine⟨_,U,.inl ⟨U,_,SqL.of vE⟩,_,U,cl,U,⟨_,SqL.of (sm _ _ f2)⟩,bh (xs:=vN t.cols) (λD j ys H2=>au H' H2/\H2 D=some (.lst ys)/\ys=vN (akq fN (t.cols.take j))) (λD hD=>⟨af hD _,ae,U⟩) (λD j ys H2 hD _ h=>SqL.of ((sm.trans h.1) _ _ f2)) (λD j y ys H2 hD e2 h=>?_) (λD ys H2 hD h=>?_)⟩
  ·obtain⟨s2,eD,rfl⟩:=h;obtain⟨c,rfl,ec⟩:=qW e2;have hj:j<(vN t.cols).length:=(Jx.mp e2).1;have hak:=t6 (fN:=fN) ec;have hle:=nS fN (t.cols.take j);rw[length_take]at hle;refine⟨_,U,_,U,_,_,U,U,_,U,bM (λg=>?_) (λg=>?_)⟩
   ·have g':fN<=c:=by have:=fF g;lia
    rw[if_pos g']at hak;refine⟨_,U,_,U,_,_,U,U,cn.mk hj eD (aw (by rw[fC];lia)) ⟨s2.upd hD,ae,?_⟩⟩;rw[hak,←tK,show(c:Int)-(fN:Int)=((c-fN:Nat):Int) by lia];rfl
   ·have g':¬ fN<=c:=by have:=fG g;lia
    rw[if_neg g',append_nil]at hak;exact fe.mk hj ⟨s2,eD,by rw[hak]⟩
  ·obtain⟨s2,eD,rfl⟩:=h;rw[fC,take_length]at eD;have hl1:=q8 (fN:=fN) (pts:=pts.take i) λt' ht=>h3 t' (mem_of_mem_take ht)
   have hl2:=nS fN t.cols;rw[length_take]at hl1;refine⟨as,D,_,_,U,U,s2 _ _ vE,eD,le_of_lt (aw (by rw[fC,fC];lia)),(sm.trans s2).upd nas,?_,_,_,_,U⟩;rw[ae,t7 et,tK]
 rintro σ3 H2 ⟨s2,vE,c6,c7,c8,rfl⟩;exact⟨_,U,q as H2 s2 vE⟩
theorem O_1(F:Fun K "__init__" "Domain.__init__" Y1 f fd) (bl:Bl K mg yA yI yH yG ah yN yO yP yQ yR yS yT yU yV yW yX ai)  : bg P w K mg base CX0 1 f fd ["self","low","high"] (bB K yA yI yH yG ah yN yO yP yQ yR yS yT yU yV yW yX ai):=by
 refine F.ok Z1 (λvs H Q E h=>?_) (λcdv A outer s H vs Q E hr h=>?_)
 ·obtain⟨x,dx,lo,hi,rfl,hx,q⟩:=h;rfl
 obtain⟨x,dx,lo,hi,rfl,hx,q⟩:=h
 refine⟨_,(aE (cK (pv 0) (pv 1) U)
  (aq (cK (pv 0) (pv 2) U))),?_⟩
 show(let r1:TS:=_;cj _ r1 _ _ _);intro _;refine⟨_,U,_,U,x,_,dx,_,U,hx,bl.k_Numbers,bl.na_Numbers_low,(by show 0<1000;decide),_,U,_,U,x,_,dx,_,U,ae,bl.k_Numbers,bl.na_Numbers_high,(by show 1<1000;decide),?_⟩;show Q .non (upd (upd H x (.ins yV dx [("low",.int lo)])) x (.ins yV dx (bE "high" (.int hi) [("low",.int lo)])));rw[put2];exact q
theorem O_2(F:Fun K "__init__" "Domain.__init__" Y2 f fd) (bl:Bl K mg yA yI yH yG ah yN yO yP yQ yR yS yT yU yV yW yX ai)  : bg P w K mg base CX0 1 f fd ["self","low","high"] (bI K yA yI yH yG ah yN yO yP yQ yR yS yT yU yV yW yX ai):=by
 refine F.ok Z2 (λvs H Q E h=>?_) (λcdv A outer s H vs Q E hr h=>?_)
 ·obtain⟨x,dx,lo,hi,rfl,hx,q⟩:=h;rfl
 obtain⟨x,dx,lo,hi,rfl,hx,q⟩:=h
 refine⟨_,(aE (cK (pv 0) (pv 1) U)
  (aq (cK (pv 0) (pv 2) U))),?_⟩
 show(let r1:TS:=_;cj _ r1 _ _ _);intro _;refine⟨_,U,_,U,x,_,dx,_,U,hx,bl.k_Words,bl.na_Words_low,(by show 0<1000;decide),_,U,_,U,x,_,dx,_,U,ae,bl.k_Words,bl.na_Words_high,(by show 1<1000;decide),?_⟩;show Q .non (upd (upd H x (.ins yW dx [("low",.int lo)])) x (.ins yW dx (bE "high" (.int hi) [("low",.int lo)])));rw[put2];exact q
theorem BK(F:Fun K "__init__" "Way.__init__" Y13 f fd) (bl:Bl K mg yA yI yH yG ah yN yO yP yQ yR yS yT yU yV yW yX ai)  : bg P w K mg base CX0 1 f fd ["self","called"] (bZ K yA yI yH yG ah yN yO yP yQ yR yS yT yU yV yW yX ai):=by
 refine F.ok Z13 (λvs H Q E h=>?_) (λcdv A outer s H vs Q E hr h=>?_)
 ·obtain⟨x,dx,z,rfl,hx,q⟩:=h;rfl
 obtain⟨x,dx,z,rfl,hx,q⟩:=h;refine⟨_,(aq (cK (pv 0) (pv 1) U)),?_⟩;exact⟨_,U,_,U,x,_,dx,_,U,hx,bl.k_First,bl.na_First_called,(by show 0<1000;decide),q⟩
theorem BL(F:Fun K "__init__" "Way.__init__" Y17 f fd) (bl:Bl K mg yA yI yH yG ah yN yO yP yQ yR yS yT yU yV yW yX ai)  : bg P w K mg base CX0 1 f fd ["self","called"] (cz K yA yI yH yG ah yN yO yP yQ yR yS yT yU yV yW yX ai):=by
 refine F.ok Z17 (λvs H Q E h=>?_) (λcdv A outer s H vs Q E hr h=>?_)
 ·obtain⟨x,dx,z,rfl,hx,q⟩:=h;rfl
 obtain⟨x,dx,z,rfl,hx,q⟩:=h;refine⟨_,(aq (cK (pv 0) (pv 1) U)),?_⟩;exact⟨_,U,_,U,x,_,dx,_,U,hx,bl.k_Only,bl.na_Only_called,(by show 0<1000;decide),q⟩
theorem BM(F:Fun K "__init__" "Way.__init__" Y15 f fd) (bl:Bl K mg yA yI yH yG ah yN yO yP yQ yR yS yT yU yV yW yX ai)  : bg P w K mg base CX0 1 f fd ["self","called"] (cA K yA yI yH yG ah yN yO yP yQ yR yS yT yU yV yW yX ai):=by
 refine F.ok Z15 (λvs H Q E h=>?_) (λcdv A outer s H vs Q E hr h=>?_)
 ·obtain⟨x,dx,z,rfl,hx,q⟩:=h;rfl
 obtain⟨x,dx,z,rfl,hx,q⟩:=h;refine⟨_,(aq (cK (pv 0) (pv 1) U)),?_⟩;exact⟨_,U,_,U,x,_,dx,_,U,hx,bl.k_Like,bl.na_Like_called,(by show 0<1000;decide),q⟩
theorem BN(F:Fun K "__init__" "Way.__init__" Y16 f fd) (bl:Bl K mg yA yI yH yG ah yN yO yP yQ yR yS yT yU yV yW yX ai)  : bg P w K mg base CX0 1 f fd ["self","called"] (cG K yA yI yH yG ah yN yO yP yQ yR yS yT yU yV yW yX ai):=by
 refine F.ok Z16 (λvs H Q E h=>?_) (λcdv A outer s H vs Q E hr h=>?_)
 ·obtain⟨x,dx,z,rfl,hx,q⟩:=h;rfl
 obtain⟨x,dx,z,rfl,hx,q⟩:=h;refine⟨_,(aq (cK (pv 0) (pv 1) U)),?_⟩;exact⟨_,U,_,U,x,_,dx,_,U,hx,bl.k_Low,bl.na_Low_called,(by show 0<1000;decide),q⟩
theorem BO(F:Fun K "__init__" "Way.__init__" Y14 f fd) (bl:Bl K mg yA yI yH yG ah yN yO yP yQ yR yS yT yU yV yW yX ai)  : bg P w K mg base CX0 1 f fd ["self","called"] (cC K yA yI yH yG ah yN yO yP yQ yR yS yT yU yV yW yX ai):=by
 refine F.ok Z14 (λvs H Q E h=>?_) (λcdv A outer s H vs Q E hr h=>?_)
 ·obtain⟨x,dx,z,rfl,hx,q⟩:=h;rfl
 obtain⟨x,dx,z,rfl,hx,q⟩:=h;refine⟨_,(aq (cK (pv 0) (pv 1) U)),?_⟩;exact⟨_,U,_,U,x,_,dx,_,U,hx,bl.k_High,bl.na_High_called,(by show 0<1000;decide),q⟩
theorem BP(F:Fun K "__init__" "Way.__init__" Y18 f fd) (bl:Bl K mg yA yI yH yG ah yN yO yP yQ yR yS yT yU yV yW yX ai)  : bg P w K mg base CX0 1 f fd ["self","called"] (cH K yA yI yH yG ah yN yO yP yQ yR yS yT yU yV yW yX ai):=by
 refine F.ok Z18 (λvs H Q E h=>?_) (λcdv A outer s H vs Q E hr h=>?_)
 ·obtain⟨x,dx,z,rfl,hx,q⟩:=h;rfl
 obtain⟨x,dx,z,rfl,hx,q⟩:=h;refine⟨_,(aq (cK (pv 0) (pv 1) U)),?_⟩;exact⟨_,U,_,U,x,_,dx,_,U,hx,bl.k_Sum,bl.na_Sum_called,(by show 0<1000;decide),q⟩
theorem BQ(F:Fun K "is_word" "is_word" Y23 f fd) (bl:Bl K mg yA yI yH yG ah yN yO yP yQ yR yS yT yU yV yW yX ai)(pQ:Callee P w K mg base 1 "all_among" ["text","signs"] (d9 K yA yI yH yG ah yN yO yP yQ yR yS yT yU yV yW yX ai)):bg P w K mg base CX0 2 f fd ["text"] (dQ K yA yI yH yG ah yN yO yP yQ yR yS yT yU yV yW yX ai):=by
 refine F.ok Z23 (λvs H Q E h=>?_) (λcdv A outer s H vs Q E hr h=>?_)
 ·obtain⟨z,rfl,hz,q⟩:=h;rfl
 obtain⟨z,rfl,hz,q⟩:=h;refine⟨_,(aq (aT (jK (lq fb fb aj (az nC U bl.len_ boot_len (aa (pv 0) ag)) (lE U bl.MOST_SIGNS_)) (jK (fV pd (pv 0) ba (aN _)) (lp (br pQ hr U (aa (pv 0) (aa (lE U bl.SMALL_LETTERS_) ag)))))))),?_⟩;refine⟨_,U,_,U,big hz,_,_,U,U,_,U,?_⟩;refine bM (λg1=>?_) (λg1=>?_)
 ·refine⟨_,_,U,U,_,U,?_⟩;refine bM (λg2=>?_) (λg2=>?_)
  ·refine⟨_,U,U,_,U,?_⟩;refine bM (λg3=>?_) (λg3=>?_)
   ·refine⟨_,U,z,lets,U,?_⟩;have e:isw z=lF z lets:=by unfold isw;rw[g1,g2,g3];rfl
    rw[e]at q;exact q
   ·have e:isw z=false:=by unfold isw;rw[eq_false_iff.mpr g3,Bool.false_and,Bool.and_false,Bool.and_false]
    rw[e]at q;exact q
  ·have e:isw z=false:=by unfold isw;rw[eq_false_iff.mpr g2,Bool.false_and,Bool.and_false]
   rw[e]at q;exact q
 ·have e:isw z=false:=by unfold isw;rw[eq_false_iff.mpr g1,Bool.false_and]
  rw[e]at q;exact⟨_,U,dF q⟩
theorem BR(F:Fun K "refuse_domains" "refuse_domains" Y43 f fd) (bl:Bl K mg yA yI yH yG ah yN yO yP yQ yR yS yT yU yV yW yX ai)(vF:Callee P w K mg base 1 "alike" ["one","other"] (jv K yA yI yH yG ah yN yO yP yQ yR yS yT yU yV yW yX ai)):bg P w K mg base (CX1 P w) 2 f fd ["facts","tables"] (cQ K yA yI yH yG ah yN yO yP yQ yR yS yT yU yV yW yX ai):=by
 refine F.okE Z43 (λvs H Q E h=>?_) (λcdv A outer s H vs Q E hr h=>?_)
 ·obtain⟨fa,ma,fv,mv,fs,ts,rfl,efa,ema,hB,hN,q,qE⟩:=h;rfl
 obtain⟨fa,ma,fv,mv,fs,ts,rfl,efa,ema,hB,hN,q,qE⟩:=h
 refine⟨_,(ay (aL (i:=2) Z43.nd U (Or.inl U) (bO (qo U) U bl.dict_ PyProof.Rows.boot_dict (aa (aC cZ (pv 0) (bq (aW (pv 1)) (bF U (by decide+kernel) (by decide+kernel) (by decide+kernel) U) U (λ_ _ _ _=>bb) (λ_ _ _ _=>(bc (aa (fY (K:=K) U (pv 0) U) (aa (fY (K:=K) U (pv 0) U) ag)))))) ag)))
  (aq (cO (eH U U U) U (aW (pv 1)) (aK (i:=3) Z43.nd U (Or.inl U))
  (aq (cO (eH U U U) U (tG U bl.zip_ (aa (bu (pv 3) U) (aa (bu (pv 3) U) ag))) (dh U (aO (aK (i:=4) Z43.nd U (Or.inl U)) (aO (aK (i:=5) Z43.nd U (Or.inl U)) cE)))
  (aq (aZ (iH (fu (br vF hr U (aa (pv 5) (aa (aH vh (pv 2) (pv 4) (λ_ _=>U)) ag)))))
  (aq (dJ bl.x_Unlike hr.hd U bl.Unlike_ (aa (xa (pv 4)) ag)))
  aM))))))),?_⟩
 show(let r1:TS:=_;bp _ r1 _ _ _);intro _;obtain⟨b1,b2⟩:=hB.few;have hfl:fv.length=fs.length:=hB.facts.1;have hml:mv.length=ts.length:=hB.tabs.1;refine⟨λσ' H'=>au H H'/\∃(da:Addr)(kvs:List (Str×V)),H' da=some (.dK (kvT kvs))/\Bu yV yW H' fs ts kvs/\σ'=[some (.ref fa),some (.ref ma),some (.ref da),none,none,none],?_,?_⟩
 ·refine⟨_,U,_,U,ma,U,⟨_,SqL.of ema⟩,bh (xs:=mv) (λD i ys H'=>au H H'/\H' D=some (.lst ys)/\ar ys (ts.take i) (λp t=>∃d:Addr,H' p=some (.tup [.str t.nm,.ref d])/\dc yV yW H d t.o)) (λD hD=>⟨af hD _,ae,ar.nil⟩) (λD i ys H' hD _ h=>SqL.of (h.1 _ _ ema)) (λD i y ys H' hD e h=>?_) (λD ys H' hD h=>?_)⟩
  ·obtain⟨sm,eD,hy⟩:=h;obtain⟨t_,t,rfl,ek,ou,dv,g4,g5,g6⟩:=ar.get hB.tabs e;obtain⟨rl,dx,na,dl,fs_,xs,ht,f1,f2,f3,f4,f5,f6,ena,edl,erl,hR,iO⟩:=g4;have hi:i<mv.length:=(Jx.mp e).1;refine⟨_,U,t_,_,_,_,_,U,sm _ _ ht,bl.k_Table,bl.na_Table_name,f2,_,U,t_,_,_,_,_,U,sm _ _ ht,bl.k_Table,bl.na_Table_outcome,f4,bf,λp hp=>?_⟩;have u:=af hp (.tup [.str t.nm,.ref ou]);have ep:upd H' p (.tup [.str t.nm,.ref ou]) p=some (.tup [.str t.nm,.ref ou]):=ae;generalize upd H' p (.tup [.str t.nm,.ref ou])=H2 at u ep⊢;have eD2:=u _ _ eD;have hyl:=hy.1;rw[length_take]at hyl;refine cn.mk hi eD2 (aw (by lia)) ⟨(sm.trans u).upd hD,ae,?_⟩;rw[take_snoc ek];have hz:ar (ys++[.ref p]) (ts.take i++[t]) (λp t=>∃d:Addr,H2 p=some (.tup [.str t.nm,.ref d])/\dc yV yW H d t.o):=ar.snoc (ar.mono hy λ_ _ ⟨d,h1,h2⟩=>⟨d,u _ _ h1,h2⟩) ⟨ou,ep,g6⟩;exact ar.mono hz λ_ _ ⟨d,h1,h2⟩=>⟨d,(aD (bK h1 eD2 (by intro z;cases z))).trans h1,h2⟩
  ·obtain⟨sm,eD,hy⟩:=h;rw[hml,take_length]at hy;have hyl:=hy.1;refine⟨fa,D,_,_,U,U,sm _ _ efa,eD,le_of_lt (aw (by lia)),λp hp=>?_⟩;have u:=af hp (.lst (fv++ys));have ep:upd H' p (.lst (fv++ys)) p=some (.lst (fv++ys)):=ae;generalize upd H' p (.lst (fv++ys))=H2 at u ep⊢;have s2:=sm.trans u;have hdl:(eR fs ts).length=fs.length+ts.length:=by unfold eR;rw[length_append,length_map]
   obtain⟨kvs,hkl,hkv⟩:=nM (P:=λj (a:Str×V)=>∃(t:Addr)(d:Addr)(k:Dk),(fv++ys)[j]?=some (.ref t)/\H2 t=some (.tup [.str a.1,.ref d])/\a.2=.ref d/\(eR fs ts)[j]?=some (a.1,k)/\dc yV yW H2 d k) (fs.length+ts.length) λj hj=>by
    by_cases hjf:j<fs.length
    ·have ef:=Jw hjf;obtain⟨r,er,d,h3,h4⟩:=hB.facts.2 j _ ef;refine⟨(fs[j].1,.ref d),r,d,fs[j].2,by rw[getElem?_append_left (by lia)];exact er,s2 _ _ h3,U,?_,h4.same s2⟩;unfold eR;rw[getElem?_append_left hjf];exact ef
    ·have hjl:j-fs.length<ts.length:=by lia
     have ek:=Jw hjl;obtain⟨r,er,d,h3,h4⟩:=hy.2 _ _ ek;refine⟨(ts[j-fs.length].nm,.ref d),r,d,ts[j-fs.length].o,by rw[getElem?_append_right (by lia),hfl];exact er,u _ _ h3,U,?_,h4.same s2⟩;unfold eR;rw[getElem?_append_right (by lia),getElem?_map,ek];rfl
   have pE:kvs.map (·.1)=bN fs ts:=by
    rw[←ng];refine ext_getElem? λj=>?_
    rw[getElem?_map,getElem?_map];cases e:kvs[j]? with
    |none =>
     have hlj:kvs.length<=j:=by rw[List.getElem?_eq_none_iff]at e;exact e
     rw[getElem?_eq_none (by lia)];rfl
    |some a =>
     obtain⟨t,d,k,_,_,_,e4,_⟩:=hkv j a e;rw[e4];rfl
   refine⟨p,fv++ys,kvs,U,ep,by rw[length_append,hkl];lia,λj a ea=>?_,by rw[pE];exact hN.nd,λda hda=>?_⟩
   ·obtain⟨t,d,k,e1,e2,e3,_⟩:=hkv j a ea;exact⟨t,e1,by rw[e3];exact e2⟩
   ·have u2:=af hda (.dK (kvT kvs));refine⟨s2.trans u2,da,kvs,ae,λz hz=>?_,U⟩;rw[←pE]at hz;obtain⟨a,ha,rfl⟩:=mem_map.mp hz;obtain⟨i,ei⟩:=getElem?_of_mem ha;obtain⟨t,d,k,e1,e2,e3,e4,e5⟩:=hkv i a ei;refine⟨d,k,?_,Jy e4,e5.same u2⟩;rw[←e3];exact vp (by rw[pE];exact hN.nd) ei
 rintro σ1 H1 ⟨s1,da,kvs,eda,BS,rfl⟩;refine⟨_,U,ma,U,⟨_,SqL.of (s1 _ _ ema)⟩,cR (xs:=mv) (λi σ H'=>au H1 H'/\(∀t∈ts.take i,∀(i:Nat)(c:Str)(k k':Dk),t.cs[i]?=some c->t.ks[i]?=some k->(c,k')∈eR fs ts->lkD k k'=true)/\∃c3 c4 c5:Option V,σ=[some (.ref fa),some (.ref ma),some (.ref da),c3,c4,c5]) ⟨au.refl _,(λt ht=>by simp at ht),_,_,_,U⟩ (λi σ H' _ h=>SqL.of (h.1 _ _ (s1 _ _ ema))) (λi y σ H' e h=>?_) (λσ H' h=>by rw[hml,take_length]at h;exact q h.2.1 H' (s1.trans h.1))⟩;obtain⟨sm,hal,c3,c4,c5,rfl⟩:=h;obtain⟨t_,t,rfl,ek,ou,dv,g4,g5,g6⟩:=ar.get hB.tabs e;obtain⟨rl,dx,na,dl,fs_,xs,ht,f1,f2,f3,f4,f5,f6,ena,edl,erl,hR,iO⟩:=g4;obtain⟨hsm,h4,hkl⟩:=hB.st t (Jy ek);have BU:dv.length=t.ks.length:=g5.1;have sA:=s1.trans sm;refine⟨_,U,t_,_,_,_,_,U,sA _ _ ht,bl.k_Table,bl.na_Table_names,f5,_,U,t_,_,_,_,_,U,sA _ _ ht,bl.k_Table,bl.na_Table_domains,f6,na,dl,U,⟨_,SqL.of (sA _ _ ena)⟩,⟨_,SqL.of (sA _ _ edl)⟩,qU (xs:=t.cs.map V.str) (ys:=dv) (λi σ H2=>au H' H2/\(∀(j:Nat)(c:Str)(k k':Dk),j<i->t.cs[j]?=some c->t.ks[j]?=some k->(c,k')∈eR fs ts->lkD k k'=true)/\∃c4 c5:Option V,σ=[some (.ref fa),some (.ref ma),some (.ref da),some (.ref t_),c4,c5]) ⟨au.refl _,(λj c k k' hj=>by lia),_,_,U⟩ (λi σ H2 h=>⟨SqL.of ((sA.trans h.1) _ _ ena),SqL.of ((sA.trans h.1) _ _ edl)⟩) (λi x y σ H2 T ex ey h hT=>?_) (λσ H2 h=>?_)⟩
 ·obtain⟨s2,hc,d4,d5,rfl⟩:=h;obtain⟨z,rfl,ez⟩:=eO ex;obtain⟨a,kk,rfl,ekk,ha⟩:=ar.get g5 ey;obtain⟨d,k,hd1,hd2,hd3⟩:=BS z (hN.al t (Jy ek) z (Jy ez));have hz:=hsm z (Jy ez);have hz1:=hz.1;have u:=af hT (.tup [.str z,.ref a]);have eT:upd H2 T (.tup [.str z,.ref a]) T=some (.tup [.str z,.ref a]):=ae;generalize upd H2 T (.tup [.str z,.ref a])=H3 at u eT⊢;have sB:=(sm.trans s2).trans u;refine⟨T,_,U,SqT.of eT,U,_,_,U,_,_,U,U,?_⟩;refine⟨_,U,_,U,_,U,da,kvs,z,.ref d,U,U,sB _ _ eda,hd1,a,d,kk,k,U,(ha.same s1).same sB,hd3.same sB,_,U,?_⟩;cases hl:lkD kk k with
  |true =>
   refine dF ⟨s2.trans u,(λj c k1 k2 hj e1 e2 e3=>?_),_,_,U⟩;by_cases hji:j<i
   ·exact hc j c k1 k2 hji e1 e2 e3
   ·have:j=i:=by lia
    subst this;rw[ez]at e1;rw[ekk]at e2;cases e1;cases e2;rw[nR hN.nd e3 hd2];exact hl
  |false=>exact gC ⟨(by decide+kernel),_,U,z,U,by lia,hz.2,(by decide+kernel),λz2=>⟨(by show 1<=sizeLine;decide),qE (λg=>by have:=g t (Jy ek) i z kk k ez ekk hd2;rw[hl]at this;cases this) H3 (s1.trans sB)⟩⟩
 ·obtain⟨s2,hc,c4,c5,e2⟩:=h;refine⟨sm.trans s2,ip (P:=λt:BT=>∀(i:Nat)(c:Str)(k k':Dk),t.cs[i]?=some c->t.ks[i]?=some k->(c,k')∈eR fs ts->lkD k k'=true) ek hal (λj c k k' e1=>hc j c k k' ?_ e1),_,c4,c5,e2⟩;have:=(Jx.mp e1).1;rw[length_map,BU];lia
theorem BV(F:Fun K "refuse_rings" "refuse_rings" Y46 f fd) (bl:Bl K mg yA yI yH yG ah yN yO yP yQ yR yS yT yU yV yW yX ai)(mB:Callee P w K mg base 1 "named_among" ["table","names"] (dz K yA yI yH yG ah yN yO yP yQ yR yS yT yU yV yW yX ai)):bg P w K mg base (CX1 P w) 2 f fd ["tables"] (df K yA yI yH yG ah yN yO yP yQ yR yS yT yU yV yW yX ai):=by
 refine F.okE Z46 (λvs H Q E h=>?_) (λcdv A outer s H vs Q E hr h=>?_)
 ·obtain⟨ma,mv,ts,rfl,ema,hm,h7,h4,q⟩:=h;rfl
 obtain⟨ma,mv,ts,rfl,ema,hm,h7,h4,q⟩:=h
 refine⟨_,(aE (aL (i:=1) Z46.nd U (Or.inl U) (pv 0))
  (aq (sk (eH U U U) (ph (pv 1) (by intro _;rfl))
  (ay (aL (i:=2) Z46.nd U (Or.inr U) (bq (aW (pv 1)) (bF U (by decide+kernel) (by decide+kernel) (by decide+kernel) U) U (λ_ _ _ _=>bb) (λ_ _ _ _=>(fY (K:=K) U (pv 0) U))))
  (ay (fW (i:=3) Z46.nd U (Or.inl U) (aW (pv 1)) (aY (N:=["table","names"]) (fr:=[2]) (cl:=[("names",s.heap.objs.size+1)]) U U (by decide+kernel) (by decide+kernel) U (by decide+kernel) U U U (forall_mem_cons.mpr ⟨U,forall_mem_nil _⟩) U) U (λ_ _ _ _=>(hX (rM (K:=K) U (br mB hr U (aa (pv 0) (aa (pv 1) ag)))))) (λ_ _ _ _=>(pv 0)))
  (aE (aZ (aF cw (az av U bl.len_ boot_len (aa (pv 3) ag)) (az av U bl.len_ boot_len (aa (pv 1) ag)) (aN _))
  (aq (dJ bl.x_Ring hr.hd U bl.Ring_ (aa ba ag)))
  aM)
  (aq (aL (i:=1) Z46.nd U (Or.inl U) (pv 3))))))))),?_⟩
 show(let r1:TS:=_;cj _ r1 _ _ _);intro _;refine⟨_,U,?_⟩;refine⟨λm σ H'=>au H H'/\∃(la:Addr)(lv:List V)(L:List BT)(c2 c3:Option V),H' la=some (.lst lv)/\ar lv L (TbG yX yV yW H)/\(∀t∈L,t∈ts)/\L.length=m/\m<=100/\(∀S:List Str,(∀t∈ts,t.nm∈S->∃c∈t.cs,c∈S)->(∀c∈S,c∈ts.map BT.nm)->∀t∈ts,t.nm∈S->t∈L)/\σ=[some (.ref ma),some (.ref la),c2,c3],⟨_,au.refl _,ma,mv,ts,_,_,ema,hm,(λ_ h=>h),U,h7,(λ_ _ _ _ h _=>h),U⟩,?_⟩;rintro m σ H1 ⟨s1,la,lv,L',c2,c3,ela,hv,nI,hlen,hm7,hst,rfl⟩;have hvl:lv.length=L'.length:=hv.1;by_cases hne:L'=[]
 ·have elv:lv=[]:=length_eq_zero_iff.mp (by rw[hvl,hne];rfl);subst elv;refine⟨_,U,false,.inl ⟨_,SqL.of ela,U⟩,dF ?_⟩;rcases q with⟨_,q⟩|⟨⟨S,⟨t,ht,hS⟩,h1,h2⟩,_⟩
  ·exact q H1 s1
  ·have:=hst S h1 h2 t ht hS;rw[hne]at this;cases this
 have hb:(!lv.isEmpty)=true:=by
  cases lv with
  |nil=>exact absurd (length_eq_zero_iff.mp hvl.symm) hne
  |cons=>rfl
 refine⟨_,U,true,.inl ⟨_,SqL.of ela,hb.symm⟩,gC ⟨λσ' H'=>∃m',m'<m/\au H H'/\∃(la:Addr)(lv:List V)(L:List BT)(c2 c3:Option V),H' la=some (.lst lv)/\ar lv L (TbG yX yV yW H)/\(∀t∈L,t∈ts)/\L.length=m'/\m'<=100/\(∀S:List Str,(∀t∈ts,t.nm∈S->∃c∈t.cs,c∈S)->(∀c∈S,c∈ts.map BT.nm)->∀t∈ts,t.nm∈S->t∈L)/\σ'=[some (.ref ma),some (.ref la),c2,c3],λ_ _ h=>h,?_⟩⟩;refine⟨λσ' H'=>au H1 H'/\∃na:Addr,H' na=some (.lst ((L'.map BT.nm).map V.str))/\σ'=[some (.ref ma),some (.ref la),some (.ref na),c3],?_,?_⟩
 ·refine⟨_,U,la,U,⟨_,SqL.of ela⟩,bh (xs:=lv) (λD2 i ys H2=>au H1 H2/\H2 D2=some (.lst ys)/\ys=((L'.take i).map BT.nm).map V.str) (λD2 hD2=>⟨af hD2 _,ae,U⟩) (λD2 i ys H2 hD2 _ h=>SqL.of (h.1 _ _ ela)) (λD2 i y ys H2 hD2 e h=>?_) (λD2 ys H2 hD2 h=>?_)⟩
  ·obtain⟨s2,eD2,rfl⟩:=h;obtain⟨t_,t,rfl,ek,ou,dv,g4,g5,g6⟩:=ar.get hv e;obtain⟨rl,dx,na,dl,fs,xs,ht,f1,f2,f3,f4,f5,f6,ena,edl,erl,hR,iO⟩:=g4;have hi:i<lv.length:=(Jx.mp e).1;refine⟨_,U,t_,_,_,_,_,U,(s1.trans s2) _ _ ht,bl.k_Table,bl.na_Table_name,f2,cn.mk hi eD2 (aw (by rw[length_map,length_map,length_take];lia)) ⟨s2.upd hD2,ae,?_⟩⟩;rw[take_snoc ek,map_append,map_append];rfl
  ·obtain⟨s2,eD2,rfl⟩:=h;rw[hvl,take_length]at eD2;exact⟨s2,D2,eD2,U⟩
 rintro σ2 H2 ⟨s2,na,ena,rfl⟩;have s12:=s1.trans s2;refine⟨λσ' H'=>au H2 H'/\∃(wa:Addr)(wv:List V),H' wa=some (.lst wv)/\ar wv (L'.filter (wtg (L'.map BT.nm))) (TbG yX yV yW H)/\σ'=[some (.ref ma),some (.ref la),some (.ref na),some (.ref wa)],?_,?_⟩
 ·refine⟨_,U,la,U,⟨_,SqL.of (s2 _ _ ela)⟩,bh (xs:=lv) (λD2 i ys H3=>au H2 H3/\H3 D2=some (.lst ys)/\ar ys ((L'.take i).filter (wtg (L'.map BT.nm))) (TbG yX yV yW H)) (λD2 hD2=>⟨af hD2 _,ae,ar.nil⟩) (λD2 i ys H3 hD2 _ h=>SqL.of ((s2.trans h.1) _ _ ela)) (λD2 i y ys H3 hD2 e h=>?_) (λD2 ys H3 hD2 h=>?_)⟩
  ·obtain⟨s3,eD2,hy⟩:=h;obtain⟨t_,t,rfl,ek,hT⟩:=ar.get hv e;obtain⟨ou,dv,g4,g5,g6⟩:=id hT;have hi:i<lv.length:=(Jx.mp e).1;have sA:=s12.trans s3;have hcl:=h4 t (nI t (Jy ek));refine⟨_,U,_,U,t_,na,ou,t.nm,t.way,t.cs,L'.map BT.nm,dv,t.rws,U,g4.same sA,s3 _ _ ena,by lia,λl H4 s4 nl el=>?_⟩;have hw:=rS (t:=t) (ns:=L'.map BT.nm);have eD4:=s4 _ _ eD2;have hfl:((L'.take i).filter (wtg (L'.map BT.nm))).length<=i:=le_trans (length_filter_le ..) (by rw[length_take];lia);have hf:=iq (p:=wtg (L'.map BT.nm)) ek;refine⟨wtg (L'.map BT.nm) t,.inl ⟨_,SqL.of el,?_⟩,?_⟩
   ·rw[←hw];cases t.cs.filter λz=>(L'.map BT.nm).contains z <;> rfl
   cases hc:wtg (L'.map BT.nm) t with
   |true =>
    rw[hc]at hf;refine gC ⟨_,U,cn.mk hi eD4 (aw (by rw[hy.1];lia)) ⟨(s3.trans s4).upd hD2,ae,?_⟩⟩;rw[hf];exact ar.snoc hy hT
   |false =>
    rw[hc]at hf;refine dF (fe.mk (zs:=ys) hi ⟨s3.trans s4,eD4,?_⟩);rw[hf];simpa using hy
  ·obtain⟨s3,eD2,hy⟩:=h;rw[hvl,take_length]at hy;exact⟨s3,D2,ys,eD2,hy,U⟩
 rintro σ3 H3 ⟨s3,wa,wv,ewa,hw,rfl⟩;have hwl:wv.length=(L'.filter (wtg (L'.map BT.nm))).length:=hw.1;have hle:=length_filter_le (wtg (L'.map BT.nm)) L';by_cases heq:wv.length=lv.length
 ·refine⟨_,U,wa,_,U,.inl (SqL.of ewa),_,U,la,_,U,.inl (SqL.of (s3 _ _ (s2 _ _ ela))),U,_,U,kx (by rw[heq]) ?_⟩;rcases q with⟨hr,_⟩|⟨_,qE⟩
  ·have:=tX hr nI hne;lia
  ·exact⟨(by show 1<=sizeLine;decide),qE H3 (s12.trans s3)⟩
 ·refine⟨_,U,wa,_,U,.inl (SqL.of ewa),_,U,la,_,U,.inl (SqL.of (s3 _ _ (s2 _ _ ela))),U,_,U,jr (λz=>by injection z with z;lia) ?_⟩;refine⟨_,U,_,by lia,s12.trans s3,wa,wv,_,_,_,ewa,hw,(λk hk=>nI k (mem_filter.mp hk).1),U,by lia,(λS h1 h2 t ht hS=>mem_filter.mpr ⟨hst S h1 h2 t ht hS,?_⟩),U⟩;obtain⟨c,hc,hcS⟩:=h1 t ht hS;obtain⟨t',ht',rfl⟩:=mem_map.mp (h2 c hcS);unfold wtg;rw[List.any_eq_true];exact⟨_,hc,by simpa using⟨t',hst S h1 h2 t' ht' hcS,U⟩⟩
theorem BX(F:Fun K "_law_domain" "_law_domain" Y28 f fd) (bl:Bl K mg yA yI yH yG ah yN yO yP yQ yR yS yT yU yV yW yX ai)(gn:Callee P w K mg base 1 "_law_words" ["cell","count"] (dA K yA yI yH yG ah yN yO yP yQ yR yS yT yU yV yW yX ai)):bg P w K mg base CX0 2 f fd ["cell"] (dU K yA yI yH yG ah yN yO yP yQ yR yS yT yU yV yW yX ai):=by
 refine F.ok Z28 (λvs H Q E h=>?_) (λcdv A outer s H vs Q E hr h=>?_)
 ·obtain⟨c,rfl,q⟩:=h;rfl
 obtain⟨c,rfl,q⟩:=h
 refine⟨_,(ay (aL (i:=1) Z28.nd U (Or.inl U) (aC cY (aC bA (aC bU (pv 0) aj) (aC nj aj aj)) (aC jN aj (aC nj aj aj))))
  (ay (aL (i:=2) Z28.nd U (Or.inl U) (aC bA (aC bU (pv 0) aj) (aC nj aj aj)))
  (aE (aZ (aF cw (aC bA (pv 0) aj) aj (aN _))
  (aE (aL (i:=3) Z28.nd U (Or.inl U) (br gn hr U (aa (aC bU (pv 0) aj) (aa (aC bT aj (aC bA (aC bU (pv 0) aj) aj)) ag))))
  (aq (aT (bc (aa aj (aa (aC cY (az av U bl.len_ boot_len (aa (pv 3) ag)) aj) (aa (pv 3) ag)))))))
  aM)
  (ay (aZ (aF cw (aC bA (pv 0) aj) aj (aN _))
  (aq (aL (i:=2) Z28.nd U (Or.inl U) (aC bA (aC bU (pv 0) aj) aj)))
  aM)
  (aq (aT (bc (aa (pv 1) (aa (aC bT (pv 1) (pv 2)) (aa (aX ag) ag)))))))))),?_⟩
 show(let r4:TS:=_;let r3:TS:=bp _ r4;let r2:TS:=cj _ r3;let r1:TS:=bp _ r2;bp _ r1 _ _ _);intro _ _ _ _;have k1:(10^30:Nat)*10=10^31:=by decide
 have k2:(10^29:Nat)*100=10^31:=by decide
 have k3:(1000:Nat)<=10^31:=by decide
 refine⟨λσ' H'=>H'=H/\∃lo:Int,-(5*((10^29:Nat):Int))<=lo/\lo<((10^30:Nat):Int)/\σ'=[some (.int c),some (.int lo),none,none],?_,?_⟩
 ·have x0:=emod_nonneg (c / 3) (Int.ne_of_gt (p10 (30:Int).toNat));have x1:=emod_lt_of_pos (c / 3) (p10 (30:Int).toNat);refine⟨_,U,_,_,U,U,⟨by decide,by decide⟩,_,_,U,U,⟨by decide,by decide,by decide⟩,_,_,U,U,p10 _,_,_,U,U,⟨by decide,by decide,by decide⟩,_,_,U,U,.inl ⟨by decide,by decide⟩,_,_,U,U,U,_,?_,?_,U⟩
  ·rw[p30]at x0 x1⊢;rw[p29];generalize ((10^30:Nat):Int)=A at x0 x1⊢;generalize ((10^29:Nat):Int)=B at *
   lia
  ·rw[p30]at x0 x1⊢;rw[p29];have:(0:Int)<=((10^29:Nat):Int):=Int.natCast_nonneg _;generalize ((10^30:Nat):Int)=A at x0 x1⊢;generalize ((10^29:Nat):Int)=B at *
   lia
 rintro σ1 H1 ⟨rfl,lo,g0,g1,rfl⟩;refine⟨λσ' H'=>H'=H1/\∃w:Int,0<=w/\w<((10^30:Nat):Int)/\σ'=[some (.int c),some (.int lo),some (.int w),none],?_,?_⟩
 ·have x0:=emod_nonneg (c / 7) (Int.ne_of_gt (p10 (30:Int).toNat));have x1:=emod_lt_of_pos (c / 7) (p10 (30:Int).toNat);refine⟨_,U,_,_,U,U,⟨by decide,by decide⟩,_,_,U,U,⟨by decide,by decide,by decide⟩,_,_,U,U,p10 _,U,_,x0,?_,U⟩;rw[p30]at x1⊢;exact x1
 rintro σ2 H2 ⟨rfl,w,w0,w1,rfl⟩;refine⟨_,U,_,_,U,U,(by show(0:Int)<3;decide),U,_,U,?_⟩;refine bM (λ_=>?_) (λ_=>?_)
 ·have y0:=emod_nonneg (c / 3) (show(6:Int)≠0 by decide);have y1:=emod_lt_of_pos (c / 3) (show(0:Int)<6 by decide);obtain⟨n,en⟩:∃n:Nat,1+c / 3%6=(n:Int):=⟨_,(toNat_of_nonneg (by lia)).symm⟩;refine⟨_,U,_,_,U,U,⟨by decide,by decide⟩,_,U,_,_,U,U,⟨by decide,by decide⟩,_,_,U,U,(by show(0:Int)<6;decide),_,_,U,U,c / 18,n,by rw[←en],by lia,λl H3 s3 nl el=>?_⟩;have hg:=tQ (c:=c / 18) (n:=n) (by lia) (by lia);have hl:=il (c / 18) n;generalize lws (c / 18) n=zs at el hg hl;have hm:(zs.map V.str).length=zs.length:=length_map _;refine⟨_,U,l,_,U,.inl (SqL.of el),_,_,U,U,_,U,(by show 3<=sizeLine;decide),λr hr=>?_⟩;refine q r ⟨0,((zs.map V.str).length:Int)-1,zs⟩ _ (s3.trans (af hr _)) ⟨l,s3.free hr,nl,ae,af hr _ _ _ el⟩ ⟨by show(0:Int)<=((zs.map V.str).length:Int)-1;lia,λ_=>⟨hg,U,by show((zs.map V.str).length:Int)-1=hiW zs;unfold hiW;rw[hm]⟩,λx x0 x1=>?_⟩;have x0:0<=x:=x0;have x1:x<=((zs.map V.str).length:Int)-1:=x1;exact zb x0 (by lia)
 refine⟨λσ' H'=>H'=H2/\∃w:Int,0<=w/\w<((10^30:Nat):Int)/\σ'=[some (.int c),some (.int lo),some (.int w),none],?_,?_⟩
 ·refine⟨_,U,_,_,U,U,(by show(0:Int)<3;decide),U,_,U,?_⟩;refine bM (λ_=>?_) (λ_=>⟨U,w,w0,w1,U⟩);have x0:=emod_nonneg (c / 7) (show(9:Int)≠0 by decide);have x1:=emod_lt_of_pos (c / 7) (show(0:Int)<9 by decide);refine⟨_,U,_,_,U,U,⟨by decide,by decide⟩,_,_,U,U,(by show(0:Int)<9;decide),U,_,x0,?_,U⟩;have:(9:Int)<=((10^30:Nat):Int):=by decide
  exact Int.lt_of_lt_of_le x1 this
 clear w0 w1 w;rintro σ3 H3 ⟨rfl,w,w0,w1,rfl⟩;refine⟨_,U,_,U,_,U,_,_,U,U,(by show 0<=sizeLine;decide),λl hl=>?_⟩;have u1:=af hl (.lst []);have e1:upd H3 l (.lst []) l=some (.lst []):=ae;generalize upd H3 l (.lst [])=H4 at u1 e1⊢;refine⟨(by show 3<=sizeLine;decide),λr hr=>?_⟩;refine q r ⟨lo,lo+w,[]⟩ _ (u1.trans (af hr _)) ⟨l,u1.free hr,hl,ae,af hr _ _ _ e1⟩ ⟨by show lo<=lo+w;lia,λh=>absurd U h,λx x0 x1=>?_⟩;have x0:lo<=x:=x0;have x1:x<=lo+w:=x1;refine zc ?_ ?_
 ·generalize (10^30:Nat)=A at *
  generalize (10^29:Nat)=B at *
  generalize (10^31:Nat)=C at *
  lia
 ·generalize (10^30:Nat)=A at *
  generalize (10^29:Nat)=B at *
  generalize (10^31:Nat)=C at *
  lia
theorem BY(F:Fun K "_law_row" "_law_row" Y33 f fd) (bl:Bl K mg yA yI yH yG ah yN yO yP yQ yR yS yT yU yV yW yX ai)(nW:Callee P w K mg base 1 "_law_spans" ["kind","one","two","domain"] (ee K yA yI yH yG ah yN yO yP yQ yR yS yT yU yV yW yX ai)):bg P w K mg base CX0 2 f fd ["columns","domains","pools","own","cell"] (gj K yA yI yH yG ah yN yO yP yQ yR yS yT yU yV yW yX ai):=by
 refine F.ok Z33 (λvs H Q E h=>?_) (λcdv A outer s H vs Q E hr h=>?_)
 ·obtain⟨cl,dl,pl,ow,c,cols,dv,pvs,ds,rfl,hcl,hdl,hds,hpl,hps,hlt,how,h10,q⟩:=h;rfl
 obtain⟨cl,dl,pl,ow,c,cols,dv,pvs,ds,rfl,hcl,hdl,hds,hpl,hps,hlt,how,h10,q⟩:=h
 refine⟨_,(ay (aL (i:=5) Z33.nd U (Or.inl U) (aC bA (pv 4) (aC nj aj aj)))
  (ay (aL (i:=6) Z33.nd U (Or.inl U) (aX ag))
  (ay (cO PassesOwn.never U (aW (pv 0)) (aK (i:=7) Z33.nd U (Or.inl U))
  (ay (aL (i:=8) Z33.nd U (Or.inl U) (aH aQ (aH aQ (pv 2) (pv 7) (λ_ _=>U)) (aC bA (pv 5) aj) (λ_ _=>U)))
  (ay (aL (i:=9) Z33.nd U (Or.inl U) (aH aQ (aH aQ (pv 2) (pv 7) (λ_ _=>U)) (aC bA (aC bU (pv 5) aj) aj) (λ_ _=>U)))
  (aE (bz (lz PySem.F.plainAttrs_list PySem.F.slot_list_append PySem.F.type_list_append eG (pv 6) (aa (br nW hr U (aa (aC bA (aC bU (pv 5) aj) aj) (aa (az (jP U) U bl.min_ PyProof.Rows.boot_min (aa (pv 8) (aa (pv 9) ag))) (aa (az (rj U) U bl.max_ PyProof.Rows.boot_max (aa (pv 8) (aa (pv 9) ag))) (aa (aH aQ (pv 1) (pv 7) (λ_ _=>U)) ag))))) ag)))
  (aq (aL (i:=5) Z33.nd U (Or.inl U) (aC bU (pv 5) aj)))))))
  (aq (aT (bc (aa (pv 6) (aa (aH aQ (aH aQ (pv 2) (pv 3) (λ_ _=>U)) (aC bA (pv 5) aj) (λ_ _=>U)) ag)))))))),?_⟩
 show(let r3:TS:=_;let r2:TS:=bp _ r3;let r1:TS:=bp _ r2;bp _ r1 _ _ _);intro _ _ _;refine⟨λσ' H'=>H'=H/\∃n:Int,σ'=[some (.ref cl),some (.ref dl),some (.ref pl),some (.int (ow:Int)),some (.int c),some (.int n),none,none,none,none],⟨_,U,_,_,U,U,⟨by decide,by decide,by decide⟩,_,_,U,U,p10 _,U,_,U⟩,?_⟩;rintro σ1 H1 ⟨rfl,n,rfl⟩;refine⟨λσ' H'=>au H1 H'/\∃pa:Addr,H1 pa=none/\H' pa=some (.lst [])/\σ'=[some (.ref cl),some (.ref dl),some (.ref pl),some (.int (ow:Int)),some (.int c),some (.int n),some (.ref pa),none,none,none],⟨(by show 0<=sizeLine;decide),λl hl=>⟨af hl _,l,hl,ae,U⟩⟩,?_⟩;rintro σ2 H2 ⟨s2,pa,npa,epa,rfl⟩;refine⟨λσ' H'=>au H1 H'/\∃(zs:List V)(pss:List Prs)(n:Int)(c7 c8 c9:Option V),H' pa=some (.lst zs)/\CL (Fr H1 pa) H' zs pss/\pss.length=cols.length/\(∀(j k:Nat)(ps:Prs)(p:PD),pss[j]?=some ps->cols[j]?=some k->ds[k]?=some p->∀x∈ps,p.lo<=x.1/\x.1<=x.2/\x.2<=p.hi)/\(∀ps∈pss,ps.length<=2)/\σ'=[some (.ref cl),some (.ref dl),some (.ref pl),some (.int (ow:Int)),some (.int c),some (.int n),some (.ref pa),c7,c8,c9],?_,?_⟩
 ·refine⟨_,U,cl,U,⟨_,SqL.of (s2 _ _ hcl)⟩,cR (xs:=vN cols) (λi σ H'=>au H1 H'/\∃(zs:List V)(pss:List Prs)(n:Int)(c7 c8 c9:Option V),H' pa=some (.lst zs)/\CL (Fr H1 pa) H' zs pss/\pss.length=i/\(∀(j k:Nat)(ps:Prs)(p:PD),pss[j]?=some ps->cols[j]?=some k->ds[k]?=some p->∀x∈ps,p.lo<=x.1/\x.1<=x.2/\x.2<=p.hi)/\(∀ps∈pss,ps.length<=2)/\σ=[some (.ref cl),some (.ref dl),some (.ref pl),some (.int (ow:Int)),some (.int c),some (.int n),some (.ref pa),c7,c8,c9]) ⟨s2,[],[],n,_,_,_,epa,ar.nil,U,(λj k ps p e=>by simp at e),(λps h=>by cases h),U⟩ (λi σ H' _ h=>SqL.of (h.1 _ _ hcl)) (λi y σ H' ey hh=>?_) (λσ H' hh=>?_)⟩
  ·obtain⟨sm,zs,pss,n,c7,c8,c9,ez,hz,hl,hin,qg,rfl⟩:=hh;obtain⟨k,rfl,ek⟩:=qW ey;have hk:=hlt k (Jy ek);have hi:i<cols.length:=(Jx.mp ek).1;have ep:=Jw hk;obtain⟨pa_,e1,hpo⟩:=hps.2 k _ ep;obtain⟨da,e2,hpd⟩:=hds.2 k _ ep;generalize ds[k]=p at ep hpo hpd;have hpo:=hpo.same sm;have hpd:=hpd.same sm;refine⟨λσ' H''=>H''=H'/\∃one:Int,p.lo<=one/\one<=p.hi/\σ'=[some (.ref cl),some (.ref dl),some (.ref pl),some (.int (ow:Int)),some (.int c),some (.int n),some (.ref pa),some (.int (k:Int)),some (.int one),c9],?_,?_⟩
   ·obtain⟨xs,x,q1,q2,q3,q4⟩:=hpo.pick (K:=K) n;exact⟨_,U,_,U,pl,_,_,_,U,U,SqL.of (sm _ _ hpl),aP e1,_,U,_,_,U,U,(by show(0:Int)<3;decide),pa_,_,_,_,U,U,q1,q2,U,x,q3,q4,U⟩
   rintro σ3 H3 ⟨rfl,one,a1,a2,rfl⟩;refine⟨λσ' H''=>H''=H3/\∃two:Int,p.lo<=two/\two<=p.hi/\σ'=[some (.ref cl),some (.ref dl),some (.ref pl),some (.int (ow:Int)),some (.int c),some (.int n),some (.ref pa),some (.int (k:Int)),some (.int one),some (.int two)],?_,?_⟩
   ·obtain⟨xs,x,q1,q2,q3,q4⟩:=hpo.pick (K:=K) (n / 3);exact⟨_,U,_,U,pl,_,_,_,U,U,SqL.of (sm _ _ hpl),aP e1,_,U,_,_,U,U,⟨by decide,by decide⟩,_,_,U,U,(by show(0:Int)<3;decide),pa_,_,_,_,U,U,q1,q2,U,x,q3,q4,U⟩
   rintro σ4 H4 ⟨rfl,two,b1,b2,rfl⟩;refine⟨_,U,.inl ⟨U,_,SqL.of ez⟩,_,U,_,_,U,U,⟨by decide,by decide⟩,_,_,U,U,(by show(0:Int)<6;decide),_,U,_,U,_,_,U,_,U,_,U,_,_,U,_,U,_,U,dl,_,_,_,U,U,SqL.of (sm _ _ hdl),aP e2,_,_,_,da,p,U,hpd,?_,?_,?_,λl ps H5 s5 hsp hb hl2=>?_⟩
   ·split <;> lia
   ·split <;> split <;> lia
   ·split <;> lia
   have ez5:=s5 _ _ ez;have n4:H4 l=none:=hsp.1;have nl:l≠pa:=λz=>by rw[z,ez]at n4;cases n4
   have hz2:CL (Fr H1 pa) H5 (zs++[.ref l]) (pss++[ps]):=ar.snoc (hz.same s5) ⟨⟨sm.free n4,nl⟩,hsp.2⟩;refine⟨pa,_,_,U,U,ez5,aw (by rw[hz.1];lia),_,U,_,_,U,U,⟨by decide,by decide⟩,(sm.trans s5).upd npa,zs++[.ref l],pss++[ps],_,_,_,_,ae,hz2.updN Fr.out ez5,by rw[length_append,hl];rfl,λj k' ps' p' f1 f2 f3=>?_,λps' h'=>?_,U⟩
   ·by_cases hj:j<pss.length
    ·rw[getElem?_append_left hj]at f1;exact hin j k' ps' p' f1 f2 f3
    ·have hj2:j=pss.length:=by have:=(Jx.mp f1).1;simp at this;lia
     subst hj2;simp at f1;subst f1;rw[hl,ek]at f2;cases f2;rw[ep]at f3;cases f3;exact hb
   ·rcases mem_append.mp h' with h' | h'
    ·exact qg ps' h'
    ·rw[show ps'=ps by simpa using h'];exact hl2
  ·obtain⟨sm,zs,pss,n,c7,c8,c9,ez,hz,hl,hin,qg,rfl⟩:=hh;exact⟨sm,zs,pss,n,_,_,_,ez,hz,by rw[hl,fC],hin,qg,U⟩
 rintro σ5 H5 ⟨s5,zs,pss,n,c7,c8,c9,ez,hz,hl,hin,qg,rfl⟩;obtain⟨po,e1,hpo⟩:=hps.2 ow _ (Jw how);obtain⟨xs,x,q1,q2,q3,q4⟩:=(hpo.same s5).pick (K:=K) n;refine⟨_,U,_,U,_,U,pl,_,_,_,U,U,SqL.of (s5 _ _ hpl),aP e1,_,U,_,_,U,U,(by show(0:Int)<3;decide),po,_,_,_,U,U,q1,q2,bf,λr hr=>?_⟩;have u:=af hr (.tup [.ref pa,.int x]);exact q r (pss,x) _ (s5.trans u) ⟨pa,zs,ae,npa,u _ _ ez,(hz.same u).wk λa h=>h.1⟩ ⟨hl,hin,qg,λp ep=>by rw[Jw how]at ep;cases ep;exact⟨q3,q4⟩⟩
theorem O_9(F:Fun K "__init__" "Numbers.__init__" Y9 f fd) (bl:Bl K mg yA yI yH yG ah yN yO yP yQ yR yS yT yU yV yW yX ai)(eU:bQ CX0 P w K mg base 1 "Domain" "__init__" ["self","low","high"] (bB K yA yI yH yG ah yN yO yP yQ yR yS yT yU yV yW yX ai)):bg P w K mg base CX0 2 f fd ["self","low","high"] (aS K yA yI yH yG ah yN yO yP yQ yR yS yT yU yV yW yX ai):=by
 refine F.ok Z9 (λvs H Q E h=>?_) (λcdv A outer s H vs Q E hr h=>?_)
 ·obtain⟨x,dx,lo,hi,rfl,hx,hle,q⟩:=h;rfl
 obtain⟨x,dx,lo,hi,rfl,hx,hle,q⟩:=h
 refine⟨_,(aE (aZ (aF fD (pv 1) (pv 2) (aN _))
  (aq cI)
  aM)
  (aq (bz (fi eU bP hr U (aa (pv 0) (aa (pv 1) (aa (pv 2) ag))))))),?_⟩
 show(let r1:TS:=_;cj _ r1 _ _ _);intro _;exact⟨_,U,_,U,_,_,U,U,_,U,jr (by lia) ⟨_,U,_,U,_,U,x,dx,lo,hi,U,hx,q⟩⟩
theorem O_5(F:Fun K "__init__" "First.__init__" Y5 f fd) (bl:Bl K mg yA yI yH yG ah yN yO yP yQ yR yS yT yU yV yW yX ai)(gR:bQ CX0 P w K mg base 1 "Way" "__init__" ["self","called"] (bZ K yA yI yH yG ah yN yO yP yQ yR yS yT yU yV yW yX ai)):bg P w K mg base CX0 2 f fd ["self"] (J0 K yO):=by
 refine F.ok Z5 (λvs H Q E h=>?_) (λcdv A outer s H vs Q E hr h=>?_)
 ·obtain⟨x,dx,rfl,hx,q⟩:=h;rfl
 obtain⟨x,dx,rfl,hx,q⟩:=h;refine⟨_,(aq (bz (fi gR bP hr U (aa (pv 0) (aa ba ag))))),?_⟩;exact⟨_,U,x,dx,_,U,hx,q⟩
theorem BZ(F:Fun K "__init__" "Only.__init__" Y10 f fd) (bl:Bl K mg yA yI yH yG ah yN yO yP yQ yR yS yT yU yV yW yX ai)(iy:bQ CX0 P w K mg base 1 "Way" "__init__" ["self","called"] (cz K yA yI yH yG ah yN yO yP yQ yR yS yT yU yV yW yX ai)):bg P w K mg base CX0 2 f fd ["self"] (J4 K yP):=by
 refine F.ok Z10 (λvs H Q E h=>?_) (λcdv A outer s H vs Q E hr h=>?_)
 ·obtain⟨x,dx,rfl,hx,q⟩:=h;rfl
 obtain⟨x,dx,rfl,hx,q⟩:=h;refine⟨_,(aq (bz (fi iy bP hr U (aa (pv 0) (aa ba ag))))),?_⟩;exact⟨_,U,x,dx,_,U,hx,q⟩
theorem O_7(F:Fun K "__init__" "Like.__init__" Y7 f fd) (bl:Bl K mg yA yI yH yG ah yN yO yP yQ yR yS yT yU yV yW yX ai)(iz:bQ CX0 P w K mg base 1 "Way" "__init__" ["self","called"] (cA K yA yI yH yG ah yN yO yP yQ yR yS yT yU yV yW yX ai)):bg P w K mg base CX0 2 f fd ["self"] (J2 K yQ):=by
 refine F.ok Z7 (λvs H Q E h=>?_) (λcdv A outer s H vs Q E hr h=>?_)
 ·obtain⟨x,dx,rfl,hx,q⟩:=h;rfl
 obtain⟨x,dx,rfl,hx,q⟩:=h;refine⟨_,(aq (bz (fi iz bP hr U (aa (pv 0) (aa ba ag))))),?_⟩;exact⟨_,U,x,dx,_,U,hx,q⟩
theorem O_8(F:Fun K "__init__" "Low.__init__" Y8 f fd) (bl:Bl K mg yA yI yH yG ah yN yO yP yQ yR yS yT yU yV yW yX ai)(iP:bQ CX0 P w K mg base 1 "Way" "__init__" ["self","called"] (cG K yA yI yH yG ah yN yO yP yQ yR yS yT yU yV yW yX ai)):bg P w K mg base CX0 2 f fd ["self"] (J3 K yR):=by
 refine F.ok Z8 (λvs H Q E h=>?_) (λcdv A outer s H vs Q E hr h=>?_)
 ·obtain⟨x,dx,rfl,hx,q⟩:=h;rfl
 obtain⟨x,dx,rfl,hx,q⟩:=h;refine⟨_,(aq (bz (fi iP bP hr U (aa (pv 0) (aa ba ag))))),?_⟩;exact⟨_,U,x,dx,_,U,hx,q⟩
theorem O_6(F:Fun K "__init__" "High.__init__" Y6 f fd) (bl:Bl K mg yA yI yH yG ah yN yO yP yQ yR yS yT yU yV yW yX ai)(iA:bQ CX0 P w K mg base 1 "Way" "__init__" ["self","called"] (cC K yA yI yH yG ah yN yO yP yQ yR yS yT yU yV yW yX ai)):bg P w K mg base CX0 2 f fd ["self"] (J1 K yS):=by
 refine F.ok Z6 (λvs H Q E h=>?_) (λcdv A outer s H vs Q E hr h=>?_)
 ·obtain⟨x,dx,rfl,hx,q⟩:=h;rfl
 obtain⟨x,dx,rfl,hx,q⟩:=h;refine⟨_,(aq (bz (fi iA bP hr U (aa (pv 0) (aa ba ag))))),?_⟩;exact⟨_,U,x,dx,_,U,hx,q⟩
theorem B1(F:Fun K "__init__" "Sum.__init__" Y11 f fd) (bl:Bl K mg yA yI yH yG ah yN yO yP yQ yR yS yT yU yV yW yX ai)(iQ:bQ CX0 P w K mg base 1 "Way" "__init__" ["self","called"] (cH K yA yI yH yG ah yN yO yP yQ yR yS yT yU yV yW yX ai)):bg P w K mg base CX0 2 f fd ["self"] (J5 K yT):=by
 refine F.ok Z11 (λvs H Q E h=>?_) (λcdv A outer s H vs Q E hr h=>?_)
 ·obtain⟨x,dx,rfl,hx,q⟩:=h;rfl
 obtain⟨x,dx,rfl,hx,q⟩:=h;refine⟨_,(aq (bz (fi iQ bP hr U (aa (pv 0) (aa ba ag))))),?_⟩;exact⟨_,U,x,dx,_,U,hx,q⟩
theorem O_3(F:Fun K "has_code" "Domain.has_code" Y3 f fd) (bl:Bl K mg yA yI yH yG ah yN yO yP yQ yR yS yT yU yV yW yX ai)(iR:Callee P w K mg base 1 "is_whole" ["value"] (dZ K yA yI yH yG ah yN yO yP yQ yR yS yT yU yV yW yX ai)):bg P w K mg base CX0 2 f fd ["self","value"] (bC K yA yI yH yG ah yN yO yP yQ yR yS yT yU yV yW yX ai):=by
 refine F.ok Z3 (λvs H Q E h=>?_) (λcdv A outer s H vs Q E hr h=>?_)
 ·obtain⟨a,b,i,rfl,⟨dx,fs,ha,hl,hh,_⟩,h1,h2,q⟩:=h;rfl
 obtain⟨a,b,i,rfl,⟨dx,fs,ha,hl,hh,_⟩,h1,h2,q⟩:=h;refine⟨_,(aq (aT (jK (br iR hr U (aa (pv 1) ag)) (lp (lq fb fb (bu (pv 0) U) (pv 1) (bu (pv 0) U)))))),?_⟩;refine⟨_,U,i,U,_,U,gC ?_⟩;refine⟨_,U,a,_,_,_,_,U,ha,bl.k_Numbers,bl.na_Numbers_low,hl,_,U,_,_,U,U,_,U,kx h1 ?_⟩;refine⟨_,U,a,_,_,_,_,U,ha,bl.k_Numbers,bl.na_Numbers_high,hh,_,_,U,U,?_⟩;show Q (.bl (decide (i<=b.2))) H;rw[decide_eq_true h2];exact q
theorem O_4(F:Fun K "has_code" "Domain.has_code" Y4 f fd) (bl:Bl K mg yA yI yH yG ah yN yO yP yQ yR yS yT yU yV yW yX ai)(iR:Callee P w K mg base 1 "is_whole" ["value"] (dZ K yA yI yH yG ah yN yO yP yQ yR yS yT yU yV yW yX ai)):bg P w K mg base CX0 2 f fd ["self","value"] (bJ K yA yI yH yG ah yN yO yP yQ yR yS yT yU yV yW yX ai):=by
 refine F.ok Z4 (λvs H Q E h=>?_) (λcdv A outer s H vs Q E hr h=>?_)
 ·obtain⟨a,b,i,rfl,⟨dx,fs,ha,hl,hh,_⟩,h1,h2,q⟩:=h;rfl
 obtain⟨a,b,i,rfl,⟨dx,fs,ha,hl,hh,_⟩,h1,h2,q⟩:=h;refine⟨_,(aq (aT (jK (br iR hr U (aa (pv 1) ag)) (lp (lq fb fb (bu (pv 0) U) (pv 1) (bu (pv 0) U)))))),?_⟩;refine⟨_,U,i,U,_,U,gC ?_⟩;refine⟨_,U,a,_,_,_,_,U,ha,bl.k_Words,bl.na_Words_low,hl,_,U,_,_,U,U,_,U,kx h1 ?_⟩;refine⟨_,U,a,_,_,_,_,U,ha,bl.k_Words,bl.na_Words_high,hh,_,_,U,U,?_⟩;show Q (.bl (decide (i<=b.2))) H;rw[decide_eq_true h2];exact q
theorem B2(F:Fun K "refuse_names" "refuse_names" Y44 f fd) (bl:Bl K mg yA yI yH yG ah yN yO yP yQ yR yS yT yU yV yW yX ai)(fQ:Callee P w K mg base 2 "is_word" ["text"] (dQ K yA yI yH yG ah yN yO yP yQ yR yS yT yU yV yW yX ai)):bg P w K mg base (CX1 P w) 3 f fd ["facts","tables"] (cb K yA yI yH yG ah yN yO yP yQ yR yS yT yU yV yW yX ai):=by
 refine F.okE Z44 (λvs H Q E h=>?_) (λcdv A outer s H vs Q E hr h=>?_)
 ·obtain⟨fa,ma,fv,mv,fs,ts,rfl,efa,ema,hB,q,qE⟩:=h;rfl
 obtain⟨fa,ma,fv,mv,fs,ts,rfl,efa,ema,hB,q,qE⟩:=h
 refine⟨_,(ay (cO (eH U U U) U (aW (pv 0)) (dh U (aO (aK (i:=2) Z44.nd U (Or.inl U)) (aO (aK (i:=3) Z44.nd U (Or.inl U)) cE)))
  (aq (aZ (iH (fu (br fQ hr U (aa (pv 2) ag))))
  (aq (dJ bl.x_BadName hr.hd U bl.BadName_ (aa (vW (pv 2)) ag)))
  aM)))
  (ay (aL (i:=4) Z44.nd U (Or.inl U) (aC cZ (jo (aW (pv 0)) (dj (N:=["name","domain"]) (k:=2) U U (by decide+kernel) (by decide+kernel) (by decide+kernel)) U (λ_ _ _ _=>(tq (K:=K) (n:=2) U U (aO (aK (i:=0) (show(["name","domain"]:List Str).Nodup by decide+kernel) U (Or.inl U) (Or.inr U)) (aO (aK (i:=1) (show(["name","domain"]:List Str).Nodup by decide+kernel) U (Or.inl U) (Or.inr U)) cE)))) (λ_ _ _ _=>bb) (λ_ _ _ _=>(pv 0))) (bq (aW (pv 1)) (bF U (by decide+kernel) (by decide+kernel) (by decide+kernel) U) U (λ_ _ _ _=>bb) (λ_ _ _ _=>(fY (K:=K) U (pv 0) U)))))
  (aE (aZ (aF pe (az fB U bl.len_ boot_len (aa (bO (fA U) U bl.set_ PyProof.Rows.boot_set (aa (pv 4) ag)) ag)) (az av U bl.len_ boot_len (aa (pv 4) ag)) (aN _))
  (aq (dJ bl.x_BadName hr.hd U bl.BadName_ (aa ba ag)))
  aM)
  (aq (cO (eH U U U) U (aW (pv 1)) (aK (i:=5) Z44.nd U (Or.inl U))
  (aq (cO (eH U U U) U (aW (bu (pv 5) U)) (aK (i:=2) Z44.nd U (Or.inl U))
  (aq (aZ (aF nB (pv 2) (pv 4) (by with_unfolding_all rfl))
  (aq (dJ bl.x_BadName hr.hd U bl.BadName_ (aa (vW (pv 2)) ag)))
  aM))))))))),?_⟩
 show(let r3:TS:=_;let r2:TS:=cj _ r3;let r1:TS:=bp _ r2;bp _ r1 _ _ _);intro _ _ _;obtain⟨b1,b2⟩:=hB.few;have hfl:fv.length=fs.length:=hB.facts.1;have hml:mv.length=ts.length:=hB.tabs.1;refine⟨λσ' H'=>H'=H/\(∀f∈fs,isw f.1=true)/\∃c2 c3:Option V,σ'=[some (.ref fa),some (.ref ma),c2,c3,none,none],?_,?_⟩
 ·refine⟨_,U,fa,U,⟨_,SqL.of efa⟩,cR (xs:=fv) (λi σ H'=>H'=H/\(∀f∈fs.take i,isw f.1=true)/\∃c2 c3:Option V,σ=[some (.ref fa),some (.ref ma),c2,c3,none,none]) ⟨U,(λf hf=>by simp at hf),_,_,U⟩ (λi σ H' _ h=>by rw[h.1];exact SqL.of efa) (λi y σ H' e h=>?_) (λσ H' h=>by rw[hfl,take_length]at h;exact h)⟩;obtain⟨e0,ha,c2,c3,rfl⟩:=h;rw[e0];obtain⟨r,f,rfl,ek,d,h3,h4⟩:=ar.get hB.facts e;have hz:=hB.sf f (Jy ek);have hz1:=hz.1;refine⟨r,_,U,SqT.of h3,U,_,_,U,_,_,U,U,?_⟩;refine⟨_,U,f.1,U,by lia,_,U,?_⟩;cases hw:isw f.1 with
  |true=>exact dF ⟨U,ip (P:=λf:Fc=>isw f.1=true) ek ha hw,_,_,U⟩
  |false=>exact gC ⟨_,U,f.1,U,by lia,hz.2,(by decide+kernel),λz2=>⟨(by show 1<=sizeLine;decide),qE (λg=>by rw[g.w f (Jy ek)]at hw;cases hw) H (au.refl H)⟩⟩
 rintro σ1 H1 ⟨e1,hwd,c2,c3,rfl⟩;rw[e1];clear e1;refine⟨λσ' H'=>au H H'/\∃na:Addr,H' na=some (.lst ((bN fs ts).map V.str))/\σ'=[some (.ref fa),some (.ref ma),c2,c3,some (.ref na),none],?_,?_⟩
 ·refine⟨_,U,fa,U,⟨_,SqL.of efa⟩,eL (xs:=fv) (λD i ys H'=>au H H'/\H' D=some (.lst ys)/\ys=((fs.take i).map (·.1)).map V.str) (λD hD=>⟨af hD _,ae,U⟩) (λD i ys H' hD _ h=>SqL.of (h.1 _ _ efa)) (λD i y ys H' hD e h ts_ hts=>?_) (λD ys H' hD h=>?_)⟩
  ·obtain⟨sm,eD,rfl⟩:=h;obtain⟨r,f,rfl,ek,d,h3,h4⟩:=ar.get hB.facts e;have hi:i<fv.length:=(Jx.mp e).1;obtain⟨t0,t1,rfl⟩:∃t0 t1,ts_=[t0,t1]:=by
    match ts_,hts with
    | [t0,t1],_=>exact⟨t0,t1,U⟩
   refine⟨r,_,U,SqT.of (sm _ _ h3),U,_,_,U,_,_,U,U,⟨[some (.str f.1),some (.ref d)],U,U⟩,?_⟩;refine⟨_,U,cn.mk (by lia) eD (aw (by rw[length_map,length_map,length_take];lia)) ⟨sm.upd hD,ae,?_⟩⟩;rw[take_snoc ek,map_append,map_append];rfl
  ·obtain⟨sm,eD,rfl⟩:=h;rw[hfl,take_length]at eD;refine⟨_,U,ma,U,⟨_,SqL.of (sm _ _ ema)⟩,bh (xs:=mv) (λD2 i ys H2=>au H' H2/\H2 D2=some (.lst ys)/\ys=((ts.take i).map BT.nm).map V.str) (λD2 hD2=>⟨af hD2 _,ae,U⟩) (λD2 i ys H2 hD2 _ h=>SqL.of (h.1 _ _ (sm _ _ ema))) (λD2 i y ys H2 hD2 e h=>?_) (λD2 ys H2 hD2 h=>?_)⟩
   ·obtain⟨s2,eD2,rfl⟩:=h;obtain⟨t_,t,rfl,ek,ou,dv,g4,g5,g6⟩:=ar.get hB.tabs e;obtain⟨rl,dx,na,dl,fs_,xs,ht,f1,f2,f3,f4,f5,f6,ena,edl,erl,hR,iO⟩:=g4;have hi:i<mv.length:=(Jx.mp e).1;have sA:=sm.trans s2;refine⟨_,U,t_,_,_,_,_,U,sA _ _ ht,bl.k_Table,bl.na_Table_name,f2,cn.mk hi eD2 (aw (by rw[length_map,length_map,length_take];lia)) ⟨s2.upd hD2,ae,?_⟩⟩;rw[take_snoc ek,map_append,map_append];rfl
   ·obtain⟨s2,eD2,rfl⟩:=h;rw[hml,take_length]at eD2;refine⟨D,D2,_,_,U,U,s2 _ _ eD,eD2,le_of_lt (aw (by simp only[length_map];lia)),λp hp=>⟨(sm.trans s2).trans (af hp _),p,?_,U⟩⟩;rw[ae];unfold bN;rw[map_append]
 rintro σ2 H2 ⟨s2,na,ena,rfl⟩;have hbl:(bN fs ts).length<=200:=by unfold bN;rw[length_append,length_map,length_map];lia
 have hnl:((bN fs ts).map V.str).length=(bN fs ts).length:=length_map _;refine⟨_,U,na,bN fs ts,U,SqL.of ena,by lia,λl hl2=>⟨l,bN fs ts,U,ae,by lia,_,U,na,_,U,.inl (SqL.of (af hl2 _ _ _ ena)),_,_,U,U,_,U,?_⟩⟩;have cf:=ia (bN fs ts) (bN fs ts).length (le_refl _);rw[take_length]at cf;have s3:=s2.trans (af hl2 (kC P w l (bN fs ts)));have B3:=af hl2 (kC P w l (bN fs ts)) _ _ ena;refine bM (λg=>?_) (λg=>?_)
 ·have g':=fF g;rw[hnl]at g';exact⟨(by show 1<=sizeLine;decide),qE (λgd=>by have:=cf.mpr gd.nd;lia) _ s3⟩
 have g':=fG g;rw[hnl]at g';have hnd:(bN fs ts).Nodup:=cf.mp (by have:=jq (bN fs ts) (bN fs ts).length;lia);refine⟨_,U,ma,U,⟨_,SqL.of (s3 _ _ ema)⟩,cR (xs:=mv) (λi σ H'=>au H H'/\H' na=some (.lst ((bN fs ts).map V.str))/\(∀t∈ts.take i,∀c∈t.cs,c∈bN fs ts)/\∃c2 c5:Option V,σ=[some (.ref fa),some (.ref ma),c2,c3,some (.ref na),c5]) ⟨s3,B3,(λt ht=>by simp at ht),_,_,U⟩ (λi σ H' _ h=>SqL.of (h.1 _ _ ema)) (λi y σ H' e h=>?_) (λσ H' h=>by rw[hml,take_length]at h;exact q ⟨hwd,hnd,h.2.2.1⟩ H' h.1)⟩;obtain⟨s4,zp,hal,d2,d5,rfl⟩:=h;obtain⟨t_,t,rfl,ek,ou,dv,g4,g5,g6⟩:=ar.get hB.tabs e;obtain⟨rl,dx,na2,dl,fs_,xs,ht,f1,f2,f3,f4,f5,f6,zq,edl,erl,hR,iO⟩:=g4;obtain⟨hsm,h4,_⟩:=hB.st t (Jy ek);have hcl:(t.cs.map V.str).length=t.cs.length:=length_map _;refine⟨_,U,t_,_,_,_,_,U,s4 _ _ ht,bl.k_Table,bl.na_Table_names,f5,na2,U,⟨_,SqL.of (s4 _ _ zq)⟩,cR (xs:=t.cs.map V.str) (λi σ H2=>H2=H'/\(∀c∈t.cs.take i,c∈bN fs ts)/\∃c2:Option V,σ=[some (.ref fa),some (.ref ma),c2,c3,some (.ref na),some (.ref t_)]) ⟨U,(λc hc=>by simp at hc),_,U⟩ (λi σ H2 _ h=>by rw[h.1];exact SqL.of (s4 _ _ zq)) (λi y σ H2 e h=>?_) (λσ H2 h=>by rw[hcl,take_length]at h;obtain⟨h1,h2,c,e⟩:=h;rw[h1];exact⟨s4,zp,ip (P:=λt:BT=>∀c∈t.cs,c∈bN fs ts) ek hal h2,c,_,e⟩)⟩;obtain⟨e0,hc,d2',rfl⟩:=h;rw[e0];obtain⟨z,rfl,ez⟩:=eO e;have hz:=hsm z (Jy ez);have hz1:=hz.1;refine⟨_,U,_,U,na,_,U,.inl (SqL.of zp),U,mZ _,_,U,?_⟩;rw[show(if true=true then !inV (V.str z) ((bN fs ts).map V.str)else inV (V.str z) ((bN fs ts).map V.str)) = !(bN fs ts).contains z by rw[if_pos U,pJ]];cases hm:(bN fs ts).contains z with
 |true=>exact dF ⟨U,ip (P:=λc=>c∈bN fs ts) ez hc (by simpa using hm),_,U⟩
 |false=>exact gC ⟨_,U,z,U,by lia,hz.2,(by decide+kernel),λz2=>⟨(by show 1<=sizeLine;decide),qE (λg=>by have:=g.al t (Jy ek) z (Jy ez);rw[show(bN fs ts).contains z=true by simpa using this]at hm;cases hm) H' s4⟩⟩
theorem B4(F:Fun K "refuse_names" "refuse_names" Y45 f fd) (bl:Bl K mg yA yI yH yG ah yN yO yP yQ yR yS yT yU yV yW yX ai)(fQ:Callee P w K mg base 2 "is_word" ["text"] (dQ K yA yI yH yG ah yN yO yP yQ yR yS yT yU yV yW yX ai)):bg P w K mg base CX0 3 f fd ["names"] (bW K yA yI yH yG ah yN yO yP yQ yR yS yT yU yV yW yX ai):=by
 refine F.ok Z45 (λvs H Q E h=>?_) (λcdv A outer s H vs Q E hr h=>?_)
 ·obtain⟨p,zs,rfl,hS,hw,hn,hl,q⟩:=h;rfl
 obtain⟨p,zs,rfl,hS,hw,hn,hl,q⟩:=h
 refine⟨_,(ay (cO PassesOwn.never U (aW (pv 0)) (aK (i:=1) Z45.nd U (Or.inl U))
  (aq (aZ (iH (fu (br fQ hr U (aa (pv 1) ag))))
  (aq cI)
  aM)))
  (aq (aZ (aF pe (az fB U bl.len_ boot_len (aa (bO (fA U) U bl.set_ PyProof.Rows.boot_set (aa (pv 0) ag)) ag)) (az av U bl.len_ boot_len (aa (pv 0) ag)) (aN _))
  (aq cI)
  aM))),?_⟩
 show(let r1:TS:=_;bp _ r1 _ _ _);intro _;have hlen:(zs.map V.str).length=zs.length:=length_map _;refine⟨λσ' H'=>H'=H/\∃c1:Option V,σ'=[some (.ref p),c1],?_,?_⟩
 ·refine⟨_,U,p,U,⟨_,hS⟩,cR (xs:=zs.map V.str) (λi σ H'=>H'=H/\∃c1:Option V,σ=[some (.ref p),c1]) ⟨U,_,U⟩ (λi σ H' _ h=>by rw[h.1];exact hS) (λi y σ H' e h=>?_) (λσ H' h=>h)⟩;obtain⟨e0,c1,rfl⟩:=h;rw[e0];obtain⟨z,rfl,ez⟩:=eO e;have hz1:=hw z (Jy ez);have hz:z.length<=1000:=by
   have hw2:=hz1;unfold isw at hw2;simp only[and_eq_true,decide_eq_true_eq]at hw2;lia
  refine⟨_,U,z,U,hz,_,U,?_⟩;rw[hz1];exact dF ⟨U,_,U⟩
 rintro σ2 H2 ⟨e2,c1,rfl⟩;rw[e2];refine⟨_,U,p,zs,U,hS,by lia,λl hl2=>⟨l,zs,U,ae,by lia,_,U,p,_,U,.inl ((af hl2 _).seq hS),_,_,U,U,_,U,?_⟩⟩;have cf:=ia zs zs.length (le_refl _);rw[take_length]at cf;exact jr (by rw[hlen,cf.mpr hn];lia) (q _ (af hl2 _))
theorem B5(F:Fun K "refuse_row" "refuse_row" Y47 f fd) (bl:Bl K mg yA yI yH yG ah yN yO yP yQ yR yS yT yU yV yW yX ai)(eV:d8 CX0 P w K mg base 2 yV "has_code" ["self","value"] (bC K yA yI yH yG ah yN yO yP yQ yR yS yT yU yV yW yX ai)) (fR:d8 CX0 P w K mg base 2 yW "has_code" ["self","value"] (bJ K yA yI yH yG ah yN yO yP yQ yR yS yT yU yV yW yX ai)):bg P w K mg base CX0 3 f fd ["domains","outcome","cells","code"] (dW K yA yI yH yG ah yN yO yP yQ yR yS yT yU yV yW yX ai):=by
 refine F.ok Z47 (λvs H Q E h=>?_) (λcdv A outer s H vs Q E hr h=>?_)
 ·obtain⟨dl,ou,cl,dv,xs,bs,o,w_,rfl,hD,hdv,hO,hC,hcl,ok,q⟩:=h;rfl
 obtain⟨dl,ou,cl,dv,xs,bs,o,w_,rfl,hD,hdv,hO,hC,hcl,ok,q⟩:=h
 refine⟨_,(aE (aZ (aF pd (az av U bl.len_ boot_len (aa (pv 2) ag)) (az av U bl.len_ boot_len (aa (pv 0) ag)) (aN _))
  (aq cI)
  aM)
  (ay (cO PassesOwn.never U (tG U bl.zip_ (aa (pv 0) (aa (pv 2) ag))) (dh U (aO (aK (i:=4) Z47.nd U (Or.inl U)) (aO (aK (i:=5) Z47.nd U (Or.inl U)) cE)))
  (aq (cO PassesOwn.never U (aW (pv 5)) (dh U (aO (aK (i:=6) Z47.nd U (Or.inl U)) (aO (aK (i:=7) Z47.nd U (Or.inl U)) cE)))
  (aq (aZ (PW.pt (kq (aF pe (pv 6) (bu (pv 4) U) (aN _)) (iG (aF fD (pv 7) (bu (pv 4) U) (aN _)))))
  (aq cI)
  aM)))))
  (aq (aZ (iH (fu (wY (yM eV bl.k_Numbers (yM fR bl.k_Words Bg)) bP hr (pv 1) (aa (pv 3) ag))))
  (aq cI)
  aM)))),?_⟩
 show(let r2:TS:=_;let r1:TS:=bp _ r2;cj _ r1 _ _ _);intro _ _;have hdf:∀(C:Addr),(C=yV\/C=yW)->Cls K C/\bx K C (Str.ofString "low")/\bx K C (Str.ofString "high"):=λC h=>by
  rcases h with rfl|rfl
  ·exact⟨bl.k_Numbers,bl.na_Numbers_low,bl.na_Numbers_high⟩
  ·exact⟨bl.k_Words,bl.na_Words_low,bl.na_Words_high⟩
 have hlen:xs.length=dv.length:=by rw[hcl.1,ok.len,hdv.1]
 refine⟨_,U,cl,_,U,.inl (SqL.of hC),_,U,dl,_,U,.inl (hD),U,_,U,sZ (by rw[hlen]) ?_⟩;refine⟨λσ' H'=>au H H'/\∃c4 c5 c6 c7:Option V,σ'=[some (.ref dl),some (.ref ou),some (.ref cl),some (.int w_.2),c4,c5,c6,c7],?_,?_⟩
 ·refine⟨_,U,_,U,dl,cl,U,⟨_,hD⟩,⟨_,SqL.of hC⟩,qU (xs:=dv) (ys:=xs) (λi σ H'=>au H H'/\∃c4 c5 c6 c7:Option V,σ=[some (.ref dl),some (.ref ou),some (.ref cl),some (.int w_.2),c4,c5,c6,c7]) ⟨au.refl _,_,_,_,_,U⟩ (λi σ H' h=>⟨h.1.seq hD,SqL.of (h.1 _ _ hC)⟩) (λi x y σ H' T ex ey h hT=>?_) (λσ H' h=>h)⟩;obtain⟨sm,c4,c5,c6,c7,rfl⟩:=h;have s2:=sm.trans (af hT (.tup [x,y]));have eT:upd H' T (.tup [x,y]) T=some (.tup [x,y]):=ae;generalize upd H' T (.tup [x,y])=H2 at s2 eT⊢;obtain⟨a,b,rfl,eb,hb⟩:=hdv.get ex;obtain⟨l,ps,rfl,ep,hl⟩:=ar.get hcl ey;obtain⟨C,hC',dx,fs,ha,f1,f2,_⟩:=hb.same s2;obtain⟨k1,k2,k3⟩:=hdf C hC';obtain⟨_,ys,el,hp⟩:=hl.same s2;refine⟨T,_,U,SqT.of eT,U,_,_,U,_,_,U,U,?_⟩;refine⟨_,U,l,U,⟨_,SqL.of el⟩,cR (xs:=ys) (λj σ H'=>H'=H2/\∃c6 c7:Option V,σ=[some (.ref dl),some (.ref ou),some (.ref cl),some (.int w_.2),some (.ref a),some (.ref l),c6,c7]) ⟨U,_,_,U⟩ (λj σ H' _ h=>by rw[h.1];exact SqL.of el) (λj y σ H' e h=>?_) (λσ H' h=>?_)⟩
  ·obtain⟨e0,c6,c7,rfl⟩:=h;rw[e0];obtain⟨p,r,e1,rfl,hr'⟩:=hp.get e;obtain⟨i1,i2⟩:=ok.inn i ps b ep eb p (Jy e1);refine⟨r,_,U,SqT.of hr',U,_,_,U,_,_,U,U,?_⟩;refine⟨_,U,_,U,a,_,_,_,_,U,ha,k1,k2,f1,_,_,U,U,_,U,jr (by lia) ?_⟩;exact⟨_,U,_,U,a,_,_,_,_,U,ha,k1,k3,f2,_,_,U,U,_,U,jr (by lia) ⟨U,_,_,U⟩⟩
  ·obtain⟨e0,c6,c7,rfl⟩:=h;rw[e0];exact⟨s2,_,_,_,_,U⟩
 rintro σ3 H3 ⟨s3,c4,c5,c6,c7,rfl⟩;obtain⟨C,hC',hd⟩:=hO.same s3;obtain⟨dx,fs,ha,f1,f2,f3⟩:=id hd;rcases hC' with rfl|rfl
 ·exact⟨_,U,ou,_,dx,fs,U,.head _,ha,f3,_,U,ou,o,w_.2,U,hd,ok.lo,ok.hi,_,U,dF (q _ s3)⟩
 ·exact⟨_,U,ou,_,dx,fs,U,.tail _ (.head _),ha,f3,_,U,ou,o,w_.2,U,hd,ok.lo,ok.hi,_,U,dF (q _ s3)⟩
theorem B6(F:Fun K "_law_book" "_law_book" Y27 f fd) (bl:Bl K mg yA yI yH yG ah yN yO yP yQ yR yS yT yU yV yW yX ai)(mC:Callee P w K mg base 2 "_law_domain" ["cell"] (dU K yA yI yH yG ah yN yO yP yQ yR yS yT yU yV yW yX ai)) (pR:Callee P w K mg base 2 "_law_pool" ["domain","cell"] (fm K yA yI yH yG ah yN yO yP yQ yR yS yT yU yV yW yX ai)) (cM:Callee P w K mg base 2 "_law_at" ["script","k"] (fP K yA yI yH yG ah yN yO yP yQ yR yS yT yU yV yW yX ai)) (gn:Callee P w K mg base 2 "_law_words" ["cell","count"] (dA K yA yI yH yG ah yN yO yP yQ yR yS yT yU yV yW yX ai)) (qw:Callee P w K mg base 2 "_law_row" ["columns","domains","pools","own","cell"] (gj K yA yI yH yG ah yN yO yP yQ yR yS yT yU yV yW yX ai)):bg P w K mg base CX0 3 f fd ["script"] (fq K yA yI yH yG ah yN yO yP yQ yR yS yT yU yV yW yX ai):=by
 refine F.ok Z27 (λvs H Q E h=>?_) (λcdv A outer s H vs Q E hr h=>?_)
 ·obtain⟨a,ns,rfl,hS,q⟩:=h;rfl
 obtain⟨a,ns,rfl,hS,q⟩:=h
 refine⟨_,(ay (aL (i:=1) Z27.nd U (Or.inl U) (aC bT aj (aC bA (br cM hr U (aa (pv 0) (aa aj ag))) aj)))
  (ay (aL (i:=2) Z27.nd U (Or.inl U) (aC bT (aC bT (pv 1) aj) (aC bA (aC bU (br cM hr U (aa (pv 0) (aa aj ag))) aj) aj)))
  (ay (aL (i:=3) Z27.nd U (Or.inr U) (bq (bG U bl.range_ (aa (pv 2) ag)) (aY (N:=["k","script"]) (fr:=[0]) (cl:=[("script",s.heap.objs.size+1)]) U U (by decide+kernel) (by decide+kernel) U (by decide+kernel) U U U (forall_mem_cons.mpr ⟨U,forall_mem_nil _⟩) U) U (λ_ _ _ _=>bb) (λ_ _ _ _=>(br mC hr U (aa (br cM hr U (aa (pv 1) (aa (aC bT aj (pv 0)) ag))) ag)))))
  (ay (fW (i:=4) Z27.nd U (Or.inl U) (bG U bl.range_ (aa (pv 2) ag)) (aY (N:=["k","script","domains"]) (fr:=[0,3]) (cl:=[("script",s.heap.objs.size+1),("domains",s.heap.objs.size+1+1)]) U U (by decide+kernel) (by decide+kernel) U (by decide+kernel) U U U (forall_mem_cons.mpr ⟨U,forall_mem_cons.mpr ⟨U,forall_mem_nil _⟩⟩) U) U (λ_ _ _ _=>bb) (λ_ _ _ _=>(br pR hr U (aa (aH (cy (K:=K) U) (pv 2) (pv 0) (λ_ _=>U)) (aa (br cM hr U (aa (pv 1) (aa (aC bT aj (pv 0)) ag))) ag)))))
  (ay (aL (i:=5) Z27.nd U (Or.inl U) (aX ag))
  (ay (cO PassesOwn.never U (mJ U bl.range_ (aa (pv 1) (aa (pv 2) ag))) (aK (i:=6) Z27.nd U (Or.inr U))
  (ay (aL (i:=7) Z27.nd U (Or.inr U) (br cM hr U (aa (pv 0) (aa (aC cY (aC bT aj (pv 6)) (pv 1)) ag))))
  (ay (fW (i:=8) Z27.nd U (Or.inl U) (bG U bl.range_ (aa (az (jP U) U bl.min_ PyProof.Rows.boot_min (aa (aC bT aj (aC bA (pv 7) aj)) (aa (pv 6) ag))) ag)) (aY (N:=["j","own","cell"]) (fr:=[6,7]) (cl:=[("own",s.heap.objs.size+1+1+1),("cell",s.heap.objs.size+1+1+1+1)]) U U (by decide+kernel) (by decide+kernel) U (by decide+kernel) U U U (forall_mem_cons.mpr ⟨U,forall_mem_cons.mpr ⟨U,forall_mem_nil _⟩⟩) U) U (λ_ _ _ _=>bb) (λ_ _ _ _=>(aC bA (aC bT (aC bU (pv 2) aj) (pv 0)) (pv 1))))
  (ay (aL (i:=9) Z27.nd U (Or.inl U) (aH aQ (aX (aa ba (aa ba (aa ba (aa ba (aa ba (aa ba ag))))))) (aC bA (aC bU (pv 7) aj) aj) (λ_ _=>U)))
  (ay (aZ (PW.pt (gJ (aF cw (pv 9) ba (aN _)) (eY (aF fD (az av U bl.len_ boot_len (aa (aH bX (aH aQ (pv 3) (pv 6) (λ_ _=>U)) aj (λ_ _=>U)) ag)) aj (aN _)))))
  (aq (aL (i:=9) Z27.nd U (Or.inl U) ba))
  aM)
  (aq (bz (lz PySem.F.plainAttrs_list PySem.F.slot_list_append PySem.F.type_list_append eG (pv 5) (aa (bc (aa (pv 8) (aa (pv 9) (aa (aX ag) ag)))) ag)))))))))
  (ay (cO PassesOwn.never U (mJ U bl.range_ (aa aj (aa (az (jP U) U bl.min_ PyProof.Rows.boot_min (aa (az av U bl.len_ boot_len (aa (pv 0) ag)) (aa aj ag))) ag))) (aK (i:=10) Z27.nd U (Or.inl U))
  (ay (aL (i:=6) Z27.nd U (Or.inr U) (aC bT (pv 1) (aC bA (pv 10) (az av U bl.len_ boot_len (aa (pv 5) ag)))))
  (ay (aL (i:=11) Z27.nd U (Or.inl U) (aH aQ (pv 5) (aC cY (pv 6) (pv 1)) (λ_ _=>U)))
  (aq (bz (lz PySem.F.plainAttrs_list PySem.F.slot_list_append PySem.F.type_list_append eG (aH bX (pv 11) aj (λ_ _=>U)) (aa (br qw hr U (aa (aH bX (pv 11) aj (λ_ _=>U)) (aa (pv 3) (aa (pv 4) (aa (pv 6) (aa (aH aQ (pv 0) (pv 10) (λ_ _=>U)) ag)))))) ag)))))))
  (aq (aT (bc (aa (br gn hr U (aa (br cM hr U (aa (pv 0) (aa aj ag))) (aa (pv 2) ag))) (aa (pv 3) (aa (pv 5) ag))))))))))))),?_⟩
 show(let r7:TS:=_;let r6:TS:=bp _ r7;let r5:TS:=bp _ r6;let r4:TS:=bp _ r5;let r3:TS:=bp _ r4;let r2:TS:=bp _ r3;let r1:TS:=bp _ r2;bp _ r1 _ _ _);intro _ _ _ _ _ _ _;refine⟨λσ' H'=>H'=H/\∃fN:Nat,1<=fN/\fN<=3/\σ'=[some (.ref a),some (.int (fN:Int)),none,none,none,none,none,none,none,none,none,none],⟨_,U,a,ns,0,U,hS,Int.le_refl _,λr=>⟨_,_,U,U,(by show(0:Int)<3;decide),_,_,U,U,U,(1+r%3).toNat,?_,?_,?_⟩⟩,?_⟩
 ·have:=emod_nonneg r (show(3:Int)≠0 by decide);lia
 ·have:=emod_lt_of_pos r (show(0:Int)<3 by decide);lia
 ·rw[toNat_of_nonneg (by have:=emod_nonneg r (show(3:Int)≠0 by decide);lia)];rfl
 rintro σ1 H1 ⟨rfl,fN,hf1,hf3,rfl⟩;refine⟨λσ' H'=>H'=H1/\∃tN:Nat,fN<tN/\tN<=fN+4/\σ'=[some (.ref a),some (.int (fN:Int)),some (.int (tN:Int)),none,none,none,none,none,none,none,none,none],⟨_,U,_,_,U,U,_,U,a,ns,0,U,hS,Int.le_refl _,λr=>⟨_,_,U,U,⟨by decide,by decide⟩,_,_,U,U,(by show(0:Int)<4;decide),_,_,U,U,U,((fN:Int)+1+r / 3%4).toNat,?_,?_,?_⟩⟩,?_⟩
 ·have:=emod_nonneg (r / 3) (show(4:Int)≠0 by decide);lia
 ·have:=emod_lt_of_pos (r / 3) (show(0:Int)<4 by decide);lia
 ·rw[toNat_of_nonneg (by have:=emod_nonneg (r / 3) (show(4:Int)≠0 by decide);lia)];rfl
 rintro σ2 H2 ⟨rfl,tN,ht1,ht4,rfl⟩;refine⟨λσ' H'=>au H2 H'/\∃(dl:Addr)(dv:List V)(ds:List PD),H' dl=some (.lst dv)/\ar dv ds (PDA NT H')/\ds.length=tN/\(∀p∈ds,qr p)/\σ'=[some (.ref a),some (.int (fN:Int)),some (.int (tN:Int)),some (.ref dl),none,none,none,none,none,none,none,none],?_,?_⟩
 ·refine⟨_,U,_,U,(by lia),(by lia),bH (λD i zs H'=>au H2 H'/\H' D=some (.lst zs)/\∃ds:List PD,ar zs ds (PDA (· ≠ D) H')/\ds.length=i/\∀p∈ds,qr p) (λD hD=>⟨af hD _,ae,[],ar.nil,U,(λp hp=>by cases hp)⟩) (λD i zs H' hD hi hh=>?_) (λD zs H' hD hh=>?_)⟩
  ·obtain⟨sm,eD,ds,hz,hl,hok⟩:=hh;refine⟨_,U,_,U,_,_,U,U,a,ns,_,U,sm.seq hS,(by show 0<=2+(0+(i:Int));lia),λr=>⟨r,U,λl p H3 s3 hp ok=>?_⟩⟩;have eD3:=s3 _ _ eD;have hp2:PDA (· ≠ D) H3 l p:=hp.wk λx hx z=>by rw[z,eD]at hx;cases hx
   have hz2:ar (zs++[.ref l]) (ds++[p]) (PDA (· ≠ D) H3):=ar.snoc (ar.mono hz λ_ _ p=>p.same s3) hp2;refine cn.mk hi eD3 (aw (by have:=hz.1;lia)) ⟨(sm.trans s3).upd hD,ae,ds++[p],ar.mono hz2 λ_ _ p=>p.updN (λz=>z U) eD3,by rw[length_append,hl];rfl,λp' hp'=>?_⟩;rcases mem_append.mp hp' with hp' | hp'
   ·exact hok p' hp'
   ·rw[show p'=p by simpa using hp'];exact ok
  ·obtain⟨sm,eD,ds,hz,hl,hok⟩:=hh;rw[toNat_natCast]at hl;exact⟨sm,D,zs,ds,eD,ar.mono hz (λ_ _ p=>p.wk λ_ _=>trivial),hl,hok,U⟩
 rintro σ3 H3 ⟨s3,dl,dv,ds,edl,hds,hdn,zr,rfl⟩;refine⟨λσ' H'=>au H3 H'/\∃(po:Addr)(pvs:List V),H' po=some (.lst pvs)/\ar pvs ds (PoA NT H')/\σ'=[some (.ref a),some (.int (fN:Int)),some (.int (tN:Int)),some (.ref dl),some (.ref po),none,none,none,none,none,none,none],?_,?_⟩
 ·refine⟨_,U,_,U,(by lia),(by lia),bH (λD i zs H'=>au H3 H'/\H' D=some (.lst zs)/\ar zs (ds.take i) (PoA (· ≠ D) H')) (λD hD=>⟨af hD _,ae,ar.nil⟩) (λD i zs H' hD hi hh=>?_) (λD zs H' hD hh=>?_)⟩
  ·obtain⟨sm,eD,hz⟩:=hh;rw[toNat_natCast]at hi;have ep:=Jw (l:=ds) (i:=i) (by lia);obtain⟨da,e2,hpd⟩:=hds.2 i _ ep;generalize ds[i]=p at ep hpd;have ix:atI dv (0+(i:Int))=some (.ref da):=by rw[zero_add];exact aP e2
   refine⟨_,U,_,U,dl,_,_,_,U,U,SqL.of (sm _ _ edl),ix,_,U,_,U,_,_,U,U,a,ns,_,U,(s3.trans sm).seq hS,(by show 0<=9+(0+(i:Int));lia),λr=>⟨da,p,r,U,hpd.same sm,zr p (Jy ep),λl xs H4 s4 nl el hl hx=>?_⟩⟩;have eD4:=s4 _ _ eD;have nD:l≠D:=λz=>by rw[z,eD]at nl;cases nl
   have hz2:ar (zs++[.ref l]) (ds.take i++[p]) (PoA (· ≠ D) H4):=ar.snoc (ar.mono hz λ_ _ p=>p.same s4) ⟨nD,xs,el,hl,hx⟩;refine cn.mk (by rw[toNat_natCast];exact hi) eD4 (aw (by have:=hz.1;rw[length_take]at this;lia)) ⟨(sm.trans s4).upd hD,ae,?_⟩;rw[take_snoc ep];exact ar.mono hz2 λ_ _ p=>p.updN λz=>z U
  ·obtain⟨sm,eD,hz⟩:=hh;rw[toNat_natCast,←hdn,take_length]at hz;exact⟨sm,D,zs,eD,ar.mono hz (λ_ _ p=>p.any),U⟩
 rintro σ4 H4 ⟨s4,po,pvs,epo,hpo,rfl⟩;have s14:=s3.trans s4;refine⟨λσ' H'=>au H4 H'/\∃tb:Addr,H4 tb=none/\H' tb=some (.lst [])/\σ'=[some (.ref a),some (.int (fN:Int)),some (.int (tN:Int)),some (.ref dl),some (.ref po),some (.ref tb),none,none,none,none,none,none],⟨(by show 0<=sizeLine;decide),λl hl=>⟨af hl _,l,hl,ae,U⟩⟩,?_⟩;rintro σ5 H5 ⟨s5,tb,ntb,etb,rfl⟩;have s25:=s14.trans s5;refine⟨λσ' H'=>au H4 H'/\∃(tv:List V)(ts:List ((List Nat×Str)×Addr))(c6 c7 c8 c9:Option V),H' tb=some (.lst tv)/\ar tv ts (TT (hideL H' (tb :: rls ts)))/\ts.length=tN-fN/\(rls ts).Nodup/\(∀x∈rls ts,H4 x=none/\x≠tb/\H' x=some (.lst []))/\(∀(j:Nat)(t:(List Nat×Str)×Addr),ts[j]?=some t->xk fN ds j t.1)/\σ'=[some (.ref a),some (.int (fN:Int)),some (.int (tN:Int)),some (.ref dl),some (.ref po),some (.ref tb),c6,c7,c8,c9,none,none],?_,?_⟩
 ·refine⟨_,U,_,U,_,_,U,⟨by lia,by lia,by lia,by lia⟩,hV (λi σ H'=>au H4 H'/\∃(tv:List V)(ts:List ((List Nat×Str)×Addr))(c6 c7 c8 c9:Option V),H' tb=some (.lst tv)/\ar tv ts (TT (hideL H' (tb :: rls ts)))/\ts.length=i/\(rls ts).Nodup/\(∀x∈rls ts,H4 x=none/\x≠tb/\H' x=some (.lst []))/\(∀(j:Nat)(t:(List Nat×Str)×Addr),ts[j]?=some t->xk fN ds j t.1)/\σ=[some (.ref a),some (.int (fN:Int)),some (.int (tN:Int)),some (.ref dl),some (.ref po),some (.ref tb),c6,c7,c8,c9,none,none]) ⟨s5,[],[],_,_,_,_,etb,ar.nil,U,nodup_nil,(λx hx=>by cases hx),(λj t e=>by simp at e),U⟩ (λi σ H' hi hh=>?_) (λσ H' hh=>?_)⟩
  ·obtain⟨sm,tv,ts,c6,c7,c8,c9,etv,htv,htl,hnd,hrl,vG,rfl⟩:=hh;have hi2:i<tN-fN:=by lia
   obtain⟨ow,how⟩:∃ow:Nat,(fN:Int)+(i:Int)=(ow:Int):=⟨fN+i,by lia⟩;have Jp:ow=fN+i:=by lia
   rw[how];refine⟨λσ' H''=>H''=H'/\∃c:Int,σ'=[some (.ref a),some (.int (fN:Int)),some (.int (tN:Int)),some (.ref dl),some (.ref po),some (.ref tb),some (.int (ow:Int)),some (.int c),c8,c9,none,none],⟨_,U,_,U,_,_,U,U,_,U,_,_,U,U,a,ns,_,U,(s14.trans sm).seq hS,(by show 0<=16+(ow:Int)-(fN:Int);lia),λr=>⟨U,r,U⟩⟩,?_⟩;rintro σa Ha ⟨rfl,c,rfl⟩;obtain⟨m,em,m1,m3,mo⟩:=vo (c:=c) (ow:=ow) (by lia);refine⟨λσ' H''=>au Ha H''/\∃cl:Addr,Ha cl=none/\H'' cl=some (.lst (vN (clm c ow m)))/\σ'=[some (.ref a),some (.int (fN:Int)),some (.int (tN:Int)),some (.ref dl),some (.ref po),some (.ref tb),some (.int (ow:Int)),some (.int c),some (.ref cl),c9,none,none],?_,?_⟩
   ·refine⟨_,U,_,_,U,U,(by show(0:Int)<3;decide),_,_,U,U,_,U,_,_,U,_,U,(by rw[em];lia),(by rw[em];lia),bH (λD i zs H''=>au Ha H''/\H'' D=some (.lst zs)/\zs=vN (clm c ow i)) (λD hD=>⟨af hD _,ae,U⟩) (λD i zs H'' hD hi hh=>?_) (λD zs H'' hD hh=>?_)⟩
    ·obtain⟨sm2,eD,rfl⟩:=hh;rw[em,toNat_natCast]at hi;have v0:=emod_nonneg (c / 3+(0+(i:Int))) (show(ow:Int)≠0 by lia);refine⟨_,U,_,_,U,U,⟨by decide,by decide⟩,_,U,_,_,U,U,_,U,_,_,U,U,(by show(0:Int)<(ow:Int);lia),cn.mk (by rw[em,toNat_natCast];exact hi) eD (aw (by rw[fC,nP];lia)) ⟨sm2.upd hD,ae,?_⟩⟩;rw[tR,toNat_of_nonneg v0]
    ·obtain⟨sm2,eD,rfl⟩:=hh;rw[em,toNat_natCast]at eD;exact⟨sm2,D,hD,eD,U⟩
   rintro σb Hb ⟨sb,cl,ncl,ecl,rfl⟩;refine⟨λσ' H''=>au Hb H''/\∃wy:Str,wy∈six/\σ'=[some (.ref a),some (.int (fN:Int)),some (.int (tN:Int)),some (.ref dl),some (.ref po),some (.ref tb),some (.int (ow:Int)),some (.int c),some (.ref cl),some (.str wy),none,none],?_,?_⟩
   ·refine⟨(by show 6<=sizeLine;decide),λp6 hp6=>?_⟩;have w0:=emod_nonneg (c / 50) (show(6:Int)≠0 by decide);have w1:=emod_lt_of_pos (c / 50) (show(0:Int)<6 by decide);obtain⟨k,ek⟩:∃k:Nat,c / 50%6=(k:Int):=⟨_,(toNat_of_nonneg w0).symm⟩;have hk:k<six.length:=by show k<6;lia
    have e6:=Jw hk;have ex:atI [V.str (Str.ofString "first"),.str (Str.ofString "only"),.str (Str.ofString "like"),.str (Str.ofString "low"),.str (Str.ofString "high"),.str (Str.ofString "sum")] (c / 50%6)=some (.str six[k]):=by
     rw[ek];exact aP (xs:=six.map V.str) (by rw[getElem?_map,e6];rfl)
    exact⟨_,U,_,_,U,U,⟨by decide,by decide⟩,_,_,U,U,(by show(0:Int)<6;decide),p6,_,_,_,U,U,SqL.of ae,ex,af hp6 _,_,Jy e6,U⟩
   rintro σc Hc ⟨sc,wy0,hw6,rfl⟩;have sac:=sb.trans sc;have ep:=Jw (l:=ds) (i:=ow) (by lia);obtain⟨da,e2,hpd⟩:=hds.2 ow _ ep;generalize ds[ow]=p at ep hpd;have s3c:=(s4.trans sm).trans sac;obtain⟨wl,_,_,f1,f2⟩:=hpd.same s3c;refine⟨λσ' H''=>H''=Hc/\∃wy:Str,wy∈six/\(wy=Str.ofString "sum" -> p.ws=[])/\σ'=[some (.ref a),some (.int (fN:Int)),some (.int (tN:Int)),some (.ref dl),some (.ref po),some (.ref tb),some (.int (ow:Int)),some (.int c),some (.ref cl),some (.str wy),none,none],?_,?_⟩
   ·refine⟨_,U,U,_,U,?_⟩;refine bM (λg=>?_) (λg=>?_)
    ·refine⟨_,U,_,U,dl,_,_,_,U,U,SqL.of (s3c _ _ edl),aP e2,da,_,_,_,U,U,SqT.of f1,U,wl,_,U,.inl (SqL.of f2),_,_,U,U,_,U,?_⟩;refine bM (λg2=>?_) (λg2=>?_)
     ·exact⟨U,Str.ofString "high",by unfold six;simp,(λz=>absurd z (by decide+kernel)),U⟩
     ·refine⟨U,wy0,hw6,λ_=>?_,U⟩;have:¬ ((0:Int)<(((p.ws.map V.str).length:Nat):Int)):=λh=>g2 (decide_eq_true h)
      rw[length_map]at this;exact length_eq_zero_iff.mp (by lia)
    ·refine⟨U,wy0,hw6,λz=>absurd ?_ g,U⟩;rw[z];exact decide_eq_true U
   rintro σd Hd ⟨rfl,wy,hwy,B7,rfl⟩;have etd:=sac _ _ etv;refine⟨_,U,.inl ⟨U,_,SqL.of etd⟩,_,U,_,U,(by show 0<=sizeLine;decide),λx hx=>?_⟩;have u1:=af hx (.lst []);have ex:upd Hd x (.lst []) x=some (.lst []):=ae;generalize upd Hd x (.lst [])=He at u1 ex⊢;refine⟨(by show 3<=sizeLine;decide),λr hr=>?_⟩;have u2:=af hr (.tup [.ref cl,.str wy,.ref x]);have er:upd He r (.tup [.ref cl,.str wy,.ref x]) r=some (.tup [.ref cl,.str wy,.ref x]):=ae;generalize upd He r (.tup [.ref cl,.str wy,.ref x])=Hf at u2 er⊢;have saf:=(sac.trans u1).trans u2;have etf:=saf _ _ etv;refine⟨tb,_,_,U,U,etf,aw (by have:=htv.1;lia),?_⟩;have nxa:Ha x=none:=sac.free hx;have nx4:H4 x=none:=sm.free nxa;have nxt:x≠tb:=λz=>by rw[z,etv]at nxa;cases nxa
   have clx:cl≠x:=λz=>by rw[←z,sc _ _ ecl]at hx;cases hx
   have old:∀b∈tb :: rls ts,∃zs,Ha b=some (.lst zs):=λb hb=>by
    rcases mem_cons.mp hb with rfl|hb
    ·exact⟨_,etv⟩
    ·exact⟨_,(hrl b hb).2.2⟩
   have zt:cl ∉ tb :: rls ts:=λhm=>by obtain⟨zs,e⟩:=old cl hm;rw[e]at ncl;cases ncl
   have nxF:x ∉ tb :: rls ts:=λhm=>by obtain⟨zs,e⟩:=old x hm;rw[e]at nxa;cases nxa
   have nrF:r ∉ tb :: rls ts:=λhm=>by obtain⟨zs,e⟩:=old r hm;have:=saf _ _ e;rw[er]at this;cases this
   have nrx:r≠x:=λz=>by have:=u2 _ _ ex;rw[←z,er]at this;cases this
   have eF:rls (ts++[((clm c ow m,wy),x)])=rls ts++[x]:=tS ..;have inF:∀b,b ∉ tb :: rls ts->b≠x->b ∉ tb :: (rls ts++[x]):=λb h1 h2 hm=>by
    rcases mem_cons.mp hm with z|hm
    ·exact h1 (by rw[z];exact mem_cons_self)
    ·rcases mem_append.mp hm with hm|hm
     ·exact h1 (mem_cons_of_mem _ hm)
     ·exact h2 (by simpa using hm)
   have gr:au (hideL Ha (tb :: rls ts)) (hideL (upd Hf tb (.lst (tv++[.ref r]))) (tb :: (rls ts++[x]))):=m9 λb o hb e=>by
    refine⟨(aD λz=>hb (by rw[z];exact mem_cons_self)).trans (saf _ _ e),inF b hb λz=>?_⟩;rw[z,nxa]at e;cases e
   have hT:TT (hideL (upd Hf tb (.lst (tv++[.ref r]))) (tb :: (rls ts++[x]))) r ((clm c ow m,wy),x):=by
    refine⟨cl,dq ((aD λz=>nrF (by rw[z];exact mem_cons_self)).trans er) (inF r nrF nrx),dq ((aD λz=>zt (by rw[z];exact mem_cons_self)).trans (u2 _ _ (u1 _ _ (sc _ _ ecl)))) (inF cl zt clx)⟩
   refine⟨(sm.trans saf).upd ntb,tv++[.ref r],ts++[((clm c ow m,wy),x)],_,_,_,_,ae,?_,by rw[length_append,htl];rfl,?_,λy hy=>?_,λj t e=>?_,U⟩
   ·rw[eF];exact ar.snoc (ar.mono htv λ_ _ p=>p.same gr) hT
   ·rw[eF];refine nodup_append.mpr ⟨hnd,by simp,λy hy z hz=>?_⟩;rw[show z=x by simpa using hz];exact λe=>nxF (by rw[←e];exact mem_cons_of_mem _ hy)
   ·rw[eF]at hy;rcases mem_append.mp hy with hy|hy
    ·obtain⟨y1,y2,y3⟩:=hrl y hy;exact⟨y1,y2,(aD y2).trans (saf _ _ y3)⟩
    ·rw[show y=x by simpa using hy];exact⟨nx4,nxt,(aD nxt).trans (u2 _ _ ex)⟩
   ·by_cases hj:j<ts.length
    ·rw[getElem?_append_left hj]at e;exact vG j t e
    ·have hj2:j=ts.length:=by have:=(Jx.mp e).1;simp at this;lia
     subst hj2;simp at e;subst e;have eo:fN+ts.length=ow:=by lia
     refine⟨by show 1<=(clm c ow m).length;rw[nP];exact m1,by show(clm c ow m).length<=3;rw[nP];exact m3,λk hk=>?_,xm (by lia) mo,hwy,λz p' ep'=>?_⟩
     ·rw[eo];exact xl (by lia) k hk
     ·rw[eo,ep]at ep';cases ep';exact B7 z
  ·obtain⟨sm,tv,ts,c6,c7,c8,c9,r⟩:=hh;rw[show((tN:Int)-(fN:Int)).toNat=tN-fN by lia]at r;exact⟨sm,tv,ts,c6,c7,c8,c9,r⟩
 rintro σ6 H6 ⟨s6,tv,ts,c6,c7,c8,c9,etv,htv,htl,hnd,hrl,vG,rfl⟩;have hF4:∀x∈rls ts,H4 x=none:=λx hx=>(hrl x hx).1
 have hB4:au H4 (hideL H6 (rls ts)):=qt s6 hF4;have ntF:tb ∉ rls ts:=λhm=>(hrl tb hm).2.1 U
 have etB:hideL H6 (rls ts) tb=some (.lst tv):=dq etv ntF;have htB:ar tv ts (TT (hideL H6 (rls ts))):=ar.mono htv λ_ _ p=>p.same (m9 λb o hb e=>⟨e,λhm=>hb (mem_cons_of_mem _ hm)⟩)
 generalize hB:hideL H6 (rls ts)=B at hB4 etB htB;have hn1:1<=ts.length:=by lia
 have B8:tv.length=ts.length:=htv.1;refine⟨λσ' H'=>au H4 H'/\au B (hideL H' (rls ts))/\∃(rss:List (List Rw))(c6 c7 c8 c9 c10 c11:Option V),RwI H' (rls ts) fN ds ts rss 120/\σ'=[some (.ref a),some (.int (fN:Int)),some (.int (tN:Int)),some (.ref dl),some (.ref po),some (.ref tb),c6,c7,c8,c9,c10,c11],?_,?_⟩
 ·obtain⟨mx,emx,Jq,Jr⟩:∃mx:Int,(if (122:Int)<(((ns.map V.int).length:Nat):Int) then(122:Int) else(((ns.map V.int).length:Nat):Int))=mx/\mx<=122/\mx<=(ns.length:Int):=by
   refine⟨_,U,?_,?_⟩ <;> rw[length_map] <;> split <;> lia
  have Js:0<=mx:=by rw[←emx];split <;> lia
  refine⟨_,U,a,_,U,.inl ((s14.trans s6).seq hS),_,_,U,_,_,U,(by rw[emx];exact⟨by decide,by decide,by lia,by lia⟩),?_⟩;rw[emx];refine hV (λi σ H'=>au H4 H'/\au B (hideL H' (rls ts))/\∃(rss:List (List Rw))(c6 c7 c8 c9 c10 c11:Option V),RwI H' (rls ts) fN ds ts rss i/\σ=[some (.ref a),some (.int (fN:Int)),some (.int (tN:Int)),some (.ref dl),some (.ref po),some (.ref tb),c6,c7,c8,c9,c10,c11]) ⟨s6,by rw[hB];exact au.refl B,List.replicate ts.length [],_,_,_,_,_,_,⟨by rw[length_replicate],λj t rs e1 e2=>?_⟩,U⟩ (λi σ H' hi hh=>?_) (λσ H' hh=>?_)
  ·rw[getElem?_replicate]at e2;split at e2
   ·cases e2;exact⟨⟨[],(hrl t.2 (kK e1)).2.2,ar.nil⟩,(λw hw=>by cases hw),zero_le _⟩
   ·cases e2
  ·obtain⟨sm,sB,rss,c6,c7,c8,c9,c10,c11,hrw,rfl⟩:=hh;have hi2:i<(mx-2).toNat:=hi;have zu:=eQ _ _ _ _ (sB _ _ etB);have xq:(0:Int)<((tv.length:Nat):Int):=by lia
   obtain⟨jj,ejj⟩:∃jj:Nat,(2+(i:Int))%((tv.length:Nat):Int)=(jj:Int):=⟨_,(toNat_of_nonneg (emod_nonneg _ (Int.ne_of_gt xq))).symm⟩;have hjj:jj<ts.length:=by have:=emod_lt_of_pos (2+(i:Int)) xq;lia
   have et:=Jw hjj;obtain⟨r,er,hT⟩:=htB.2 jj _ et;obtain⟨rs,ers⟩:∃rs,rss[jj]?=some rs:=⟨_,Jw (by rw[hrw.1];exact hjj)⟩;generalize ts[jj]=t at et hT;have hT':=(hT.same sB).same (eQ _ _);obtain⟨cl,g1,g2⟩:=hT';obtain⟨⟨zs,ez,hzr⟩,Jt,hlen⟩:=hrw.2 jj t rs et ers;have tok:=vG jj t et;refine⟨λσ' H''=>H''=H'/\σ'=[some (.ref a),some (.int (fN:Int)),some (.int (tN:Int)),some (.ref dl),some (.ref po),some (.ref tb),some (.int ((fN+jj:Nat):Int)),c7,c8,c9,some (.int (2+(i:Int))),c11],⟨_,U,_,U,_,U,tb,_,U,.inl (SqL.of zu),_,_,U,U,xq,_,_,U,U,U,?_⟩,?_⟩
   ·rw[show((fN+jj:Nat):Int)=(fN:Int)+(2+(i:Int))%((tv.length:Nat):Int) by rw[ejj];lia];rfl
   rintro σa Ha ⟨rfl,rfl⟩;have ix:atI tv (((fN+jj:Nat):Int)-(fN:Int))=some (.ref r):=by
    rw[show((fN+jj:Nat):Int)-(fN:Int)=(jj:Int) by lia];exact aP er
   refine⟨λσ' H''=>H''=Ha/\σ'=[some (.ref a),some (.int (fN:Int)),some (.int (tN:Int)),some (.ref dl),some (.ref po),some (.ref tb),some (.int ((fN+jj:Nat):Int)),c7,c8,c9,some (.int (2+(i:Int))),some (.ref r)],⟨_,U,_,U,_,U,_,_,U,U,tb,_,_,_,U,U,SqL.of zu,ix,U,U⟩,?_⟩;rintro σb Hb ⟨rfl,rfl⟩;have s4b:=hB4.trans (sB.trans (eQ _ _));have hk:2+i<ns.length:=by lia
   have es:=Jw hk;have ixs:atI (ns.map V.int) (2+(i:Int))=some (.int ns[2+i]):=by
    rw[show 2+(i:Int)=((2+i:Nat):Int) by lia];exact aP (by rw[getElem?_map,es];rfl)
   refine⟨_,U,r,_,_,_,U,U,SqT.of g1,U,.inl ⟨U,_,SqL.of ez⟩,_,U,r,_,_,_,U,U,SqT.of g1,U,_,U,_,U,_,U,_,U,_,U,a,_,_,_,U,U,(s14.trans sm).seq hS,ixs,cl,dl,po,fN+jj,_,t.1.1,dv,pvs,ds,U,g2,s4b _ _ (s4 _ _ edl),ar.mono hds (λ_ _ p=>p.same (s4.trans s4b)),s4b _ _ epo,ar.mono hpo (λ_ _ p=>p.same s4b),(λk hk=>by have:=tok.lt k hk;lia),by lia,by have:=tok.few;lia,λr2 w H2' s2 uh hf2=>?_⟩;have hFl:∀D∈rls ts,∃zs,Hb D=some (.lst zs):=λD hD=>by
    obtain⟨j,ej⟩:=getElem?_of_mem hD;have hjl:j<ts.length:=by have:=(Jx.mp ej).1;unfold rls at this;rwa [length_map]at this
    have et':=Jw hjl;have er':=Jw (l:=rss) (i:=j) (by rw[hrw.1];exact hjl);obtain⟨⟨zs',f1,_⟩,_⟩:=hrw.2 j _ _ et' er';have:=kJ et';rw[ej]at this;cases this;exact⟨zs',f1⟩
   have zv:=uh.hideL hFl s2;have hzl:zs.length=rs.length:=hzr.1;refine⟨t.2,_,_,U,U,s2 _ _ ez,aw (by lia),(sm.trans s2).upd (hF4 _ (kK et)),?_,rss.set jj (rs++[w]),_,_,_,_,_,_,hrw.grow hnd s2 et ers ez hzr zv hf2,U⟩;rw[m8 (kK et)];exact sB.trans (iN s2)
  ·obtain⟨sm,sB,rss,c6,c7,c8,c9,c10,c11,hrw,rfl⟩:=hh;exact⟨sm,sB,rss,_,_,_,_,_,_,⟨hrw.1,λj t rs e1 e2=>let ⟨b1,b2,b3⟩:=hrw.2 j t rs e1 e2;⟨b1,b2,by lia⟩⟩,U⟩
 rintro σ7 H7 ⟨s7,sB,rss,c6',c7',c8',c9',c10,c11,hrw,rfl⟩;have sB7:=sB.trans (eQ H7 (rls ts));have s47:=hB4.trans sB7;refine⟨_,U,a,ns,1,U,(s14.trans s7).seq hS,by decide,λc=>⟨_,U,c,tN,U,by lia,λnl H8 s8 _ enl=>⟨_,U,_,U,(by show 3<=sizeLine;decide),λr hr=>?_⟩⟩⟩;have u:=af hr (.tup [.ref nl,.ref dl,.ref tb]);have sE:=s8.trans u;have s4E:=s47.trans sE;refine q r (lws c tN) ds (List.zipWith mkT ts rss) fN _ ((s14.trans s47).trans sE) ⟨nl,dl,tb,dv,tv,ae,u _ _ enl,s4E _ _ (s4 _ _ edl),ar.mono hds (λ_ _ p=>p.same (s4.trans s4E)),sE _ _ (sB7 _ _ etB),?_⟩ ⟨(λz hz=>qZ hz),m7 (by lia),by rw[il,hdn],by lia,?_,?_,zr,λj t e=>?_⟩ hf1 tU xn tV (by rw[il];lia)
 ·refine⟨by rw[List.length_zipWith,hrw.1,B8];lia,λj t e=>?_⟩;rw[List.getElem?_zipWith]at e;cases e1:ts[j]? with
  |none=>rw[e1]at e;cases e
  |some t0 =>
   cases e2:rss[j]? with
   |none=>rw[e1,e2]at e;cases e
   |some rs =>
    rw[e1,e2]at e;have e:some (mkT t0 rs)=some t:=e;cases e;obtain⟨r',er,hT⟩:=htB.2 j _ e1;obtain⟨⟨zs,ez,hzr⟩,_⟩:=hrw.2 j _ _ e1 e2;obtain⟨cl,g1,g2⟩:=hT.same sB7;exact⟨r',er,cl,t0.2,zs,sE _ _ g1,sE _ _ g2,sE _ _ ez,(hzr.same (eQ _ _)).same sE⟩
 ·rw[List.length_zipWith,hrw.1];lia
 ·rw[List.length_zipWith,hrw.1];lia
 ·rw[List.getElem?_zipWith]at e;cases e1:ts[j]? with
  |none=>rw[e1]at e;cases e
  |some t0 =>
   cases e2:rss[j]? with
   |none=>rw[e1,e2]at e;cases e
   |some rs =>
    rw[e1,e2]at e;have e:some (mkT t0 rs)=some t:=e;cases e;obtain⟨_,h2,h3⟩:=hrw.2 j _ _ e1 e2;exact⟨vG j t0 e1,h2,by show rs.length<=200;lia⟩
theorem B9(F:Fun K "__init__" "Words.__init__" Y19 f fd) (bl:Bl K mg yA yI yH yG ah yN yO yP yQ yR yS yT yU yV yW yX ai)(fS:bQ CX0 P w K mg base 2 "Domain" "__init__" ["self","low","high"] (bI K yA yI yH yG ah yN yO yP yQ yR yS yT yU yV yW yX ai)) (fQ:Callee P w K mg base 2 "is_word" ["text"] (dQ K yA yI yH yG ah yN yO yP yQ yR yS yT yU yV yW yX ai)):bg P w K mg base CX0 3 f fd ["self","words"] (bS K yA yI yH yG ah yN yO yP yQ yR yS yT yU yV yW yX ai):=by
 refine F.ok Z19 (λvs H Q E h=>?_) (λcdv A outer s H vs Q E hr h=>?_)
 ·obtain⟨x,dx,p,zs,rfl,hx,hP,hg,q⟩:=h;rfl
 obtain⟨x,dx,p,zs,rfl,hx,hP,hg,q⟩:=h
 refine⟨_,(aE (aZ (iH (pf fb fb aj (az av U bl.len_ boot_len (aa (pv 1) ag)) (lE U bl.MOST_WORDS_)))
  (aq cI)
  aM)
  (ay (cO PassesOwn.never U (aW (pv 1)) (aK (i:=2) Z19.nd U (Or.inl U))
  (aq (aZ (iH (fu (br fQ hr U (aa (pv 2) ag))))
  (aq cI)
  aM)))
  (aE (aZ (aF pe (az fB U bl.len_ boot_len (aa (bO (fA U) U bl.set_ PyProof.Rows.boot_set (aa (pv 1) ag)) ag)) (az av U bl.len_ boot_len (aa (pv 1) ag)) (aN _))
  (aq cI)
  aM)
  (aE (bz (fi fS bP hr U (aa (pv 0) (aa aj (aa (aC cY (az av U bl.len_ boot_len (aa (pv 1) ag)) aj) ag)))))
  (aq (cK (pv 0) (bO cx U bl.list_ PyProof.Rows.boot_list (aa (pv 1) ag)) U)))))),?_⟩
 show(let r4:TS:=_;let r3:TS:=cj _ r4;let r2:TS:=cj _ r3;let r1:TS:=bp _ r2;cj _ r1 _ _ _);intro _ _ _ _;have hS:SqL K H p (zs.map V.str):=SqL.of hP;have hpx:p≠x:=bK hP hx (by intro z;cases z);have hlen:(zs.map V.str).length=zs.length:=length_map _;have h1:=hg.some_;have h40:=hg.few;refine⟨_,U,p,_,U,.inl hS,_,_,U,U,_,U,kx (by rw[hlen];lia) ?_⟩;refine⟨_,_,U,U,_,U,?_⟩;rw[decide_eq_true (show(((zs.map V.str).length:Nat):Int)<=40 by rw[hlen];lia)];refine dF ?_;refine⟨λσ' H'=>H'=H/\∃c2:Option V,σ'=[some (.ref x),some (.ref p),c2],?_,?_⟩
 ·refine⟨_,U,p,U,⟨_,hS⟩,cR (xs:=zs.map V.str) (λi σ H'=>H'=H/\∃c2:Option V,σ=[some (.ref x),some (.ref p),c2]) ⟨U,_,U⟩ (λi σ H' _ h=>by rw[h.1];exact hS) (λi y σ H' e h=>?_) (λσ H' h=>h)⟩;obtain⟨e0,c2,rfl⟩:=h;rw[e0];obtain⟨z,rfl,ez⟩:=eO e;have hw:=hg.words z (Jy ez);have hz:z.length<=1000:=by
   have hw2:=hw;unfold isw at hw2;simp only[and_eq_true,decide_eq_true_eq]at hw2;lia
  refine⟨_,U,z,U,hz,_,U,?_⟩;rw[hw];exact dF ⟨U,_,U⟩
 rintro σ2 H2 ⟨e2,c2,rfl⟩;rw[e2];refine⟨_,U,p,zs,U,hS,by lia,λl hl=>⟨l,zs,U,ae,by lia,_,U,p,_,U,.inl ((af hl _).seq hS),_,_,U,U,_,U,?_⟩⟩;have s1:=af hl (kC P w l zs);have cf:=ia zs zs.length (le_refl _);rw[take_length]at cf;refine jr (by rw[hlen,cf.mpr hg.once];lia) ?_;have hx1:=s1 _ _ hx;have hP1:=s1 _ _ hP;refine⟨_,U,_,U,p,_,U,.inl (SqL.of hP1),_,_,U,U,x,dx,0,_,U,hx1,?_⟩;have e1:mkd yW (upd H l (kC P w l zs)) x dx 0 ((((zs.map V.str).length:Nat):Int)-1) x=some (.ins yW dx [("low",.int 0),("high",.int ((((zs.map V.str).length:Nat):Int)-1))]):=ae;have e2:mkd yW (upd H l (kC P w l zs)) x dx 0 ((((zs.map V.str).length:Nat):Int)-1) p=some (.lst (zs.map V.str)):=by unfold mkd;rw[aD hpx,aD hpx];exact hP1
 have e3:∀b o,b≠x->H b=some o->mkd yW (upd H l (kC P w l zs)) x dx 0 ((((zs.map V.str).length:Nat):Int)-1) b=some o:=λb o hb h=>by unfold mkd;rw[aD hb,aD hb];exact s1 b o h
 have eh:(((zs.map V.str).length:Nat):Int)-1=hiW zs:=by rw[hlen];rfl
 refine⟨_,U,p,_,U,.inl (SqL.of e2),λl2 hl2=>⟨_,U,x,_,dx,_,U,iL e1 hl2,bl.k_Words,bl.na_Words_words,(by show 2<1000;decide),?_⟩⟩;show Q .non (upd (upd (mkd yW (upd H l (kC P w l zs)) x dx 0 ((((zs.map V.str).length:Nat):Int)-1)) l2 (.lst (zs.map V.str))) x (.ins yW dx (bE (Str.ofString "words") (.ref l2) [(Str.ofString "low",.int 0),(Str.ofString "high",.int ((((zs.map V.str).length:Nat):Int)-1))])));rw[put3];have hl3:mkd yW (upd H l (kC P w l zs)) x dx 0 ((((zs.map V.str).length:Nat):Int)-1) l2=none:=hl2;clear hl2;generalize mkd yW (upd H l (kC P w l zs)) x dx 0 ((((zs.map V.str).length:Nat):Int)-1)=H2 at e1 e2 e3 hl3⊢;rw[eh];have nl:l2≠x:=(aV e1 hl3).symm;exact q _ l2 (λb o hb h=>(aD hb).trans (iL (e3 b o hb h) hl3)) ae ((aD nl).trans ae) (by cases q_:H l2 with|none=>rfl|some o=>rw[e3 l2 o nl q_]at hl3;cases hl3)
theorem Ca(F:Fun K "way_by" "way_by" Y49 f fd) (bl:Bl K mg yA yI yH yG ah yN yO yP yQ yR yS yT yU yV yW yX ai)(k_First:aU CX0 P w K mg base 2 "First" yO ["self"] (J0 K yO)) (k_Only:aU CX0 P w K mg base 2 "Only" yP ["self"] (J4 K yP)) (k_Like:aU CX0 P w K mg base 2 "Like" yQ ["self"] (J2 K yQ)) (k_Low:aU CX0 P w K mg base 2 "Low" yR ["self"] (J3 K yR)) (k_High:aU CX0 P w K mg base 2 "High" yS ["self"] (J1 K yS)) (k_Sum:aU CX0 P w K mg base 2 "Sum" yT ["self"] (J5 K yT)):bg P w K mg base CX0 4 f fd ["name"] (iw K yA yI yH yG ah yN yO yP yQ yR yS yT yU yV yW yX ai):=by
 refine F.ok Z49 (λvs H Q E h=>?_) (λcdv A outer s H vs Q E hr h=>?_)
 ·obtain⟨z,rfl,hz,q⟩:=h;rfl
 obtain⟨z,rfl,hz,q⟩:=h
 refine⟨_,(aE (cO PassesOwn.never U (aW (aX (aa (jS k_First bP hr U) (aa (jS k_Only bP hr U) (aa (jS k_Like bP hr U) (aa (jS k_Low bP hr U) (aa (jS k_High bP hr U) (aa (jS k_Sum bP hr U) ag)))))))) (aK (i:=1) Z49.nd U (Or.inl U))
  (aq (aZ (aF cw (bu (pv 1) U) (pv 0) (aN _))
  (aq (aT (pv 1)))
  aM)))
  (aq cI)),?_⟩
 show(let r1:TS:=_;cj _ r1 _ _ _);intro _;refine λw0 d0 hw hdw hnw=>⟨w0,d0,U,ae,U,?_⟩
 have t0:au H (upd (upd (upd H d0 (.own w0)) w0 (.ins yO d0 [])) w0 (.ins yO d0 [("called",.str (Str.ofString "first"))])):=((af hdw _).upd hw).upd hw;have y0:WyN yO (upd (upd (upd H d0 (.own w0)) w0 (.ins yO d0 [])) w0 (.ins yO d0 [("called",.str (Str.ofString "first"))])) w0 (Str.ofString "first"):=⟨d0,ae⟩;generalize upd (upd (upd H d0 (.own w0)) w0 (.ins yO d0 [])) w0 (.ins yO d0 [("called",.str (Str.ofString "first"))])=H0 at t0 y0⊢;clear hw hdw hnw;refine λw1 d1 hw hdw hnw=>⟨w1,d1,U,ae,U,?_⟩
 have t1:au H0 (upd (upd (upd H0 d1 (.own w1)) w1 (.ins yP d1 [])) w1 (.ins yP d1 [("called",.str (Str.ofString "only"))])):=((af hdw _).upd hw).upd hw;have y1:WyN yP (upd (upd (upd H0 d1 (.own w1)) w1 (.ins yP d1 [])) w1 (.ins yP d1 [("called",.str (Str.ofString "only"))])) w1 (Str.ofString "only"):=⟨d1,ae⟩;generalize upd (upd (upd H0 d1 (.own w1)) w1 (.ins yP d1 [])) w1 (.ins yP d1 [("called",.str (Str.ofString "only"))])=H1 at t1 y1⊢;clear hw hdw hnw;have y0:=y0.same t1;refine λw2 d2 hw hdw hnw=>⟨w2,d2,U,ae,U,?_⟩
 have t2:au H1 (upd (upd (upd H1 d2 (.own w2)) w2 (.ins yQ d2 [])) w2 (.ins yQ d2 [("called",.str (Str.ofString "like"))])):=((af hdw _).upd hw).upd hw;have y2:WyN yQ (upd (upd (upd H1 d2 (.own w2)) w2 (.ins yQ d2 [])) w2 (.ins yQ d2 [("called",.str (Str.ofString "like"))])) w2 (Str.ofString "like"):=⟨d2,ae⟩;generalize upd (upd (upd H1 d2 (.own w2)) w2 (.ins yQ d2 [])) w2 (.ins yQ d2 [("called",.str (Str.ofString "like"))])=H2 at t2 y2⊢;clear hw hdw hnw;have y0:=y0.same t2;have y1:=y1.same t2;refine λw3 d3 hw hdw hnw=>⟨w3,d3,U,ae,U,?_⟩
 have t3:au H2 (upd (upd (upd H2 d3 (.own w3)) w3 (.ins yR d3 [])) w3 (.ins yR d3 [("called",.str (Str.ofString "low"))])):=((af hdw _).upd hw).upd hw;have y3:WyN yR (upd (upd (upd H2 d3 (.own w3)) w3 (.ins yR d3 [])) w3 (.ins yR d3 [("called",.str (Str.ofString "low"))])) w3 (Str.ofString "low"):=⟨d3,ae⟩;generalize upd (upd (upd H2 d3 (.own w3)) w3 (.ins yR d3 [])) w3 (.ins yR d3 [("called",.str (Str.ofString "low"))])=H3 at t3 y3⊢;clear hw hdw hnw;have y0:=y0.same t3;have y1:=y1.same t3;have y2:=y2.same t3;refine λw4 d4 hw hdw hnw=>⟨w4,d4,U,ae,U,?_⟩
 have t4:au H3 (upd (upd (upd H3 d4 (.own w4)) w4 (.ins yS d4 [])) w4 (.ins yS d4 [("called",.str (Str.ofString "high"))])):=((af hdw _).upd hw).upd hw;have y4:WyN yS (upd (upd (upd H3 d4 (.own w4)) w4 (.ins yS d4 [])) w4 (.ins yS d4 [("called",.str (Str.ofString "high"))])) w4 (Str.ofString "high"):=⟨d4,ae⟩;generalize upd (upd (upd H3 d4 (.own w4)) w4 (.ins yS d4 [])) w4 (.ins yS d4 [("called",.str (Str.ofString "high"))])=H4 at t4 y4⊢;clear hw hdw hnw;have y0:=y0.same t4;have y1:=y1.same t4;have y2:=y2.same t4;have y3:=y3.same t4;refine λw5 d5 hw hdw hnw=>⟨w5,d5,U,ae,U,?_⟩
 have t5:au H4 (upd (upd (upd H4 d5 (.own w5)) w5 (.ins yT d5 [])) w5 (.ins yT d5 [("called",.str (Str.ofString "sum"))])):=((af hdw _).upd hw).upd hw;have y5:WyN yT (upd (upd (upd H4 d5 (.own w5)) w5 (.ins yT d5 [])) w5 (.ins yT d5 [("called",.str (Str.ofString "sum"))])) w5 (Str.ofString "sum"):=⟨d5,ae⟩;generalize upd (upd (upd H4 d5 (.own w5)) w5 (.ins yT d5 [])) w5 (.ins yT d5 [("called",.str (Str.ofString "sum"))])=H5 at t5 y5⊢;clear hw hdw hnw;have y0:=y0.same t5;have y1:=y1.same t5;have y2:=y2.same t5;have y3:=y3.same t5;have y4:=y4.same t5;have s5:au H H5:=((((t0.trans t1).trans t2).trans t3).trans t4).trans t5;refine⟨(by show 6<=sizeLine;decide),λl hl=>?_⟩;have sl:au H5 (upd H5 l (.lst [V.ref w0,.ref w1,.ref w2,.ref w3,.ref w4,.ref w5])):=af hl _;have el:upd H5 l (.lst [V.ref w0,.ref w1,.ref w2,.ref w3,.ref w4,.ref w5]) l=some (.lst [V.ref w0,.ref w1,.ref w2,.ref w3,.ref w4,.ref w5]):=ae;generalize upd H5 l (.lst [V.ref w0,.ref w1,.ref w2,.ref w3,.ref w4,.ref w5])=H6 at sl el⊢;have y0:=y0.same sl;have y1:=y1.same sl;have y2:=y2.same sl;have y3:=y3.same sl;have y4:=y4.same sl;have y5:=y5.same sl;have sA:=s5.trans sl;have key:∀(i:Nat)(x:V),[V.ref w0,.ref w1,.ref w2,.ref w3,.ref w4,.ref w5][i]?=some x->∃(a C:Addr)(y:Str),x=.ref a/\(cl6 yO yP yQ yR yS yT)[i]?=some C/\six[i]?=some y/\WyN C H6 a y/\Cls K C/\bx K C (Str.ofString "called"):=λi x e=>by
  match i,e with
  |0,e=>cases e;exact⟨w0,yO,_,U,U,U,y0,bl.k_First,bl.na_First_called⟩
  |1,e=>cases e;exact⟨w1,yP,_,U,U,U,y1,bl.k_Only,bl.na_Only_called⟩
  |2,e=>cases e;exact⟨w2,yQ,_,U,U,U,y2,bl.k_Like,bl.na_Like_called⟩
  |3,e=>cases e;exact⟨w3,yR,_,U,U,U,y3,bl.k_Low,bl.na_Low_called⟩
  |4,e=>cases e;exact⟨w4,yS,_,U,U,U,y4,bl.k_High,bl.na_High_called⟩
  |5,e=>cases e;exact⟨w5,yT,_,U,U,U,y5,bl.k_Sum,bl.na_Sum_called⟩
  |n+6,e=>simp at e
 refine⟨l,U,⟨_,SqL.of el⟩,cR (xs:=[V.ref w0,.ref w1,.ref w2,.ref w3,.ref w4,.ref w5]) (λi σ H'=>(∃c1:Option V,σ=[some (.str z),c1])/\H'=H6/\∀j:Nat,j<i->six[j]?≠some z) ⟨⟨_,U⟩,U,(λj h=>absurd h (Nat.not_lt_zero j))⟩ (λi σ H' _ h=>by rw[h.2.1];exact SqL.of el) (λi x σ H' e h=>?_) (λσ H' h=>?_)⟩
 ·obtain⟨⟨c1,rfl⟩,e0,hno⟩:=h;rw[e0];obtain⟨a,C,y,rfl,eC,ey,⟨dx,ha⟩,hc,hn⟩:=key i x e;refine⟨_,U,a,_,_,_,_,U,ha,hc,hn,U,_,U,U,_,U,?_⟩;refine bM (λg=>?_) (λg=>?_)
  ·have g':V.str y=V.str z:=fF g;injection g' with g';subst g';exact⟨_,U,q i ey a C H6 sA eC ⟨dx,ha⟩⟩
  ·refine⟨⟨_,U⟩,U,λj hj=>?_⟩;by_cases hji:j<i
   ·exact hno j hji
   ·have:j=i:=by lia
    subst this;rw[ey];intro q2;exact(fG g) (by injection q2 with q2;rw[q2])
 ·obtain⟨⟨c1,rfl⟩,e0,hno⟩:=h;rw[e0];obtain⟨j,hj,ej⟩:=List.getElem_of_mem hz;exact absurd (by rw[Jw hj,ej]) (hno j hj)
theorem Cb(F:Fun K "_law_other" "_law_other" Y31 f fd) (bl:Bl K mg yA yI yH yG ah yN yO yP yQ yR yS yT yU yV yW yX ai)(k_Numbers:aU CX0 P w K mg base 2 "Numbers" yV ["self","low","high"] (aS K yA yI yH yG ah yN yO yP yQ yR yS yT yU yV yW yX ai)):bg P w K mg base CX0 4 f fd ["domain"] (dC K yA yI yH yG ah yN yO yP yQ yR yS yT yU yV yW yX ai):=by
 refine F.ok Z31 (λvs H Q E h=>?_) (λcdv A outer s H vs Q E hr h=>?_)
 ·obtain⟨r,p,rfl,⟨wl,_,_,er,ewl⟩,ok,q⟩:=h;rfl
 obtain⟨r,p,rfl,⟨wl,_,_,er,ewl⟩,ok,q⟩:=h
 refine⟨_,(aE (aZ (aF fD (az av U bl.len_ boot_len (aa (aH bX (pv 0) aj (λ_ _=>U)) ag)) aj (aN _))
  (aq (aT (dG k_Numbers bP hr U (aa aj (aa (aH bX (pv 0) aj (λ_ _=>U)) ag)))))
  aM)
  (aq (aT (dG k_Numbers bP hr U (aa (aH bX (pv 0) aj (λ_ _=>U)) (aa (aC bT (aH bX (pv 0) aj (λ_ _=>U)) aj) ag)))))),?_⟩
 show(let r1:TS:=_;cj _ r1 _ _ _);intro _;have hlm:(p.ws.map V.str).length=p.ws.length:=length_map _;have hle:=ok.le;refine⟨_,U,r,_,_,_,U,U,SqT.of er,U,wl,_,U,.inl (SqL.of ewl),_,_,U,U,_,U,?_⟩;refine bM (λg=>?_) (λg=>?_)
 ·have hne:p.ws≠[]:=λz=>by
   have:=of_decide_eq_true g;rw[z]at this;exact absurd this (by decide)
  obtain⟨hg,h0,h1⟩:=ok.wd hne;refine⟨_,U,r,_,_,_,U,U,SqT.of er,U,λx dx hx hdx zw=>⟨x,dx,0,p.hi,U,ae,by lia,U,?_⟩⟩;obtain⟨sn,hn⟩:=dr (C:=yV) (lo:=0) (hi:=p.hi) hx hdx;have eo:cD p=(none,0,p.hi):=by unfold cD;rw[if_neg hne]
  rw[eo]at q;exact q x _ sn hn hn
 ·have he:p.ws=[]:=by
   have:¬ ((0:Int)<(((p.ws.map V.str).length:Nat):Int)):=λh=>g (decide_eq_true h)
   rw[hlm]at this;exact length_eq_zero_iff.mp (by lia)
  refine⟨_,U,r,_,_,_,U,U,SqT.of er,U,_,U,r,_,_,_,U,U,SqT.of er,U,_,_,U,U,λx dx hx hdx zw=>⟨x,dx,p.lo,p.hi+1,U,ae,by lia,U,?_⟩⟩;obtain⟨sn,hn⟩:=dr (C:=yV) (lo:=p.lo) (hi:=p.hi+1) hx hdx;have eo:cD p=(none,p.lo,p.hi+1):=by unfold cD;rw[if_pos he]
  rw[eo]at q;exact q x _ sn hn hn
theorem O_0(F:Fun K "__init__" "Book.__init__" Y0 f fd) (bl:Bl K mg yA yI yH yG ah yN yO yP yQ yR yS yT yU yV yW yX ai)(gE:de P w K mg base 3 "refuse_counts_books" ["facts","tables"] (bV K yA yI yH yG ah yN yO yP yQ yR yS yT yU yV yW yX ai)) (gS:de P w K mg base 3 "refuse_names_books" ["facts","tables"] (cb K yA yI yH yG ah yN yO yP yQ yR yS yT yU yV yW yX ai)) (jY:de P w K mg base 3 "refuse_domains" ["facts","tables"] (cQ K yA yI yH yG ah yN yO yP yQ yR yS yT yU yV yW yX ai)) (lP:de P w K mg base 3 "refuse_rings" ["tables"] (df K yA yI yH yG ah yN yO yP yQ yR yS yT yU yV yW yX ai)):bg P w K mg base (CX1 P w) 4 f fd ["self","facts","tables"] (cg K yA yI yH yG ah yN yO yP yQ yR yS yT yU yV yW yX ai):=by
 refine F.okE Z0 (λvs H Q E h=>?_) (λcdv A outer s H vs Q E hr h=>?_)
 ·obtain⟨x,dx,fa,ma,fv,mv,fs,ts,rfl,hx,efa,ema,hB,q⟩:=h;rfl
 obtain⟨x,dx,fa,ma,fv,mv,fs,ts,rfl,hx,efa,ema,hB,q⟩:=h
 refine⟨_,(aE (bz (nJ gE qT hr U (aa (pv 1) (aa (pv 2) ag))))
  (aE (bz (nJ gS qT hr U (aa (pv 1) (aa (pv 2) ag))))
  (aE (bz (nJ jY qT hr U (aa (pv 1) (aa (pv 2) ag))))
  (aE (bz (nJ lP qT hr U (aa (pv 2) ag)))
  (aE (cK (pv 0) (jo (aW (pv 1)) (dj (N:=["name","domain"]) (k:=2) U U (by decide+kernel) (by decide+kernel) (by decide+kernel)) U (λ_ _ _ _=>(tq (K:=K) (n:=2) U U (aO (aK (i:=0) (show(["name","domain"]:List Str).Nodup by decide+kernel) U (Or.inl U) (Or.inr U)) (aO (aK (i:=1) (show(["name","domain"]:List Str).Nodup by decide+kernel) U (Or.inl U) (Or.inr U)) cE)))) (λ_ _ _ _=>bb) (λ_ _ _ _=>(bc (aa (pv 0) (aa (pv 1) ag))))) U)
  (aq (cK (pv 0) (bO cx U bl.list_ PyProof.Rows.boot_list (aa (pv 2) ag)) U))))))),?_⟩
 show(let r5:TS:=_;let r4:TS:=cj _ r5;let r3:TS:=cj _ r4;let r2:TS:=cj _ r3;let r1:TS:=cj _ r2;cj _ r1 _ _ _);intro _ _ _ _ _;obtain⟨b1,b2⟩:=hB.few;have hfl:fv.length=fs.length:=hB.facts.1;have hml:mv.length=ts.length:=hB.tabs.1;refine⟨_,U,_,U,fa,ma,fv,mv,U,efa,ema,λhc=>?_,λhc=>?_⟩
 rotate_left
 ·rcases q with⟨_,q⟩|⟨h,_⟩
  ·exact q H (au.refl H)
  ·exact absurd (by lia) hc
 rcases q with⟨h,_⟩|⟨_,q⟩
 ·exact absurd (by lia) h
 refine⟨_,U,_,U,fa,ma,fv,mv,fs,ts,U,efa,ema,hB,λhN H1 s1=>?_,λhN H1 s1=>?_⟩
 rotate_left
 ·rcases q with⟨_,q⟩|⟨h,_⟩
  ·exact q H1 s1
  ·exact absurd h hN
 rcases q with⟨h,_⟩|⟨_,q⟩
 ·exact absurd hN h
 refine⟨_,U,_,U,fa,ma,fv,mv,fs,ts,U,s1 _ _ efa,s1 _ _ ema,hB.same s1,hN,λhD H2 s2=>?_,λhD H2 s2=>?_⟩
 rotate_left
 ·rcases q with⟨_,q⟩|⟨h,_⟩
  ·exact q H2 (s1.trans s2)
  ·exact absurd h hD
 rcases q with⟨h,_⟩|⟨_,q⟩
 ·exact absurd hD h
 have s12:=s1.trans s2;refine⟨_,U,ma,mv,ts,U,s12 _ _ ema,(hB.same s12).tabs,b2,(λt ht=>(hB.st t ht).2.1),?_⟩;rcases q with⟨h,q⟩|⟨h,q⟩
 ·exact .inr ⟨h,λH3 s3=>q H3 (s12.trans s3)⟩
 refine .inl ⟨h,λH3 s3=>?_⟩;have s13:=s12.trans s3;have ui:=s13 _ _ efa;have hB3:=hB.same s13;refine⟨_,U,fa,U,⟨_,SqL.of ui⟩,eL (xs:=fv) (λD i ys H'=>au H3 H'/\H' D=some (.lst ys)/\ar ys (fs.take i) (λp f=>∃d:V,H' p=some (.tup [.str f.1,d]))) (λD hD=>⟨af hD _,ae,ar.nil⟩) (λD i ys H' hD _ h=>SqL.of (h.1 _ _ ui)) (λD i y ys H' hD e h ts' hts=>?_) (λD ys H' hD h=>?_)⟩
 ·obtain⟨sm,eD,hy⟩:=h;obtain⟨r,f,rfl,ek,d,g1,g2⟩:=ar.get hB3.facts e;have hi:i<fv.length:=(Jx.mp e).1;obtain⟨t0,t1,rfl⟩:∃t0 t1,ts'=[t0,t1]:=by
   match ts',hts with
   | [t0,t1],_=>exact⟨t0,t1,U⟩
  refine⟨r,_,U,SqT.of (sm _ _ g1),U,_,_,U,_,_,U,U,⟨[some (.str f.1),some (.ref d)],U,U⟩,?_⟩;refine⟨_,U,_,U,(by show 2<=sizeLine;decide),λtp htp=>?_⟩;have u:=af htp (.tup [.str f.1,.ref d]);have ep:upd H' tp (.tup [.str f.1,.ref d]) tp=some (.tup [.str f.1,.ref d]):=ae;generalize upd H' tp (.tup [.str f.1,.ref d])=H4 at u ep⊢;have eD4:=u _ _ eD;have hyl:=hy.1;rw[length_take]at hyl;refine cn.mk hi eD4 (aw (by lia)) ⟨(sm.trans u).upd hD,ae,?_⟩;rw[take_snoc ek];have hz:ar (ys++[.ref tp]) (fs.take i++[f]) (λp (f:Fc)=>∃d:V,H4 p=some (.tup [.str f.1,d])):=ar.snoc (ar.mono hy λ_ _ ⟨d,h1⟩=>⟨d,u _ _ h1⟩) ⟨.ref d,ep⟩;exact ar.mono hz λ_ _ ⟨d,h1⟩=>⟨d,(aD (bK h1 eD4 (by intro z;cases z))).trans h1⟩
 ·obtain⟨sm,eD,hy⟩:=h;rw[hfl,take_length]at hy;have hx3:H3 x=some (.ins ai dx []):=s13 _ _ hx;refine⟨_,U,x,_,dx,_,U,sm _ _ hx3,bl.k_Book,bl.na_Book_facts,(by show 0<1000;decide),?_⟩;have nDx:D≠x:=λz=>by rw[z,hx3]at hD;cases hD
  have nmx:ma≠x:=λz=>by rw[z,hx]at ema;cases ema
  have g1:upd H' x (.ins ai dx (bE (Str.ofString "facts") (V.ref D) []))=upd H' x (.ins ai dx [(Str.ofString "facts",V.ref D)]):=rfl;rw[g1];have e2:upd H' x (.ins ai dx [(Str.ofString "facts",V.ref D)]) ma=some (.lst mv):=(aD nmx).trans (sm _ _ (s13 _ _ ema));have eD2:upd H' x (.ins ai dx [(Str.ofString "facts",V.ref D)]) D=some (.lst ys):=(aD nDx).trans eD;have hy2:ar ys fs (λp f=>∃d:V,upd H' x (.ins ai dx [(Str.ofString "facts",V.ref D)]) p=some (.tup [.str f.1,d])):=ar.mono hy λ_ _ ⟨d,h1⟩=>⟨d,(aD (bK h1 (sm _ _ hx3) (by intro z;cases z))).trans h1⟩
  have x2:upd H' x (.ins ai dx [(Str.ofString "facts",V.ref D)]) x=some (.ins ai dx [(Str.ofString "facts",V.ref D)]):=ae;have k2:∀b o,b≠x->H b=some o->upd H' x (.ins ai dx [(Str.ofString "facts",V.ref D)]) b=some o:=λb o hb e=>(aD hb).trans (sm _ _ (s13 _ _ e))
  generalize upd H' x (.ins ai dx [(Str.ofString "facts",V.ref D)])=H4 at e2 eD2 hy2 x2 k2⊢;refine⟨_,U,ma,mv,U,.inl (SqL.of e2),λc hc=>?_⟩;have u:=af hc (.lst mv);have ec:upd H4 c (.lst mv) c=some (.lst mv):=ae;have hcn:H c=none:=fM k2 x2 hc;generalize upd H4 c (.lst mv)=H5 at u ec⊢;refine⟨_,U,x,_,dx,_,U,u _ _ x2,bl.k_Book,bl.na_Book_tables,(by show 1<1000;decide),?_⟩;have ncx:c≠x:=λz=>by rw[z,x2]at hc;cases hc
  exact q _ _ c D ys (λb o hb e=>(aD hb).trans (u _ _ (k2 b o hb e))) ae U U hcn (s13.free hD) ((aD ncx).trans ec) ((aD nDx).trans (u _ _ eD2)) (ar.mono hy2 λ_ _ ⟨d,h1⟩=>⟨d,(aD (bK (u _ _ h1) (u _ _ x2) (by intro z;cases z))).trans (u _ _ h1)⟩)
theorem Cc(F:Fun K "refuse_way" "refuse_way" Y48 f fd) (bl:Bl K mg yA yI yH yG ah yN yO yP yQ yR yS yT yU yV yW yX ai)(uj:Callee P w K mg base 4 "way_by" ["name"] (iw K yA yI yH yG ah yN yO yP yQ yR yS yT yU yV yW yX ai)):bg P w K mg base CX0 5 f fd ["way","outcome"] (dX K yA yI yH yG ah yN yO yP yQ yR yS yT yU yV yW yX ai):=by
 refine F.ok Z48 (λvs H Q E h=>?_) (λcdv A outer s H vs Q E hr h=>?_)
 ·obtain⟨z,ou,rfl,hz,hne,q⟩:=h;rfl
 obtain⟨z,ou,rfl,hz,hne,q⟩:=h
 refine⟨_,(aq (aZ (PW.pt (gJ (aF cw (bu (br uj hr U (aa (pv 0) ag)) U) ba (aN _)) (eY (fu (az dM U bl.isinstance_ PyProof.Rows.boot_isinstance (aa (pv 1) (aa (dR (v:=.ref yW) U bl.Words_ U) ag)))))))
  (aq cI)
  aM)),?_⟩
 refine⟨_,U,z,U,hz,λi ei x C H' s' eC hw=>?_⟩;have hF:Cls K C/\bx K C (Str.ofString "called"):=by
  match i,eC with
  |0,eC=>cases eC;exact⟨bl.k_First,bl.na_First_called⟩
  |1,eC=>cases eC;exact⟨bl.k_Only,bl.na_Only_called⟩
  |2,eC=>cases eC;exact⟨bl.k_Like,bl.na_Like_called⟩
  |3,eC=>cases eC;exact⟨bl.k_Low,bl.na_Low_called⟩
  |4,eC=>cases eC;exact⟨bl.k_High,bl.na_High_called⟩
  |5,eC=>cases eC;exact⟨bl.k_Sum,bl.na_Sum_called⟩
  |n+6,eC=>simp[cl6]at eC
 obtain⟨dx,hx⟩:=hw;refine⟨x,_,_,_,_,U,hx,hF.1,hF.2,U,U,_,U,?_⟩;by_cases hs:z=Str.ofString "sum"
 ·obtain⟨dy,fs,ho⟩:=hne hs;exact kx (by rw[hs]) ⟨_,U,_,_,_,_,false,U,.ref _,bl.t_Numbers.ty (s' _ _ ho),bl.f_nw,_,U,dF (q _ s')⟩
 ·exact jr (λe=>by injection e with e;exact hs e) (dF (q _ s'))
theorem Cd(F:Fun K "_law_made" "_law_made" Y30 f fd) (bl:Bl K mg yA yI yH yG ah yN yO yP yQ yR yS yT yU yV yW yX ai)(k_Numbers:aU CX0 P w K mg base 3 "Numbers" yV ["self","low","high"] (aS K yA yI yH yG ah yN yO yP yQ yR yS yT yU yV yW yX ai)) (k_Words:aU CX0 P w K mg base 3 "Words" yW ["self","words"] (bS K yA yI yH yG ah yN yO yP yQ yR yS yT yU yV yW yX ai)):bg P w K mg base CX0 5 f fd ["domain"] (d6 K yA yI yH yG ah yN yO yP yQ yR yS yT yU yV yW yX ai):=by
 refine F.ok Z30 (λvs H Q E h=>?_) (λcdv A outer s H vs Q E hr h=>?_)
 ·obtain⟨r,p,rfl,⟨wl,_,_,er,ewl⟩,ok,q⟩:=h;rfl
 obtain⟨r,p,rfl,⟨wl,_,_,er,ewl⟩,ok,q⟩:=h
 refine⟨_,(aE (aZ (aF fD (az av U bl.len_ boot_len (aa (aH bX (pv 0) aj (λ_ _=>U)) ag)) aj (aN _))
  (aq (aT (dG k_Words bP hr U (aa (bO cx U bl.list_ PyProof.Rows.boot_list (aa (aH bX (pv 0) aj (λ_ _=>U)) ag)) ag))))
  aM)
  (aq (aT (dG k_Numbers bP hr U (aa (aH bX (pv 0) aj (λ_ _=>U)) (aa (aH bX (pv 0) aj (λ_ _=>U)) ag)))))),?_⟩
 show(let r1:TS:=_;cj _ r1 _ _ _);intro _;have hlm:(p.ws.map V.str).length=p.ws.length:=length_map _;refine⟨_,U,r,_,_,_,U,U,SqT.of er,U,wl,_,U,.inl (SqL.of ewl),_,_,U,U,_,U,?_⟩;refine bM (λg=>?_) (λg=>?_)
 ·have hne:p.ws≠[]:=λz=>by
   have:=of_decide_eq_true g;rw[z]at this;exact absurd this (by decide)
  obtain⟨hg,h0,h1⟩:=ok.wd hne;refine⟨_,U,r,_,_,_,U,U,SqT.of er,U,wl,_,U,.inl (SqL.of ewl),λc hc=>?_⟩;have u1:=af hc (.lst (p.ws.map V.str));have ec:upd H c (.lst (p.ws.map V.str)) c=some (.lst (p.ws.map V.str)):=ae;generalize upd H c (.lst (p.ws.map V.str))=H1 at u1 ec⊢;intro x dx hx hdx zw;have s3:au H1 (upd (upd H1 dx (.own x)) x (.ins yW dx [])):=(af hdx _).upd hx;refine⟨x,dx,c,p.ws,U,ae,s3 _ _ ec,hg,λH4 l4 k1 k2 k3 k4=>⟨U,q x H4 (λb o e=>k1 b o (aV (u1 _ _ e) hx) (s3 _ _ (u1 _ _ e))) ?_⟩⟩;rw[PD.k_some hne];exact⟨⟨dx,l4,u1.free (s3.free k4),k2,k3⟩,h0,h1,hg⟩
 ·have he:p.ws=[]:=by
   have:¬ ((0:Int)<(((p.ws.map V.str).length:Nat):Int)):=λh=>g (decide_eq_true h)
   rw[hlm]at this;exact length_eq_zero_iff.mp (by lia)
  refine⟨_,U,r,_,_,_,U,U,SqT.of er,U,_,U,r,_,_,_,U,U,SqT.of er,U,λx dx hx hdx hne=>⟨x,dx,p.lo,p.hi,U,ae,ok.le,U,q x _ ?_ ?_⟩⟩
  ·unfold mkd;exact(((af hdx _).upd hx).upd hx).upd hx
  ·rw[PD.k_none he];exact⟨dx,ae⟩
theorem Ce(F:Fun K "_law_spoilt" "_law_spoilt" Y35 f fd) (bl:Bl K mg yA yI yH yG ah yN yO yP yQ yR yS yT yU yV yW yX ai)(gp:Callee P w K mg base 4 "_law_other" ["domain"] (dC K yA yI yH yG ah yN yO yP yQ yR yS yT yU yV yW yX ai)) (k_Numbers:aU CX0 P w K mg base 3 "Numbers" yV ["self","low","high"] (aS K yA yI yH yG ah yN yO yP yQ yR yS yT yU yV yW yX ai)):bg P w K mg base CX0 5 f fd ["kind","cell","plan","facts","made"] (dY K yA yI yH yG ah yN yO yP yQ yR yS yT yU yV yW yX ai):=by
 refine F.ok Z35 (λvs H Q E h=>?_) (λcdv A outer s H vs Q E hr h=>?_)
 ·obtain⟨kd,c,r,fa,ma,zs,ds,pts,fN,t0,u,un,z0,pu,fv,mv,fs,ts,rfl,hPl,ok,et0,eu,eun,epu,ez0,zy,hs0,efa,ema,hB,Cf,Cg,ht1,hnm,q⟩:=h;rfl
 obtain⟨kd,c,r,fa,ma,zs,ds,pts,fN,t0,u,un,z0,pu,fv,mv,fs,ts,rfl,hPl,ok,et0,eu,eun,epu,ez0,zy,hs0,efa,ema,hB,Cf,Cg,ht1,hnm,q⟩:=h
 refine⟨_,(ay (iI (pv 2) (dh U (aO (aK (i:=5) Z35.nd U (Or.inr U)) (aO (aK (i:=6) Z35.nd U (Or.inl U)) (aO (aK (i:=7) Z35.nd U (Or.inl U)) cE)))))
  (ay (aL (i:=8) Z35.nd U (Or.inr U) (aH aQ (aH bX (aH aQ (pv 7) aj (λ_ _=>U)) aj (λ_ _=>U)) aj (λ_ _=>U)))
  (ay (aL (i:=9) Z35.nd U (Or.inl U) (aH aQ (aX (aa ba (aa ba (aa ba (aa ba (aa ba (aa ba ag))))))) (aC bA (pv 1) aj) (λ_ _=>U)))
  (ay (aL (i:=10) Z35.nd U (Or.inl U) (aC cZ (bq (aW (pv 3)) (bF U (by decide+kernel) (by decide+kernel) (by decide+kernel) U) U (λ_ _ _ _=>bb) (λ_ _ _ _=>(aH (di (K:=K) U) (pv 0) aj (λ_ _=>U)))) (bq (aW (pv 4)) (bF U (by decide+kernel) (by decide+kernel) (by decide+kernel) U) U (λ_ _ _ _=>bb) (λ_ _ _ _=>(fY (K:=K) U (pv 0) U)))))
  (aE (aZ (aF cw (pv 0) aj (aN _))
  (aq (aT (bc (aa (aC cZ (pv 3) (aX (aa (bc (aa (pv 9) (aa (dG k_Numbers bP hr U (aa aj (aa aj ag))) ag))) ag))) (aa (pv 4) ag)))))
  aM)
  (aE (aZ (aF cw (pv 0) aj (aN _))
  (aq (aT (bc (aa (aC cZ (aX (aa (bc (aa (aH aQ (pv 10) (aC bA (pv 1) (az av U bl.len_ boot_len (aa (pv 10) ag))) (λ_ _=>U)) (aa (dG k_Numbers bP hr U (aa aj (aa aj ag))) ag))) ag)) (pv 3)) (aa (pv 4) ag)))))
  aM)
  (aE (aZ (aF cw (pv 0) aj (aN _))
  (aq (aT (bc (aa (pv 3) (aa (aC cZ (pv 4) (aX (aa (aH aQ (pv 4) (aC bA (pv 1) (az av U bl.len_ boot_len (aa (pv 4) ag))) (λ_ _=>U)) ag))) ag)))))
  aM)
  (aE (aZ (aF cw (pv 0) aj (aN _))
  (aq (aT (bc (aa (bq (aW (pv 3)) (aY (N:=["fact","names","used"]) (fr:=[5,8]) (cl:=[("used",s.heap.objs.size+1+1+1),("names",s.heap.objs.size+1+1)]) U U (by decide+kernel) (by decide+kernel) U (by decide+kernel) U U U (forall_mem_cons.mpr ⟨U,forall_mem_cons.mpr ⟨U,forall_mem_nil _⟩⟩) U) U (λ_ _ _ _=>(hX (aF pd (aH (di (K:=K) U) (pv 0) aj (λ_ _=>U)) (aH (cy (K:=K) U) (pv 1) (pv 2) (λ_ _=>U)) (aN _)))) (λ_ _ _ _=>(pv 0))) (aa (pv 4) ag)))))
  aM)
  (aE (aZ (aF cw (pv 0) aj (aN _))
  (aE (aL (i:=11) Z35.nd U (Or.inr U) (br gp hr U (aa (aH aQ (pv 6) (pv 8) (λ_ _=>U)) ag)))
  (aq (aT (bc (aa (bq (aW (pv 3)) (aY (N:=["fact","names","used","other"]) (fr:=[5,8,11]) (cl:=[("used",s.heap.objs.size+1+1+1),("other",s.heap.objs.size+1+1+1+1),("names",s.heap.objs.size+1+1)]) U U (by decide+kernel) (by decide+kernel) U (by decide+kernel) U U U (forall_mem_cons.mpr ⟨U,forall_mem_cons.mpr ⟨U,forall_mem_cons.mpr ⟨U,forall_mem_nil _⟩⟩⟩) U) U (λ_ _ _ _=>bb) (λ_ _ _ _=>(aH (cy (K:=K) U) (aX (aa (pv 0) (aa (bc (aa (aH (di (K:=K) U) (pv 0) aj (λ_ _=>U)) (aa (pv 3) ag))) ag))) (bO rm U bl.int_ PyProof.Rows.boot_int (aa (fV cw (aH (di (K:=K) U) (pv 0) aj (λ_ _=>U)) (aH (cy (K:=K) U) (pv 1) (pv 2) (λ_ _=>U)) (aN _)) ag)) (λ_ _=>U)))) (aa (pv 4) ag))))))
  aM)
  (aE (aZ (aF cw (pv 0) aj (aN _))
  (aq (aT (bc (aa (aC cZ (pv 3) (bq (bG U bl.range_ (aa aj ag)) (aY (N:=["k","names"]) (fr:=[5]) (cl:=[("names",s.heap.objs.size+1+1)]) U U (by decide+kernel) (by decide+kernel) U (by decide+kernel) U U U (forall_mem_cons.mpr ⟨U,forall_mem_nil _⟩) U) U (λ_ _ _ _=>bb) (λ_ _ _ _=>(bc (aa (aC cJ (aH (cy (K:=K) U) (pv 1) aj (λ_ _=>U)) ba) (aa (dG k_Numbers bP hr U (aa aj (aa aj ag))) ag)))))) (aa (pv 4) ag)))))
  aM)
  (aE (aZ (aF cw (pv 0) aj (aN _))
  (aq (aT (bc (aa (pv 3) (aa (aC cZ (pv 4) (bq (bG U bl.range_ (aa aj ag)) (aY (N:=["k","made"]) (fr:=[4]) (cl:=[("made",s.heap.objs.size+1)]) U U (by decide+kernel) (by decide+kernel) U (by decide+kernel) U U U (forall_mem_cons.mpr ⟨U,forall_mem_nil _⟩) U) U (λ_ _ _ _=>bb) (λ_ _ _ _=>(aH (cy (K:=K) U) (pv 1) aj (λ_ _=>U))))) ag)))))
  aM)
  (aq (aT (bc (aa (pv 3) (aa (pv 4) ag)))))))))))))))),?_⟩
 show(let r11:TS:=_;let r10:TS:=cj _ r11;let r9:TS:=cj _ r10;let r8:TS:=cj _ r9;let r7:TS:=cj _ r8;let r6:TS:=cj _ r7;let r5:TS:=cj _ r6;let r4:TS:=cj _ r5;let r3:TS:=bp _ r4;let r2:TS:=bp _ r3;let r1:TS:=bp _ r2;bp _ r1 _ _ _);intro _ _ _ _ _ _ _ _ _ _ _;obtain⟨nl,dl,tl_,dv,tv,er,enl,edl,hdv,etl,htv⟩:=id hPl;obtain⟨ta,eta,cl,rl,rx,ea1,ea2,ea3,ea4⟩:=htv.2 0 t0 et0;have hfl:fv.length=fs.length:=hB.facts.1;have hml:mv.length=ts.length:=hB.tabs.1;have fin:∀(kd':Int)(H':Hp)(fa' ma':Addr)(fv' mv':List V)(fs':List Fc)(ts':List BT),kd=kd'->au H H'->H' fa'=some (.lst fv')->H' ma'=some (.lst mv')->BkG yX yV yW H' fv' mv' fs' ts'->(∀t∈ts',Sml t.nm)->SpI un pu fs ts kd' fs' ts'->∀x,H' x=none->Q (.ref x) (upd H' x (.tup [.ref fa',.ref ma'])):=λkd' H' fa' ma' fv' mv' fs' ts' ek s e1 e2 hb hn hsp x hx=>q x fa' ma' fv' mv' fs' ts' _ (s.trans (af hx _)) ae (af hx _ _ _ e1) (af hx _ _ _ e2) (hb.same (af hx _)) hn (ek ▸ hsp)
 refine⟨λσ' H'=>H'=H/\σ'=[some (.int kd),some (.int c),some (.ref r),some (.ref fa),some (.ref ma),some (.ref nl),some (.ref dl),some (.ref tl_),none,none,none,none],⟨_,U,r,_,U,SqT.of er,U,_,_,U,_,_,U,_,_,U,U,U,U⟩,?_⟩;rintro σ1 H1 ⟨e1,rfl⟩;rw[e1];clear e1 H1;refine⟨λσ' H'=>H'=H/\σ'=[some (.int kd),some (.int c),some (.ref r),some (.ref fa),some (.ref ma),some (.ref nl),some (.ref dl),some (.ref tl_),some (.int (u:Int)),none,none,none],⟨_,U,tl_,_,_,_,U,U,SqL.of etl,(aP (j:=0) eta),ta,_,_,_,U,U,SqT.of ea1,U,cl,_,_,_,U,U,SqL.of ea2,(aP (j:=0) (by unfold vN;rw[getElem?_map,eu];rfl)),U,U⟩,?_⟩;rintro σ2 H1 ⟨e1,rfl⟩;rw[e1];clear e1 H1;refine⟨λσ' H'=>au H H'/\∃b∈pL,σ'=[some (.int kd),some (.int c),some (.ref r),some (.ref fa),some (.ref ma),some (.ref nl),some (.ref dl),some (.ref tl_),some (.int (u:Int)),some (.str b),none,none],?_,?_⟩
 ·obtain⟨b,hb,eb⟩:=vw c;exact⟨(by show 6<=sizeLine;decide),λl hl=>⟨_,U,_,_,U,U,(by show(0:Int)<6;decide),l,_,_,_,U,U,SqL.of ae,eb,af hl _,b,hb,U⟩⟩
 rintro σ3 H1 ⟨s1,b,hb,rfl⟩;have mD:=s1 _ _ efa;have lQ:=s1 _ _ ema;have hB1:=hB.same s1;refine⟨λσ' H'=>au H H'/\∃na:Addr,H' na=some (.lst ((bN fs ts).map V.str))/\σ'=[some (.int kd),some (.int c),some (.ref r),some (.ref fa),some (.ref ma),some (.ref nl),some (.ref dl),some (.ref tl_),some (.int (u:Int)),some (.str b),some (.ref na),none],?_,?_⟩
 ·refine⟨_,U,fa,U,⟨_,SqL.of mD⟩,bh (xs:=fv) (λD i ys H'=>au H1 H'/\H' D=some (.lst ys)/\ys=((fs.take i).map (·.1)).map V.str) (λD hD=>⟨af hD _,ae,U⟩) (λD i ys H' hD _ h=>SqL.of (h.1 _ _ mD)) (λD i y ys H' hD e h=>?_) (λD ys H' hD h=>?_)⟩
  ·obtain⟨sm,eD,rfl⟩:=h;obtain⟨r_,f,rfl,ek,d,h3,h4⟩:=ar.get hB1.facts e;have hi:i<fv.length:=(Jx.mp e).1;refine⟨_,U,r_,_,_,_,U,U,SqT.of (sm _ _ h3),U,cn.mk (by lia) eD (aw (by rw[length_map,length_map,length_take];lia)) ⟨sm.upd hD,ae,?_⟩⟩;rw[take_snoc ek,map_append,map_append];rfl
  ·obtain⟨sm,eD,rfl⟩:=h;rw[hfl,take_length]at eD;refine⟨_,U,ma,U,⟨_,SqL.of (sm _ _ lQ)⟩,bh (xs:=mv) (λD2 i ys H2=>au H' H2/\H2 D2=some (.lst ys)/\ys=((ts.take i).map BT.nm).map V.str) (λD2 hD2=>⟨af hD2 _,ae,U⟩) (λD2 i ys H2 hD2 _ h=>SqL.of (h.1 _ _ (sm _ _ lQ))) (λD2 i y ys H2 hD2 e h=>?_) (λD2 ys H2 hD2 h=>?_)⟩
   ·obtain⟨s2,eD2,rfl⟩:=h;obtain⟨t_,t,rfl,ek,ou,dv,g4,g5,g6⟩:=ar.get hB1.tabs e;obtain⟨rl,dx,na,dl,fs_,xs,ht,f1,f2,f3,f4,f5,f6,ena,edl,erl,hR,iO⟩:=g4;have hi:i<mv.length:=(Jx.mp e).1;have sA:=sm.trans s2;refine⟨_,U,t_,_,_,_,_,U,sA _ _ ht,bl.k_Table,bl.na_Table_name,f2,cn.mk hi eD2 (aw (by rw[length_map,length_map,length_take];lia)) ⟨s2.upd hD2,ae,?_⟩⟩;rw[take_snoc ek,map_append,map_append];rfl
   ·obtain⟨s2,eD2,rfl⟩:=h;rw[hml,take_length]at eD2;refine⟨D,D2,_,_,U,U,s2 _ _ eD,eD2,le_of_lt (aw (by simp only[length_map];lia)),λp hp=>⟨(s1.trans (sm.trans s2)).trans (af hp _),p,?_,U⟩⟩;rw[ae];unfold bN;rw[map_append]
 rintro σ4 H2 ⟨s2,na,ena,rfl⟩;clear s1 mD lQ hB1;have nX:=s2 _ _ efa;have lR:=s2 _ _ ema;have hB2:=hB.same s2;refine⟨_,U,U,_,U,bM (λg=>?_) (λg1=>?_)⟩
 ·refine⟨_,U,_,U,λx dx hx hdx hne=>⟨x,dx,0,1,U,ae,by decide,U,?_⟩⟩;obtain⟨sn,hn⟩:=dr (C:=yV) (lo:=0) (hi:=1) hx hdx;generalize mkd yV (upd (upd H2 dx (.own x)) x (.ins yV dx [])) x dx 0 1=H3 at sn hn⊢;refine⟨bf,λtp htp=>⟨(by show 1<=sizeLine;decide),λl hl=>?_⟩⟩;have u1:=af htp (.tup [.str b,.ref x]);have et:upd H3 tp (.tup [.str b,.ref x]) tp=some (.tup [.str b,.ref x]):=ae;generalize upd H3 tp (.tup [.str b,.ref x])=H4 at u1 et hl⊢;have u2:=af hl (.lst [.ref tp]);have el:upd H4 l (.lst [.ref tp]) l=some (.lst [.ref tp]):=ae;generalize upd H4 l (.lst [.ref tp])=H5 at u2 el⊢;have s25:=sn.trans (u1.trans u2);refine⟨fa,l,_,_,U,U,s25 _ _ nX,el,le_of_lt (aw (by show fv.length+1<=1000;lia)),λp hp=>⟨_,U,bf,?_⟩⟩;have u3:=af hp (.lst (fv++[.ref tp]));have s26:=s25.trans u3;have hB6:=hB2.same s26;have hfc:FcG yV yW (upd H5 p (.lst (fv++[.ref tp]))) tp (b,((none,0,1):Dk)):=⟨x,(u2.trans u3) _ _ et,fL.same hn (u1.trans (u2.trans u3))⟩;exact fin 1 _ p ma _ _ _ ts (V.int.inj (of_decide_eq_true g)) (s2.trans s26) ae (s26 _ _ lR) ⟨hB6.facts.appL (ar.one hfc),hB6.tabs,(λf hf=>by rcases mem_append.mp hf with hf|hf;exact hB.sf f hf;rw[mem_singleton.mp hf];exact vt hb),hB.st,by rw[length_append];show fs.length+1<=100/\_;lia⟩ hnm (.one _ (tY b hb))
 refine⟨_,U,U,_,U,bM (λg=>?_) (λg2=>?_)⟩
 ·have hbl:((bN fs ts).map V.str).length=fs.length+ts.length:=by unfold bN;rw[length_map,length_append,length_map,length_map]
  have hfp:(0:Int)<((((bN fs ts).map V.str).length:Nat):Int):=by lia
  have g0:=emod_nonneg c (Int.ne_of_gt hfp);have gm:=emod_lt_of_pos c hfp;obtain⟨f,ef⟩:∃f:Nat,c%((((bN fs ts).map V.str).length:Nat):Int)=(f:Int):=⟨(c%((((bN fs ts).map V.str).length:Nat):Int)).toNat,by lia⟩;have hf:f<(bN fs ts).length:=by have h2:((bN fs ts).map V.str).length=(bN fs ts).length:=length_map _;lia
  have efn:=Jw hf;have hzm:=getElem_mem hf;generalize (bN fs ts)[f]=z at efn hzm;have hzs:Sml z:=by
   unfold bN at hzm;rcases mem_append.mp hzm with h|h
   ·obtain⟨f,hf,rfl⟩:=mem_map.mp h;exact hB.sf f hf
   ·obtain⟨t,ht,rfl⟩:=mem_map.mp h;exact hnm t ht
  refine⟨_,U,_,U,_,U,na,_,U,.inl (SqL.of ena),_,_,U,U,hfp,na,_,_,_,U,U,SqL.of ena,(by rw[ef];exact aP (bY efn)),λx dx hx hdx hne=>⟨x,dx,0,1,U,ae,by decide,U,?_⟩⟩;obtain⟨sn,hn⟩:=dr (C:=yV) (lo:=0) (hi:=1) hx hdx;generalize mkd yV (upd (upd H2 dx (.own x)) x (.ins yV dx [])) x dx 0 1=H3 at sn hn⊢;refine⟨bf,λtp htp=>⟨(by show 1<=sizeLine;decide),λl hl=>⟨_,U,?_⟩⟩⟩;have u1:=af htp (.tup [.str z,.ref x]);have et:upd H3 tp (.tup [.str z,.ref x]) tp=some (.tup [.str z,.ref x]):=ae;generalize upd H3 tp (.tup [.str z,.ref x])=H4 at u1 et hl⊢;have u2:=af hl (.lst [.ref tp]);have el:upd H4 l (.lst [.ref tp]) l=some (.lst [.ref tp]):=ae;generalize upd H4 l (.lst [.ref tp])=H5 at u2 el⊢;have s25:=sn.trans (u1.trans u2);refine⟨l,fa,_,_,U,U,el,s25 _ _ nX,le_of_lt (aw (by show 1+fv.length<=1000;lia)),λp hp=>⟨_,U,bf,?_⟩⟩;have u3:=af hp (.lst ([.ref tp]++fv));have s26:=s25.trans u3;have hB6:=hB2.same s26;have hfc:FcG yV yW (upd H5 p (.lst ([.ref tp]++fv))) tp (z,((none,0,1):Dk)):=⟨x,(u2.trans u3) _ _ et,fL.same hn (u1.trans (u2.trans u3))⟩;exact fin 2 _ p ma _ _ _ ts (V.int.inj (of_decide_eq_true g)) (s2.trans s26) ae (s26 _ _ lR) ⟨(ar.one hfc).appL hB6.facts,hB6.tabs,(λf hf=>by rcases mem_append.mp hf with hf|hf;rw[mem_singleton.mp hf];exact hzs;exact hB.sf f hf),hB.st,by rw[length_append];show 1+fs.length<=100/\_;lia⟩ hnm (.two _ hzm)
 refine⟨_,U,U,_,U,bM (λg=>?_) (λg3=>?_)⟩
 ·have hfp:(0:Int)<((mv.length:Nat):Int):=by lia
  have g0:=emod_nonneg c (Int.ne_of_gt hfp);have gm:=emod_lt_of_pos c hfp;obtain⟨f,ef⟩:∃f:Nat,c%((mv.length:Nat):Int)=(f:Int):=⟨(c%((mv.length:Nat):Int)).toNat,by lia⟩;have hf:f<ts.length:=by lia
  have et:=Jw hf;have htm:=getElem_mem hf;generalize ts[f]=t at et htm;obtain⟨t_,etv,hT⟩:=hB2.tabs.2 f t et;refine⟨_,U,_,U,_,U,_,U,_,U,ma,_,U,.inl (SqL.of lR),_,_,U,U,hfp,ma,_,_,_,U,U,SqL.of lR,(by rw[ef];exact aP etv),(by show 1<=sizeLine;decide),λl hl=>?_⟩;have u2:=af hl (.lst [.ref t_]);have el:upd H2 l (.lst [.ref t_]) l=some (.lst [.ref t_]):=ae;generalize upd H2 l (.lst [.ref t_])=H5 at u2 el⊢;refine⟨ma,l,_,_,U,U,u2 _ _ lR,el,le_of_lt (aw (by show mv.length+1<=1000;lia)),λp hp=>⟨bf,?_⟩⟩;have s26:=u2.trans (af hp (.lst (mv++[.ref t_])));have hB6:=hB2.same s26;have hmm:∀t'∈ts++[t],t'∈ts:=λt' h=>by rcases mem_append.mp h with h|h;exact h;rw[mem_singleton.mp h];exact htm
  exact fin 3 _ fa p _ _ fs _ (V.int.inj (of_decide_eq_true g)) (s2.trans s26) (s26 _ _ nX) ae ⟨hB6.facts,hB6.tabs.appL (ar.one (hT.same s26)),hB.sf,(λt' h=>hB.st t' (hmm t' h)),by rw[length_append];show _/\ts.length+1<=100;lia⟩ (λt' h=>hnm t' (hmm t' h)) (.three htm)
 refine⟨_,U,U,_,U,bM (λg=>?_) (λg4=>?_)⟩
 ·refine⟨_,U,fa,U,⟨_,SqL.of nX⟩,bh (xs:=fv) (λD i ys H'=>au H2 H'/\H' D=some (.lst ys)/\ar ys ((fs.take i).filter λf=>decide (f.1≠un)) (FcG yV yW H2)) (λD hD=>⟨af hD _,ae,ar.nil⟩) (λD i ys H' hD _ h=>SqL.of (h.1 _ _ nX)) (λD i y ys H' hD e h=>?_) (λD ys H' hD h=>?_)⟩
  ·obtain⟨sm,eD,hy⟩:=h;obtain⟨r_,f,rfl,ek,hF⟩:=ar.get hB2.facts e;obtain⟨d,h3,h4⟩:=id hF;have hi:i<fv.length:=(Jx.mp e).1;have Ju:((fs.take i).filter λf=>decide (f.1≠un)).length<=i:=le_trans (length_filter_le ..) (by rw[length_take];lia);have hf:=iq (p:=λf:Fc=>decide (f.1≠un)) ek;refine⟨_,U,r_,_,_,_,U,U,SqT.of (sm _ _ h3),U,_,U,_,U,nl,_,_,_,U,U,SqL.of ((s2.trans sm) _ _ enl),aP (bY eun),U,_,U,?_⟩;refine bM (λg2=>?_) (λg2=>?_)
   ·have hc:f.1≠un:=λz=>by rw[z]at g2;simp at g2
    rw[show decide (f.1≠un)=true from decide_eq_true hc]at hf;refine⟨_,U,cn.mk hi eD (aw (by rw[hy.1];lia)) ⟨sm.upd hD,ae,?_⟩⟩;rw[hf];exact ar.snoc hy hF
   ·have hc:f.1=un:=Classical.byContradiction λz=>g2 (by simp[z])
    rw[show decide (f.1≠un)=false by rw[decide_eq_false_iff_not];exact λz=>z hc]at hf;refine fe.mk (zs:=ys) hi ⟨sm,eD,?_⟩;rw[hf];simpa using hy
  ·obtain⟨sm,eD,hy⟩:=h;rw[hfl,take_length]at hy;refine⟨_,U,bf,?_⟩;have hB6:=hB2.same sm;exact fin 4 _ D ma _ _ _ ts (V.int.inj (of_decide_eq_true g)) (s2.trans sm) eD (sm _ _ lR) ⟨ar.mono hy (λ_ _ p=>p.same sm),hB6.tabs,(λf hf=>hB.sf f (mem_filter.mp hf).1),hB.st,by have:=length_filter_le (λf:Fc=>decide (f.1≠un)) fs;lia⟩ hnm .four
 refine⟨_,U,U,_,U,bM (λg=>?_) (λg5=>?_)⟩
 ·obtain⟨da,e2,hpd⟩:=hdv.2 u pu epu;have okp:=ok.doms pu (Jy epu);refine⟨_,U,_,U,dl,_,_,_,U,U,SqL.of (s2 _ _ edl),aP e2,da,pu,U,hpd.same s2,okp,λo H3 s3 hn hD3=>?_⟩;have s23:=s2.trans s3;have ui:=s3 _ _ nX;have hB3:=hB2.same s3;refine⟨_,U,fa,U,⟨_,SqL.of ui⟩,bh (xs:=fv) (λD i ys H'=>au H3 H'/\H' D=some (.lst ys)/\ar ys ((fs.take i).map λf=>if f.1=un then(f.1,cD pu)else f) (FcG yV yW (hide H' D))) (λD hD=>⟨af hD _,ae,ar.nil⟩) (λD i ys H' hD _ h=>SqL.of (h.1 _ _ ui)) (λD i y ys H' hD e h=>?_) (λD ys H' hD h=>?_)⟩
  ·obtain⟨sm,eD,hy⟩:=h;obtain⟨r_,f,rfl,ek,d,h3,h4⟩:=ar.get hB3.facts e;have hi:i<fv.length:=(Jx.mp e).1;refine⟨_,U,_,U,r_,_,_,_,U,U,SqT.of (sm _ _ h3),U,_,U,bf,λtp htp=>⟨bf,λl hl=>?_⟩⟩;have u1:=af htp (.tup [.str f.1,.ref o]);have et:upd H' tp (.tup [.str f.1,.ref o]) tp=some (.tup [.str f.1,.ref o]):=ae;generalize upd H' tp (.tup [.str f.1,.ref o])=H4 at u1 et hl⊢;have u2:=af hl (.lst [.ref r_,.ref tp]);have el:upd H4 l (.lst [.ref r_,.ref tp]) l=some (.lst [.ref r_,.ref tp]):=ae;have nDl:D≠l:=λz=>by rw[←z,u1 _ _ eD]at hl;cases hl
   generalize upd H4 l (.lst [.ref r_,.ref tp])=H5 at u2 el⊢;have sA:=u1.trans u2;have eD5:=sA _ _ eD;have hyl:=hy.1;rw[length_map,length_take]at hyl;have s35:=sm.trans sA;refine⟨_,U,r_,_,_,_,U,U,SqT.of (s35 _ _ h3),U,_,U,_,U,nl,_,_,_,U,U,SqL.of ((s23.trans s35) _ _ enl),aP (bY eun),U,.inr ⟨_,U,?_⟩⟩;by_cases hc:f.1=un
   ·rw[if_pos (decide_eq_true (by rw[hc]))];refine⟨l,_,_,_,U,U,SqL.of el,U,cn.mk hi eD5 (aw (by lia)) ⟨s35.upd hD,ae,?_⟩⟩;rw[eP,take_snoc ek,map_append];have e5:([f].map λf:Fc=>if f.1=un then(f.1,cD pu)else f)=[(f.1,cD pu)]:=by rw[map_cons,if_pos hc];rfl
    rw[e5];obtain⟨dx,en⟩:=fL.same hn s35;have hk:dc yV yW (hide H5 D) o (cD pu):=by
     have ek:cD pu=(none,(cD pu).2.1,(cD pu).2.2):=by unfold cD;split <;> rfl
     rw[ek];exact⟨dx,bj en (bK en eD5 (by intro z;cases z))⟩
    exact ar.snoc (ar.mono hy λ_ _ p=>p.same (dN sA)) ⟨o,dO eD5 _ _ (u2 _ _ et),hk⟩
   ·rw[if_neg (λz=>hc (V.str.inj (of_decide_eq_true z)))];refine⟨l,_,_,_,U,U,SqL.of el,U,cn.mk hi eD5 (aw (by lia)) ⟨s35.upd hD,ae,?_⟩⟩;rw[eP,take_snoc ek,map_append];have e5:([f].map λf:Fc=>if f.1=un then(f.1,cD pu)else f)=[f]:=by rw[map_cons,if_neg hc];rfl
    rw[e5];have hF3:FcG yV yW (hide H5 D) r_ f:=FcG.same ⟨d,h3,h4⟩ (λb u e=>bj (s35 _ _ e) (λz=>by rw[z,hD]at e;cases e));exact ar.snoc (ar.mono hy λ_ _ p=>p.same (dN sA)) hF3
  ·obtain⟨sm,eD,hy⟩:=h;rw[hfl,take_length]at hy;refine⟨_,U,bf,?_⟩;have hB6:=hB3.same sm;exact fin 5 _ D ma _ _ _ ts (V.int.inj (of_decide_eq_true g)) (s23.trans sm) eD ((s3.trans sm) _ _ lR) ⟨ar.mono hy (λ_ _ p=>p.same (ij _ _)),hB6.tabs,(λf hf=>by obtain⟨f',hf',rfl⟩:=mem_map.mp hf;split;exact hB.sf f' hf';exact hB.sf f' hf'),hB.st,by rw[length_map];lia⟩ hnm .five
 refine⟨_,U,U,_,U,bM (λg=>?_) (λg6=>?_)⟩
 ·have hl0:z0.length<=11:=zy.1;have l1:(Str.ofString "z").length=1:=by decide+kernel
  have hsz:Sml (z0++Str.ofString "z"):=pM hs0 hl0 l1 (by decide+kernel);refine⟨_,U,_,U,(by decide),(by decide),bH (λD i ys H'=>au H2 H'/\H' D=some (.lst ys)/\ar ys (List.replicate i ((z0++Str.ofString "z",((none,0,1):Dk)):Fc)) (FcG yV yW (hide H' D))) (λD hD=>⟨af hD _,ae,ar.nil⟩) (λD i ys H' hD hi h=>?_) (λD ys H' hD h=>?_)⟩
  ·obtain⟨sm,eD,hy⟩:=h;refine⟨_,U,nl,_,_,_,U,U,SqL.of ((s2.trans sm) _ _ enl),(aP (j:=0) (bY ez0)),_,_,U,U,big (by lia),λx dx hx hdx hne=>⟨x,dx,0,1,U,ae,by decide,U,?_⟩⟩;obtain⟨sn,hn⟩:=dr (C:=yV) (lo:=0) (hi:=1) hx hdx;generalize mkd yV (upd (upd H' dx (.own x)) x (.ins yV dx [])) x dx 0 1=H3 at sn hn⊢;refine⟨bf,λtp htp=>?_⟩;have u1:=af htp (.tup [.str (z0++Str.ofString "z"),.ref x]);have et:upd H3 tp (.tup [.str (z0++Str.ofString "z"),.ref x]) tp=some (.tup [.str (z0++Str.ofString "z"),.ref x]):=ae;generalize upd H3 tp (.tup [.str (z0++Str.ofString "z"),.ref x])=H4 at u1 et⊢;have sA:=sn.trans u1;have eD4:=sA _ _ eD;refine cn.mk hi eD4 (aw (by rw[hy.1,length_replicate];lia)) ⟨(sm.trans sA).upd hD,ae,?_⟩;rw[eP,List.replicate_succ'];obtain⟨dx',en⟩:=fL.same hn u1;exact ar.snoc (ar.mono hy λ_ _ p=>p.same (dN sA)) ⟨x,dO eD4 _ _ et,⟨dx',bj en (bK en eD4 (by intro z;cases z))⟩⟩
  ·obtain⟨sm,eD,hy⟩:=h;have hyl:ys.length=21:=by rw[hy.1,length_replicate];rfl
   refine⟨fa,D,_,_,U,U,sm _ _ nX,eD,le_of_lt (aw (by lia)),λp hp=>⟨_,U,bf,?_⟩⟩;have s26:=sm.trans (af hp (.lst (fv++ys)));have hB6:=hB2.same s26;exact fin 6 _ p ma _ _ _ ts (V.int.inj (of_decide_eq_true g)) (s2.trans s26) ae (s26 _ _ lR) ⟨hB6.facts.appL (ar.mono hy λ_ _ p=>(p.same (ij _ _)).same (af hp _)),hB6.tabs,(λf hf=>by rcases mem_append.mp hf with hf|hf;exact hB.sf f hf;rw[(List.mem_replicate.mp hf).2];exact hsz),hB.st,by rw[length_append,length_replicate];show fs.length+21<=100/\_;lia⟩ hnm (.six _)
 refine⟨_,U,U,_,U,bM (λg=>?_) (λg7=>?_)⟩
 ·have et:=Jw (l:=ts) (i:=0) (by lia);have htm:=Jy et;generalize ts[0]=t at et htm;obtain⟨t_,etv,hT⟩:=hB2.tabs.2 0 t et;refine⟨_,U,_,U,_,U,(by decide),(by decide),bH (λD i ys H'=>au H2 H'/\H' D=some (.lst ys)/\ys=List.replicate i (V.ref t_)) (λD hD=>⟨af hD _,ae,U⟩) (λD i ys H' hD hi h=>?_) (λD ys H' hD h=>?_)⟩
  ·obtain⟨sm,eD,rfl⟩:=h;refine⟨_,U,ma,_,_,_,U,U,SqL.of (sm _ _ lR),(aP (j:=0) etv),cn.mk hi eD (aw (by rw[length_replicate];lia)) ⟨sm.upd hD,ae,?_⟩⟩;rw[List.replicate_succ']
  ·obtain⟨sm,eD,rfl⟩:=h;refine⟨ma,D,_,_,U,U,sm _ _ lR,eD,le_of_lt (aw (by rw[length_replicate];show mv.length+30<=1000;lia)),λp hp=>⟨bf,?_⟩⟩;have s26:=sm.trans (af hp (.lst (mv++List.replicate (30:Int).toNat (V.ref t_))));have hB6:=hB2.same s26;have hmm:∀t'∈ts++List.replicate 30 t,t'∈ts:=λt' h=>by rcases mem_append.mp h with h|h;exact h;rw[(List.mem_replicate.mp h).2];exact htm
   exact fin 7 _ fa p _ _ fs _ (V.int.inj (of_decide_eq_true g)) (s2.trans s26) (s26 _ _ nX) ae ⟨hB6.facts,hB6.tabs.appL (ar.rep (hT.same s26) 30),hB.sf,(λt' h=>hB.st t' (hmm t' h)),by rw[length_append,length_replicate];show _/\ts.length+30<=100;lia⟩ (λt' h=>hnm t' (hmm t' h)) (.seven _ htm)
 refine⟨_,U,_,U,bf,fin kd _ fa ma fv mv fs ts U s2 nX lR hB2 hnm (.same ?_)⟩;have hne:∀j:Int,¬ decide (V.int kd=V.int j)=true->kd≠j:=λj h z=>h (by rw[z];exact decide_eq_true U)
 have n1:=hne 1 g1;have n2:=hne 2 g2;have n3:=hne 3 g3;have n4:=hne 4 g4;have n5:=hne 5 g5;have n6:=hne 6 g6;have n7:=hne 7 g7;lia
theorem Ci(F:Fun K "_law_facts" "_law_facts" Y29 f fd) (bl:Bl K mg yA yI yH yG ah yN yO yP yQ yR yS yT yU yV yW yX ai)(ft:Callee P w K mg base 5 "_law_made" ["domain"] (d6 K yA yI yH yG ah yN yO yP yQ yR yS yT yU yV yW yX ai)):bg P w K mg base CX0 6 f fd ["plan"] (eA K yA yI yH yG ah yN yO yP yQ yR yS yT yU yV yW yX ai):=by
 refine F.ok Z29 (λvs H Q E h=>?_) (λcdv A outer s H vs Q E hr h=>?_)
 ·obtain⟨r,zs,ds,ts,fN,rfl,hPl,ok,q⟩:=h;rfl
 obtain⟨r,zs,ds,ts,fN,rfl,hPl,ok,q⟩:=h
 refine⟨_,(ay (iI (pv 0) (dh U (aO (aK (i:=1) Z29.nd U (Or.inr U)) (aO (aK (i:=2) Z29.nd U (Or.inr U)) (aO (aK (i:=3) Z29.nd U (Or.inl U)) cE)))))
  (aq (aT (bq (bG U bl.range_ (aa (aC cY (az av U bl.len_ boot_len (aa (pv 1) ag)) (az av U bl.len_ boot_len (aa (pv 3) ag))) ag)) (aY (N:=["k","names","domains"]) (fr:=[1,2]) (cl:=[("names",s.heap.objs.size+1),("domains",s.heap.objs.size+1+1)]) U U (by decide+kernel) (by decide+kernel) U (by decide+kernel) U U U (forall_mem_cons.mpr ⟨U,forall_mem_cons.mpr ⟨U,forall_mem_nil _⟩⟩) U) U (λ_ _ _ _=>bb) (λ_ _ _ _=>(bc (aa (aH (cy (K:=K) U) (pv 1) (pv 0) (λ_ _=>U)) (aa (br ft hr U (aa (aH (cy (K:=K) U) (pv 2) (pv 0) (λ_ _=>U)) ag)) ag)))))))),?_⟩
 show(let r1:TS:=_;bp _ r1 _ _ _);intro _;obtain⟨nl,dl,tl_,dv,tv,er,enl,edl,hdv,etl,htv⟩:=id hPl;have hzl:(zs.map V.str).length=zs.length:=length_map _;have hl1:=ok.len;have hl2:=ok.tab;have h7:=ok.n7;have htl:tv.length=ts.length:=htv.1;refine⟨λσ' H'=>H'=H/\σ'=[some (.ref r),some (.ref nl),some (.ref dl),some (.ref tl_)],⟨_,U,r,_,U,SqT.of er,U,_,_,U,_,_,U,_,_,U,U,U,U⟩,?_⟩;rintro σ1 H1 ⟨rfl,rfl⟩;have eN:(((zs.map V.str).length:Nat):Int)-((tv.length:Nat):Int)=(fN:Int):=by lia
 refine⟨_,U,nl,_,U,.inl (SqL.of enl),_,U,tl_,_,U,.inl (SqL.of etl),_,_,U,U,_,U,(by rw[eN];lia),(by rw[eN];lia),bH (λD i ys H'=>au H1 H'/\H' D=some (.lst ys)/\ar ys (List.range i) (FcN (Fr H1 D) yV yW H' zs ds)) (λD hD=>⟨af hD _,ae,ar.nil⟩) (λD i ys H' hD hi h=>?_) (λD ys H' hD h=>?_)⟩
 ·obtain⟨sm,eD,hz⟩:=h;rw[eN,toNat_natCast]at hi;have ez:=Jw (l:=zs) (i:=i) (by lia);have ed:=Jw (l:=ds) (i:=i) (by lia);obtain⟨da,e2,hpd⟩:=hdv.2 i _ ed;have okd:=ok.doms _ (Jy ed);generalize ds[i]=p at ed hpd okd;generalize zs[i]=nm at ez;have ix1:atI (zs.map V.str) (0+(i:Int))=some (.str nm):=by rw[zero_add];exact aP (bY ez)
  have ix2:atI dv (0+(i:Int))=some (.ref da):=by rw[zero_add];exact aP e2
  refine⟨_,U,_,U,nl,_,_,_,U,U,SqL.of (sm _ _ enl),ix1,_,U,_,U,dl,_,_,_,U,U,SqL.of (sm _ _ edl),ix2,da,p,U,hpd.same sm,okd,λx H6 s6 hx=>⟨bf,λtt_ htt=>?_⟩⟩;have u7:=af htt (.tup [.str nm,.ref x]);have eT:upd H6 tt_ (.tup [.str nm,.ref x]) tt_=some (.tup [.str nm,.ref x]):=ae;generalize upd H6 tt_ (.tup [.str nm,.ref x])=H7 at u7 eT⊢;have sA:=s6.trans u7;have eD7:=sA _ _ eD;have hz2:ar (ys++[.ref tt_]) (List.range i++[i]) (FcN (Fr H1 D) yV yW H7 zs ds):=ar.snoc (ar.mono hz λ_ _ p=>p.same sA) ⟨nm,p,x,ez,ed,eT,(hx.wk λa h=>⟨sm.free h,λz=>by rw[z,eD]at h;cases h⟩).same u7⟩;refine cn.mk (by rw[eN,toNat_natCast];exact hi) eD7 (aw (by rw[hz.1,length_range];lia)) ⟨(sm.trans sA).upd hD,ae,?_⟩;rw[range_succ];exact ar.mono hz2 λ_ _ p=>p.upd Fr.out eD7
 ·obtain⟨sm,eD,hz⟩:=h;rw[eN,toNat_natCast]at hz;exact q D ys H' sm eD (ar.mono hz λ_ _ p=>p.fc)
theorem Cj(F:Fun K "__init__" "Table.__init__" Y12 f fd) (bl:Bl K mg yA yI yH yG ah yN yO yP yQ yR yS yT yU yV yW yX ai)(gF:Callee P w K mg base 5 "refuse_names_tables" ["names"] (bW K yA yI yH yG ah yN yO yP yQ yR yS yT yU yV yW yX ai)) (gq:Callee P w K mg base 5 "refuse_counts_tables" ["names","rows"] (bR K yA yI yH yG ah yN yO yP yQ yR yS yT yU yV yW yX ai)) (nZ:Callee P w K mg base 5 "refuse_way" ["way","outcome"] (dX K yA yI yH yG ah yN yO yP yQ yR yS yT yU yV yW yX ai)) (n8:Callee P w K mg base 5 "refuse_row" ["domains","outcome","cells","code"] (dW K yA yI yH yG ah yN yO yP yQ yR yS yT yU yV yW yX ai)) (rT:Callee P w K mg base 5 "own_row" ["cells","code"] (gi K yA yI yH yG ah yN yO yP yQ yR yS yT yU yV yW yX ai)):bg P w K mg base CX0 6 f fd ["self","name","names","domains","outcome","way","rows"] (bw K yA yI yH yG ah yN yO yP yQ yR yS yT yU yV yW yX ai):=by
 refine F.ok Z12 (λvs H Q E h=>?_) (λcdv A outer s H vs Q E hr h=>?_)
 ·obtain⟨x,dx,na,dl,ou,rl,nm,wy,zs,dv,rx,bs,o,rws,rfl,hx,hna,hw,hnd,h1,h4,hwy,hws,hdl,hdv,hou,hrl,hR,iO,hb4,hok,q⟩:=h;rfl
 obtain⟨x,dx,na,dl,ou,rl,nm,wy,zs,dv,rx,bs,o,rws,rfl,hx,hna,hw,hnd,h1,h4,hwy,hws,hdl,hdv,hou,hrl,hR,iO,hb4,hok,q⟩:=h
 refine⟨_,(aE (bz (br gF hr U (aa (aC cZ (aX (aa (pv 1) ag)) (pv 2)) ag)))
  (aE (bz (br gq hr U (aa (pv 2) (aa (pv 6) ag))))
  (aE (bz (br nZ hr U (aa (pv 5) (aa (pv 4) ag))))
  (ay (cO PassesOwn.never U (aW (pv 6)) (dh U (aO (aK (i:=7) Z12.nd U (Or.inl U)) (aO (aK (i:=8) Z12.nd U (Or.inl U)) cE)))
  (aq (bz (br n8 hr U (aa (pv 3) (aa (pv 4) (aa (pv 7) (aa (pv 8) ag))))))))
  (aE (cK (pv 0) (pv 1) U)
  (aE (cK (pv 0) (bO cx U bl.list_ PyProof.Rows.boot_list (aa (pv 2) ag)) U)
  (aE (cK (pv 0) (bO cx U bl.list_ PyProof.Rows.boot_list (aa (pv 3) ag)) U)
  (aE (cK (pv 0) (pv 4) U)
  (aE (cK (pv 0) (pv 5) U)
  (aq (cK (pv 0) (jo (aW (pv 6)) (dj (N:=["cells","code"]) (k:=2) U U (by decide+kernel) (by decide+kernel) (by decide+kernel)) U (λ_ _ _ _=>(tq (K:=K) (n:=2) U U (aO (aK (i:=0) (show(["cells","code"]:List Str).Nodup by decide+kernel) U (Or.inl U) (Or.inr U)) (aO (aK (i:=1) (show(["cells","code"]:List Str).Nodup by decide+kernel) U (Or.inl U) (Or.inr U)) cE)))) (λ_ _ _ _=>bb) (λ_ _ _ _=>(br rT hr U (aa (pv 0) (aa (pv 1) ag))))) U))))))))))),?_⟩
 show(let r9:TS:=_;let r8:TS:=cj _ r9;let r7:TS:=cj _ r8;let r6:TS:=cj _ r7;let r5:TS:=cj _ r6;let r4:TS:=cj _ r5;let r3:TS:=bp _ r4;let r2:TS:=cj _ r3;let r1:TS:=cj _ r2;cj _ r1 _ _ _);intro _ _ _ _ _ _ _ _ _;have hzl:(zs.map V.str).length=zs.length:=length_map _;refine⟨_,U,(by show 1<=sizeLine;decide),λl1 hl1=>?_⟩;have s1:=af hl1 (.lst [.str nm]);have e1:upd H l1 (.lst [.str nm]) l1=some (.lst [.str nm]):=ae;generalize upd H l1 (.lst [.str nm])=H1 at s1 e1⊢;refine⟨_,U,l1,na,_,_,U,U,e1,s1 _ _ hna,(by rw[hzl];show 1+zs.length<=sizeLine;exact big (by lia)),λl2 hl2=>?_⟩;have s2:=s1.trans (af hl2 (.lst ([V.str nm]++zs.map V.str)));have e2:upd H1 l2 (.lst ([V.str nm]++zs.map V.str)) l2=some (.lst ((nm :: zs).map V.str)):=ae;generalize upd H1 l2 (.lst ([V.str nm]++zs.map V.str))=H2 at s2 e2⊢;refine⟨l2,nm :: zs,U,SqL.of e2,hw,hnd,by rw[length_cons];lia,λH3 t3=>?_⟩;have s3:=s2.trans t3;refine⟨_,U,_,U,na,rl,_,_,U,SqL.of (s3 _ _ hna),SqL.of (s3 _ _ hrl),by rw[hzl];exact h1,by rw[hzl];exact h4,iO,?_⟩;refine⟨_,U,_,U,wy,ou,U,hwy,(λz=>let ⟨dx',fs',e'⟩:=hws z;⟨dx',fs',s3 _ _ e'⟩),λH4 t4=>?_⟩;have s4:=s3.trans t4;refine⟨λσ' H'=>au H H'/\∃c7 c8:Option V,σ'=[some (.ref x),some (.str nm),some (.ref na),some (.ref dl),some (.ref ou),some (.str wy),some (.ref rl),c7,c8],?_,?_⟩
 ·refine⟨_,U,rl,U,⟨_,SqL.of (s4 _ _ hrl)⟩,cR (xs:=rx) (λi σ H'=>au H H'/\∃c7 c8:Option V,σ=[some (.ref x),some (.str nm),some (.ref na),some (.ref dl),some (.ref ou),some (.str wy),some (.ref rl),c7,c8]) ⟨s4,_,_,U⟩ (λi σ H' _ h=>SqL.of (h.1 _ _ hrl)) (λi y σ H' e h=>?_) (λσ H' h=>h)⟩;obtain⟨sm,c7,c8,rfl⟩:=h;obtain⟨r,w_,rfl,ew,ce,cv,g1,_,g2,g3⟩:=ar.get (hR.same sm) e;refine⟨r,_,U,SqT.of g1,U,_,_,U,_,_,U,U,?_⟩;exact⟨_,U,_,U,_,U,_,U,dl,ou,ce,dv,cv,bs,o,w_,U,SqL.of (sm _ _ hdl),ar.mono hdv λ_ _ p=>p.same sm,hou.same sm,g2,g3,hok w_ (Jy ew),λH2 t2=>⟨sm.trans t2,_,_,U⟩⟩
 rintro σ5 H5 ⟨s5,c7,c8,rfl⟩;have x5:=s5 _ _ hx;have nax:na≠x:=bK hna hx (by intro z;cases z);have dlx:dl≠x:=bK hdl hx (by intro z;cases z);have rlx:rl≠x:=bK hrl hx (by intro z;cases z);have k5:∀b o,b≠x->H b=some o->H5 b=some o:=λb o _ e=>s5 b o e
 have R5:=RL.hide x5 (hR.same s5);refine⟨_,U,_,U,x,_,dx,_,U,x5,bl.k_Table,bl.na_Table_name,(by show 0<1000;decide),?_⟩;have k6:∀b o,b≠x->H5 b=some o->upd H5 x (.ins yX dx [(Str.ofString "name",.str nm)]) b=some o:=λb o hb e=>(aD hb).trans e
 have x6:upd H5 x (.ins yX dx [(Str.ofString "name",.str nm)]) x=some (.ins yX dx [(Str.ofString "name",.str nm)]):=ae;have g6:upd H5 x (.ins yX dx (bE (Str.ofString "name") (.str nm) []))=upd H5 x (.ins yX dx [(Str.ofString "name",.str nm)]):=rfl;rw[g6];clear g6;generalize upd H5 x (.ins yX dx [(Str.ofString "name",.str nm)])=H6 at k6 x6⊢;refine⟨_,U,na,_,U,.inl (SqL.of (k6 _ _ nax (s5 _ _ hna))),λm1 hm1=>⟨_,U,x,_,dx,_,U,iL x6 hm1,bl.k_Table,bl.na_Table_names,(by show 1<1000;decide),?_⟩⟩;have g7:upd (upd H6 m1 (.lst (zs.map V.str))) x (.ins yX dx (bE (Str.ofString "names") (V.ref m1) [(Str.ofString "name",V.str nm)]))=upd (upd H6 m1 (.lst (zs.map V.str))) x (.ins yX dx [(Str.ofString "name",V.str nm),(Str.ofString "names",V.ref m1)]):=by rw[pf1]
 rw[g7];clear g7;have k7:∀b o,b≠x->H5 b=some o->upd (upd H6 m1 (.lst (zs.map V.str))) x (.ins yX dx [(Str.ofString "name",V.str nm),(Str.ofString "names",V.ref m1)]) b=some o:=λb o hb e=>(aD hb).trans (iL (k6 b o hb e) hm1)
 have x7:upd (upd H6 m1 (.lst (zs.map V.str))) x (.ins yX dx [(Str.ofString "name",V.str nm),(Str.ofString "names",V.ref m1)]) x=some (.ins yX dx [(Str.ofString "name",V.str nm),(Str.ofString "names",V.ref m1)]):=ae;have m1x:m1≠x:=λz=>by rw[z,x6]at hm1;cases hm1
 have j7:upd (upd H6 m1 (.lst (zs.map V.str))) x (.ins yX dx [(Str.ofString "name",V.str nm),(Str.ofString "names",V.ref m1)]) m1=some (.lst (zs.map V.str)):=(aD m1x).trans ae;generalize upd (upd H6 m1 (.lst (zs.map V.str))) x (.ins yX dx [(Str.ofString "name",V.str nm),(Str.ofString "names",V.ref m1)])=H7 at k7 x7 j7⊢;refine⟨_,U,dl,_,U,.inl (SqL.of (k7 _ _ dlx (s5 _ _ hdl))),λm2 hm2=>⟨_,U,x,_,dx,_,U,iL x7 hm2,bl.k_Table,bl.na_Table_domains,(by show 2<1000;decide),?_⟩⟩;have g8:upd (upd H7 m2 (.lst dv)) x (.ins yX dx (bE (Str.ofString "domains") (V.ref m2) [(Str.ofString "name",V.str nm),(Str.ofString "names",V.ref m1)]))=upd (upd H7 m2 (.lst dv)) x (.ins yX dx [(Str.ofString "name",V.str nm),(Str.ofString "names",V.ref m1),(Str.ofString "domains",V.ref m2)]):=by rw[pf2]
 rw[g8];clear g8;have k8:∀b o,b≠x->H5 b=some o->upd (upd H7 m2 (.lst dv)) x (.ins yX dx [(Str.ofString "name",V.str nm),(Str.ofString "names",V.ref m1),(Str.ofString "domains",V.ref m2)]) b=some o:=λb o hb e=>(aD hb).trans (iL (k7 b o hb e) hm2)
 have x8:upd (upd H7 m2 (.lst dv)) x (.ins yX dx [(Str.ofString "name",V.str nm),(Str.ofString "names",V.ref m1),(Str.ofString "domains",V.ref m2)]) x=some (.ins yX dx [(Str.ofString "name",V.str nm),(Str.ofString "names",V.ref m1),(Str.ofString "domains",V.ref m2)]):=ae;have m2x:m2≠x:=λz=>by rw[z,x7]at hm2;cases hm2
 have j8:upd (upd H7 m2 (.lst dv)) x (.ins yX dx [(Str.ofString "name",V.str nm),(Str.ofString "names",V.ref m1),(Str.ofString "domains",V.ref m2)]) m1=some (.lst (zs.map V.str)):=(aD m1x).trans (iL j7 hm2);have i8:upd (upd H7 m2 (.lst dv)) x (.ins yX dx [(Str.ofString "name",V.str nm),(Str.ofString "names",V.ref m1),(Str.ofString "domains",V.ref m2)]) m2=some (.lst dv):=(aD m2x).trans ae;generalize upd (upd H7 m2 (.lst dv)) x (.ins yX dx [(Str.ofString "name",V.str nm),(Str.ofString "names",V.ref m1),(Str.ofString "domains",V.ref m2)])=H8 at k8 x8 j8 i8⊢;refine⟨_,U,_,U,x,_,dx,_,U,x8,bl.k_Table,bl.na_Table_outcome,(by show 3<1000;decide),?_⟩;have g9:upd H8 x (.ins yX dx (bE (Str.ofString "outcome") (V.ref ou) [(Str.ofString "name",V.str nm),(Str.ofString "names",V.ref m1),(Str.ofString "domains",V.ref m2)]))=upd H8 x (.ins yX dx [(Str.ofString "name",V.str nm),(Str.ofString "names",V.ref m1),(Str.ofString "domains",V.ref m2),(Str.ofString "outcome",V.ref ou)]):=by rw[pf3]
 rw[g9];clear g9;have k9:∀b o,b≠x->H5 b=some o->upd H8 x (.ins yX dx [(Str.ofString "name",V.str nm),(Str.ofString "names",V.ref m1),(Str.ofString "domains",V.ref m2),(Str.ofString "outcome",V.ref ou)]) b=some o:=λb o hb e=>(aD hb).trans (k8 b o hb e)
 have x9:upd H8 x (.ins yX dx [(Str.ofString "name",V.str nm),(Str.ofString "names",V.ref m1),(Str.ofString "domains",V.ref m2),(Str.ofString "outcome",V.ref ou)]) x=some (.ins yX dx [(Str.ofString "name",V.str nm),(Str.ofString "names",V.ref m1),(Str.ofString "domains",V.ref m2),(Str.ofString "outcome",V.ref ou)]):=ae;have j9:upd H8 x (.ins yX dx [(Str.ofString "name",V.str nm),(Str.ofString "names",V.ref m1),(Str.ofString "domains",V.ref m2),(Str.ofString "outcome",V.ref ou)]) m1=some (.lst (zs.map V.str)):=(aD m1x).trans j8;have i9:upd H8 x (.ins yX dx [(Str.ofString "name",V.str nm),(Str.ofString "names",V.ref m1),(Str.ofString "domains",V.ref m2),(Str.ofString "outcome",V.ref ou)]) m2=some (.lst dv):=(aD m2x).trans i8;generalize upd H8 x (.ins yX dx [(Str.ofString "name",V.str nm),(Str.ofString "names",V.ref m1),(Str.ofString "domains",V.ref m2),(Str.ofString "outcome",V.ref ou)])=H9 at k9 x9 j9 i9⊢;refine⟨_,U,_,U,x,_,dx,_,U,x9,bl.k_Table,bl.na_Table_way,(by show 4<1000;decide),?_⟩;have g10:upd H9 x (.ins yX dx (bE (Str.ofString "way") (V.str wy) [(Str.ofString "name",V.str nm),(Str.ofString "names",V.ref m1),(Str.ofString "domains",V.ref m2),(Str.ofString "outcome",V.ref ou)]))=upd H9 x (.ins yX dx [(Str.ofString "name",V.str nm),(Str.ofString "names",V.ref m1),(Str.ofString "domains",V.ref m2),(Str.ofString "outcome",V.ref ou),(Str.ofString "way",V.str wy)]):=by rw[pf4]
 rw[g10];clear g10;have k10:∀b o,b≠x->H5 b=some o->upd H9 x (.ins yX dx [(Str.ofString "name",V.str nm),(Str.ofString "names",V.ref m1),(Str.ofString "domains",V.ref m2),(Str.ofString "outcome",V.ref ou),(Str.ofString "way",V.str wy)]) b=some o:=λb o hb e=>(aD hb).trans (k9 b o hb e)
 have x10:upd H9 x (.ins yX dx [(Str.ofString "name",V.str nm),(Str.ofString "names",V.ref m1),(Str.ofString "domains",V.ref m2),(Str.ofString "outcome",V.ref ou),(Str.ofString "way",V.str wy)]) x=some (.ins yX dx [(Str.ofString "name",V.str nm),(Str.ofString "names",V.ref m1),(Str.ofString "domains",V.ref m2),(Str.ofString "outcome",V.ref ou),(Str.ofString "way",V.str wy)]):=ae;have j10:upd H9 x (.ins yX dx [(Str.ofString "name",V.str nm),(Str.ofString "names",V.ref m1),(Str.ofString "domains",V.ref m2),(Str.ofString "outcome",V.ref ou),(Str.ofString "way",V.str wy)]) m1=some (.lst (zs.map V.str)):=(aD m1x).trans j9;have i10:upd H9 x (.ins yX dx [(Str.ofString "name",V.str nm),(Str.ofString "names",V.ref m1),(Str.ofString "domains",V.ref m2),(Str.ofString "outcome",V.ref ou),(Str.ofString "way",V.str wy)]) m2=some (.lst dv):=(aD m2x).trans i9;generalize upd H9 x (.ins yX dx [(Str.ofString "name",V.str nm),(Str.ofString "names",V.ref m1),(Str.ofString "domains",V.ref m2),(Str.ofString "outcome",V.ref ou),(Str.ofString "way",V.str wy)])=H10 at k10 x10 j10 i10⊢;have R10:RL NT H10 rx rws:=RL.same R5 (m4 k10);have v9:=k10 _ _ rlx (s5 _ _ hrl)
 refine⟨_,U,rl,U,⟨_,SqL.of v9⟩,eL (xs:=rx) (λD i zs H'=>au H10 H'/\H' D=some (.lst zs)/\RL (Fr H10 D) H' zs (rws.take i))
  (λD hD=>⟨af hD _,ae,ar.nil⟩) (λD i zs H' hD _ h=>SqL.of (h.1 _ _ v9)) (λD i y zs H' hD e h ts hts=>?_) (λD zs H' hD h=>?_)⟩
 ·obtain⟨sm,eD,hz⟩:=h;obtain⟨r,w_,rfl,ew,ce,cv,g1,_,g2,g3⟩:=ar.get (R10.same sm) e;have hi:i<rx.length:=(Jx.mp e).1;obtain⟨t0,t1,rfl⟩:∃t0 t1,ts=[t0,t1]:=by
   match ts,hts with
   | [t0,t1],_=>exact⟨t0,t1,U⟩
  refine⟨r,_,U,SqT.of g1,U,_,_,U,_,_,U,U,⟨[some (.ref ce),some (.int w_.2)],U,U⟩,?_⟩;refine⟨_,U,_,U,ce,cv,w_,U,g2,g3,by rw[(hok w_ (Jy ew)).len];lia,λr2 H2 t2 hr2 uh=>?_⟩;have eD2:=t2 _ _ eD;have hlz:zs.length<=200:=by
   have:=hz.1;rw[length_take]at this;lia
  refine cn.mk hi eD2 (aw (by lia)) ⟨(sm.trans t2).upd hD,ae,?_⟩;rw[take_snoc ew];exact RL.updN (ar.snoc (hz.same t2) (uh.wk λa h=>⟨sm.free h,λz=>by rw[z,eD]at h;cases h⟩)) Fr.out eD2
 ·obtain⟨sm,eD,hz⟩:=h;rw[hR.1,take_length]at hz;refine⟨_,U,x,_,dx,_,U,sm _ _ x10,bl.k_Table,bl.na_Table_rows,(by show 5<1000;decide),?_⟩;have g11:upd H' x (.ins yX dx (bE (Str.ofString "rows") (V.ref D) [(Str.ofString "name",V.str nm),(Str.ofString "names",V.ref m1),(Str.ofString "domains",V.ref m2),(Str.ofString "outcome",V.ref ou),(Str.ofString "way",V.str wy)]))=upd H' x (.ins yX dx [(Str.ofString "name",V.str nm),(Str.ofString "names",V.ref m1),(Str.ofString "domains",V.ref m2),(Str.ofString "outcome",V.ref ou),(Str.ofString "way",V.str wy),(Str.ofString "rows",V.ref D)]):=by rw[pf5]
  rw[g11];have nDx:D≠x:=λz=>by rw[z,x10]at hD;cases hD
  refine q _ _ D zs (λb o hb e=>(aD hb).trans (sm _ _ (k10 b o hb (s5 _ _ e)))) ae U U U U ⟨m1,m2,s5.free (fM k6 x6 hm1),s5.free (fM k7 x7 hm2),U,U,(aD m1x).trans (sm _ _ j10),(aD m2x).trans (sm _ _ i10)⟩ (s5.free (fM k10 x10 hD)) ((aD nDx).trans eD) ?_;exact RL.same (RL.hideN (sm _ _ x10) (ar.mono hz λ_ _ p=>p.wk λa h=>s5.free (fM k10 x10 h.1))) (m4 λb o hb e=>(aD hb).trans e)
theorem Ck(F:Fun K "_law_table" "_law_table" Y36 f fd) (bl:Bl K mg yA yI yH yG ah yN yO yP yQ yR yS yT yU yV yW yX ai)(k_Table:aU CX0 P w K mg base 6 "Table" yX ["self","name","names","domains","outcome","way","rows"] (bw K yA yI yH yG ah yN yO yP yQ yR yS yT yU yV yW yX ai)) (ft:Callee P w K mg base 7 "_law_made" ["domain"] (d6 K yA yI yH yG ah yN yO yP yQ yR yS yT yU yV yW yX ai)):bg P w K mg base CX0 8 f fd ["plan","k"] (eB K yA yI yH yG ah yN yO yP yQ yR yS yT yU yV yW yX ai):=by
 refine F.ok Z36 (λvs H Q E h=>?_) (λcdv A outer s H vs Q E hr h=>?_)
 ·obtain⟨r,k,zs,ds,ts,fN,t,nm,po,rfl,hPl,ok,et,enm,epo,q⟩:=h;rfl
 obtain⟨r,k,zs,ds,ts,fN,t,nm,po,rfl,hPl,ok,et,enm,epo,q⟩:=h
 refine⟨_,(ay (iI (pv 0) (dh U (aO (aK (i:=2) Z36.nd U (Or.inr U)) (aO (aK (i:=3) Z36.nd U (Or.inr U)) (aO (aK (i:=4) Z36.nd U (Or.inl U)) cE)))))
  (ay (aL (i:=5) Z36.nd U (Or.inl U) (aC bT (aC cY (az av U bl.len_ boot_len (aa (pv 2) ag)) (az av U bl.len_ boot_len (aa (pv 4) ag))) (pv 1)))
  (ay (aL (i:=6) Z36.nd U (Or.inl U) (aH bX (aH aQ (pv 4) (pv 1) (λ_ _=>U)) aj (λ_ _=>U)))
  (ay (tH (i:=7) Z36.nd U (Or.inl U) (aW (aH bX (aH aQ (pv 4) (pv 1) (λ_ _=>U)) aj (λ_ _=>U))) (dj (N:=["row"]) (k:=1) U U (by decide+kernel) (by decide+kernel) (by decide+kernel)) U (λ_ C1 _ _=>(aK (i:=0) (show(["row"]:List Str).Nodup by decide+kernel) U (Or.inl U) (Or.inr U))) (λ_ C1 _ _=>bb) (λ_ C1 _ _=>(bc (aa (jo (tI (K:=K) U (aH (di (K:=K) U) (pv 0) aj (λ_ _=>U))) (dj (N:=["spans"]) (k:=1) U U (by decide+kernel) (by decide+kernel) (by decide+kernel)) U (λ_ C2 _ _=>(aK (i:=0) (show(["spans"]:List Str).Nodup by decide+kernel) U (Or.inl U) (Or.inr U))) (λ_ C2 _ _=>bb) (λ_ C2 _ _=>(bO (iF (K:=K) U) U bl.list_ PyProof.Rows.boot_list (aa (pv 0) ag)))) (aa (aH (di (K:=K) U) (pv 0) aj (λ_ _=>U)) ag)))))
  (ay (fW (i:=8) Z36.nd U (Or.inl U) (aW (pv 6)) (aY (N:=["j","names"]) (fr:=[2]) (cl:=[("names",s.heap.objs.size+1)]) U U (by decide+kernel) (by decide+kernel) U (by decide+kernel) U U U (forall_mem_cons.mpr ⟨U,forall_mem_nil _⟩) U) U (λ_ _ _ _=>bb) (λ_ _ _ _=>(aH (cy (K:=K) U) (pv 1) (pv 0) (λ_ _=>U))))
  (ay (fW (i:=9) Z36.nd U (Or.inl U) (aW (pv 6)) (aY (N:=["j","domains"]) (fr:=[3]) (cl:=[("domains",s.heap.objs.size+1+1)]) U U (by decide+kernel) (by decide+kernel) U (by decide+kernel) U U U (forall_mem_cons.mpr ⟨U,forall_mem_nil _⟩) U) U (λ_ _ _ _=>bb) (λ_ _ _ _=>(br ft hr U (aa (aH (cy (K:=K) U) (pv 1) (pv 0) (λ_ _=>U)) ag))))
  (aq (aT (dG k_Table bP hr U (aa (aH aQ (pv 2) (pv 5) (λ_ _=>U)) (aa (pv 8) (aa (pv 9) (aa (br ft hr U (aa (aH aQ (pv 3) (pv 5) (λ_ _=>U)) ag)) (aa (aH bX (aH aQ (pv 4) (pv 1) (λ_ _=>U)) aj (λ_ _=>U)) (aa (pv 7) ag))))))))))))))),?_⟩
 show(let r6:TS:=_;let r5:TS:=bp _ r6;let r4:TS:=bp _ r5;let r3:TS:=bp _ r4;let r2:TS:=bp _ r3;let r1:TS:=bp _ r2;bp _ r1 _ _ _);intro _ _ _ _ _ _;obtain⟨nl,dl,tl_,dv,tv,er,enl,edl,hdv,etl,htv⟩:=id hPl;obtain⟨ta,eta,cl,rl,rx,g1,g2,g3,g4⟩:=htv.2 k t et;have hzl:(zs.map V.str).length=zs.length:=length_map _;have hl1:=ok.len;have hl2:=ok.tab;have htl:tv.length=ts.length:=htv.1;have h7:=ok.n7;have tok:=ok.tabs k t et;have hlt:=ok.lt et;have zg:=ok.own et;have hc3:t.cols.length<=3:=tok.ok.few;have hc1:1<=t.cols.length:=tok.ok.some_;have wb:=tok.few;have hvl:(vN t.cols).length=t.cols.length:=fC _;refine⟨λσ' H'=>H'=H/\σ'=[some (.ref r),some (.int (k:Int)),some (.ref nl),some (.ref dl),some (.ref tl_),none,none,none,none,none],⟨_,U,r,_,U,SqT.of er,U,_,_,U,_,_,U,_,_,U,U,U,U⟩,?_⟩;rintro σ1 H1 ⟨rfl,rfl⟩;refine⟨λσ' H'=>H'=H1/\σ'=[some (.ref r),some (.int (k:Int)),some (.ref nl),some (.ref dl),some (.ref tl_),some (.int ((fN+k:Nat):Int)),none,none,none,none],⟨_,U,nl,_,U,.inl (SqL.of enl),_,U,tl_,_,U,.inl (SqL.of etl),_,_,U,U,_,U,_,_,U,U,U,?_⟩,?_⟩
 ·rw[show((fN+k:Nat):Int)=(((zs.map V.str).length:Nat):Int)-((tv.length:Nat):Int)+(k:Int) by lia];rfl
 rintro σ2 H2 ⟨rfl,rfl⟩;refine⟨λσ' H'=>H'=H2/\σ'=[some (.ref r),some (.int (k:Int)),some (.ref nl),some (.ref dl),some (.ref tl_),some (.int ((fN+k:Nat):Int)),some (.ref cl),none,none,none],⟨_,U,_,U,tl_,_,_,_,U,U,SqL.of etl,aP eta,ta,_,_,_,U,U,SqT.of g1,U,U,U⟩,?_⟩;rintro σ3 H3 ⟨rfl,rfl⟩;refine⟨λσ' H'=>au H3 H'/\∃(ro:Addr)(zx:List V),H' ro=some (.lst zx)/\RL NT H' zx t.rows/\σ'=[some (.ref r),some (.int (k:Int)),some (.ref nl),some (.ref dl),some (.ref tl_),some (.int ((fN+k:Nat):Int)),some (.ref cl),some (.ref ro),none,none],?_,?_⟩
 ·refine⟨_,U,_,U,tl_,_,_,_,U,U,SqL.of etl,aP eta,ta,_,_,_,U,U,SqT.of g1,U,rl,U,⟨_,SqL.of g3⟩,eL (xs:=rx) (λD i ys H'=>au H3 H'/\H' D=some (.lst ys)/\RL NT (hide H' D) ys (t.rows.take i)) (λD hD=>⟨af hD _,ae,ar.nil⟩) (λD i ys H' hD _ h=>SqL.of (h.1 _ _ g3)) (λD i y ys H' hD e h ts_ hts=>?_) (λD ys H' hD h=>?_)⟩
  ·obtain⟨sm,eD,hz⟩:=h;obtain⟨r0,w,rfl,ew,ce,cs,f1,_,f2,f3⟩:=ar.get g4 e;have hi:i<rx.length:=(Jx.mp e).1;have hrl:rx.length=t.rows.length:=g4.1;obtain⟨u0,rfl⟩:∃u0,ts_=[u0]:=by
    match ts_,hts with
    | [u0],_=>exact⟨u0,U⟩
   have fit:=tok.rows w (Jy ew);have Cm:cs.length=w.1.length:=f3.1;have hwl:=fit.len;refine⟨⟨[some (.ref r0)],U,U⟩,?_⟩;refine⟨_,U,r0,_,_,_,U,U,SqT.of (sm _ _ f1),U,ce,U,⟨_,SqL.of (sm _ _ f2)⟩,eL (xs:=cs) (λD2 j ws H4=>au H' H4/\H4 D2=some (.lst ws)/\CL (Fr H' D2) H4 ws (w.1.take j)) (λD2 hD2=>⟨af hD2 _,ae,ar.nil⟩) (λD2 j ws H4 hD2 _ h=>SqL.of (h.1 _ _ (sm _ _ f2))) (λD2 j y2 ws H4 hD2 e2 h ts2 Cn=>?_) (λD2 ws H4 hD2 h=>?_)⟩
   ·obtain⟨s4,eD2,hw⟩:=h;obtain⟨l,ps,rfl,eps,_,yl,el,hpl⟩:=ar.get f3 e2;have hj:j<cs.length:=(Jx.mp e2).1;obtain⟨v0,rfl⟩:∃v0,ts2=[v0]:=by
     match ts2,Cn with
     | [v0],_=>exact⟨v0,U⟩
    have sA:=sm.trans s4;refine⟨⟨[some (.ref l)],U,U⟩,_,U,l,_,U,.inl (SqL.of (sA _ _ el)),λp hp=>?_⟩;have u1:=af hp (.lst yl);have ep:upd H4 p (.lst yl) p=some (.lst yl):=ae;have nD2:p≠D2:=λz=>by rw[z,eD2]at hp;cases hp
    have hp':H' p=none:=s4.free hp;generalize upd H4 p (.lst yl)=H5 at u1 ep⊢;have eD5:=u1 _ _ eD2;have hw2:CL (Fr H' D2) H5 (ws++[.ref p]) (w.1.take j++[ps]):=ar.snoc (hw.same u1) ⟨⟨hp',nD2⟩,yl,ep,hpl.mono (sA.trans u1).tups⟩;refine cn.mk hj eD5 (aw (by have:=hw.1;rw[length_take]at this;lia)) ⟨(s4.trans u1).upd hD2,ae,?_⟩;rw[take_snoc eps];exact hw2.updN Fr.out eD5
   ·obtain⟨s4,eD2,hw⟩:=h;rw[Cm,take_length]at hw;have nD2:D2≠D:=λz=>by rw[z,eD]at hD2;cases hD2
    refine⟨_,U,r0,_,_,_,U,U,SqT.of ((sm.trans s4) _ _ f1),U,bf,λtt_ htt=>?_⟩;have u5:=af htt (.tup [.ref D2,.int w.2]);have eT:upd H4 tt_ (.tup [.ref D2,.int w.2]) tt_=some (.tup [.ref D2,.int w.2]):=ae;generalize upd H4 tt_ (.tup [.ref D2,.int w.2])=H5 at u5 eT⊢;have uA:=s4.trans u5;have eD5:=uA _ _ eD;have uh:fK NT (hide H5 D) tt_ w:=⟨D2,ws,dO eD5 _ _ eT,trivial,bj (u5 _ _ eD2) nD2,ar.mono (hw.same u5) λl ps ⟨⟨n1,_⟩,yl,el,hpl⟩=>⟨trivial,yl,bj el (λz=>by rw[z,eD]at n1;cases n1),hpl.mono (dO eD5)⟩⟩;refine cn.mk hi eD5 (aw (by have:=hz.1;rw[length_take]at this;lia)) ⟨(sm.trans uA).upd hD,ae,?_⟩;rw[eP,take_snoc ew];exact ar.snoc (ar.mono hz λ_ _ p=>p.same (dN uA)) uh
  ·obtain⟨sm,eD,hz⟩:=h;rw[g4.1,take_length]at hz;exact⟨sm,D,ys,eD,ar.mono hz (λ_ _ p=>p.same (ij H' D)),U⟩
 rintro σ4 H4 ⟨s4,ro,zx,ero,hro,rfl⟩;refine⟨λσ' H'=>au H4 H'/\∃ha:Addr,H' ha=some (.lst ((prm t.cols zs).map V.str))/\σ'=[some (.ref r),some (.int (k:Int)),some (.ref nl),some (.ref dl),some (.ref tl_),some (.int ((fN+k:Nat):Int)),some (.ref cl),some (.ref ro),some (.ref ha),none],?_,?_⟩
 ·refine⟨_,U,cl,U,⟨_,SqL.of (s4 _ _ g2)⟩,bh (xs:=vN t.cols) (λD i ys H'=>au H4 H'/\H' D=some (.lst ys)/\ys=(prm (t.cols.take i) zs).map V.str) (λD hD=>⟨af hD _,ae,U⟩) (λD i ys H' hD _ h=>SqL.of (h.1 _ _ (s4 _ _ g2))) (λD i y ys H' hD e h=>?_) (λD ys H' hD h=>?_)⟩
  ·obtain⟨sm,eD,rfl⟩:=h;obtain⟨j,rfl,ej⟩:=qW e;have hj:=hlt j (Jy ej);have ez:=Jw (l:=zs) (i:=j) (by lia);have hi:i<(vN t.cols).length:=(Jx.mp e).1;refine⟨_,U,_,U,nl,_,_,_,U,U,SqL.of ((s4.trans sm) _ _ enl),aP (bY ez),cn.mk hi eD (aw ?_) ⟨sm.upd hD,ae,?_⟩⟩
   ·rw[length_map,(cF (os:=t.cols.take i) (xs:=zs) λj hj=>by rw[hl1];exact hlt j (mem_of_mem_take hj)).1,length_take];lia
   ·rw[take_snoc ej,tL ez,map_append];rfl
  ·obtain⟨sm,eD,rfl⟩:=h;rw[hvl,take_length]at eD;exact⟨sm,D,eD,U⟩
 rintro σ5 H5 ⟨s5,ha,eha,rfl⟩;have s35:=s4.trans s5;refine⟨λσ' H'=>au H5 H'/\∃(ka:Addr)(kv:List V),H' ka=some (.lst kv)/\ar kv (prm t.cols (ds.map PD.k)) (gD (λa=>H5 a=none) yV yW H')/\σ'=[some (.ref r),some (.int (k:Int)),some (.ref nl),some (.ref dl),some (.ref tl_),some (.int ((fN+k:Nat):Int)),some (.ref cl),some (.ref ro),some (.ref ha),some (.ref ka)],?_,?_⟩
 ·refine⟨_,U,cl,U,⟨_,SqL.of (s35 _ _ g2)⟩,bh (xs:=vN t.cols) (λD i ys H'=>au H5 H'/\H' D=some (.lst ys)/\ar ys (prm (t.cols.take i) (ds.map PD.k)) (gD (Fr H5 D) yV yW H')) (λD hD=>⟨af hD _,ae,ar.nil⟩) (λD i ys H' hD _ h=>SqL.of (h.1 _ _ (s35 _ _ g2))) (λD i y ys H' hD e h=>?_) (λD ys H' hD h=>?_)⟩
  ·obtain⟨sm,eD,hz⟩:=h;obtain⟨j,rfl,ej⟩:=qW e;have hj:=hlt j (Jy ej);have ed:=Jw (l:=ds) (i:=j) hj;obtain⟨da,e2,hpd⟩:=hdv.2 j _ ed;have okd:=ok.doms _ (Jy ed);generalize ds[j]=p at ed hpd okd;have hi:i<(vN t.cols).length:=(Jx.mp e).1;have sA:=s35.trans sm;have ez:(ds.map PD.k)[j]?=some p.k:=by rw[getElem?_map,ed];rfl
   refine⟨_,U,_,U,dl,_,_,_,U,U,SqL.of (sA _ _ edl),aP e2,da,p,U,hpd.same sA,okd,λx H6 s6 hx=>?_⟩;have eD6:=s6 _ _ eD;have hz2:ar (ys++[.ref x]) (prm (t.cols.take i) (ds.map PD.k)++[p.k]) (gD (Fr H5 D) yV yW H6):=ar.snoc (ar.mono hz λ_ _ p=>p.same s6) (hx.wk λa h=>⟨sm.free h,λz=>by rw[z,eD]at h;cases h⟩);refine cn.mk hi eD6 (aw ?_) ⟨(sm.trans s6).upd hD,ae,?_⟩
   ·rw[hz.1,(cF (os:=t.cols.take i) (xs:=ds.map PD.k) λj hj=>by rw[length_map];exact hlt j (mem_of_mem_take hj)).1,length_take];lia
   ·rw[take_snoc ej,rQ ez];exact ar.mono hz2 λ_ _ p=>p.upd Fr.out eD6
  ·obtain⟨sm,eD,hz⟩:=h;rw[hvl,take_length]at hz;exact⟨sm,D,ys,eD,ar.mono hz (λ_ _ p=>p.wk λa h=>h.1),U⟩
 rintro σ6 H6 ⟨s6,ka,kv,eka,hkv,rfl⟩;have s36:=s35.trans s6;obtain⟨da,e2,hpd⟩:=hdv.2 (fN+k) po epo;have okp:=ok.doms po (Jy epo);refine⟨_,U,_,U,nl,_,_,_,U,U,SqL.of (s36 _ _ enl),aP (bY enm),_,U,_,U,_,U,_,U,dl,_,_,_,U,U,SqL.of (s36 _ _ edl),aP e2,da,po,U,hpd.same s36,okp,λou H7 s7 hou=>?_⟩;have s37:=s36.trans s7;have Co:=hou;have hou:=hou.dom;refine⟨_,U,_,U,tl_,_,_,_,U,U,SqL.of (s37 _ _ etl),aP eta,ta,_,_,_,U,U,SqT.of (s37 _ _ g1),U,_,U,λx dx hx hdx hne=>?_⟩;have s8:au H7 (upd (upd H7 dx (.own x)) x (.ins yX dx [])):=(af hdx _).upd hx;have s68:=s7.trans s8;have ltz:∀j∈t.cols,j<zs.length:=λj hj=>by rw[hl1];exact hlt j hj
 have gz:=cF (os:=t.cols) (xs:=zs) ltz;have nzs:nm ∉ prm t.cols zs:=λhm=>by
  obtain⟨j,ej⟩:=getElem?_of_mem hm;have hj:j<t.cols.length:=by rw[←gz.1];exact(Jx.mp ej).1
  have ec:=Jw hj;rw[gz.2 j _ ec]at ej;have:=gB ok.nd ej enm;have h9:=tok.ok.lt _ (Jy ec);lia
 refine⟨x,dx,ha,ka,ou,ro,nm,t.way,prm t.cols zs,kv,zx,prm t.cols (ds.map λp=>(p.lo,p.hi)),(po.lo,po.hi),t.rows,U,ae,s68 _ _ (s6 _ _ eha),?_,nodup_cons.mpr ⟨nzs,m6 tok.ok.nd ok.nd ltz⟩,by rw[gz.1];exact hc1,by rw[gz.1];lia,tok.ok.way,λz=>?_,s68 _ _ eka,?_,?_,s68 _ _ ((s5.trans s6) _ _ ero),hro.same ((s5.trans s6).trans s68),by rw[hro.1];exact wb,?_,ok.rows et epo,λH' fs rl' xs' k1 k2 k3 k3a k3b k3c ⟨na',dl',fn,fd,k3d,k3e,k3f,k3g⟩ fr k4 k5=>?_⟩
 ·intro z hz;rcases mem_cons.mp hz with rfl|hz
  ·exact ok.words _ (Jy enm)
  ·exact ok.words z (nN hz)
 ·have he:=tok.ok.sum z po epo;rw[PD.k_none he]at hou;obtain⟨dx2,e⟩:=hou;exact⟨dx2,_,s8 _ _ e⟩
 ·have e:prm t.cols (ds.map λp=>(p.lo,p.hi))=(prm t.cols (ds.map PD.k)).map (·.2):=by
   rw[←qY,map_map];rfl
  rw[e];refine⟨by rw[length_map];exact hkv.1,λj b eb=>?_⟩;rw[getElem?_map]at eb;cases ec:(prm t.cols (ds.map PD.k))[j]? with
  |none=>rw[ec]at eb;cases eb
  |some kk =>
   rw[ec]at eb;cases eb;obtain⟨r1,e1,p1⟩:=hkv.2 j kk ec;exact⟨r1,e1,(p1.dom.same s68).dom⟩
 ·exact(hou.same s8).dom
 ·rw[(cF (os:=t.cols) (xs:=ds.map λp=>(p.lo,p.hi)) λj hj=>by rw[length_map];exact hlt j hj).1];lia
 ·have s9:au H7 H':=λb u e=>k1 b u (aV e hx) (s8 _ _ e)
  have sF:∀{a:Addr},upd (upd H7 dx (.own x)) x (.ins yX dx []) a=none->H3 a=none:=λh=>(s37.trans s8).free h
  exact⟨U,q x H' (s37.trans s9) ⟨t,nm,po,ou,kv,rl',dx,na',dl',fs,xs',et,enm,epo,k2,k3,k3c,k3a,k3b,k3d,k3e,sF fn,sF fd,sF fr,k3f,k3g,k4,ar.mono k5 (λ_ _ p=>p.wk λa h=>sF h),by rw[k5.1];exact wb,ar.mono hkv (λ_ _ p=>(p.same (s7.trans s9)).wk λa h=>s35.free h),(Co.same s9).wk λa h=>s36.free h⟩⟩
theorem Cp(F:Fun K "_law_widened" "_law_widened" Y37 f fd) (bl:Bl K mg yA yI yH yG ah yN yO yP yQ yR yS yT yU yV yW yX ai)(gp:Callee P w K mg base 7 "_law_other" ["domain"] (dC K yA yI yH yG ah yN yO yP yQ yR yS yT yU yV yW yX ai)) (k_Table:aU CX0 P w K mg base 6 "Table" yX ["self","name","names","domains","outcome","way","rows"] (bw K yA yI yH yG ah yN yO yP yQ yR yS yT yU yV yW yX ai)) (eE:Callee P w K mg base 7 "_law_asked" ["plan"] (dB K yA yI yH yG ah yN yO yP yQ yR yS yT yU yV yW yX ai)) (k_Numbers:aU CX0 P w K mg base 6 "Numbers" yV ["self","low","high"] (aS K yA yI yH yG ah yN yO yP yQ yR yS yT yU yV yW yX ai)):bg P w K mg base CX0 8 f fd ["kind","plan","facts","made"] (dD K yA yI yH yG ah yN yO yP yQ yR yS yT yU yV yW yX ai):=by
 refine F.ok Z37 (λvs H Q E h=>?_) (λcdv A outer s H vs Q E hr h=>?_)
 ·obtain⟨kd,r,fa,ma,zs,ds,pts,fN,z0,z1,t0,fv,mv,rfl,hPl,ok,et0,ez0,ez1,hlt,hsm,hlz,efa,ema,hfv,hmv,q⟩:=h;rfl
 obtain⟨kd,r,fa,ma,zs,ds,pts,fN,z0,z1,t0,fv,mv,rfl,hPl,ok,et0,ez0,ez1,hlt,hsm,hlz,efa,ema,hfv,hmv,q⟩:=h
 refine⟨_,(ay (iI (pv 1) (dh U (aO (aK (i:=4) Z37.nd U (Or.inr U)) (aO (aK (i:=5) Z37.nd U (Or.inl U)) (aO (aK (i:=6) Z37.nd U (Or.inl U)) cE)))))
  (ay (aL (i:=7) Z37.nd U (Or.inr U) ba)
  (ay (aZ (PW.pt (gJ (aF cw (pv 0) aj (aN _)) (eY (aF fD (az av U bl.len_ boot_len (aa (br eE hr U (aa (pv 1) ag)) ag)) aj (aN _)))))
  (aE (aL (i:=8) Z37.nd U (Or.inl U) (aH aQ (br eE hr U (aa (pv 1) ag)) aj (λ_ _=>U)))
  (aE (aL (i:=9) Z37.nd U (Or.inl U) (aH aQ (pv 3) (pv 8) (λ_ _=>U)))
  (aE (aL (i:=10) Z37.nd U (Or.inl U) (br gp hr U (aa (aH aQ (pv 5) (aC bT (aC cY (az av U bl.len_ boot_len (aa (pv 4) ag)) (az av U bl.len_ boot_len (aa (pv 6) ag))) (pv 8)) (λ_ _=>U)) ag)))
  (aE (aL (i:=11) Z37.nd U (Or.inl U) (dG k_Table bP hr U (aa (bu (pv 9) U) (aa (bu (pv 9) U) (aa (bu (pv 9) U) (aa (pv 10) (aa (bu (pv 9) U) (aa (bu (pv 9) U) ag))))))))
  (aq (aT (bc (aa (pv 2) (aa (aC cZ (aC cZ (lu nA (pv 3) nq (nt (pv 8))) (aX (aa (pv 11) ag))) (lu nA (pv 3) (nt (aC bT (pv 8) aj)) nq)) ag)))))))))
  aM)
  (aE (aZ (aF cw (pv 0) aj (aN _))
  (aq (aT (bc (aa (aC cZ (pv 2) (bq (bG U bl.range_ (aa (aC cY aj (az av U bl.len_ boot_len (aa (pv 2) ag))) ag)) (aY (N:=["k","names","letters"]) (fr:=[4,7]) (cl:=[("names",s.heap.objs.size+1),("letters",s.heap.objs.size+1+1)]) U U (by decide+kernel) (by decide+kernel) U (by decide+kernel) U U U (forall_mem_cons.mpr ⟨U,forall_mem_cons.mpr ⟨U,forall_mem_nil _⟩⟩) U) U (λ_ _ _ _=>bb) (λ_ _ _ _=>(bc (aa (aC cJ (aH (cy (K:=K) U) (pv 1) aj (λ_ _=>U)) (aH ly (pv 2) (pv 0) (λ_ _=>U))) (aa (dG k_Numbers bP hr U (aa aj (aa aj ag))) ag)))))) (aa (pv 3) ag)))))
  aM)
  (aE (aZ (aF cw (pv 0) aj (aN _))
  (aE (aL (i:=9) Z37.nd U (Or.inl U) (aH aQ (pv 3) aj (λ_ _=>U)))
  (aE (aL (i:=12) Z37.nd U (Or.inl U) (aX ag))
  (aE (cO PassesOwn.never U (bG U bl.range_ (aa (aC cY aj (az av U bl.len_ boot_len (aa (pv 3) ag))) ag)) (aK (i:=13) Z37.nd U (Or.inl U))
  (aE (aL (i:=14) Z37.nd U (Or.inl U) (aC cJ (aH aQ (pv 4) (aC bU (pv 13) aj) (λ_ _=>U)) (aH ly (pv 7) (aC bA (pv 13) aj) (λ_ _=>U))))
  (aq (bz (lz PySem.F.plainAttrs_list PySem.F.slot_list_append PySem.F.type_list_append eG (pv 12) (aa (dG k_Table bP hr U (aa (pv 14) (aa (bu (pv 9) U) (aa (bu (pv 9) U) (aa (bu (pv 9) U) (aa (bu (pv 9) U) (aa (lu nA (bu (pv 9) U) nq (nt aj)) ag))))))) ag))))))
  (aq (aT (bc (aa (pv 2) (aa (aC cZ (pv 3) (pv 12)) ag))))))))
  aM)
  (aE (aZ (aF cw (pv 0) aj (aN _))
  (aE (aL (i:=15) Z37.nd U (Or.inl U) (dG k_Table bP hr U (aa (aC cJ (aH aQ (pv 4) aj (λ_ _=>U)) ba) (aa (aX (aa (aC cJ (aH aQ (pv 4) aj (λ_ _=>U)) ba) ag)) (aa (aX (aa (dG k_Numbers bP hr U (aa aj (aa aj ag))) ag)) (aa (dG k_Numbers bP hr U (aa aj (aa aj ag))) (aa ba (aa (aX ag) ag))))))))
  (aq (aT (bc (aa (pv 2) (aa (aC cZ (pv 3) (aX (aa (pv 15) ag))) ag))))))
  aM)
  (aE (aZ (PW.pt (kq (aF cw (pv 0) aj (aN _)) (iG (aF cw (pv 0) aj (aN _)))))
  (aE (aL (i:=16) Z37.nd U (Or.inr U) (aX (aa (aC cJ (aH aQ (pv 4) aj (λ_ _=>U)) ba) (aa (aC cJ (aH aQ (pv 4) aj (λ_ _=>U)) ba) ag))))
  (aE (aL (i:=17) Z37.nd U (Or.inr U) (aX (aa (dG k_Numbers bP hr U (aa aj (aa aj ag))) (aa (dG k_Numbers bP hr U (aa aj (aa (aC cY (pv 0) aj) ag))) ag))))
  (aE (fW (i:=18) Z37.nd U (Or.inl U) (bG U bl.range_ (aa aj ag)) (aY (N:=["k","heads","columns"]) (fr:=[16,17]) (cl:=[("heads",s.heap.objs.size+1+1+1),("columns",s.heap.objs.size+1+1+1+1)]) U U (by decide+kernel) (by decide+kernel) U (by decide+kernel) U U U (forall_mem_cons.mpr ⟨U,forall_mem_cons.mpr ⟨U,forall_mem_nil _⟩⟩) U) U (λ_ _ _ _=>bb) (λ_ _ _ _=>(dG k_Table bP hr U (aa (aH (cy (K:=K) U) (pv 1) (pv 0) (λ_ _=>U)) (aa (aX (aa (aH (cy (K:=K) U) (pv 1) (aC cY aj (pv 0)) (λ_ _=>U)) ag)) (aa (aX (aa (aH (cy (K:=K) U) (pv 2) (pv 0) (λ_ _=>U)) ag)) (aa (dG k_Numbers bP hr U (aa aj (aa aj ag))) (aa ba (aa (aX ag) ag)))))))))
  (aq (aT (bc (aa (pv 2) (aa (aC cZ (pv 18) (pv 3)) ag))))))))
  aM)
  (aq (aT (bc (aa (pv 2) (aa (pv 3) ag)))))))))))),?_⟩
 show(let r7:TS:=_;let r6:TS:=cj _ r7;let r5:TS:=cj _ r6;let r4:TS:=cj _ r5;let r3:TS:=cj _ r4;let r2:TS:=bp _ r3;let r1:TS:=bp _ r2;bp _ r1 _ _ _);intro _ _ _ _ _ _ _;obtain⟨nl,dl,tl_,dv,tv,er,enl,edl,hdv,etl,htv⟩:=id hPl;have hzl:(zs.map V.str).length=zs.length:=length_map _;have hl1:=ok.len;have hl2:=ok.tab;have h7:=ok.n7;have htl:tv.length=pts.length:=htv.1;have hfl:fv.length=fN:=by rw[hfv.1,iu]
 have hml:mv.length=pts.length:=by rw[hmv.1,kL]
 have lz0:=hlt z0 (Jy ez0);have lz1:=hlt z1 (Jy ez1);have sz0:=hsm z0 (Jy ez0);have l0:z0.length<=11:=lz0.1;have l1:z1.length<=11:=lz1.1;have hne:∀j:Int,¬ decide (V.int kd=V.int j)=true->kd≠j:=λj h z=>h (by rw[z];exact decide_eq_true U)
 have fin:∀(kd':Int)(H':Hp)(fa' ma':Addr)(fv' mv':List V)(fs':List Fc)(ts':List BT),kd=kd'->au H H'->H' fa'=some (.lst fv')->H' ma'=some (.lst mv')->ar fv' fs' (FcG yV yW H')->ar mv' ts' (TbG yX yV yW H')->WdI zs ds pts fN kd' fs' ts'->∀x,H' x=none->Q (.ref x) (upd H' x (.tup [.ref fa',.ref ma'])):=λkd' H' fa' ma' fv' mv' fs' ts' ek s e1 e2 hb1 hb2 hsp x hx=>q x fa' ma' fv' mv' fs' ts' _ (s.trans (af hx _)) ae (af hx _ _ _ e1) (af hx _ _ _ e2) (ar.mono hb1 λ_ _ p=>p.same (af hx _)) (ar.mono hb2 λ_ _ p=>p.same (af hx _)) (ek ▸ hsp)
 refine⟨λσ' H'=>H'=H/\σ'=[some (.int kd),some (.ref r),some (.ref fa),some (.ref ma),some (.ref nl),some (.ref dl),some (.ref tl_),none,none,none,none,none,none,none,none,none,none,none,none],⟨_,U,r,_,U,SqT.of er,U,_,_,U,_,_,U,_,_,U,U,U,U⟩,?_⟩;rintro σ1 H1 ⟨e1,rfl⟩;rw[e1];clear e1 H1;refine⟨λσ' H'=>H'=H/\σ'=[some (.int kd),some (.ref r),some (.ref fa),some (.ref ma),some (.ref nl),some (.ref dl),some (.ref tl_),some (.str (Str.ofString "abcdefghijklmnopqrstuvwxyz")),none,none,none,none,none,none,none,none,none,none,none],⟨U,U⟩,?_⟩;rintro σ1 H1 ⟨e1,rfl⟩;rw[e1];clear e1 H1;refine⟨λσ' H'=>au H H'/\(kd=8->akP pts fN=[])/\σ'=[some (.int kd),some (.ref r),some (.ref fa),some (.ref ma),some (.ref nl),some (.ref dl),some (.ref tl_),some (.str (Str.ofString "abcdefghijklmnopqrstuvwxyz")),none,none,none,none,none,none,none,none,none,none,none],?_,?_⟩
 ·refine⟨_,U,U,_,U,bM (λg=>?_) (λg=>dF ⟨au.refl H,(λz=>absurd z (hne 8 g)),U⟩)⟩;refine⟨_,U,r,zs,ds,pts,fN,U,hPl,ok,λl H1 s1 el=>⟨l,_,U,.inl (SqL.of el),_,_,U,U,_,U,bM (λg2=>?_) (λg2=>⟨s1,(λ_=>?_),U⟩)⟩⟩
  rotate_left
  ·have:=fG g2;rw[fC]at this;exact length_eq_zero_iff.mp (by lia)
  have tD:=fF g2;rw[fC]at tD;obtain⟨a,rest,hak⟩:∃a rest,akP pts fN=a :: rest:=by
   cases h:akP pts fN with
   |nil=>rw[h]at tD;exact absurd tD (by decide)
   |cons a rest=>exact⟨a,rest,U⟩
  have ham:a∈akP pts fN:=by rw[hak];exact mem_cons_self
  have Cq:a<pts.length:=by
   unfold akP akq at ham;obtain⟨t,ht,hm⟩:=List.mem_flatMap.mp ham;obtain⟨cc,hc,rfl⟩:=mem_map.mp hm;obtain⟨hc1,hc2⟩:=mem_filter.mp hc;obtain⟨j,ej⟩:=getElem?_of_mem ht;have:=ok.lt ej cc hc1;have:=of_decide_eq_true hc2;lia
  have et:=Jw Cq;generalize pts[a]=t at et;have ep:=Jw (l:=ds) (i:=fN+a) (by lia);generalize ds[fN+a]=p at ep;have okp:=ok.doms p (Jy ep);obtain⟨t_,etv,hT⟩:=hmv.2 a _ (gP et);obtain⟨da,eda,hpd⟩:=hdv.2 (fN+a) p ep;clear g2 el l;refine⟨_,U,r,zs,ds,pts,fN,U,hPl.same s1,ok,λl H2 s2 el=>⟨l,_,_,_,U,U,SqL.of el,(show atI (vN (akP pts fN)) 0=some (V.int (a:Int))from aP (j:=0) (by rw[hak];rfl)),?_⟩⟩;have s12:=s1.trans s2;refine⟨_,U,_,U,ma,_,_,_,U,U,SqL.of (s12 _ _ ema),aP etv,?_⟩;refine⟨_,U,_,U,nl,_,U,.inl (SqL.of (s12 _ _ enl)),_,U,tl_,_,U,.inl (SqL.of (s12 _ _ etl)),_,_,U,U,_,U,_,_,U,U,dl,_,_,_,U,U,SqL.of (s12 _ _ edl),(by rw[show(((zs.map V.str).length:Nat):Int)-((tv.length:Nat):Int)+(a:Int)=((fN+a:Nat):Int) by lia];exact aP eda),da,p,U,hpd.same s12,okp,λo H3 s3 hn hD3=>?_⟩;have s13:=s12.trans s3;obtain⟨ou,dw,⟨rl,dx0,na,dl0,fs0,xs,ht,f1,f2,f3,f4,f5,f6,ena,xr,erl,hR,iO⟩,g5,g6⟩:=TbG.same hT s13;have v0:=qv ok et;have v:TbV { btP zs ds fN a t with o:=cD p }:=⟨v0.w,v0.nd,v0.c1,v0.c4,v0.kl,v0.way,(λ_=>by show(cD p).1=none;unfold cD;split <;> rfl),(λw hw=>by
   have h:=v0.rws w hw;have eo:(btP zs ds fN a t).o=p.k:=jt ep;have h1:=h.lo;have h2:=h.hi;rw[eo]at h1 h2;have hl:=okp.le;refine⟨h.len,h.inn,?_,?_⟩
   ·show(cD p).2.1<=w.2;unfold cD;by_cases hw0:p.ws=[]
    ·rw[if_pos hw0];exact h1
    ·rw[if_neg hw0];have:=(okp.wd hw0).2.1;have h1:p.lo<=w.2:=h1;show(0:Int)<=w.2;lia
   ·show w.2<=(cD p).2.2;have h2:w.2<=p.hi:=h2;unfold cD;by_cases hw0:p.ws=[]
    ·rw[if_pos hw0];show w.2<=p.hi+1;lia
    ·rw[if_neg hw0];exact h2),v0.few⟩
  refine⟨_,U,t_,_,_,_,_,U,ht,bl.k_Table,bl.na_Table_name,f2,_,U,t_,_,_,_,_,U,ht,bl.k_Table,bl.na_Table_names,f5,_,U,t_,_,_,_,_,U,ht,bl.k_Table,bl.na_Table_domains,f6,_,U,_,U,t_,_,_,_,_,U,ht,bl.k_Table,bl.na_Table_way,f3,_,U,t_,_,_,_,_,U,ht,bl.k_Table,bl.na_Table_rows,f1,λx dx hx hdx hnx=>?_⟩;have s8:au H3 (upd (upd H3 dx (.own x)) x (.ins yX dx [])):=(af hdx _).upd hx;refine⟨x,dx,na,dl0,o,rl,_,_,_,dw,xs,_,_,({ btP zs ds fN a t with o:=cD p }).rws,U,ae,s8 _ _ ena,v.w,v.nd,v.c1,v.c4,v.way,(λz=>vy (hD3.same s8) (v.sum z)),s8 _ _ xr,vx (ar.mono g5 λ_ _ p=>p.same s8),(hD3.same s8).dom,s8 _ _ erl,hR.same s8,iO,(by rw[length_map];exact le_trans (le_of_eq v.kl) v.c4),v.rws,λH' fl rl' xs' k1 k2 k3 k3a k3b k3c ⟨na',dl',fn,fd,k3d,k3e,k3f,k3g⟩ fr k4 k5=>?_⟩;have s9:au H3 H':=λb u e=>k1 b u (aV e hx) (s8 _ _ e)
  have hTn:TbG yX yV yW H' x { btP zs ds fN a t with o:=cD p }:=⟨o,dw,⟨rl',dx,na',dl',fl,xs',k2,k3,k3c,k3a,k3b,k3d,k3e,k3f,k3g,k4,k5.any,by rw[k5.1];exact v.few⟩,ar.mono g5 (λ_ _ p=>p.same s9),hD3.same s9⟩;have s19:=s13.trans s9;have zA:=s19 _ _ ema;refine⟨U,⟨_,U,_,U,_,U,_,U,ma,_,U,SqL.of zA,λp1 hp1=>?_⟩⟩;have u1:=af hp1 (.lst (gK mv none (some (a:Int))));have e1:upd H' p1 (.lst (gK mv none (some (a:Int)))) p1=some (.lst (mv.take a)):=by rw[ae,qX]
  generalize upd H' p1 (.lst (gK mv none (some (a:Int))))=HA at u1 e1⊢;refine⟨_,U,(by show 1<=sizeLine;decide),λp2 hp2=>?_⟩;have u2:=af hp2 (.lst [.ref x]);have e2:upd HA p2 (.lst [.ref x]) p2=some (.lst [.ref x]):=ae;generalize upd HA p2 (.lst [.ref x])=HB at u2 e2⊢;refine⟨p1,p2,_,_,U,U,u2 _ _ e1,e2,le_of_lt (aw (by rw[length_take];show _+1<=1000;lia)),λp3 hp3=>?_⟩;have u3:=af hp3 (.lst (mv.take a++[.ref x]));have e3:upd HB p3 (.lst (mv.take a++[.ref x])) p3=some (.lst (mv.take a++[.ref x])):=ae;generalize upd HB p3 (.lst (mv.take a++[.ref x]))=HC at u3 e3⊢;have sC:=u1.trans (u2.trans u3);refine⟨_,U,_,U,_,_,U,U,_,U,ma,_,U,SqL.of (sC _ _ zA),λp4 hp4=>?_⟩;have u4:=af hp4 (.lst (gK mv (some ((a:Int)+1)) none));have e4:upd HC p4 (.lst (gK mv (some ((a:Int)+1)) none)) p4=some (.lst (mv.drop (a+1))):=by rw[ae,show(a:Int)+1=((a+1:Nat):Int) by lia,vj]
  generalize upd HC p4 (.lst (gK mv (some ((a:Int)+1)) none))=HD at u4 e4⊢;refine⟨p3,p4,_,_,U,U,u4 _ _ e3,e4,le_of_lt (aw (by rw[length_append,length_take,length_drop];show _+1+_<=1000;lia)),λp5 hp5=>⟨bf,?_⟩⟩;have u5:=af hp5 (.lst (mv.take a++[.ref x]++mv.drop (a+1)));have sD:=sC.trans (u4.trans u5);have mE:=s19.trans sD;have hm2:ar (mv.take a++[.ref x]++mv.drop (a+1)) _ (TbG yX yV yW _):=((ar.mono (ar.takeL hmv a) λ_ _ p=>p.same mE).appL (ar.one (hTn.same sD))).appL (ar.mono (ar.dropL hmv (a+1)) λ_ _ p=>p.same mE);exact fin 8 _ fa p5 _ _ _ _ (V.int.inj (of_decide_eq_true g)) mE (mE _ _ efa) ae (ar.mono hfv λ_ _ p=>p.same mE) hm2 (.eight hak et ep)
 rintro σ1 H1 ⟨s1,h8,rfl⟩;have mD:=s1 _ _ efa;have lQ:=s1 _ _ ema;have rU:=s1 _ _ enl;have uk:ar fv (fsP zs ds fN) (FcG yV yW H1):=ar.mono hfv λ_ _ p=>p.same s1
 have rV:ar mv (tsP zs ds pts fN) (TbG yX yV yW H1):=ar.mono hmv λ_ _ p=>p.same s1
 refine⟨_,U,U,_,U,bM (λg=>?_) (λg9=>?_)⟩
 ·have eN:((20:Int)-((fv.length:Nat):Int)).toNat=20-fN:=by lia
  refine⟨_,U,_,U,fa,_,U,.inl (SqL.of mD),_,_,U,U,_,U,(by lia),(by lia),bH (λD i ys H'=>au H1 H'/\H' D=some (.lst ys)/\ar ys ((List.range i).map λk=>((z0++ltr k,k01):Fc)) (FcG yV yW (hide H' D))) (λD hD=>⟨af hD _,ae,ar.nil⟩) (λD i ys H' hD hi h=>?_) (λD ys H' hD h=>?_)⟩
  ·obtain⟨sm,eD,hy⟩:=h;rw[eN]at hi;refine⟨_,U,nl,_,_,_,U,U,SqL.of (sm _ _ rU),(aP (j:=0) (bY ez0)),_,U,_,U,_,_,_,U,U,(by decide),js pG (k:=0+(i:Int)) (by lia) (by lia),_,_,U,U,big (by rw[show(⟨#[97+(0+(i:Int)).toNat]⟩:Str).length=1 from U];lia),λx dx hx hdx hnx=>⟨x,dx,0,1,U,ae,by decide,U,?_⟩⟩;have ei:(⟨#[97+(0+(i:Int)).toNat]⟩:Str)=ltr i:=by rw[show(0+(i:Int)).toNat=i by lia];rfl
   rw[ei];obtain⟨sn,hn⟩:=dr (C:=yV) (lo:=0) (hi:=1) hx hdx;generalize mkd yV (upd (upd H' dx (.own x)) x (.ins yV dx [])) x dx 0 1=H3 at sn hn⊢;refine⟨bf,λtp htp=>?_⟩;have u1:=af htp (.tup [.str (z0++ltr i),.ref x]);have et:upd H3 tp (.tup [.str (z0++ltr i),.ref x]) tp=some (.tup [.str (z0++ltr i),.ref x]):=ae;generalize upd H3 tp (.tup [.str (z0++ltr i),.ref x])=H4 at u1 et⊢;have sA:=sn.trans u1;have eD4:=sA _ _ eD;refine cn.mk (by rw[eN];exact hi) eD4 (aw (by rw[hy.1,length_map,length_range];lia)) ⟨(sm.trans sA).upd hD,ae,?_⟩;rw[eP,range_succ,map_append];obtain⟨dx',en⟩:=fL.same hn u1;exact ar.snoc (ar.mono hy λ_ _ p=>p.same (dN sA)) ⟨x,dO eD4 _ _ et,⟨dx',bj en (bK en eD4 (by intro z;cases z))⟩⟩
  ·obtain⟨sm,eD,hy⟩:=h;rw[eN]at hy;have hyl:ys.length=20-fN:=by rw[hy.1,length_map,length_range]
   refine⟨fa,D,_,_,U,U,sm _ _ mD,eD,le_of_lt (aw (by lia)),λp hp=>⟨_,U,bf,?_⟩⟩;have s26:=sm.trans (af hp (.lst (fv++ys)));exact fin 9 _ p ma _ _ _ _ (V.int.inj (of_decide_eq_true g)) (s1.trans s26) ae (s26 _ _ lQ) ((ar.mono uk λ_ _ p=>p.same s26).appL (ar.mono hy λ_ _ p=>(p.same (ij _ _)).same (af hp _))) (ar.mono rV λ_ _ p=>p.same s26) (.nine ez0)
 refine⟨_,U,U,_,U,bM (λg=>?_) (λg10=>?_)⟩
 ·have v0:=qv ok et0;obtain⟨t_,etv,hT⟩:=rV.2 0 _ (gP et0);obtain⟨ou,dw,⟨rl,dx0,na,dl0,fs0,xs,ht,f1,f2,f3,f4,f5,f6,ena,xr,erl,hR,iO⟩,g5,g6⟩:=hT;have eN:((30:Int)-((mv.length:Nat):Int)).toNat=30-pts.length:=by lia
  refine⟨_,U,ma,_,_,_,U,U,SqL.of lQ,(aP (j:=0) etv),(by show 0<=sizeLine;decide),λmo hmo=>?_⟩;have u0:=af hmo (.lst []);have e0:upd H1 mo (.lst []) mo=some (.lst []):=ae;generalize upd H1 mo (.lst [])=H2 at u0 e0⊢;refine⟨_,U,ma,_,U,.inl (SqL.of (u0 _ _ lQ)),_,_,U,U,_,U,(by lia),(by lia),hV (λi σ H'=>au H1 H'/\∃(mw:List V)(c13 c14:Option V),H' mo=some (.lst mw)/\ar mw ((List.range i).map (pP z0 z1 (btP zs ds fN 0 t0))) (TbG yX yV yW (hide H' mo))/\σ=[some (.int kd),some (.ref r),some (.ref fa),some (.ref ma),some (.ref nl),some (.ref dl),some (.ref tl_),some (.str (Str.ofString "abcdefghijklmnopqrstuvwxyz")),none,some (.ref t_),none,none,some (.ref mo),c13,c14,none,none,none,none]) ⟨u0,[],_,_,e0,ar.nil,U⟩ (λi σ H' hi hh=>?_) (λσ H' hh=>?_)⟩
  ·obtain⟨sm,mw,c13,c14,emo,hmw,rfl⟩:=hh;rw[eN]at hi;have v:=vz (k:=i) v0 hlz hlt (Jy ez0) (Jy ez1);have Cr:mw.length=i:=by rw[hmw.1,length_map,length_range]
   have ix1:atI (zs.map V.str) ((0+(i:Int)) / 26)=some (.str (if i<26 then z0 else z1)):=by
    by_cases h26:i<26
    ·rw[if_pos h26,show(0+(i:Int)) / 26=((0:Nat):Int) by lia];exact aP (bY ez0)
    ·rw[if_neg h26,show(0+(i:Int)) / 26=((1:Nat):Int) by lia];exact aP (bY ez1)
   have li:(if i<26 then z0 else z1).length<=11:=by split <;> assumption
   refine⟨_,U,_,U,_,_,U,U,⟨by decide,by decide⟩,nl,_,_,_,U,U,SqL.of (sm _ _ rU),ix1,_,U,_,U,_,_,U,U,(by show(0:Int)<26;decide),_,_,_,U,U,(by decide),js pG (k:=(0+(i:Int))%26) (by lia) (by lia),_,_,U,U,big (by rw[show(⟨#[97+((0+(i:Int))%26).toNat]⟩:Str).length=1 from U];lia),?_⟩;have ei:(⟨#[97+((0+(i:Int))%26).toNat]⟩:Str)=ltr (i%26):=by rw[show((0+(i:Int))%26).toNat=i%26 by lia];rfl
   rw[ei];have ht':=sm _ _ ht;refine⟨_,U,.inl ⟨U,_,SqL.of emo⟩,_,U,_,U,t_,_,_,_,_,U,ht',bl.k_Table,bl.na_Table_names,f5,_,U,t_,_,_,_,_,U,ht',bl.k_Table,bl.na_Table_domains,f6,_,U,t_,_,_,_,_,U,ht',bl.k_Table,bl.na_Table_outcome,f4,_,U,t_,_,_,_,_,U,ht',bl.k_Table,bl.na_Table_way,f3,_,U,t_,_,_,_,_,U,ht',bl.k_Table,bl.na_Table_rows,f1,_,U,rl,_,U,SqL.of (sm _ _ erl),λp hp=>?_⟩;have u1:=af hp (.lst (gK xs none (some 1)));have e1:upd H' p (.lst (gK xs none (some 1))) p=some (.lst (xs.take 1)):=by rw[ae,show(1:Int)=((1:Nat):Int)from U,qX]
   generalize upd H' p (.lst (gK xs none (some 1)))=H3 at u1 e1⊢;have s13:=sm.trans u1;intro x dx hx hdx hnx;have s8:au H3 (upd (upd H3 dx (.own x)) x (.ins yX dx [])):=(af hdx _).upd hx;have hD2:ar dw (btP zs ds fN 0 t0).ks (dc yV yW H3):=ar.mono g5 λ_ _ p=>p.same s13
   have hO2:dc yV yW H3 ou (btP zs ds fN 0 t0).o:=g6.same s13;have hR2:RL NT H3 (xs.take 1) ((btP zs ds fN 0 t0).rws.take 1):=ar.takeL (hR.same s13) 1;refine⟨x,dx,na,dl0,ou,p,_,_,(btP zs ds fN 0 t0).cs,_,_,_,_,(pP z0 z1 (btP zs ds fN 0 t0) i).rws,U,ae,s8 _ _ (s13 _ _ ena),v.w,v.nd,v.c1,v.c4,v.way,(λz=>vy (hO2.same s8) (v.sum z)),s8 _ _ (s13 _ _ xr),vx (ar.mono hD2 λ_ _ p=>p.same s8),(hO2.same s8).dom,s8 _ _ e1,hR2.same s8,(by rw[length_take];lia),(by rw[length_map];exact le_trans (le_of_eq v.kl) v.c4),v.rws,λH'' fl rl' xs' k1 k2 k3 k3a k3b k3c ⟨na',dl',fn,fd,k3d,k3e,k3f,k3g⟩ fr k4 k5=>?_⟩;have s9:au H3 H'':=λb u e=>k1 b u (aV e hx) (s8 _ _ e)
   have zB:=u1 _ _ emo;have xt:=s9 _ _ zB;have nmo:∀{a:Addr},upd (upd H3 dx (.own x)) x (.ins yX dx []) a=none->a≠mo:=λh z=>by rw[z,s8 _ _ zB]at h;cases h
   have sO:au H1 (hide H'' mo):=pN (s13.trans s9) hmo;have hTn:TbG yX yV yW (hide H'' mo) x (pP z0 z1 (btP zs ds fN 0 t0) i):=⟨ou,dw,⟨rl',dx,na',dl',fl,xs',bj k2 (bK k2 xt (by intro z;cases z)),k3,k3c,k3a,k3b,k3d,k3e,bj k3f (nmo fn),bj k3g (nmo fd),bj k4 (nmo fr),pO xt (λh=>nmo h U) k5,by rw[k5.1];exact v.few⟩,ar.mono g5 (λ_ _ p=>p.same sO),g6.same sO⟩;refine⟨U,mo,_,_,U,U,xt,aw (by lia),(s13.trans s9).upd hmo,mw++[.ref x],_,_,ae,?_,U⟩;rw[eP,range_succ,map_append];exact ar.snoc (ar.mono hmw λ_ _ p=>p.same (dN (u1.trans s9))) hTn
  ·obtain⟨sm,mw,c13,c14,emo,hmw,rfl⟩:=hh;rw[eN]at hmw;have Cr:mw.length=30-pts.length:=by rw[hmw.1,length_map,length_range]
   refine⟨_,U,_,U,_,U,ma,mo,_,_,U,U,sm _ _ lQ,emo,le_of_lt (aw (by lia)),λp hp=>⟨bf,?_⟩⟩;have s26:=sm.trans (af hp (.lst (mv++mw)));exact fin 10 _ fa p _ _ _ _ (V.int.inj (of_decide_eq_true g)) (s1.trans s26) (s26 _ _ mD) ae (ar.mono uk λ_ _ p=>p.same s26) ((ar.mono rV λ_ _ p=>p.same s26).appL (ar.mono hmw λ_ _ p=>(p.same (ij _ _)).same (af hp _))) (.ten ez0 ez1 et0)
 refine⟨_,U,U,_,U,bM (λg=>?_) (λg11=>?_)⟩
 ·have v:=q9 lz0;refine⟨_,U,nl,_,_,_,U,U,SqL.of rU,(aP (j:=0) (bY ez0)),_,_,U,U,big (by rw[ofy,ir];lia),_,U,nl,_,_,_,U,U,SqL.of rU,(aP (j:=0) (bY ez0)),_,_,U,U,big (by rw[ofx,ir];lia),(by show 1<=sizeLine;decide),λp1 hp1=>?_⟩;rw[ofx,ofy];have u1:=af hp1 (.lst [.str (z0++ltr 23)]);have e1:upd H1 p1 (.lst [.str (z0++ltr 23)]) p1=some (.lst [.str (z0++ltr 23)]):=ae;generalize upd H1 p1 (.lst [.str (z0++ltr 23)])=H2 at u1 e1⊢;refine λy dy hy hdy hny=>⟨y,dy,0,1,U,ae,by decide,U,?_⟩
  obtain⟨sn,hn⟩:=dr (C:=yV) (lo:=0) (hi:=1) hy hdy;generalize mkd yV (upd (upd H2 dy (.own y)) y (.ins yV dy [])) y dy 0 1=H3 at sn hn⊢;refine⟨(by show 1<=sizeLine;decide),λp2 hp2=>?_⟩;have u2:=af hp2 (.lst [.ref y]);have e2:upd H3 p2 (.lst [.ref y]) p2=some (.lst [.ref y]):=ae;generalize upd H3 p2 (.lst [.ref y])=H4 at u2 e2⊢;refine λo do_ ho hdo hno=>⟨o,do_,0,1,U,ae,by decide,U,?_⟩
  obtain⟨so,hno⟩:=dr (C:=yV) (lo:=0) (hi:=1) ho hdo;generalize mkd yV (upd (upd H4 do_ (.own o)) o (.ins yV do_ [])) o do_ 0 1=H5 at so hno⊢;refine⟨(by show 0<=sizeLine;decide),λp3 hp3=>?_⟩;have u3:=af hp3 (.lst []);have e3:upd H5 p3 (.lst []) p3=some (.lst []):=ae;generalize upd H5 p3 (.lst [])=H6 at u3 e3⊢;intro x dx hx hdx hnx;have s8:au H6 (upd (upd H6 dx (.own x)) x (.ins yX dx [])):=(af hdx _).upd hx;have hD2:ar [V.ref y] (dP z0).ks (dc yV yW H6):=ar.one (fL.same hn (u2.trans (so.trans u3)));have hO2:dc yV yW H6 o (dP z0).o:=fL.same hno u3;have hR2:RL NT H6 [] (dP z0).rws:=ar.nil;refine⟨x,dx,p1,p2,o,p3,_,_,(dP z0).cs,_,_,_,_,(dP z0).rws,U,ae,s8 _ _ ((sn.trans (u2.trans (so.trans u3))) _ _ e1),v.w,v.nd,v.c1,v.c4,v.way,(λz=>vy (hO2.same s8) (v.sum z)),s8 _ _ ((so.trans u3) _ _ e2),vx (ar.mono hD2 λ_ _ p=>p.same s8),(hO2.same s8).dom,s8 _ _ e3,hR2.same s8,(zero_le _),(by rw[length_map];exact le_trans (le_of_eq v.kl) v.c4),v.rws,λH' fl rl' xs' k1 k2 k3 k3a k3b k3c ⟨na',dl',fn,fd,k3d,k3e,k3f,k3g⟩ fr k4 k5=>?_⟩;have s9:au H6 H':=λb u e=>k1 b u (aV e hx) (s8 _ _ e)
  have hTn:TbG yX yV yW H' x (dP z0):=⟨o,_,⟨rl',dx,na',dl',fl,xs',k2,k3,k3c,k3a,k3b,k3d,k3e,k3f,k3g,k4,k5.any,by rw[k5.1];exact v.few⟩,ar.mono hD2 (λ_ _ p=>p.same s9),hO2.same s9⟩;have s19:au H1 H':=u1.trans (sn.trans (u2.trans (so.trans (u3.trans s9))));refine⟨U,⟨_,U,_,U,_,U,(by show 1<=sizeLine;decide),λp4 hp4=>?_⟩⟩;have u4:=af hp4 (.lst [.ref x]);have e4:upd H' p4 (.lst [.ref x]) p4=some (.lst [.ref x]):=ae;generalize upd H' p4 (.lst [.ref x])=H7 at u4 e4⊢;refine⟨ma,p4,_,_,U,U,(s19.trans u4) _ _ lQ,e4,le_of_lt (aw (by show mv.length+1<=1000;lia)),λp5 hp5=>⟨bf,?_⟩⟩;have u5:=af hp5 (.lst (mv++[.ref x]));have sD:=u4.trans u5;have mE:=s19.trans sD;exact fin 11 _ fa p5 _ _ _ _ (V.int.inj (of_decide_eq_true g)) (s1.trans mE) (mE _ _ mD) ae (ar.mono uk λ_ _ p=>p.same mE) ((ar.mono rV λ_ _ p=>p.same mE).appL (ar.one (hTn.same sD))) (.eleven ez0)
 refine⟨_,U,U,_,U,bM (λg=>gC ?_) (λg12=>⟨_,U,U,_,U,bM (λg=>?_) (λg13=>?_)⟩)⟩
 rotate_left 2
 ·refine⟨_,U,_,U,bf,fin kd _ fa ma fv mv _ _ U s1 mD lQ uk rV (.same ?_ h8)⟩;have n9:=hne 9 g9;have n10:=hne 10 g10;have n11:=hne 11 g11;have n12:=hne 12 g12;have n13:=hne 13 g13;lia
 all_goals
  have hk:kd=12\/kd=13:=by first|exact .inl (V.int.inj (of_decide_eq_true g))|exact .inr (V.int.inj (of_decide_eq_true g))
  refine⟨_,U,nl,_,_,_,U,U,SqL.of rU,(aP (j:=0) (bY ez0)),_,_,U,U,big (by rw[ofy,ir];lia),_,U,nl,_,_,_,U,U,SqL.of rU,(aP (j:=0) (bY ez0)),_,_,U,U,big (by rw[ofx,ir];lia),bf,λha hha=>?_⟩;rw[ofx,ofy];have u1:=af hha (.lst [.str (z0++ltr 24),.str (z0++ltr 23)]);have e1:upd H1 ha (.lst [.str (z0++ltr 24),.str (z0++ltr 23)]) ha=some (.lst [.str (z0++ltr 24),.str (z0++ltr 23)]):=ae;generalize upd H1 ha (.lst [.str (z0++ltr 24),.str (z0++ltr 23)])=H2 at u1 e1⊢;refine λy dy hy hdy hny=>⟨y,dy,0,1,U,ae,by decide,U,?_⟩
  obtain⟨sn,hn⟩:=dr (C:=yV) (lo:=0) (hi:=1) hy hdy;generalize mkd yV (upd (upd H2 dy (.own y)) y (.ins yV dy [])) y dy 0 1=H3 at sn hn⊢;refine⟨_,U,_,_,U,U,λy2 dy2 hy2 Cs Jv=>⟨y2,dy2,0,kd-11,U,ae,by lia,U,?_⟩⟩;obtain⟨sn2,hn2⟩:=dr (C:=yV) (lo:=0) (hi:=kd-11) hy2 Cs;generalize mkd yV (upd (upd H3 dy2 (.own y2)) y2 (.ins yV dy2 [])) y2 dy2 0 (kd-11)=H4 at sn2 hn2⊢;refine⟨bf,λca hca=>?_⟩;have u2:=af hca (.lst [.ref y,.ref y2]);have e2:upd H4 ca (.lst [.ref y,.ref y2]) ca=some (.lst [.ref y,.ref y2]):=ae;generalize upd H4 ca (.lst [.ref y,.ref y2])=H5 at u2 e2⊢;have s15:=u1.trans (sn.trans (sn2.trans u2));have e15:=(sn.trans (sn2.trans u2)) _ _ e1;have hn5:dc yV yW H5 y k01:=fL.same hn (sn2.trans u2);have Ct:dc yV yW H5 y2 (none,0,kd-11):=fL.same hn2 u2;refine⟨_,U,(by decide),(by decide),bH (λD i ys H'=>au H5 H'/\H' D=some (.lst ys)/\ar ys ([dP z0,gQ z0 kd].take i) (TbG yX yV yW (hide H' D))) (λD hD=>⟨af hD _,ae,ar.nil⟩) (λD i ys H' hD hi h=>?_) (λD ys H' hD h=>?_)⟩
  ·obtain⟨sm,eD,hy'⟩:=h;have hi:i<2:=hi;obtain⟨T,nm,cm,yy,kk,eT,ix1,ix2,ix3,eTT,hyy⟩:∃(T:BT)(nm cm:Str)(yy:Addr)(kk:Dk),[dP z0,gQ z0 kd][i]?=some T/\atI [V.str (z0++ltr 24),V.str (z0++ltr 23)] (0+(i:Int))=some (.str nm)/\atI [V.str (z0++ltr 24),V.str (z0++ltr 23)] (1-(0+(i:Int)))=some (.str cm)/\atI [V.ref y,V.ref y2] (0+(i:Int))=some (.ref yy)/\T=⟨nm,[cm],[kk],k01,Str.ofString "first",[]⟩/\dc yV yW H5 yy kk:=by
    match i,hi with
    |0,_=>exact⟨dP z0,_,_,y,k01,U,U,U,U,U,hn5⟩
    |1,_=>exact⟨gQ z0 kd,_,_,y2,_,U,U,U,U,U,Ct⟩
   have v:TbV T:=by
    match i,hi with
    |0,_=>cases eT;exact q9 lz0
    |1,_=>cases eT;exact vA lz0
   subst eTT;refine⟨_,U,_,U,ha,_,_,_,U,U,SqL.of (sm _ _ e15),ix1,_,U,_,U,_,_,U,U,ha,_,_,_,U,U,SqL.of (sm _ _ e15),ix2,(by show 1<=sizeLine;decide),λp1 hp1=>?_⟩;have w1:=af hp1 (.lst [.str cm]);have q1:upd H' p1 (.lst [.str cm]) p1=some (.lst [.str cm]):=ae;generalize upd H' p1 (.lst [.str cm])=G1 at w1 q1⊢;refine⟨_,U,_,U,ca,_,_,_,U,U,SqL.of ((sm.trans w1) _ _ e2),ix3,(by show 1<=sizeLine;decide),λp2 hp2=>?_⟩;have w2:=af hp2 (.lst [.ref yy]);have q2:upd G1 p2 (.lst [.ref yy]) p2=some (.lst [.ref yy]):=ae;generalize upd G1 p2 (.lst [.ref yy])=G2 at w2 q2⊢;refine λo do_ ho hdo hno=>⟨o,do_,0,1,U,ae,by decide,U,?_⟩
   obtain⟨so,hno⟩:=dr (C:=yV) (lo:=0) (hi:=1) ho hdo;generalize mkd yV (upd (upd G2 do_ (.own o)) o (.ins yV do_ [])) o do_ 0 1=G3 at so hno⊢;refine⟨(by show 0<=sizeLine;decide),λp3 hp3=>?_⟩;have w3:=af hp3 (.lst []);have q3:upd G3 p3 (.lst []) p3=some (.lst []):=ae;generalize upd G3 p3 (.lst [])=G4 at w3 q3⊢;intro x dx hx hdx hnx;have sG:au H' G4:=w1.trans (w2.trans (so.trans w3));have s8:au G4 (upd (upd G4 dx (.own x)) x (.ins yX dx [])):=(af hdx _).upd hx;have hD2:ar [V.ref yy] [kk] (dc yV yW G4):=ar.one (hyy.same (sm.trans sG));have hO2:dc yV yW G4 o k01:=fL.same hno w3;have hR2:RL NT G4 [] []:=ar.nil;refine⟨x,dx,p1,p2,o,p3,_,_,[cm],_,_,_,_,((⟨nm,[cm],[kk],k01,Str.ofString "first",[]⟩:BT)).rws,U,ae,s8 _ _ ((w2.trans (so.trans w3)) _ _ q1),v.w,v.nd,v.c1,v.c4,v.way,(λz=>vy (hO2.same s8) (v.sum z)),s8 _ _ ((so.trans w3) _ _ q2),vx (ar.mono hD2 λ_ _ p=>p.same s8),(hO2.same s8).dom,s8 _ _ q3,hR2.same s8,(zero_le _),(by rw[length_map];exact le_trans (le_of_eq v.kl) v.c4),v.rws,λH'' fl rl' xs' k1 k2 k3 k3a k3b k3c ⟨na',dl',fn,fd,k3d,k3e,k3f,k3g⟩ fr k4 k5=>?_⟩;have s9:au G4 H'':=λb u e=>k1 b u (aV e hx) (s8 _ _ e)
   have eD4:=sG _ _ eD;have eD9:=s9 _ _ eD4;have nmo:∀{a:Addr},upd (upd G4 dx (.own x)) x (.ins yX dx []) a=none->a≠D:=λh z=>by rw[z,s8 _ _ eD4]at h;cases h
   have sO:au H5 (hide H'' D):=pN ((sm.trans sG).trans s9) hD;obtain⟨ddo,eno⟩:=fL.same hno (w3.trans s9);have hTn:TbG yX yV yW (hide H'' D) x ⟨nm,[cm],[kk],k01,Str.ofString "first",[]⟩:=⟨o,_,⟨rl',dx,na',dl',fl,xs',bj k2 (bK k2 eD9 (by intro z;cases z)),k3,k3c,k3a,k3b,k3d,k3e,bj k3f (nmo fn),bj k3g (nmo fd),bj k4 (nmo fr),pO eD9 (λh=>nmo h U) k5,by rw[k5.1];exact v.few⟩,ar.one (hyy.same sO),⟨ddo,bj eno (bK eno eD9 (by intro z;cases z))⟩⟩;have hyl:=hy'.1;rw[length_take]at hyl;refine⟨U,cn.mk hi eD9 (aw (by lia)) ⟨(sm.trans (sG.trans s9)).upd hD,ae,?_⟩⟩;rw[eP,take_snoc eT];exact ar.snoc (ar.mono hy' λ_ _ p=>p.same (dN (sG.trans s9))) hTn
  ·obtain⟨sm,eD,hy'⟩:=h;have zC:ar ys [dP z0,gQ z0 kd] (TbG yX yV yW (hide H' D)):=hy';have hyl:ys.length=2:=zC.1;have s1D:=s15.trans sm;refine⟨_,U,_,U,_,U,D,ma,_,_,U,U,eD,s1D _ _ lQ,le_of_lt (aw (by lia)),λp hp=>⟨bf,?_⟩⟩;have s26:=s1D.trans (af hp (.lst (ys++mv)));exact fin kd _ fa p _ _ _ _ U (s1.trans s26) (s26 _ _ mD) ae (ar.mono uk λ_ _ p=>p.same s26) ((ar.mono zC λ_ _ p=>(p.same (ij _ _)).same (af hp _)).appL (ar.mono rV λ_ _ p=>p.same s26)) (.ring ez0 hk)
theorem Cu(F:Fun K "law" "law" Y24 f fd) (bl:Bl K mg yA yI yH yG ah yN yO yP yQ yR yS yT yU yV yW yX ai)(pS:Callee P w K mg base 8 "_law_book" ["script"] (fq K yA yI yH yG ah yN yO yP yQ yR yS yT yU yV yW yX ai)) (og:Callee P w K mg base 8 "_law_facts" ["plan"] (eA K yA yI yH yG ah yN yO yP yQ yR yS yT yU yV yW yX ai)) (lS:Callee P w K mg base 8 "_law_widened" ["kind","plan","facts","made"] (dD K yA yI yH yG ah yN yO yP yQ yR yS yT yU yV yW yX ai)) (oh:Callee P w K mg base 8 "_law_table" ["plan","k"] (eB K yA yI yH yG ah yN yO yP yQ yR yS yT yU yV yW yX ai)) (mF:Callee P w K mg base 8 "_law_spoilt" ["kind","cell","plan","facts","made"] (dY K yA yI yH yG ah yN yO yP yQ yR yS yT yU yV yW yX ai)) (k_Book:aU (CX1 P w) P w K mg base 7 "Book" ai ["self","facts","tables"] (cg K yA yI yH yG ah yN yO yP yQ yR yS yT yU yV yW yX ai)) (cM:Callee P w K mg base 8 "_law_at" ["script","k"] (fP K yA yI yH yG ah yN yO yP yQ yR yS yT yU yV yW yX ai)) (eE:Callee P w K mg base 8 "_law_asked" ["plan"] (dB K yA yI yH yG ah yN yO yP yQ yR yS yT yU yV yW yX ai)):bg P w K mg base CX0 9 f fd ["script"] (J6 K):=by
 refine F.ok Z24 (λvs H Q E h=>?_) (λcdv A outer s H vs Q E hr h=>?_)
 ·obtain⟨a,ns,rfl,hS,h63,q⟩:=h;rfl
 obtain⟨a,ns,rfl,hS,h63,q⟩:=h
 refine⟨_,(ay (aL (i:=1) Z24.nd U (Or.inr U) (br pS hr U (aa (pv 0) ag)))
  (ay (aL (i:=2) Z24.nd U (Or.inl U) (br og hr U (aa (pv 1) ag)))
  (ay (fW (i:=3) Z24.nd U (Or.inl U) (bG U bl.range_ (aa (az av U bl.len_ boot_len (aa (aH bX (pv 1) aj (λ_ _=>U)) ag)) ag)) (aY (N:=["k","plan"]) (fr:=[1]) (cl:=[("plan",s.heap.objs.size+1)]) U U (by decide+kernel) (by decide+kernel) U (by decide+kernel) U U U (forall_mem_cons.mpr ⟨U,forall_mem_nil _⟩) U) U (λ_ _ _ _=>bb) (λ_ _ _ _=>(br oh hr U (aa (pv 1) (aa (pv 0) ag)))))
  (ay (aL (i:=4) Z24.nd U (Or.inl U) (aX (aa (aC bA (aC bU (br cM hr U (aa (pv 0) (aa aj ag))) aj) aj) (aa (aC bA (aC bU (br cM hr U (aa (pv 0) (aa aj ag))) aj) aj) ag))))
  (ay (iI (br lS hr U (aa (aH aQ (pv 4) aj (λ_ _=>U)) (aa (pv 1) (aa (pv 2) (aa (pv 3) ag))))) (dh U (aO (aK (i:=2) Z24.nd U (Or.inl U)) (aO (aK (i:=3) Z24.nd U (Or.inl U)) cE))))
  (ay (cO PassesOwn.never U (bG U bl.range_ (aa aj ag)) (aK (i:=5) Z24.nd U (Or.inl U))
  (aq (iI (br mF hr U (aa (aH aQ (pv 4) (pv 5) (λ_ _=>U)) (aa (br cM hr U (aa (pv 0) (aa (aC bT aj (pv 5)) ag))) (aa (pv 1) (aa (pv 2) (aa (pv 3) ag)))))) (dh U (aO (aK (i:=2) Z24.nd U (Or.inl U)) (aO (aK (i:=3) Z24.nd U (Or.inl U)) cE))))))
  (ay (aL (i:=6) Z24.nd U (Or.inl U) (aX ag))
  (ay (aZ (PW.pt (kq (aF fD (az av U bl.len_ boot_len (aa (pv 2) ag)) aj (aN _)) (iG (aF fD (az av U bl.len_ boot_len (aa (pv 3) ag)) aj (aN _)))))
  (aq (aL (i:=6) Z24.nd U (Or.inl U) (aX (aa ck (aa ck (aa ck (aa ck (aa ck (aa ck ag)))))))))
  (aq (aZ (aF fD (az av U bl.len_ boot_len (aa (bq (aW (pv 4)) (bF U (by decide+kernel) (by decide+kernel) (by decide+kernel) U) U (λ_ _ _ _=>(hX (PW.pt (kq (PW.pt (gJ (aF fb aj (pv 0) (aN _)) (eY (aF fb (pv 0) aj (aN _))))) (iG (aF cw (pv 0) aj (aN _))))))) (λ_ _ _ _=>(pv 0))) ag)) aj (aN _))
  (aq (aL (i:=6) Z24.nd U (Or.inl U) (aX (aa ck (aa ck (aa ck (aa ck (aa ck (aa ck ag)))))))))
  (aq (aZ (PW.pt (kq (aF fE aj (pv 4) (by with_unfolding_all rfl)) (kq (aF fE aj (pv 4) (by with_unfolding_all rfl)) (iG (PW.pt (gJ (aF fE aj (pv 4) (by with_unfolding_all rfl)) (eY (aF fD (az av U bl.len_ boot_len (aa (br eE hr U (aa (pv 1) ag)) ag)) aj (aN _)))))))))
  (aq (aL (i:=6) Z24.nd U (Or.inl U) (aX (aa ck (aa ck (aa ck (aa ck (aa ck (aa ck ag)))))))))
  (aq (aZ (aF fE aj (pv 4) (by with_unfolding_all rfl))
  (aq (aL (i:=6) Z24.nd U (Or.inl U) (aX (aa ck (aa ck (aa ck (aa ck (aa ck (aa ck ag)))))))))
  aM)))))))
  (ay (aL (i:=7) Z24.nd U (Or.inl U) (aX ag))
  (ay (aL (i:=8) Z24.nd U (Or.inl U) sh)
  (ay (aL (i:=9) Z24.nd U (Or.inl U) (aX (aa (bO cx U bl.list_ PyProof.Rows.boot_list (aa (pv 2) ag)) (aa (bO cx U bl.list_ PyProof.Rows.boot_list (aa (pv 3) ag)) ag))))
  (ay (wU (G:=λC=>fh K C) (i:=10) (vd (i:=8) Z24.nd U (Or.inl U) (wW k_Book U hr U (aa (aH aQ (pv 9) aj (λ_ _=>U)) (aa (aH aQ (pv 9) aj (λ_ _=>U)) ag)))) U U U U bl.TableError_ Z24.nd U U (λC e oe hG hc=>(ay (aL (i:=7) Z24.nd U (Or.inl U) (aX (aa ck (aa (az (fH hc hG) U bl.isinstance_ PyProof.Rows.boot_isinstance (aa (pv 10) (aa (ni (v:=.ty "ValueError") U bl.ValueError_ PyProof.Rows.Boot.ValueError U) ag))) (aa (az (fH hc hG) U bl.isinstance_ PyProof.Rows.boot_isinstance (aa (pv 10) (aa (dR (v:=.ref yI) U bl.TooMany_ U) ag))) (aa (az (fH hc hG) U bl.isinstance_ PyProof.Rows.boot_isinstance (aa (pv 10) (aa (dR (v:=.ref yH) U bl.BadName_ U) ag))) ag))))))
  (aq (aL (i:=7) Z24.nd U (Or.inl U) (aC cZ (pv 7) (aX (aa (az (fH hc hG) U bl.isinstance_ PyProof.Rows.boot_isinstance (aa (pv 10) (aa (dR (v:=.ref yG) U bl.Unlike_ U) ag))) (aa (az (fH hc hG) U bl.isinstance_ PyProof.Rows.boot_isinstance (aa (pv 10) (aa (dR (v:=.ref ah) U bl.Ring_ U) ag))) ag)))))))))
  (ay (aZ (PW.pt (kq (aF (tf hr) (pv 7) (pv 6) (aN _)) (iG (aF wC (pv 8) sh (aN _)))))
  (aq (aT (fV (qj hr) (pv 7) (pv 6) (aN _))))
  aM)
  (ay (aZ (PW.pt (kq (aF pd (az av U bl.len_ boot_len (aa (aH aQ (pv 9) aj (λ_ _=>U)) ag)) (az av U bl.len_ boot_len (aa (pv 2) ag)) (aN _)) (iG (aF pd (az av U bl.len_ boot_len (aa (aH aQ (pv 9) aj (λ_ _=>U)) ag)) (az av U bl.len_ boot_len (aa (pv 3) ag)) (aN _)))))
  (aq (aT ck))
  aM)
  (ay (bz (sS PySem.F.plainAttrs_list PySem.F.slot_list_clear PySem.F.type_list_clear sX (aH aQ (pv 9) aj (λ_ _=>U))))
  (ay (bz (sS PySem.F.plainAttrs_list PySem.F.slot_list_reverse PySem.F.type_list_reverse qi (aH aQ (pv 9) aj (λ_ _=>U))))
  (ay (aZ (aF (tf hr) (bq (aW (bu (pv 8) U)) (bF U (by decide+kernel) (by decide+kernel) (by decide+kernel) U) U (λ_ _ _ _=>bb) (λ_ _ _ _=>(aH (di (K:=K) U) (pv 0) aj (λ_ _=>U)))) (bq (aW (pv 2)) (bF U (by decide+kernel) (by decide+kernel) (by decide+kernel) U) U (λ_ _ _ _=>bb) (λ_ _ _ _=>(aH (di (K:=K) U) (pv 0) aj (λ_ _=>U)))) (aN _))
  (aq (aT ck))
  aM)
  (aq (aT (fV (qj hr) (bq (aW (bu (pv 8) U)) (bF U (by decide+kernel) (by decide+kernel) (by decide+kernel) U) U (λ_ _ _ _=>bb) (λ_ _ _ _=>(fY (K:=K) U (pv 0) U))) (bq (aW (pv 3)) (bF U (by decide+kernel) (by decide+kernel) (by decide+kernel) U) U (λ_ _ _ _=>bb) (λ_ _ _ _=>(fY (K:=K) U (pv 0) U))) (aN _))))))))))))))))))))),?_⟩
 show(let r17:TS:=_;let r16:TS:=bp _ r17;let r15:TS:=bp _ r16;let r14:TS:=bp _ r15;let r13:TS:=bp _ r14;let r12:TS:=bp _ r13;let r11:TS:=bp _ r12;let r10:TS:=bp _ r11;let r9:TS:=bp _ r10;let r8:TS:=bp _ r9;let r7:TS:=bp _ r8;let r6:TS:=bp _ r7;let r5:TS:=bp _ r6;let r4:TS:=bp _ r5;let r3:TS:=bp _ r4;let r2:TS:=bp _ r3;let r1:TS:=bp _ r2;bp _ r1 _ _ _);intro _ _ _ _ _ _ _ _ _ _ _ _ _ _ _ _ _;refine⟨λσ' H'=>au H H'/\∃(r:Addr)(zs:List Str)(ds:List PD)(pts:List PT)(fN:Nat),PlA H' r zs ds pts/\cS zs ds pts fN/\1<=fN/\(∀z∈zs,∀y∈zs,z.length=y.length)/\(∀z∈zs,SmB z)/\(∀z∈zs,LtM z)/\2<=zs.length/\σ'=[some (.ref a),some (.ref r),none,none,none,none,none,none,none,none,none],⟨_,U,a,ns,U,hS,λr zs ds ts fN H' s h1 h2 h3 h4 h5 h6 h7=>⟨s,r,zs,ds,ts,fN,h1,h2,h3,h4,h5,h6,h7,U⟩⟩,?_⟩;rintro σ1 H1 ⟨s1,r,zs,ds,pts,fN,hPl,ok,hf1,hlz,hsb,hlt,hz2,rfl⟩;have hsm:∀z∈zs,Sml z:=λz hz=>⟨le_trans (hlt z hz).1 (by decide),(hsb z hz).2⟩
 obtain⟨nl,dl,tl_,dv,tv,er,enl,edl,hdv,etl,htv⟩:=id hPl;have htl:tv.length=pts.length:=htv.1;have h7:=ok.n7;have hl1:=ok.len;have hl2:=ok.tab;have hp1:=ok.some_;have hS1:=s1.seq hS;have et0:=Jw (l:=pts) (i:=0) (by lia);generalize pts[0]=t0 at et0;have zD:=ok.tabs 0 t0 et0;have hc1:1<=t0.cols.length:=zD.ok.some_;have eu:=Jw (l:=t0.cols) (i:=0) (by lia);generalize t0.cols[0]=u at eu;have hu:u<fN+0:=zD.ok.lt u (Jy eu);have eun:=Jw (l:=zs) (i:=u) (by lia);generalize zs[u]=un at eun;have epu:=Jw (l:=ds) (i:=u) (by lia);generalize ds[u]=pu at epu;have ez0:=Jw (l:=zs) (i:=0) (by lia);generalize zs[0]=z0 at ez0;have ez1:=Jw (l:=zs) (i:=1) (by lia);generalize zs[1]=z1 at ez1;refine⟨λσ' H'=>au H1 H'/\∃(fa:Addr)(fv:List V),H' fa=some (.lst fv)/\ar fv (fsP zs ds fN) (FcG yV yW H')/\σ'=[some (.ref a),some (.ref r),some (.ref fa),none,none,none,none,none,none,none,none],⟨_,U,r,zs,ds,pts,fN,U,hPl,ok,λfa fv H' s efa hfv=>⟨s,fa,fv,efa,ze hfv,U⟩⟩,?_⟩;rintro σ2 H2 ⟨s2,fa,fv,efa,hfv,rfl⟩;refine⟨λσ' H'=>au H2 H'/\∃(ma:Addr)(mv:List V),H' ma=some (.lst mv)/\ar mv (tsP zs ds pts fN) (TbG yX yV yW H')/\σ'=[some (.ref a),some (.ref r),some (.ref fa),some (.ref ma),none,none,none,none,none,none,none],?_,?_⟩
 ·refine⟨_,U,r,_,_,_,U,U,SqT.of (s2 _ _ er),U,tl_,_,U,.inl (SqL.of (s2 _ _ etl)),_,U,(by lia),(by lia),bH (λD i ys H'=>au H2 H'/\H' D=some (.lst ys)/\ar ys (List.range i) (TbN (Fr H2 D) yX yV yW H' zs ds pts fN)) (λD hD=>⟨af hD _,ae,ar.nil⟩) (λD i ys H' hD hi h=>?_) (λD ys H' hD h=>?_)⟩
  ·obtain⟨sm,eD,hy⟩:=h;rw[toNat_natCast]at hi;have et:=Jw (l:=pts) (i:=i) (by lia);generalize pts[i]=t at et;have enm:=Jw (l:=zs) (i:=fN+i) (by lia);have epo:=Jw (l:=ds) (i:=fN+i) (by lia);refine⟨_,U,_,U,r,i,zs,ds,pts,fN,t,_,_,(by rw[show(0:Int)+(i:Int)=(i:Int) by lia]),hPl.same (s2.trans sm),ok,et,enm,epo,λx H4 s4 hx=>?_⟩;have eD4:=s4 _ _ eD;refine cn.mk (by lia) eD4 (aw (by rw[hy.1,length_range];lia)) ⟨(sm.trans s4).upd hD,ae,?_⟩;rw[range_succ];exact ar.mono (ar.snoc (ar.mono hy λ_ _ p=>p.same s4) (hx.wk λb h=>⟨sm.free h,λz=>by rw[z,eD]at h;cases h⟩)) λ_ _ p=>p.upd Fr.out eD4
  ·obtain⟨sm,eD,hy⟩:=h;rw[toNat_natCast,htl]at hy;exact⟨sm,D,ys,eD,zf (ar.mono hy λ_ _ p=>p.tb),U⟩
 rintro σ3 H3 ⟨s3,ma,mv,ema,hmv,rfl⟩;have s13:=s2.trans s3;refine⟨λσ' H'=>au H3 H'/\∃(ka:Addr)(k0 k1:Int),H' ka=some (.lst [.int k0,.int k1])/\(0<=k0/\k0<=13)/\(0<=k1/\k1<=7)/\σ'=[some (.ref a),some (.ref r),some (.ref fa),some (.ref ma),some (.ref ka),none,none,none,none,none,none],?_,?_⟩
 ·exact⟨_,U,a,ns,0,U,s13.seq hS1,Int.le_refl _,λc=>⟨_,_,U,U,⟨by decide,by decide⟩,_,_,U,U,(by show(0:Int)<14;decide),_,U,a,ns,0,U,s13.seq hS1,Int.le_refl _,λc'=>⟨_,_,U,U,⟨by decide,by decide⟩,_,_,U,U,(by show(0:Int)<8;decide),bf,λl hl=>⟨af hl _,l,c / 12%14,c' / 168%8,ae,by lia,by lia,U⟩⟩⟩⟩
 rintro σ4 H4 ⟨s4,ka,k0,k1,eka,hk0,hk1,rfl⟩;have s14:=s13.trans s4;refine⟨λσ' H'=>au H4 H'/\∃(fa ma:Addr)(fv mv:List V)(fs:List Fc)(ts:List BT),H' fa=some (.lst fv)/\H' ma=some (.lst mv)/\ar fv fs (FcG yV yW H')/\ar mv ts (TbG yX yV yW H')/\WdI zs ds pts fN k0 fs ts/\σ'=[some (.ref a),some (.ref r),some (.ref fa),some (.ref ma),some (.ref ka),none,none,none,none,none,none],?_,?_⟩
 ·exact⟨_,U,ka,_,_,_,U,U,SqL.of eka,U,_,U,_,U,_,U,k0,r,fa,ma,zs,ds,pts,fN,z0,z1,t0,fv,mv,U,hPl.same s14,ok,et0,ez0,ez1,hlt,hsm,hlz,(s3.trans s4) _ _ efa,s4 _ _ ema,ar.mono hfv (λ_ _ p=>p.same (s3.trans s4)),ar.mono hmv (λ_ _ p=>p.same s4),λx fa' ma' fv' mv' fs' ts' H' s ex e1 e2 h1 h2 hw=>⟨x,_,U,SqT.of ex,U,_,_,U,_,_,U,U,s,fa',ma',fv',mv',fs',ts',e1,e2,h1,h2,hw,U⟩⟩
 clear hfv hmv efa ema;clear fv mv;rintro σ5 H5 ⟨s5,fa0,ma0,fv0,mv0,fs0,ts0,zE,zF,zG,zH,hw0,rfl⟩;have s15:=s14.trans s5;have zI:=s5 _ _ eka;have hwr:=zh ok hf1 hlz hlt et0 hw0;have hws:=zm ok hlt hsm hw0;have hinv:=hwr.nr.inv ok et0 eu eun epu;have hB0:BkG yX yV yW H5 fv0 mv0 fs0 ts0:=⟨zG,zH,hws.1,(λt ht=>(hws.2 t ht).1),by have:=hwr.len;lia⟩;refine⟨λσ' H'=>au H5 H'/\∃(fa ma:Addr)(fv mv:List V)(fs fs2:List Fc)(ts ts2:List BT)(c5:Option V),H' fa=some (.lst fv)/\H' ma=some (.lst mv)/\BkG yX yV yW H' fv mv fs ts/\SpI un pu fs0 ts0 k0 fs2 ts2/\SpI un pu fs2 ts2 k1 fs ts/\σ'=[some (.ref a),some (.ref r),some (.ref fa),some (.ref ma),some (.ref ka),c5,none,none,none,none,none],?_,?_⟩
 ·refine⟨_,U,(by decide),(by decide),hV (λi σ H'=>au H5 H'/\∃(fa ma:Addr)(fv mv:List V)(fs:List Fc)(ts:List BT)(c5:Option V),H' fa=some (.lst fv)/\H' ma=some (.lst mv)/\BkG yX yV yW H' fv mv fs ts/\(∀t∈ts,Sml t.nm)/\Stg un pu fs0 ts0 k0 k1 i fs ts/\σ=[some (.ref a),some (.ref r),some (.ref fa),some (.ref ma),some (.ref ka),c5,none,none,none,none,none]) ⟨au.refl _,fa0,ma0,fv0,mv0,fs0,ts0,_,zE,zF,hB0,(λt ht=>(hws.2 t ht).2),⟨U,U⟩,U⟩ (λi σ H' hi hh=>?_) (λσ H' hh=>?_)⟩
  ·obtain⟨sm,fa,ma,fv,mv,fs,ts,c5,efa,ema,hB,hnm,hst,rfl⟩:=hh;have hi:i<2:=hi;have sA:=s15.trans sm;obtain⟨kk,ixk,Cv,Cw⟩:=zo (k0:=k0) (k1:=k1) hi;have hlen:=vC hi hst hwr.len;refine⟨_,U,_,U,ka,_,_,_,U,U,SqL.of (sm _ _ zI),ixk,_,U,_,U,_,_,U,U,a,ns,1+(0+(i:Int)),U,sA.seq hS1,(by lia),λc=>?_⟩;refine⟨_,U,_,U,_,U,kk,c,r,fa,ma,zs,ds,pts,fN,t0,u,un,z0,pu,fv,mv,fs,ts,U,hPl.same sA,ok,et0,eu,eun,epu,ez0,hlt z0 (Jy ez0),hsm z0 (Jy ez0),efa,ema,hB,by lia,by lia,by lia,hnm,λx fa' ma' fv' mv' fs' ts' H6 s6 ex e1 e2 hB' hn' hsp=>⟨x,_,U,SqT.of ex,U,_,_,U,_,_,U,U,sm.trans s6,fa',ma',fv',mv',fs',ts',_,e1,e2,hB',hn',?_,U⟩⟩;exact ug hi hst Cv Cw hsp
  ·obtain⟨sm,fa,ma,fv,mv,fs,ts,c5,efa,ema,hB,hnm,hst,rfl⟩:=hh;obtain⟨fs2,ts2,h,h'⟩:=vD hst;exact⟨sm,fa,ma,fv,mv,fs,fs2,ts,ts2,c5,efa,ema,hB,h,h',U⟩
 rintro σ6 H6 ⟨s6,fa,ma,fv,mv,fs,fs2,ts,ts2,c5,efa,ema,hB,Cy,Cz,rfl⟩;have s16:=s15.trans s6;have vH:=s6 _ _ zI;have hfl:fv.length=fs.length:=hB.facts.1;have hml:mv.length=ts.length:=hB.tabs.1;have hvd:=λfew=>zk hwr hinv Cy Cz hk0 hk1 few
 clear hB0 zG zH zE zF hws;refine⟨λσ' H'=>au H6 H'/\∃(du:Addr),H' du=some (.lst [])/\σ'=[some (.ref a),some (.ref r),some (.ref fa),some (.ref ma),some (.ref ka),c5,some (.ref du),none,none,none,none],⟨(by show 0<=sizeLine;decide),λl hl=>⟨af hl _,l,ae,U⟩⟩,?_⟩;rintro σ7 H7 ⟨s7,du0,zJ,rfl⟩;have s17:=s16.trans s7;have s67:=s7;refine⟨λσ' H'=>au H7 H'/\∃(du:Addr),H' du=some (.lst ((eS k0 k1 (akP pts fN) fs.length ts.length).map V.bl))/\σ'=[some (.ref a),some (.ref r),some (.ref fa),some (.ref ma),some (.ref ka),c5,some (.ref du),none,none,none,none],?_,?_⟩
 ·have done:∀(bs:List Bool)(H':Hp),au H7 H'->eS k0 k1 (akP pts fN) fs.length ts.length=bs->∀l,H' l=none->(au H7 (upd H' l (.lst (bs.map V.bl)))/\∃(du:Addr),(upd H' l (.lst (bs.map V.bl))) du=some (.lst ((eS k0 k1 (akP pts fN) fs.length ts.length).map V.bl))/\[some (.ref a),some (.ref r),some (.ref fa),some (.ref ma),some (.ref ka),c5,some (.ref l),none,none,none,none]=[some (.ref a),some (.ref r),some (.ref fa),some (.ref ma),some (.ref ka),c5,some (.ref du),none,none,none,none]):=λbs H' s e l hl=>⟨s.trans (af hl _),l,by rw[ae,e],U⟩
  refine⟨_,U,fa,_,U,.inl (SqL.of (s7 _ _ efa)),_,_,U,U,_,U,bM (λg=>gC ?_) (λg=>⟨_,U,ma,_,U,.inl (SqL.of (s7 _ _ ema)),_,_,U,U,_,U,bM (λg2=>?_) (λg2=>?_)⟩)⟩
  ·exact⟨(by show 6<=sizeLine;decide),λl hl=>done [true,true,true,false,false,false] H7 (au.refl _) (by have:=fF g;unfold eS;rw[if_pos (by lia)]) l hl⟩
  ·exact⟨(by show 6<=sizeLine;decide),λl hl=>done [true,true,true,false,false,false] H7 (au.refl _) (by have:=fF g2;unfold eS;rw[if_pos (by lia)]) l hl⟩
  have gf:=fG g;have gf2:=fG g2;have n1:¬ (20<fs.length\/30<ts.length):=by lia
  refine⟨_,U,ka,U,⟨_,SqL.of (s7 _ _ vH)⟩,bh (xs:=[V.int k0,V.int k1]) (λD i ys H'=>au H7 H'/\H' D=some (.lst ys)/\ys=(([k0,k1].take i).filter bdK).map V.int) (λD hD=>⟨af hD _,ae,U⟩) (λD i ys H' hD _ h=>SqL.of ((s7.trans h.1) _ _ vH)) (λD i y ys H' hD e h=>?_) (λD ys H' hD h=>?_)⟩
  ·obtain⟨sm,eD,rfl⟩:=h;obtain⟨kk,rfl,ekk⟩:=zl e;have hi:i<[V.int k0,V.int k1].length:=(Jx.mp e).1;have hsn:=iq (p:=bdK) ekk;have hle:(([k0,k1].take i).filter bdK).length<=2:=le_trans (length_filter_le ..) (by rw[length_take];show min i 2<=2;lia);have yes:bdK kk=true->cn (λD i ys H'=>au H7 H'/\H' D=some (.lst ys)/\ys=(([k0,k1].take i).filter bdK).map V.int) D i [V.int k0,V.int k1].length (.int kk) H':=λhb=>by
    refine cn.mk hi eD (aw (by rw[length_map];lia)) ⟨sm.upd hD,ae,?_⟩;rw[hsn,if_pos hb,map_append];rfl
   have no:¬ bdK kk=true->fe (λD i ys H'=>au H7 H'/\H' D=some (.lst ys)/\ys=(([k0,k1].take i).filter bdK).map V.int) D i [V.int k0,V.int k1].length H':=λhb=>fe.mk hi ⟨sm,eD,by rw[hsn,if_neg hb,append_nil]⟩
   have ebd:bdK kk=true↔((1<=kk/\kk<=4)\/kk=11):=by unfold bdK;rw[or_eq_true,and_eq_true,decide_eq_true_iff,decide_eq_true_iff,decide_eq_true_iff]
   have wc:(¬ (1<=kk/\kk<=4))->sI (tOp rEq (se 0) (tC (.int 11))) (eK [some (.ref a),some (.ref r),some (.ref fa),some (.ref ma),some (.ref ka),c5,some (.ref du0),none,none,none,none] [] (some (.int kk))) H' (λb H2=>if b=true then se 0 (eK [some (.ref a),some (.ref r),some (.ref fa),some (.ref ma),some (.ref ka),c5,some (.ref du0),none,none,none,none] [] (some (.int kk))) H2 (cn (λD i ys H'=>au H7 H'/\H' D=some (.lst ys)/\ys=(([k0,k1].take i).filter bdK).map V.int) D i [V.int k0,V.int k1].length)else fe (λD i ys H'=>au H7 H'/\H' D=some (.lst ys)/\ys=(([k0,k1].take i).filter bdK).map V.int) D i [V.int k0,V.int k1].length H2):=λhn=>by
    refine⟨_,U,U,_,U,bM (λg=>?_) (λg=>?_)⟩
    ·have:=fF g;rw[V.int.injEq]at this;exact⟨_,U,yes (ebd.mpr (.inr this))⟩
    ·have:=fG g;rw[V.int.injEq]at this;exact no λz=>(ebd.mp z).elim hn this
   refine⟨_,U,_,_,U,U,_,U,bM (λg=>⟨_,U,_,_,U,U,_,U,bM (λg2=>gC ⟨_,U,yes (ebd.mpr (.inl ⟨fF g,fF g2⟩))⟩) (λg2=>wc λz=>fG g2 z.2)⟩) (λg=>dF (wc λz=>fG g z.1))⟩
  ·obtain⟨sm,eD,rfl⟩:=h;rw[show([V.int k0,V.int k1].length)=[k0,k1].length from U,take_length]at eD;have hbd:=vB (k0:=k0) hk1.2;have ek7:=SqL.of (K:=K) (sm _ _ (s7 _ _ vH));refine⟨D,_,U,.inl (SqL.of eD),_,_,U,U,_,U,bM (λgb=>?_) (λgb=>?_)⟩
   ·have gb':[k0,k1].filter bdK≠[]:=λz=>by rw[z]at gb;cases gb
    exact⟨(by show 6<=sizeLine;decide),λl hl=>done [true,true,false,true,false,false] H' sm (by unfold eS;rw[if_neg n1,if_pos (hbd.mp gb')]) l hl⟩
   have nb:¬ ((1<=k0/\k0<=4)\/k0=11\/(1<=k1/\k1<=4)):=λz=>by
    have h:=hbd.mpr z;have:=fG gb;rw[length_map]at this;exact h (length_eq_zero_iff.mp (by lia))
   have un:∀H2,au H7 H2->(k0=5\/k1=5\/k0=13\/(k0=8/\akP pts fN≠[]))->∀l,H2 l=none->_:=λH2 s h=>done [true,true,false,false,true,false] H2 s (by unfold eS;rw[if_neg n1,if_neg nb,if_pos h])
   have rn:∀H2,au H7 H2->¬ (k0=5\/k1=5\/k0=13\/(k0=8/\akP pts fN≠[]))->k0=12->∀l,H2 l=none->_:=λH2 s h h12=>done [true,true,false,false,false,true] H2 s (by unfold eS;rw[if_neg n1,if_neg nb,if_neg h,if_pos h12])
   have no:¬ (k0=5\/k1=5\/k0=13\/(k0=8/\akP pts fN≠[]))->¬ k0=12->eS k0 k1 (akP pts fN) fs.length ts.length=[]:=λh h12=>by unfold eS;rw[if_neg n1,if_neg nb,if_neg h,if_neg h12]
   refine⟨_,U,ka,_,U,.inl ek7,U,U,_,U,bM (λg5=>gC ⟨(by show 6<=sizeLine;decide),un H' sm (by have:=fk.mp g5;lia)⟩) (λg5=>⟨_,U,ka,_,U,.inl ek7,U,U,_,U,bM (λg6=>gC ⟨(by show 6<=sizeLine;decide),un H' sm (by have:=fk.mp g6;lia)⟩) (λg6=>⟨_,U,ka,_,U,.inl ek7,U,U,_,U,bM (λg8=>?_) (λg8=>dF ?_)⟩)⟩)⟩
   ·refine⟨_,U,r,zs,ds,pts,fN,U,hPl.same (s16.trans (s7.trans sm)),ok,λl H8 s8 el=>⟨l,_,U,.inl (SqL.of el),_,_,U,U,_,U,bM (λga=>?_) (λga=>?_)⟩⟩
    ·have:=fk.mp g8;exact⟨(by show 6<=sizeLine;decide),un H8 (sm.trans s8) (.inr (.inr (.inr ⟨by lia,λz=>by rw[z]at ga;cases ga⟩)))⟩
    ·have h5:¬ (k0=5\/k1=5\/k0=13\/(k0=8/\akP pts fN≠[])):=λz=>by
      rcases z with z|z|z|z
      ·exact g5 (fk.mpr (.inl z))
      ·exact g5 (fk.mpr (.inr z))
      ·exact g6 (fk.mpr (.inl z))
      ·have:=fG ga;rw[fC]at this;exact z.2 (length_eq_zero_iff.mp (by lia))
     refine⟨_,U,ka,_,U,.inl (SqL.of (s8 _ _ (sm _ _ (s7 _ _ vH)))),U,U,_,U,bM (λg12=>?_) (λg12=>?_)⟩
     ·have:=fk.mp g12;exact⟨(by show 6<=sizeLine;decide),rn H8 (sm.trans s8) h5 (by lia)⟩
     ·exact⟨sm.trans s8,du0,by rw[no h5 (λz=>g12 (fk.mpr (.inl z)))];exact(sm.trans s8) _ _ zJ,U⟩
   ·have h5:¬ (k0=5\/k1=5\/k0=13\/(k0=8/\akP pts fN≠[])):=λz=>by
     rcases z with z|z|z|z
     ·exact g5 (fk.mpr (.inl z))
     ·exact g5 (fk.mpr (.inr z))
     ·exact g6 (fk.mpr (.inl z))
     ·exact g8 (fk.mpr (.inl z.1))
    refine⟨_,U,ka,_,U,.inl ek7,U,U,_,U,bM (λg12=>?_) (λg12=>?_)⟩
    ·have:=fk.mp g12;exact⟨(by show 6<=sizeLine;decide),rn H' sm h5 (by lia)⟩
    ·exact⟨sm,du0,by rw[no h5 (λz=>g12 (fk.mpr (.inl z)))];exact sm _ _ zJ,U⟩
 rintro σ8 H8 ⟨s8,du,edu,rfl⟩;have s18:=s17.trans s8;have s68:=s67.trans s8;refine⟨λσ' H'=>au H8 H'/\∃fo:Addr,H' fo=some (.lst [])/\σ'=[some (.ref a),some (.ref r),some (.ref fa),some (.ref ma),some (.ref ka),c5,some (.ref du),some (.ref fo),none,none,none],⟨(by show 0<=sizeLine;decide),λl hl=>⟨af hl _,l,ae,U⟩⟩,?_⟩;rintro σ9 H9 ⟨s9,fo,efo,rfl⟩;refine⟨λσ' H'=>au H9 H'/\σ'=[some (.ref a),some (.ref r),some (.ref fa),some (.ref ma),some (.ref ka),c5,some (.ref du),some (.ref fo),some .non,none,none],⟨au.refl _,U⟩,?_⟩;rintro σa Ha ⟨sa,rfl⟩;have s6a:=s68.trans (s9.trans sa);have hBa:=hB.same s6a;refine⟨λσ' H'=>au Ha H'/\∃ha h0 h1:Addr,H' ha=some (.lst [.ref h0,.ref h1])/\H' h0=some (.lst fv)/\H' h1=some (.lst mv)/\Ha h0=none/\Ha h1=none/\h0≠h1/\ha≠h0/\ha≠h1/\σ'=[some (.ref a),some (.ref r),some (.ref fa),some (.ref ma),some (.ref ka),c5,some (.ref du),some (.ref fo),some .non,some (.ref ha),none],?_,?_⟩
 ·refine⟨_,U,fa,_,U,.inl (SqL.of (s6a _ _ efa)),λh0 hh0=>?_⟩;have t1:=af hh0 (.lst fv);have e1:upd Ha h0 (.lst fv) h0=some (.lst fv):=ae;generalize upd Ha h0 (.lst fv)=Hb at t1 e1⊢;refine⟨_,U,ma,_,U,.inl (SqL.of (t1 _ _ (s6a _ _ ema))),λh1 hh1=>?_⟩;have t2:=af hh1 (.lst mv);have e2:upd Hb h1 (.lst mv) h1=some (.lst mv):=ae;have e1':=t2 _ _ e1;have hne:h0≠h1:=λz=>by rw[z]at e1;rw[e1]at hh1;cases hh1
  have CA:Ha h1=none:=t1.free hh1;generalize upd Hb h1 (.lst mv)=Hc at t2 e2 e1'⊢;exact⟨(by show 2<=sizeLine;decide),λha hha=>⟨(t1.trans t2).trans (af hha _),ha,h0,h1,ae,af hha _ _ _ e1',af hha _ _ _ e2,hh0,CA,hne,(aV e1' hha).symm,(aV e2 hha).symm,U⟩⟩
 rintro σb Hb ⟨tb,ha,h0,h1,eha,eh0,eh1,nh0,nh1,h01,na0,na1,rfl⟩;have s6b:=s6a.trans tb;have hBb:=hBa.same tb;have CB:=tb _ _ (sa _ _ (s9 _ _ edu));have CC:=tb _ _ (sa _ _ efo);refine⟨λσ' H'=>au Hb H'/\∃(fo:Addr)(bv:V),H' fo=some (.lst ((eS k0 k1 (akP pts fN) fs.length ts.length).map V.bl))/\σ'=[some (.ref a),some (.ref r),some (.ref fa),some (.ref ma),some (.ref ka),c5,some (.ref du),some (.ref fo),some bv,some (.ref ha),none]/\(bv=.non\/(∃(x dx ta fc:Addr)(fl:List (Str×V))(fw:List V),bv=.ref x/\H' x=some (.ins ai dx fl)/\fl.lookup (Str.ofString "tables")=some (.ref ta)/\fl.lookup (Str.ofString "facts")=some (.ref fc)/\Hb ta=none/\Hb fc=none/\H' ta=some (.lst mv)/\H' fc=some (.lst fw)/\ar fw fs (λp f=>∃d:V,H' p=some (.tup [.str f.1,d])))),?_,?_⟩
 ·refine⟨_,U,ha,_,_,_,U,U,SqL.of eha,U,_,U,ha,_,_,_,U,U,SqL.of eha,U,λx dx hx hdx hne=>?_⟩;have t10:au Hb (upd (upd Hb dx (.own x)) x (.ins ai dx [])):=(af hdx _).upd hx;refine⟨x,dx,h0,h1,fv,mv,fs,ts,U,ae,t10 _ _ eh0,t10 _ _ eh1,hBb.same t10,?_⟩;by_cases few:fs.length<=20/\ts.length<=30
  rotate_left
  ·have hdu:eS k0 k1 (akP pts fN) fs.length ts.length=[true,true,true,false,false,false]:=by unfold eS;rw[if_pos (by lia)]
   refine .inl ⟨few,λH' s'=>?_⟩;refine⟨_,U,bl.e_TooMany,bl.l_TooMany,λe=>?_⟩;refine⟨λσ' H2=>au Hb H2/\∃fo:Addr,H2 fo=some (.lst ([true,true,true,false].map V.bl))/\σ'=[some (.ref a),some (.ref r),some (.ref fa),some (.ref ma),some (.ref ka),c5,some (.ref du),some (.ref fo),some .non,some (.ref ha),some (.ref e)],⟨_,U,_,true,U,.inr (.inl ⟨_,U,bl.v_TooMany⟩),_,U,_,true,U,.inl ⟨_,U,bl.g_TooMany_TooMany⟩,_,U,_,false,U,.inl ⟨_,U,bl.g_TooMany_BadName⟩,(by show 4<=sizeLine;decide),λp hp=>⟨(t10.trans s').trans (af hp _),p,ae,U⟩⟩,?_⟩;rintro σx Hx ⟨sx,fx,efx,rfl⟩;refine⟨_,U,_,U,_,false,U,.inl ⟨_,U,bl.g_TooMany_Unlike⟩,_,U,_,false,U,.inl ⟨_,U,bl.g_TooMany_Ring⟩,(by show 2<=sizeLine;decide),λp hp=>?_⟩;refine⟨fx,p,_,_,U,U,(af hp _) _ _ efx,ae,(by show 6<=sizeLine;decide),λq hq=>?_⟩;exact⟨(sx.trans (af hp _)).trans (af hq _),q,.non,by rw[ae,hdu];rfl,U,.inl U⟩
  have n1:¬ (20<fs.length\/30<ts.length):=by lia
  obtain⟨v1,v2⟩:=hvd few;by_cases hb:(1<=k0/\k0<=4)\/k0=11\/(1<=k1/\k1<=4)
  ·have hdu:eS k0 k1 (akP pts fN) fs.length ts.length=[true,true,false,true,false,false]:=by unfold eS;rw[if_neg n1,if_pos hb]
   refine .inr ⟨few,.inl ⟨v1 hb,λH' s'=>?_⟩⟩;refine⟨_,U,bl.e_BadName,bl.l_BadName,λe=>?_⟩;refine⟨λσ' H2=>au Hb H2/\∃fo:Addr,H2 fo=some (.lst ([true,true,false,true].map V.bl))/\σ'=[some (.ref a),some (.ref r),some (.ref fa),some (.ref ma),some (.ref ka),c5,some (.ref du),some (.ref fo),some .non,some (.ref ha),some (.ref e)],⟨_,U,_,true,U,.inr (.inl ⟨_,U,bl.v_BadName⟩),_,U,_,false,U,.inl ⟨_,U,bl.g_BadName_TooMany⟩,_,U,_,true,U,.inl ⟨_,U,bl.g_BadName_BadName⟩,(by show 4<=sizeLine;decide),λp hp=>⟨(t10.trans s').trans (af hp _),p,ae,U⟩⟩,?_⟩;rintro σx Hx ⟨sx,fx,efx,rfl⟩;refine⟨_,U,_,U,_,false,U,.inl ⟨_,U,bl.g_BadName_Unlike⟩,_,U,_,false,U,.inl ⟨_,U,bl.g_BadName_Ring⟩,(by show 2<=sizeLine;decide),λp hp=>?_⟩;refine⟨fx,p,_,_,U,U,(af hp _) _ _ efx,ae,(by show 6<=sizeLine;decide),λq hq=>?_⟩;exact⟨(sx.trans (af hp _)).trans (af hq _),q,.non,by rw[ae,hdu];rfl,U,.inl U⟩
  obtain⟨hN,v3,v4⟩:=v2 hb;by_cases hu:k0=5\/k1=5\/k0=13\/(k0=8/\akP pts fN≠[])
  ·have hdu:eS k0 k1 (akP pts fN) fs.length ts.length=[true,true,false,false,true,false]:=by unfold eS;rw[if_neg n1,if_neg hb,if_pos hu]
   refine .inr ⟨few,.inr ⟨hN,.inl ⟨v3 hu,λH' s'=>?_⟩⟩⟩;refine⟨_,U,bl.e_Unlike,bl.l_Unlike,λe=>?_⟩;refine⟨λσ' H2=>au Hb H2/\∃fo:Addr,H2 fo=some (.lst ([true,true,false,false].map V.bl))/\σ'=[some (.ref a),some (.ref r),some (.ref fa),some (.ref ma),some (.ref ka),c5,some (.ref du),some (.ref fo),some .non,some (.ref ha),some (.ref e)],⟨_,U,_,true,U,.inr (.inl ⟨_,U,bl.v_Unlike⟩),_,U,_,false,U,.inl ⟨_,U,bl.g_Unlike_TooMany⟩,_,U,_,false,U,.inl ⟨_,U,bl.g_Unlike_BadName⟩,(by show 4<=sizeLine;decide),λp hp=>⟨(t10.trans s').trans (af hp _),p,ae,U⟩⟩,?_⟩;rintro σx Hx ⟨sx,fx,efx,rfl⟩;refine⟨_,U,_,U,_,true,U,.inl ⟨_,U,bl.g_Unlike_Unlike⟩,_,U,_,false,U,.inl ⟨_,U,bl.g_Unlike_Ring⟩,(by show 2<=sizeLine;decide),λp hp=>?_⟩;refine⟨fx,p,_,_,U,U,(af hp _) _ _ efx,ae,(by show 6<=sizeLine;decide),λq hq=>?_⟩;exact⟨(sx.trans (af hp _)).trans (af hq _),q,.non,by rw[ae,hdu];rfl,U,.inl U⟩
  obtain⟨hD,v5,v6⟩:=v4 hu;by_cases hr12:k0=12
  ·have hdu:eS k0 k1 (akP pts fN) fs.length ts.length=[true,true,false,false,false,true]:=by unfold eS;rw[if_neg n1,if_neg hb,if_neg hu,if_pos hr12]
   refine .inr ⟨few,.inr ⟨hN,.inr ⟨hD,.inl ⟨v5 hr12,λH' s'=>?_⟩⟩⟩⟩;refine⟨_,U,bl.e_Ring,bl.l_Ring,λe=>?_⟩;refine⟨λσ' H2=>au Hb H2/\∃fo:Addr,H2 fo=some (.lst ([true,true,false,false].map V.bl))/\σ'=[some (.ref a),some (.ref r),some (.ref fa),some (.ref ma),some (.ref ka),c5,some (.ref du),some (.ref fo),some .non,some (.ref ha),some (.ref e)],⟨_,U,_,true,U,.inr (.inl ⟨_,U,bl.v_Ring⟩),_,U,_,false,U,.inl ⟨_,U,bl.g_Ring_TooMany⟩,_,U,_,false,U,.inl ⟨_,U,bl.g_Ring_BadName⟩,(by show 4<=sizeLine;decide),λp hp=>⟨(t10.trans s').trans (af hp _),p,ae,U⟩⟩,?_⟩;rintro σx Hx ⟨sx,fx,efx,rfl⟩;refine⟨_,U,_,U,_,false,U,.inl ⟨_,U,bl.g_Ring_Unlike⟩,_,U,_,true,U,.inl ⟨_,U,bl.g_Ring_Ring⟩,(by show 2<=sizeLine;decide),λp hp=>?_⟩;refine⟨fx,p,_,_,U,U,(af hp _) _ _ efx,ae,(by show 6<=sizeLine;decide),λq hq=>?_⟩;exact⟨(sx.trans (af hp _)).trans (af hq _),q,.non,by rw[ae,hdu];rfl,U,.inl U⟩
  have hdu:eS k0 k1 (akP pts fN) fs.length ts.length=[]:=by unfold eS;rw[if_neg n1,if_neg hb,if_neg hu,if_neg hr12]
  refine .inr ⟨few,.inr ⟨hN,.inr ⟨hD,.inr ⟨v6 hr12,λH' fl ta fc fw j1 j2 j3 j4 j5 j6 j7 j8 j9=>?_⟩⟩⟩⟩;have s3:au Hb H':=λb u e=>j1 b u (aV e hx) (t10 _ _ e)
  exact⟨U,s3,fo,_,by rw[hdu];exact s3 _ _ CC,U,.inr ⟨x,dx,ta,fc,fl,fw,U,j2,j3,j4,t10.free j5,t10.free j6,j7,j8,j9⟩⟩
 rintro σc Hc ⟨tc,fo,bv,efo,rfl,hbv⟩;have edc:=tc _ _ CB;generalize eS k0 k1 (akP pts fN) fs.length ts.length=bs at efo edc;have hfb:∀x∈bs.map V.bl,dg x=true:=λx hx=>by obtain⟨b,_,rfl⟩:=mem_map.mp hx;rfl
 rcases hbv with rfl|⟨x,dx,ta,fc,fl,fw,rfl,ex,l1,l2,nta,nfc,eta,efc,hfw⟩
 ·exact⟨λ_ _=>False,⟨_,U,_,U,lL (SqL.of efo) (SqL.of edc) hfb ⟨_,U,dF ⟨_,U,U,_,U,kx U ⟨_,U,_,U,tT (SqL.of efo) (SqL.of edc) (r:=true) ⟨λ_=>U,λ_=>U⟩ (q _)⟩⟩⟩⟩,λ_ _ h=>h.elim⟩
 refine⟨λσ' H'=>H'=Hc/\σ'=[some (.ref a),some (.ref r),some (.ref fa),some (.ref ma),some (.ref ka),c5,some (.ref du),some (.ref fo),some (.ref x),some (.ref ha),none],⟨_,U,_,U,lL (SqL.of efo) (SqL.of edc) hfb ⟨_,U,dF ⟨_,U,U,_,U,jr (by intro z;cases z) ⟨U,U⟩⟩⟩⟩,?_⟩;rintro σd Hd ⟨ed,rfl⟩;rw[ed];clear ed Hd;have vI:=tc _ _ eha;have rW:=tc _ _ eh0;have um:=tc _ _ eh1;have s6c:=s6b.trans tc;have zK:=s6c _ _ efa;have zL:=s6c _ _ ema;have hBc:=hBb.same tc;have CD:fw.length=fs.length:=hfw.1;obtain⟨bf1,bf2⟩:=hBc.few;refine⟨λσ' H'=>H'=Hc/\σ'=[some (.ref a),some (.ref r),some (.ref fa),some (.ref ma),some (.ref ka),c5,some (.ref du),some (.ref fo),some (.ref x),some (.ref ha),none],⟨_,U,ha,_,_,_,U,U,SqL.of vI,U,h0,_,U,.inl (SqL.of rW),_,U,fa,_,U,.inl (SqL.of zK),U,_,U,sZ U ⟨_,U,ha,_,_,_,U,U,SqL.of vI,U,h1,_,U,.inl (SqL.of um),_,U,ma,_,U,.inl (SqL.of zL),U,_,U,sZ U ⟨U,U⟩⟩⟩,?_⟩;rintro σd Hd ⟨ed,rfl⟩;rw[ed];clear ed Hd;have nf0:fa≠h0:=aV (s6a _ _ efa) nh0;have nf1:fa≠h1:=aV (s6a _ _ efa) nh1;have nm0:ma≠h0:=aV (s6a _ _ ema) nh0;have nm1:ma≠h1:=aV (s6a _ _ ema) nh1;have nc0:fc≠h0:=λz=>by rw[z,eh0]at nfc;cases nfc
 have nc1:fc≠h1:=λz=>by rw[z,eh1]at nfc;cases nfc
 have nt0:ta≠h0:=λz=>by rw[z,eh0]at nta;cases nta
 have nt1:ta≠h1:=λz=>by rw[z,eh1]at nta;cases nta
 refine⟨λσ' H'=>(∀b o,b≠h0->b≠h1->Hc b=some o->H' b=some o)/\H' h1=some (.lst mv)/\σ'=[some (.ref a),some (.ref r),some (.ref fa),some (.ref ma),some (.ref ka),c5,some (.ref du),some (.ref fo),some (.ref x),some (.ref ha),none],⟨_,U,ha,_,_,_,U,U,SqL.of vI,U,.inl ⟨U,_,SqL.of rW⟩,h0,_,U,U,rW,(λb o n0 n1 e=>(aD n0).trans e),(aD (Ne.symm h01)).trans um,U⟩,?_⟩;rintro σd Hd ⟨kd,zM,rfl⟩;refine⟨λσ' H'=>(∀b o,b≠h0->b≠h1->Hc b=some o->H' b=some o)/\σ'=[some (.ref a),some (.ref r),some (.ref fa),some (.ref ma),some (.ref ka),c5,some (.ref du),some (.ref fo),some (.ref x),some (.ref ha),none],⟨_,U,ha,_,_,_,U,U,SqL.of (kd _ _ na0 na1 vI),U,.inl ⟨U,_,SqL.of zM⟩,h1,_,U,U,zM,(λb o n0 n1 e=>(aD n1).trans (kd _ _ n0 n1 e)),U⟩,?_⟩;rintro σe He ⟨ke,rfl⟩;have zN:=ke _ _ nf0 nf1 zK;have zO:=ke _ _ nm0 nm1 zL;have zP:=ke _ _ nc0 nc1 efc;have zQ:=ke _ _ nt0 nt1 eta;have exe:=ke _ _ (bK ex rW (by intro z;cases z)) (bK ex um (by intro z;cases z)) ex;have ktu:∀(b:Addr)(xs:List V),Hc b=some (.tup xs)->He b=some (.tup xs):=λb xs e=>ke _ _ (bK e rW (by intro z;cases z)) (bK e um (by intro z;cases z)) e
 have kin:∀(b C d:Addr)(l:List (Str×V)),Hc b=some (.ins C d l)->He b=some (.ins C d l):=λb C d l e=>ke _ _ (bK e rW (by intro z;cases z)) (bK e um (by intro z;cases z)) e
 have CF:ar fw fs (λp f=>∃d:V,He p=some (.tup [.str f.1,d])):=ar.mono hfw λ_ _ ⟨d,h⟩=>⟨d,ktu _ _ h⟩
 have CG:ar fv fs (λp f=>∃d:V,He p=some (.tup [.str f.1,d])):=ar.mono hBc.facts λ_ _ ⟨d,h,_⟩=>⟨.ref d,ktu _ _ h⟩
 have zR:ar mv ts (λp t=>∃(C dx:Addr)(l:List (Str×V)),C=yX/\He p=some (.ins C dx l)/\l.lookup (Str.ofString "name")=some (.str t.nm)):=ar.mono hBc.tabs λp t h=>by
  obtain⟨ou,dv,g4,_,_⟩:=h;obtain⟨rl,dx,na,dl,fs_,xs,ht,f1,f2,_⟩:=g4;exact⟨_,dx,fs_,U,kin _ _ _ _ ht,f2⟩
 refine⟨λσ' H'=>au He H'/\σ'=[some (.ref a),some (.ref r),some (.ref fa),some (.ref ma),some (.ref ka),c5,some (.ref du),some (.ref fo),some (.ref x),some (.ref ha),none],?_,?_⟩
 ·refine⟨_,U,x,_,_,_,_,U,exe,bl.k_Book,bl.na_Book_facts,l2,fc,U,⟨_,SqL.of zP⟩,bh (xs:=fw) (λD i ys H'=>au He H'/\H' D=some (.lst ys)/\ys=((fs.take i).map (·.1)).map V.str) (λD hD=>⟨af hD _,ae,U⟩) (λD i ys H' hD _ h=>SqL.of (h.1 _ _ zP)) (λD i y ys H' hD e h=>?_) (λD ys H' hD h=>?_)⟩
  ·obtain⟨sm,eD,rfl⟩:=h;obtain⟨p,f,rfl,ef,d,ep⟩:=ar.get CF e;have hi:=(Jx.mp e).1;exact⟨_,U,p,_,_,_,U,U,SqT.of (sm _ _ ep),U,cn.mk hi eD (aw (by rw[length_map,length_map,length_take];lia)) ⟨sm.upd hD,ae,by rw[take_snoc ef,map_append,map_append];rfl⟩⟩
  obtain⟨sm,eD,rfl⟩:=h;rw[CD,take_length]at eD;refine⟨_,U,fa,U,⟨_,SqL.of (sm _ _ zN)⟩,bh (xs:=fv) (λD i ys H2=>au H' H2/\H2 D=some (.lst ys)/\ys=((fs.take i).map (·.1)).map V.str) (λD hD=>⟨af hD _,ae,U⟩) (λD i ys H2 hD _ h=>SqL.of (h.1 _ _ (sm _ _ zN))) (λD2 i y ys H2 hD2 e h=>?_) (λD2 ys H2 hD2 h=>?_)⟩
  ·obtain⟨sm2,eD2,rfl⟩:=h;obtain⟨p,f,rfl,ef,d,ep⟩:=ar.get CG e;have hi:=(Jx.mp e).1;exact⟨_,U,p,_,_,_,U,U,SqT.of (sm2 _ _ (sm _ _ ep)),U,cn.mk hi eD2 (aw (by rw[length_map,length_map,length_take];lia)) ⟨sm2.upd hD2,ae,by rw[take_snoc ef,map_append,map_append];rfl⟩⟩
  obtain⟨sm2,eD2,rfl⟩:=h;rw[hfl,take_length]at eD2;exact lL (SqL.of (sm2 _ _ eD)) (SqL.of eD2) (nQ _) ⟨_,U,dF ⟨sm.trans sm2,U⟩⟩
 rintro σf Hf ⟨sf,rfl⟩;refine⟨_,U,x,_,_,_,_,U,sf _ _ exe,bl.k_Book,bl.na_Book_tables,l1,ta,U,⟨_,SqL.of (sf _ _ zQ)⟩,bh (xs:=mv) (λD i ys H'=>au Hf H'/\H' D=some (.lst ys)/\ys=((ts.take i).map BT.nm).map V.str) (λD hD=>⟨af hD _,ae,U⟩) (λD i ys H' hD _ h=>SqL.of (h.1 _ _ (sf _ _ zQ))) (λD i y ys H' hD e h=>?_) (λD ys H' hD h=>?_)⟩
 ·obtain⟨sm,eD,rfl⟩:=h;obtain⟨p,t,rfl,et,C,dx',l,rfl,ep,hl⟩:=ar.get zR e;have hi:=(Jx.mp e).1;exact⟨_,U,p,_,_,_,_,U,sm _ _ (sf _ _ ep),bl.k_Table,bl.na_Table_name,hl,cn.mk hi eD (aw (by rw[length_map,length_map,length_take];lia)) ⟨sm.upd hD,ae,by rw[take_snoc et,map_append,map_append];rfl⟩⟩
 obtain⟨sm,eD,rfl⟩:=h;rw[hml,take_length]at eD;refine⟨_,U,ma,U,⟨_,SqL.of (sm _ _ (sf _ _ zO))⟩,bh (xs:=mv) (λD i ys H2=>au H' H2/\H2 D=some (.lst ys)/\ys=((ts.take i).map BT.nm).map V.str) (λD hD=>⟨af hD _,ae,U⟩) (λD i ys H2 hD _ h=>SqL.of (h.1 _ _ (sm _ _ (sf _ _ zO)))) (λD2 i y ys H2 hD2 e h=>?_) (λD2 ys H2 hD2 h=>?_)⟩
 ·obtain⟨sm2,eD2,rfl⟩:=h;obtain⟨p,t,rfl,et,C,dx',l,rfl,ep,hl⟩:=ar.get zR e;have hi:=(Jx.mp e).1;exact⟨_,U,p,_,_,_,_,U,sm2 _ _ (sm _ _ (sf _ _ ep)),bl.k_Table,bl.na_Table_name,hl,cn.mk hi eD2 (aw (by rw[length_map,length_map,length_take];lia)) ⟨sm2.upd hD2,ae,by rw[take_snoc et,map_append,map_append];rfl⟩⟩
 obtain⟨sm2,eD2,rfl⟩:=h;rw[hml,take_length]at eD2;exact nc (SqL.of (sm2 _ _ eD)) (SqL.of eD2) (r:=true) ⟨λ_=>U,λ_=>U⟩ (q _)
end
theorem ls1{P:List Value->Prop}(h:∀a,P [a]):∀us:List Value,us.length=1->P us
 | [_],_=>h _
theorem ls2{P:List Value->Prop}(h:∀a b,P [a,b]):∀us:List Value,us.length=2->P us
 | [_,_],_=>h _ _
theorem ls3{P:List Value->Prop}(h:∀a b c,P [a,b,c]):∀us:List Value,us.length=3->P us
 | [_,_,_],_=>h _ _ _
theorem ls4{P:List Value->Prop}(h:∀a b c d,P [a,b,c,d]):∀us:List Value,us.length=4->P us
 | [_,_,_,_],_=>h _ _ _ _
theorem ls5{P:List Value->Prop}(h:∀a b c d e,P [a,b,c,d,e]):∀us:List Value,us.length=5->P us
 | [_,_,_,_,_],_=>h _ _ _ _ _
theorem ls7{P:List Value->Prop}(h:∀a b c d e f g,P [a,b,c,d,e,f,g]):∀us:List Value,us.length=7->P us
 | [_,_,_,_,_,_,_],_=>h _ _ _ _ _ _ _
theorem all_mk{l:W.OpenLaw}{w:World}{K:W.Frag}{h:Heap}{mg:Str->Option Value}{fa f0 f1 f2 f3 f4 f5 f6 f7 f8 f9 f10 f11 f12 f13 f14 f15 f16 f17 f18 f19 f20 f21 f22 f23 f24 f25 f26 f27 f28 f29 f30 f31 f32 f33 f34 f35 f36 f37 f38 f39 f40 f41 f42 f43 f44 f45 f46 f47 f48 f49:Addr}(X:K.In h)(G:h.Ns mainGlobals mg)(hfa:mg "law" = some (.ref fa))
  {od0 an0 od1 an1 od2 an2 od3 an3 od4 an4 od5 an5 od6 an6 od7 an7 od8 an8 od9 an9 CH CI CJ CK CM CN CO CP CQ CS CT CU CV CW CY CZ C0 C3 C4 C5 C6 C7 C8 C9 Dc Dd De Df Dg Dh Di Dj Dl Dm Dn Dp Dq Dr Ds Dt Du Dv Dw Dx Dy Dz DA DB DC DD DE DF DG DH DI DJ DK DL DM DN DO DP DQ DR DS DT DU DV DW DX DY DZ D1 D3 D4 D5 D6 D7 D8 zS:Option Addr}{sl0 sl1 sl2 sl3 sl4 sl5 sl6 sl7 sl8 sl9 D9 Ea Eb Ec Ed Ee Ef Eg Eh Ei Ej Ek El Em En Eo Ep Er Es Et Eu Ew Ex Ey Ez EA EB EC ED EE EF EG EH EI EJ EK EL EM EN EO:Array (Option Value)}{oc0 kV0 dc0 pm0 cd0 ct0 oc1 kV1 dc1 pm1 cd1 ct1 oc2 kV2 dc2 pm2 cd2 ct2 oc3 kV3 dc3 pm3 cd3 ct3 oc4 kV4 dc4 pm4 cd4 ct4 oc5 kV5 dc5 pm5 cd5 ct5 oc6 kV6 dc6 pm6 cd6 ct6 oc7 kV7 dc7 pm7 cd7 ct7 oc8 kV8 dc8 pm8 cd8 ct8 oc9 kV9 dc9 pm9 cd9 ct9 ER ES ET EU zT EV EW EY EZ E1 zU E3 E4 E5 E6 E7 zV E8 E9 Fb Fd Fe zW Ff Fg Fh Fi Fj zX Fl Fm Fn Fo Fp zY Fq Fs Ft Fu Fv zZ Fw Fx Fy Fz FA Aa FC FD FE FF FG Ab FH FI FJ FK FL Ac FN FO FP FQ FR Ad FT FU FV FW FX Ae FY FZ Ga Gb Gd Af Ge Gf Gg Gh Gi Ag Gj Gk Gm Gn Gp Ah Gq Gr Gs Gu Gv Ai Gw Gx Gy Gz GA Aj GB GC GD GF GG Ak GH GI GJ GK GL Al GN GO GP GQ GR Am GS GU GV GW GX An GY GZ G0 G5 G6 Ao G7 G8 G9 Hg Hh Ap Hi Hj Hk Hl Hm Aq Hn Ho Hq Hr Hs Ar Ht Hu Hv Hw Hy As Hz HE HF HG HH Au HI HJ HK HL HM Av HN HP HQ HR HS Aw HU HV HW HX HY Ax HZ Ia Ib Ic Ie Ay Ig Ih Ii Ij Ik Az Il Im Io Ip Iq AA Ir Iu Iv Iw Iy AB Iz IA IB IC ID AD IE IF IG IH II AE IJ IK IL IM IP AF IQ IS IT IU IV AG IW IX IY IZ I0 AH Ja Jb AI AJ AK xu AL:Value}
  {yA yI yH yG ah yN yO yP yQ yR yS yT yU yV yW yX ai:Addr}
  (dk:W.nsIn K mainGlobals "TableError" = some (some (.ref yA)))
  (fI:W.nsIn K mainGlobals "TooMany" = some (some (.ref yI)))
  (fJ:W.nsIn K mainGlobals "BadName" = some (some (.ref yH)))
  (gN:W.nsIn K mainGlobals "Unlike" = some (some (.ref yG)))
  (lI:W.nsIn K mainGlobals "Ring" = some (some (.ref ah)))
  (gO:W.nsIn K mainGlobals "Way" = some (some (.ref yN)))
  (ib:W.nsIn K mainGlobals "First" = some (some (.ref yO)))
  (jU:W.nsIn K mainGlobals "Only" = some (some (.ref yP)))
  (jV:W.nsIn K mainGlobals "Like" = some (some (.ref yQ)))
  (mX:W.nsIn K mainGlobals "Low" = some (some (.ref yR)))
  (jW:W.nsIn K mainGlobals "High" = some (some (.ref yS)))
  (mY:W.nsIn K mainGlobals "Sum" = some (some (.ref yT)))
  (eM:W.nsIn K mainGlobals "Domain" = some (some (.ref yU)))
  (eJ:W.nsIn K mainGlobals "Numbers" = some (some (.ref yV)))
  (ie:W.nsIn K mainGlobals "Words" = some (some (.ref yW)))
  (ig:W.nsIn K mainGlobals "Table" = some (some (.ref yX)))
  (jX:W.nsIn K mainGlobals "Book" = some (some (.ref ai)))
  (a0:W.nsIn K mainGlobals "all_among" = some (some (.ref f0))) (l0:K.lookup f0=some ⟨oc0,od0,.func (W.fnOf "all_among" "all_among" (aI Y21) (aG Y21) (ao Y21) .none kV0 dc0 pm0 an0 cd0 ct0),sl0⟩) (c0:W.codeIn K cd0 "all_among" = true) (k0:W.keepIn K (.ref f0)=true)
  (a1:W.nsIn K mainGlobals "is_word" = some (some (.ref f1))) (l1:K.lookup f1=some ⟨oc1,od1,.func (W.fnOf "is_word" "is_word" (aI Y23) (aG Y23) (ao Y23) .none kV1 dc1 pm1 an1 cd1 ct1),sl1⟩) (c1:W.codeIn K cd1 "is_word" = true) (k1:W.keepIn K (.ref f1)=true)
  (a2:W.nsIn K mainGlobals "is_whole" = some (some (.ref f2))) (l2:K.lookup f2=some ⟨oc2,od2,.func (W.fnOf "is_whole" "is_whole" (aI Y22) (aG Y22) (ao Y22) .none kV2 dc2 pm2 an2 cd2 ct2),sl2⟩) (c2:W.codeIn K cd2 "is_whole" = true) (k2:W.keepIn K (.ref f2)=true)
  (a3:W.nsIn K mainGlobals "alike" = some (some (.ref f3))) (l3:K.lookup f3=some ⟨oc3,od3,.func (W.fnOf "alike" "alike" (aI Y20) (aG Y20) (ao Y20) .none kV3 dc3 pm3 an3 cd3 ct3),sl3⟩) (c3:W.codeIn K cd3 "alike" = true) (k3:W.keepIn K (.ref f3)=true)
  (a4:W.nsIn K mainGlobals "refuse_counts_books" = some (some (.ref f4))) (l4:K.lookup f4=some ⟨oc4,od4,.func (W.fnOf "refuse_counts" "refuse_counts" (aI Y41) (aG Y41) (ao Y41) .none kV4 dc4 pm4 an4 cd4 ct4),sl4⟩) (c4:W.codeIn K cd4 "refuse_counts" = true) (k4:W.keepIn K (.ref f4)=true)
  (a5:W.nsIn K mainGlobals "refuse_names_books" = some (some (.ref f5))) (l5:K.lookup f5=some ⟨oc5,od5,.func (W.fnOf "refuse_names" "refuse_names" (aI Y44) (aG Y44) (ao Y44) .none kV5 dc5 pm5 an5 cd5 ct5),sl5⟩) (c5:W.codeIn K cd5 "refuse_names" = true) (k5:W.keepIn K (.ref f5)=true)
  (a6:W.nsIn K mainGlobals "refuse_domains" = some (some (.ref f6))) (l6:K.lookup f6=some ⟨oc6,od6,.func (W.fnOf "refuse_domains" "refuse_domains" (aI Y43) (aG Y43) (ao Y43) .none kV6 dc6 pm6 an6 cd6 ct6),sl6⟩) (c6:W.codeIn K cd6 "refuse_domains" = true) (k6:W.keepIn K (.ref f6)=true)
  (a7:W.nsIn K mainGlobals "refuse_rings" = some (some (.ref f7))) (l7:K.lookup f7=some ⟨oc7,od7,.func (W.fnOf "refuse_rings" "refuse_rings" (aI Y46) (aG Y46) (ao Y46) .none kV7 dc7 pm7 an7 cd7 ct7),sl7⟩) (c7:W.codeIn K cd7 "refuse_rings" = true) (k7:W.keepIn K (.ref f7)=true)
  (a8:W.nsIn K mainGlobals "named_among" = some (some (.ref f8))) (l8:K.lookup f8=some ⟨oc8,od8,.func (W.fnOf "named_among" "named_among" (aI Y39) (aG Y39) (ao Y39) .none kV8 dc8 pm8 an8 cd8 ct8),sl8⟩) (c8:W.codeIn K cd8 "named_among" = true) (k8:W.keepIn K (.ref f8)=true)
  (a9:W.nsIn K mainGlobals "way_by" = some (some (.ref f9))) (l9:K.lookup f9=some ⟨oc9,od9,.func (W.fnOf "way_by" "way_by" (aI Y49) (aG Y49) (ao Y49) .none kV9 dc9 pm9 an9 cd9 ct9),sl9⟩) (c9:W.codeIn K cd9 "way_by" = true) (k9:W.keepIn K (.ref f9)=true)
  (a10:W.nsIn K mainGlobals "refuse_names_tables" = some (some (.ref f10))) (l10:K.lookup f10=some ⟨ER,CH,.func (W.fnOf "refuse_names" "refuse_names" (aI Y45) (aG Y45) (ao Y45) .none ES ET EU CI zT EV),D9⟩) (c10:W.codeIn K zT "refuse_names" = true) (k10:W.keepIn K (.ref f10)=true)
  (a11:W.nsIn K mainGlobals "refuse_counts_tables" = some (some (.ref f11))) (l11:K.lookup f11=some ⟨EW,CJ,.func (W.fnOf "refuse_counts" "refuse_counts" (aI Y42) (aG Y42) (ao Y42) .none EY EZ E1 CK zU E3),Ea⟩) (c11:W.codeIn K zU "refuse_counts" = true) (k11:W.keepIn K (.ref f11)=true)
  (a12:W.nsIn K mainGlobals "refuse_way" = some (some (.ref f12))) (l12:K.lookup f12=some ⟨E4,CM,.func (W.fnOf "refuse_way" "refuse_way" (aI Y48) (aG Y48) (ao Y48) .none E5 E6 E7 CN zV E8),Eb⟩) (c12:W.codeIn K zV "refuse_way" = true) (k12:W.keepIn K (.ref f12)=true)
  (a13:W.nsIn K mainGlobals "refuse_row" = some (some (.ref f13))) (l13:K.lookup f13=some ⟨E9,CO,.func (W.fnOf "refuse_row" "refuse_row" (aI Y47) (aG Y47) (ao Y47) .none Fb Fd Fe CP zW Ff),Ec⟩) (c13:W.codeIn K zW "refuse_row" = true) (k13:W.keepIn K (.ref f13)=true)
  (a14:W.nsIn K mainGlobals "own_row" = some (some (.ref f14))) (l14:K.lookup f14=some ⟨Fg,CQ,.func (W.fnOf "own_row" "own_row" (aI Y40) (aG Y40) (ao Y40) .none Fh Fi Fj CS zX Fl),Ed⟩) (c14:W.codeIn K zX "own_row" = true) (k14:W.keepIn K (.ref f14)=true)
  (a15:W.nsIn K mainGlobals "_law_at" = some (some (.ref f15))) (l15:K.lookup f15=some ⟨Fm,CT,.func (W.fnOf "_law_at" "_law_at" (aI Y26) (aG Y26) (ao Y26) .none Fn Fo Fp CU zY Fq),Ee⟩) (c15:W.codeIn K zY "_law_at" = true) (k15:W.keepIn K (.ref f15)=true)
  (a16:W.nsIn K mainGlobals "_law_words" = some (some (.ref f16))) (l16:K.lookup f16=some ⟨Fs,CV,.func (W.fnOf "_law_words" "_law_words" (aI Y38) (aG Y38) (ao Y38) .none Ft Fu Fv CW zZ Fw),Ef⟩) (c16:W.codeIn K zZ "_law_words" = true) (k16:W.keepIn K (.ref f16)=true)
  (a17:W.nsIn K mainGlobals "_law_domain" = some (some (.ref f17))) (l17:K.lookup f17=some ⟨Fx,CY,.func (W.fnOf "_law_domain" "_law_domain" (aI Y28) (aG Y28) (ao Y28) .none Fy Fz FA CZ Aa FC),Eg⟩) (c17:W.codeIn K Aa "_law_domain" = true) (k17:W.keepIn K (.ref f17)=true)
  (a18:W.nsIn K mainGlobals "_law_pool" = some (some (.ref f18))) (l18:K.lookup f18=some ⟨FD,C0,.func (W.fnOf "_law_pool" "_law_pool" (aI Y32) (aG Y32) (ao Y32) .none FE FF FG C3 Ab FH),Eh⟩) (c18:W.codeIn K Ab "_law_pool" = true) (k18:W.keepIn K (.ref f18)=true)
  (a19:W.nsIn K mainGlobals "_law_spans" = some (some (.ref f19))) (l19:K.lookup f19=some ⟨FI,C4,.func (W.fnOf "_law_spans" "_law_spans" (aI Y34) (aG Y34) (ao Y34) .none FJ FK FL C5 Ac FN),Ei⟩) (c19:W.codeIn K Ac "_law_spans" = true) (k19:W.keepIn K (.ref f19)=true)
  (a20:W.nsIn K mainGlobals "_law_row" = some (some (.ref f20))) (l20:K.lookup f20=some ⟨FO,C6,.func (W.fnOf "_law_row" "_law_row" (aI Y33) (aG Y33) (ao Y33) .none FP FQ FR C7 Ad FT),Ej⟩) (c20:W.codeIn K Ad "_law_row" = true) (k20:W.keepIn K (.ref f20)=true)
  (a21:W.nsIn K mainGlobals "_law_book" = some (some (.ref f21))) (l21:K.lookup f21=some ⟨FU,C8,.func (W.fnOf "_law_book" "_law_book" (aI Y27) (aG Y27) (ao Y27) .none FV FW FX C9 Ae FY),Ek⟩) (c21:W.codeIn K Ae "_law_book" = true) (k21:W.keepIn K (.ref f21)=true)
  (a22:W.nsIn K mainGlobals "_law_made" = some (some (.ref f22))) (l22:K.lookup f22=some ⟨FZ,Dc,.func (W.fnOf "_law_made" "_law_made" (aI Y30) (aG Y30) (ao Y30) .none Ga Gb Gd Dd Af Ge),El⟩) (c22:W.codeIn K Af "_law_made" = true) (k22:W.keepIn K (.ref f22)=true)
  (a23:W.nsIn K mainGlobals "_law_table" = some (some (.ref f23))) (l23:K.lookup f23=some ⟨Gf,De,.func (W.fnOf "_law_table" "_law_table" (aI Y36) (aG Y36) (ao Y36) .none Gg Gh Gi Df Ag Gj),Em⟩) (c23:W.codeIn K Ag "_law_table" = true) (k23:W.keepIn K (.ref f23)=true)
  (a24:W.nsIn K mainGlobals "_law_facts" = some (some (.ref f24))) (l24:K.lookup f24=some ⟨Gk,Dg,.func (W.fnOf "_law_facts" "_law_facts" (aI Y29) (aG Y29) (ao Y29) .none Gm Gn Gp Dh Ah Gq),En⟩) (c24:W.codeIn K Ah "_law_facts" = true) (k24:W.keepIn K (.ref f24)=true)
  (a25:W.nsIn K mainGlobals "_law_other" = some (some (.ref f25))) (l25:K.lookup f25=some ⟨Gr,Di,.func (W.fnOf "_law_other" "_law_other" (aI Y31) (aG Y31) (ao Y31) .none Gs Gu Gv Dj Ai Gw),Eo⟩) (c25:W.codeIn K Ai "_law_other" = true) (k25:W.keepIn K (.ref f25)=true)
  (a26:W.nsIn K mainGlobals "_law_spoilt" = some (some (.ref f26))) (l26:K.lookup f26=some ⟨Gx,Dl,.func (W.fnOf "_law_spoilt" "_law_spoilt" (aI Y35) (aG Y35) (ao Y35) .none Gy Gz GA Dm Aj GB),Ep⟩) (c26:W.codeIn K Aj "_law_spoilt" = true) (k26:W.keepIn K (.ref f26)=true)
  (a27:W.nsIn K mainGlobals "_law_asked" = some (some (.ref f27))) (l27:K.lookup f27=some ⟨GC,Dn,.func (W.fnOf "_law_asked" "_law_asked" (aI Y25) (aG Y25) (ao Y25) .none GD GF GG Dp Ak GH),Er⟩) (c27:W.codeIn K Ak "_law_asked" = true) (k27:W.keepIn K (.ref f27)=true)
  (a28:W.nsIn K mainGlobals "_law_widened" = some (some (.ref f28))) (l28:K.lookup f28=some ⟨GI,Dq,.func (W.fnOf "_law_widened" "_law_widened" (aI Y37) (aG Y37) (ao Y37) .none GJ GK GL Dr Al GN),Es⟩) (c28:W.codeIn K Al "_law_widened" = true) (k28:W.keepIn K (.ref f28)=true)
  (i29:W.findIn K (.ref ai) "__init__" = some (some (.ref f29))) (xv:W.isFn K (.ref f29)=true)(xw:W.makesIn K ai=true)(xx:W.keepIn K (.ref ai)=true)(l29:K.lookup f29=some ⟨GO,Ds,.func (W.fnOf "__init__" "Book.__init__" (aI Y0) (aG Y0) (ao Y0) .none GP GQ GR Dt Am GS),Et⟩) (c29:W.codeIn K Am "Book.__init__" = true) (k29:W.keepIn K (.ref f29)=true)
  (i30:W.findIn K (.ref yV) "__init__" = some (some (.ref f30))) (xy:W.isFn K (.ref f30)=true)(xA:W.makesIn K yV=true)(xB:W.keepIn K (.ref yV)=true)(l30:K.lookup f30=some ⟨GU,Du,.func (W.fnOf "__init__" "Numbers.__init__" (aI Y9) (aG Y9) (ao Y9) .none GV GW GX Dv An GY),Eu⟩) (c30:W.codeIn K An "Numbers.__init__" = true) (k30:W.keepIn K (.ref f30)=true)
  (uo:W.specialIn K (.ref yU) "__getattribute__" = some (some (.builtin "type.__getattribute__"))) (uq:W.readsIn K yU (.type "type")=true) (ur:W.findCls K (.ref yU) (.type "type") "__init__" = some (.val (.ref f31))) (l31:K.lookup f31=some ⟨GZ,Dw,.func (W.fnOf "__init__" "Domain.__init__" (aI Y1) (aG Y1) (ao Y1) .none G0 G5 G6 Dx Ao G7),Ew⟩) (c31:W.codeIn K Ao "Domain.__init__" = true) (k31:W.keepIn K (.ref f31)=true)
  (i32:W.findIn K (.ref yW) "__init__" = some (some (.ref f32))) (xC:W.isFn K (.ref f32)=true)(xD:W.makesIn K yW=true)(xE:W.keepIn K (.ref yW)=true)(l32:K.lookup f32=some ⟨G8,Dy,.func (W.fnOf "__init__" "Words.__init__" (aI Y19) (aG Y19) (ao Y19) .none G9 Hg Hh Dz Ap Hi),Ex⟩) (c32:W.codeIn K Ap "Words.__init__" = true) (k32:W.keepIn K (.ref f32)=true)
  (uu:W.specialIn K (.ref yU) "__getattribute__" = some (some (.builtin "type.__getattribute__"))) (uv:W.readsIn K yU (.type "type")=true) (uw:W.findCls K (.ref yU) (.type "type") "__init__" = some (.val (.ref f33))) (l33:K.lookup f33=some ⟨Hj,DA,.func (W.fnOf "__init__" "Domain.__init__" (aI Y2) (aG Y2) (ao Y2) .none Hk Hl Hm DB Aq Hn),Ey⟩) (c33:W.codeIn K Aq "Domain.__init__" = true) (k33:W.keepIn K (.ref f33)=true)
  (i34:W.findIn K (.ref yX) "__init__" = some (some (.ref f34))) (xF:W.isFn K (.ref f34)=true)(xG:W.makesIn K yX=true)(xH:W.keepIn K (.ref yX)=true)(l34:K.lookup f34=some ⟨Ho,DC,.func (W.fnOf "__init__" "Table.__init__" (aI Y12) (aG Y12) (ao Y12) .none Hq Hr Hs DD Ar Ht),Ez⟩) (c34:W.codeIn K Ar "Table.__init__" = true) (k34:W.keepIn K (.ref f34)=true)
  (i35:W.findIn K (.ref yO) "__init__" = some (some (.ref f35))) (xI:W.isFn K (.ref f35)=true)(xJ:W.makesIn K yO=true)(xK:W.keepIn K (.ref yO)=true)(l35:K.lookup f35=some ⟨Hu,DE,.func (W.fnOf "__init__" "First.__init__" (aI Y5) (aG Y5) (ao Y5) .none Hv Hw Hy DF As Hz),EA⟩) (c35:W.codeIn K As "First.__init__" = true) (k35:W.keepIn K (.ref f35)=true)
  (ux:W.specialIn K (.ref yN) "__getattribute__" = some (some (.builtin "type.__getattribute__"))) (uy:W.readsIn K yN (.type "type")=true) (uz:W.findCls K (.ref yN) (.type "type") "__init__" = some (.val (.ref f36))) (l36:K.lookup f36=some ⟨HE,DG,.func (W.fnOf "__init__" "Way.__init__" (aI Y13) (aG Y13) (ao Y13) .none HF HG HH DH Au HI),EB⟩) (c36:W.codeIn K Au "Way.__init__" = true) (k36:W.keepIn K (.ref f36)=true)
  (i37:W.findIn K (.ref yP) "__init__" = some (some (.ref f37))) (xM:W.isFn K (.ref f37)=true)(xN:W.makesIn K yP=true)(xO:W.keepIn K (.ref yP)=true)(l37:K.lookup f37=some ⟨HJ,DI,.func (W.fnOf "__init__" "Only.__init__" (aI Y10) (aG Y10) (ao Y10) .none HK HL HM DJ Av HN),EC⟩) (c37:W.codeIn K Av "Only.__init__" = true) (k37:W.keepIn K (.ref f37)=true)
  (uB:W.specialIn K (.ref yN) "__getattribute__" = some (some (.builtin "type.__getattribute__"))) (uC:W.readsIn K yN (.type "type")=true) (uD:W.findCls K (.ref yN) (.type "type") "__init__" = some (.val (.ref f38))) (l38:K.lookup f38=some ⟨HP,DK,.func (W.fnOf "__init__" "Way.__init__" (aI Y17) (aG Y17) (ao Y17) .none HQ HR HS DL Aw HU),ED⟩) (c38:W.codeIn K Aw "Way.__init__" = true) (k38:W.keepIn K (.ref f38)=true)
  (i39:W.findIn K (.ref yQ) "__init__" = some (some (.ref f39))) (xP:W.isFn K (.ref f39)=true)(xQ:W.makesIn K yQ=true)(xR:W.keepIn K (.ref yQ)=true)(l39:K.lookup f39=some ⟨HV,DM,.func (W.fnOf "__init__" "Like.__init__" (aI Y7) (aG Y7) (ao Y7) .none HW HX HY DN Ax HZ),EE⟩) (c39:W.codeIn K Ax "Like.__init__" = true) (k39:W.keepIn K (.ref f39)=true)
  (uE:W.specialIn K (.ref yN) "__getattribute__" = some (some (.builtin "type.__getattribute__"))) (uF:W.readsIn K yN (.type "type")=true) (uG:W.findCls K (.ref yN) (.type "type") "__init__" = some (.val (.ref f40))) (l40:K.lookup f40=some ⟨Ia,DO,.func (W.fnOf "__init__" "Way.__init__" (aI Y15) (aG Y15) (ao Y15) .none Ib Ic Ie DP Ay Ig),EF⟩) (c40:W.codeIn K Ay "Way.__init__" = true) (k40:W.keepIn K (.ref f40)=true)
  (i41:W.findIn K (.ref yR) "__init__" = some (some (.ref f41))) (xS:W.isFn K (.ref f41)=true)(xT:W.makesIn K yR=true)(xU:W.keepIn K (.ref yR)=true)(l41:K.lookup f41=some ⟨Ih,DQ,.func (W.fnOf "__init__" "Low.__init__" (aI Y8) (aG Y8) (ao Y8) .none Ii Ij Ik DR Az Il),EG⟩) (c41:W.codeIn K Az "Low.__init__" = true) (k41:W.keepIn K (.ref f41)=true)
  (uH:W.specialIn K (.ref yN) "__getattribute__" = some (some (.builtin "type.__getattribute__"))) (uI:W.readsIn K yN (.type "type")=true) (uJ:W.findCls K (.ref yN) (.type "type") "__init__" = some (.val (.ref f42))) (l42:K.lookup f42=some ⟨Im,DS,.func (W.fnOf "__init__" "Way.__init__" (aI Y16) (aG Y16) (ao Y16) .none Io Ip Iq DT AA Ir),EH⟩) (c42:W.codeIn K AA "Way.__init__" = true) (k42:W.keepIn K (.ref f42)=true)
  (i43:W.findIn K (.ref yS) "__init__" = some (some (.ref f43))) (xV:W.isFn K (.ref f43)=true)(xW:W.makesIn K yS=true)(xX:W.keepIn K (.ref yS)=true)(l43:K.lookup f43=some ⟨Iu,DU,.func (W.fnOf "__init__" "High.__init__" (aI Y6) (aG Y6) (ao Y6) .none Iv Iw Iy DV AB Iz),EI⟩) (c43:W.codeIn K AB "High.__init__" = true) (k43:W.keepIn K (.ref f43)=true)
  (uK:W.specialIn K (.ref yN) "__getattribute__" = some (some (.builtin "type.__getattribute__"))) (uL:W.readsIn K yN (.type "type")=true) (uM:W.findCls K (.ref yN) (.type "type") "__init__" = some (.val (.ref f44))) (l44:K.lookup f44=some ⟨IA,DW,.func (W.fnOf "__init__" "Way.__init__" (aI Y14) (aG Y14) (ao Y14) .none IB IC ID DX AD IE),EJ⟩) (c44:W.codeIn K AD "Way.__init__" = true) (k44:W.keepIn K (.ref f44)=true)
  (i45:W.findIn K (.ref yT) "__init__" = some (some (.ref f45))) (xY:W.isFn K (.ref f45)=true)(xZ:W.makesIn K yT=true)(ya:W.keepIn K (.ref yT)=true)(l45:K.lookup f45=some ⟨IF,DY,.func (W.fnOf "__init__" "Sum.__init__" (aI Y11) (aG Y11) (ao Y11) .none IG IH II DZ AE IJ),EK⟩) (c45:W.codeIn K AE "Sum.__init__" = true) (k45:W.keepIn K (.ref f45)=true)
  (uN:W.specialIn K (.ref yN) "__getattribute__" = some (some (.builtin "type.__getattribute__"))) (uO:W.readsIn K yN (.type "type")=true) (uP:W.findCls K (.ref yN) (.type "type") "__init__" = some (.val (.ref f46))) (l46:K.lookup f46=some ⟨IK,D1,.func (W.fnOf "__init__" "Way.__init__" (aI Y18) (aG Y18) (ao Y18) .none IL IM IP D3 AF IQ),EL⟩) (c46:W.codeIn K AF "Way.__init__" = true) (k46:W.keepIn K (.ref f46)=true)
  (m47:W.findIn K (.ref yV) "has_code" = some (some (.ref f47))) (yb:W.isFn K (.ref f47)=true)(l47:K.lookup f47=some ⟨IS,D4,.func (W.fnOf "has_code" "Domain.has_code" (aI Y3) (aG Y3) (ao Y3) .none IT IU IV D5 AG IW),EM⟩) (c47:W.codeIn K AG "Domain.has_code" = true) (k47:W.keepIn K (.ref f47)=true)
  (m48:W.findIn K (.ref yW) "has_code" = some (some (.ref f48))) (yc:W.isFn K (.ref f48)=true)(l48:K.lookup f48=some ⟨IX,D6,.func (W.fnOf "has_code" "Domain.has_code" (aI Y4) (aG Y4) (ao Y4) .none IY IZ I0 D7 AH Ja),EN⟩) (c48:W.codeIn K AH "Domain.has_code" = true) (k48:W.keepIn K (.ref f48)=true)
  (a49:W.nsIn K mainGlobals "law" = some (some (.ref f49))) (l49:K.lookup f49=some ⟨Jb,D8,.func (W.fnOf "law" "law" (aI Y24) (aG Y24) (ao Y24) .none AI AJ AK zS xu AL),EO⟩) (c49:W.codeIn K xu "law" = true) (k49:W.keepIn K (.ref f49)=true)
  (z0:W.nsIn K mainGlobals "len" = some none)
  (z1:W.nsIn K mainGlobals "isinstance" = some none)
  (z2:W.nsIn K mainGlobals "int" = some none)
  (z3:W.nsIn K mainGlobals "bool" = some none)
  (z4:W.nsIn K mainGlobals "set" = some none)
  (z5:W.nsIn K mainGlobals "dict" = some none)
  (z6:W.nsIn K mainGlobals "zip" = some none)
  (z7:W.nsIn K mainGlobals "list" = some none)
  (z8:W.nsIn K mainGlobals "range" = some none)
  (z9:W.nsIn K mainGlobals "min" = some none)
  (z10:W.nsIn K mainGlobals "max" = some none)
  (z11:W.nsIn K mainGlobals "ValueError" = some none)
  {w0:Value}(y0:W.nsIn K mainGlobals "MOST_SIGNS" = some (some w0)) (x0:RelV (V.int 12) w0)
  {w1:Value}(y1:W.nsIn K mainGlobals "SMALL_LETTERS" = some (some w1)) (x1:RelV (V.str "abcdefghijklmnopqrstuvwxyz") w1)
  {w2:Value}(y2:W.nsIn K mainGlobals "MOST_FACTS" = some (some w2)) (x2:RelV (V.int 20) w2)
  {w3:Value}(y3:W.nsIn K mainGlobals "MOST_TABLES" = some (some w3)) (x3:RelV (V.int 30) w3)
  {w4:Value}(y4:W.nsIn K mainGlobals "MOST_ROWS" = some (some w4)) (x4:RelV (V.int 200) w4)
  {w5:Value}(y5:W.nsIn K mainGlobals "MOST_COLUMNS" = some (some w5)) (x5:RelV (V.int 4) w5)
  {w6:Value}(y6:W.nsIn K mainGlobals "MOST_WORDS" = some (some w6)) (x6:RelV (V.int 40) w6)
  (x_TooMany:W.excIn K yI [.type "ValueError",.type "Exception",.type "BaseException",.type "object"] "ValueError.__new__" = true)
  (iS:W.findIn K (.ref yI) "__getattribute__" = some (some (.builtin "BaseException.__getattribute__")))
  (iT:W.findIn K (.ref yI) "__getattr__" = some none)
  (iU:W.findIn K (.ref yI) "__class__" = some (some (.builtin "object.__class__")))
  (iV:W.specialIn K (.builtin "object.__class__") "__get__" = some (some (.builtin "getset_descriptor.__get__")))
  (iW:W.takesIn K (.builtin "object.__class__")=some true)
  (iX:W.mroIn K yI (.type "object")=some true)
  (iY:W.mroIn K yI (.type "BaseException")=some true)
  (iZ:W.kitCls K (.ref yI) (.ref yI)=some true)
  (x_BadName:W.excIn K yH [.type "ValueError",.type "Exception",.type "BaseException",.type "object"] "ValueError.__new__" = true)
  (i0:W.findIn K (.ref yH) "__getattribute__" = some (some (.builtin "BaseException.__getattribute__")))
  (i3:W.findIn K (.ref yH) "__getattr__" = some none)
  (i4:W.findIn K (.ref yH) "__class__" = some (some (.builtin "object.__class__")))
  (i5:W.specialIn K (.builtin "object.__class__") "__get__" = some (some (.builtin "getset_descriptor.__get__")))
  (i6:W.takesIn K (.builtin "object.__class__")=some true)
  (i7:W.mroIn K yH (.type "object")=some true)
  (ja:W.mroIn K yH (.type "BaseException")=some true)
  (jb:W.kitCls K (.ref yH) (.ref yH)=some true)
  (x_Unlike:W.excIn K yG [.type "ValueError",.type "Exception",.type "BaseException",.type "object"] "ValueError.__new__" = true)
  (jZ:W.findIn K (.ref yG) "__getattribute__" = some (some (.builtin "BaseException.__getattribute__")))
  (j0:W.findIn K (.ref yG) "__getattr__" = some none)
  (kb:W.findIn K (.ref yG) "__class__" = some (some (.builtin "object.__class__")))
  (kc:W.specialIn K (.builtin "object.__class__") "__get__" = some (some (.builtin "getset_descriptor.__get__")))
  (kf:W.takesIn K (.builtin "object.__class__")=some true)
  (kg:W.mroIn K yG (.type "object")=some true)
  (kh:W.mroIn K yG (.type "BaseException")=some true)
  (ki:W.kitCls K (.ref yG) (.ref yG)=some true)
  (x_Ring:W.excIn K ah [.type "ValueError",.type "Exception",.type "BaseException",.type "object"] "ValueError.__new__" = true)
  (oi:W.findIn K (.ref ah) "__getattribute__" = some (some (.builtin "BaseException.__getattribute__")))
  (oj:W.findIn K (.ref ah) "__getattr__" = some none)
  (om:W.findIn K (.ref ah) "__class__" = some (some (.builtin "object.__class__")))
  (oo:W.specialIn K (.builtin "object.__class__") "__get__" = some (some (.builtin "getset_descriptor.__get__")))
  (oq:W.takesIn K (.builtin "object.__class__")=some true)
  (ot:W.mroIn K ah (.type "object")=some true)
  (ox:W.mroIn K ah (.type "BaseException")=some true)
  (oy:W.kitCls K (.ref ah) (.ref ah)=some true)
  (jw:W.plainGet K yO Str.empty=true)(jx:W.hasDictIn K yO=true)(jy:W.plainOver K yO=true)(jz:W.findIn K (.ref yO) "__setattr__" = some (some (.builtin "object.__setattr__")))
  (kM:W.plainGet K yP Str.empty=true)(kN:W.hasDictIn K yP=true)(kO:W.plainOver K yP=true)(kP:W.findIn K (.ref yP) "__setattr__" = some (some (.builtin "object.__setattr__")))
  (kQ:W.plainGet K yQ Str.empty=true)(kR:W.hasDictIn K yQ=true)(kS:W.plainOver K yQ=true)(kT:W.findIn K (.ref yQ) "__setattr__" = some (some (.builtin "object.__setattr__")))
  (oz:W.plainGet K yR Str.empty=true)(oA:W.hasDictIn K yR=true)(oB:W.plainOver K yR=true)(oC:W.findIn K (.ref yR) "__setattr__" = some (some (.builtin "object.__setattr__")))
  (kU:W.plainGet K yS Str.empty=true)(kW:W.hasDictIn K yS=true)(kX:W.plainOver K yS=true)(kY:W.findIn K (.ref yS) "__setattr__" = some (some (.builtin "object.__setattr__")))
  (oE:W.plainGet K yT Str.empty=true)(oF:W.hasDictIn K yT=true)(oG:W.plainOver K yT=true)(oH:W.findIn K (.ref yT) "__setattr__" = some (some (.builtin "object.__setattr__")))
  (gs:W.plainGet K yV Str.empty=true)(gu:W.hasDictIn K yV=true)(gv:W.plainOver K yV=true)(gw:W.findIn K (.ref yV) "__setattr__" = some (some (.builtin "object.__setattr__")))
  (jA:W.plainGet K yW Str.empty=true)(jB:W.hasDictIn K yW=true)(jC:W.plainOver K yW=true)(jD:W.findIn K (.ref yW) "__setattr__" = some (some (.builtin "object.__setattr__")))
  (jE:W.plainGet K yX Str.empty=true)(jF:W.hasDictIn K yX=true)(jG:W.plainOver K yX=true)(jH:W.findIn K (.ref yX) "__setattr__" = some (some (.builtin "object.__setattr__")))
  (kZ:W.plainGet K ai Str.empty=true)(lg:W.hasDictIn K ai=true)(lh:W.plainOver K ai=true)(lj:W.findIn K (.ref ai) "__setattr__" = some (some (.builtin "object.__setattr__")))
  (lT:W.findIn K (.ref yO) "__class__" = some (some (.builtin "object.__class__"))) (lU:W.specialIn K (.builtin "object.__class__") "__get__" = some (some (.builtin "getset_descriptor.__get__"))) (lV:W.takesIn K (.builtin "object.__class__")=some true) (lW:W.mroIn K yO (.type "object")=some true)
  (oI:W.findIn K (.ref yP) "__class__" = some (some (.builtin "object.__class__"))) (oJ:W.specialIn K (.builtin "object.__class__") "__get__" = some (some (.builtin "getset_descriptor.__get__"))) (oK:W.takesIn K (.builtin "object.__class__")=some true) (oM:W.mroIn K yP (.type "object")=some true)
  (oN:W.findIn K (.ref yQ) "__class__" = some (some (.builtin "object.__class__"))) (oO:W.specialIn K (.builtin "object.__class__") "__get__" = some (some (.builtin "getset_descriptor.__get__"))) (oP:W.takesIn K (.builtin "object.__class__")=some true) (oQ:W.mroIn K yQ (.type "object")=some true)
  (qx:W.findIn K (.ref yR) "__class__" = some (some (.builtin "object.__class__"))) (qy:W.specialIn K (.builtin "object.__class__") "__get__" = some (some (.builtin "getset_descriptor.__get__"))) (qz:W.takesIn K (.builtin "object.__class__")=some true) (qA:W.mroIn K yR (.type "object")=some true)
  (oR:W.findIn K (.ref yS) "__class__" = some (some (.builtin "object.__class__"))) (oS:W.specialIn K (.builtin "object.__class__") "__get__" = some (some (.builtin "getset_descriptor.__get__"))) (oU:W.takesIn K (.builtin "object.__class__")=some true) (oV:W.mroIn K yS (.type "object")=some true)
  (qB:W.findIn K (.ref yT) "__class__" = some (some (.builtin "object.__class__"))) (qC:W.specialIn K (.builtin "object.__class__") "__get__" = some (some (.builtin "getset_descriptor.__get__"))) (qD:W.takesIn K (.builtin "object.__class__")=some true) (qF:W.mroIn K yT (.type "object")=some true)
  (jc:W.findIn K (.ref yV) "__class__" = some (some (.builtin "object.__class__"))) (jd:W.specialIn K (.builtin "object.__class__") "__get__" = some (some (.builtin "getset_descriptor.__get__"))) (je:W.takesIn K (.builtin "object.__class__")=some true) (jf:W.mroIn K yV (.type "object")=some true)
  (lX:W.findIn K (.ref yW) "__class__" = some (some (.builtin "object.__class__"))) (lY:W.specialIn K (.builtin "object.__class__") "__get__" = some (some (.builtin "getset_descriptor.__get__"))) (lZ:W.takesIn K (.builtin "object.__class__")=some true) (md:W.mroIn K yW (.type "object")=some true)
  (mf:W.findIn K (.ref yX) "__class__" = some (some (.builtin "object.__class__"))) (mh:W.specialIn K (.builtin "object.__class__") "__get__" = some (some (.builtin "getset_descriptor.__get__"))) (mi:W.takesIn K (.builtin "object.__class__")=some true) (mj:W.mroIn K yX (.type "object")=some true)
  (oW:W.findIn K (.ref ai) "__class__" = some (some (.builtin "object.__class__"))) (oX:W.specialIn K (.builtin "object.__class__") "__get__" = some (some (.builtin "getset_descriptor.__get__"))) (oY:W.takesIn K (.builtin "object.__class__")=some true) (oZ:W.mroIn K ai (.type "object")=some true)
  (na_First_called:W.findIn K (.ref yO) "called" = some none)
  (na_Only_called:W.findIn K (.ref yP) "called" = some none)
  (na_Like_called:W.findIn K (.ref yQ) "called" = some none)
  (na_Low_called:W.findIn K (.ref yR) "called" = some none)
  (na_High_called:W.findIn K (.ref yS) "called" = some none)
  (na_Sum_called:W.findIn K (.ref yT) "called" = some none)
  (na_Numbers_low:W.findIn K (.ref yV) "low" = some none)
  (na_Numbers_high:W.findIn K (.ref yV) "high" = some none)
  (cV:W.findIn K (.ref yV) "words" = some none)
  (na_Words_low:W.findIn K (.ref yW) "low" = some none)
  (na_Words_high:W.findIn K (.ref yW) "high" = some none)
  (na_Words_words:W.findIn K (.ref yW) "words" = some none)
  (na_Table_name:W.findIn K (.ref yX) "name" = some none)
  (na_Table_names:W.findIn K (.ref yX) "names" = some none)
  (na_Table_domains:W.findIn K (.ref yX) "domains" = some none)
  (na_Table_outcome:W.findIn K (.ref yX) "outcome" = some none)
  (na_Table_way:W.findIn K (.ref yX) "way" = some none)
  (na_Table_rows:W.findIn K (.ref yX) "rows" = some none)
  (na_Book_facts:W.findIn K (.ref ai) "facts" = some none)
  (na_Book_tables:W.findIn K (.ref ai) "tables" = some none)
  (f_nn:W.kitOne K (.ref yV) (.ref yV)=some true)
  (f_wn:W.kitOne K (.ref yW) (.ref yV)=some false)
  (f_ww:W.kitOne K (.ref yW) (.ref yW)=some true)
  (vi:W.kitOne K (.ref yX) (.ref yX)=some true)
  (f_nw:W.kitOne K (.ref yV) (.ref yW)=some false)
  (e_TooMany:W.exmOne K (.ref yI) (.ref yA)=some true)
  (v_TooMany:W.kitOne K (.ref yI) (.type "ValueError")=some true)
  (g_TooMany_TooMany:W.kitOne K (.ref yI) (.ref yI)=some true)
  (g_TooMany_BadName:W.kitOne K (.ref yI) (.ref yH)=some false)
  (g_TooMany_Unlike:W.kitOne K (.ref yI) (.ref yG)=some false)
  (g_TooMany_Ring:W.kitOne K (.ref yI) (.ref ah)=some false)
  (e_BadName:W.exmOne K (.ref yH) (.ref yA)=some true)
  (v_BadName:W.kitOne K (.ref yH) (.type "ValueError")=some true)
  (g_BadName_TooMany:W.kitOne K (.ref yH) (.ref yI)=some false)
  (g_BadName_BadName:W.kitOne K (.ref yH) (.ref yH)=some true)
  (g_BadName_Unlike:W.kitOne K (.ref yH) (.ref yG)=some false)
  (g_BadName_Ring:W.kitOne K (.ref yH) (.ref ah)=some false)
  (e_Unlike:W.exmOne K (.ref yG) (.ref yA)=some true)
  (v_Unlike:W.kitOne K (.ref yG) (.type "ValueError")=some true)
  (g_Unlike_TooMany:W.kitOne K (.ref yG) (.ref yI)=some false)
  (g_Unlike_BadName:W.kitOne K (.ref yG) (.ref yH)=some false)
  (g_Unlike_Unlike:W.kitOne K (.ref yG) (.ref yG)=some true)
  (g_Unlike_Ring:W.kitOne K (.ref yG) (.ref ah)=some false)
  (e_Ring:W.exmOne K (.ref ah) (.ref yA)=some true)
  (v_Ring:W.kitOne K (.ref ah) (.type "ValueError")=some true)
  (g_Ring_TooMany:W.kitOne K (.ref ah) (.ref yI)=some false)
  (g_Ring_BadName:W.kitOne K (.ref ah) (.ref yH)=some false)
  (g_Ring_Unlike:W.kitOne K (.ref ah) (.ref yG)=some false)
  (g_Ring_Ring:W.kitOne K (.ref ah) (.ref ah)=some true)
  : ∃fd:FuncData,(∀(s:Shared)(v:Value),BindsTo s fd ⟨[v],[]⟩ [("script",v)])/\∀base:Heap,K.In base->base.Ns mainGlobals mg->bg l.prog w K mg base CX0 9 fa fd ["script"] (J6 K):=by
 have e:=hfa.symm.trans (W.mg_of X G a49);cases e;have F0:=aR (st:=Y21) l0 c0 k0;have b0:=F0.binds (ps:=["text","signs"]) λ_ _ _ _ _ _ us hl=>ls2 (P:=λus=>bindArgs _ { pos:=us }=pure (List.zip _ us)) (λ_ _=>U) us hl
 have F1:=aR (st:=Y23) l1 c1 k1;have b1:=F1.binds (ps:=["text"]) λ_ _ _ _ _ _ us hl=>ls1 (P:=λus=>bindArgs _ { pos:=us }=pure (List.zip _ us)) (λ_=>U) us hl
 have F2:=aR (st:=Y22) l2 c2 k2;have b2:=F2.binds (ps:=["value"]) λ_ _ _ _ _ _ us hl=>ls1 (P:=λus=>bindArgs _ { pos:=us }=pure (List.zip _ us)) (λ_=>U) us hl
 have F3:=aR (st:=Y20) l3 c3 k3;have b3:=F3.binds (ps:=["one","other"]) λ_ _ _ _ _ _ us hl=>ls2 (P:=λus=>bindArgs _ { pos:=us }=pure (List.zip _ us)) (λ_ _=>U) us hl
 have F4:=aR (st:=Y41) l4 c4 k4;have b4:=F4.binds (ps:=["facts","tables"]) λ_ _ _ _ _ _ us hl=>ls2 (P:=λus=>bindArgs _ { pos:=us }=pure (List.zip _ us)) (λ_ _=>U) us hl
 have F5:=aR (st:=Y44) l5 c5 k5;have b5:=F5.binds (ps:=["facts","tables"]) λ_ _ _ _ _ _ us hl=>ls2 (P:=λus=>bindArgs _ { pos:=us }=pure (List.zip _ us)) (λ_ _=>U) us hl
 have F6:=aR (st:=Y43) l6 c6 k6;have b6:=F6.binds (ps:=["facts","tables"]) λ_ _ _ _ _ _ us hl=>ls2 (P:=λus=>bindArgs _ { pos:=us }=pure (List.zip _ us)) (λ_ _=>U) us hl
 have F7:=aR (st:=Y46) l7 c7 k7;have b7:=F7.binds (ps:=["tables"]) λ_ _ _ _ _ _ us hl=>ls1 (P:=λus=>bindArgs _ { pos:=us }=pure (List.zip _ us)) (λ_=>U) us hl
 have F8:=aR (st:=Y39) l8 c8 k8;have b8:=F8.binds (ps:=["table","names"]) λ_ _ _ _ _ _ us hl=>ls2 (P:=λus=>bindArgs _ { pos:=us }=pure (List.zip _ us)) (λ_ _=>U) us hl
 have F9:=aR (st:=Y49) l9 c9 k9;have b9:=F9.binds (ps:=["name"]) λ_ _ _ _ _ _ us hl=>ls1 (P:=λus=>bindArgs _ { pos:=us }=pure (List.zip _ us)) (λ_=>U) us hl
 have F10:=aR (st:=Y45) l10 c10 k10;have b10:=F10.binds (ps:=["names"]) λ_ _ _ _ _ _ us hl=>ls1 (P:=λus=>bindArgs _ { pos:=us }=pure (List.zip _ us)) (λ_=>U) us hl
 have F11:=aR (st:=Y42) l11 c11 k11;have b11:=F11.binds (ps:=["names","rows"]) λ_ _ _ _ _ _ us hl=>ls2 (P:=λus=>bindArgs _ { pos:=us }=pure (List.zip _ us)) (λ_ _=>U) us hl
 have F12:=aR (st:=Y48) l12 c12 k12;have b12:=F12.binds (ps:=["way","outcome"]) λ_ _ _ _ _ _ us hl=>ls2 (P:=λus=>bindArgs _ { pos:=us }=pure (List.zip _ us)) (λ_ _=>U) us hl
 have F13:=aR (st:=Y47) l13 c13 k13;have b13:=F13.binds (ps:=["domains","outcome","cells","code"]) λ_ _ _ _ _ _ us hl=>ls4 (P:=λus=>bindArgs _ { pos:=us }=pure (List.zip _ us)) (λ_ _ _ _=>U) us hl
 have F14:=aR (st:=Y40) l14 c14 k14;have b14:=F14.binds (ps:=["cells","code"]) λ_ _ _ _ _ _ us hl=>ls2 (P:=λus=>bindArgs _ { pos:=us }=pure (List.zip _ us)) (λ_ _=>U) us hl
 have F15:=aR (st:=Y26) l15 c15 k15;have b15:=F15.binds (ps:=["script","k"]) λ_ _ _ _ _ _ us hl=>ls2 (P:=λus=>bindArgs _ { pos:=us }=pure (List.zip _ us)) (λ_ _=>U) us hl
 have F16:=aR (st:=Y38) l16 c16 k16;have b16:=F16.binds (ps:=["cell","count"]) λ_ _ _ _ _ _ us hl=>ls2 (P:=λus=>bindArgs _ { pos:=us }=pure (List.zip _ us)) (λ_ _=>U) us hl
 have F17:=aR (st:=Y28) l17 c17 k17;have b17:=F17.binds (ps:=["cell"]) λ_ _ _ _ _ _ us hl=>ls1 (P:=λus=>bindArgs _ { pos:=us }=pure (List.zip _ us)) (λ_=>U) us hl
 have F18:=aR (st:=Y32) l18 c18 k18;have b18:=F18.binds (ps:=["domain","cell"]) λ_ _ _ _ _ _ us hl=>ls2 (P:=λus=>bindArgs _ { pos:=us }=pure (List.zip _ us)) (λ_ _=>U) us hl
 have F19:=aR (st:=Y34) l19 c19 k19;have b19:=F19.binds (ps:=["kind","one","two","domain"]) λ_ _ _ _ _ _ us hl=>ls4 (P:=λus=>bindArgs _ { pos:=us }=pure (List.zip _ us)) (λ_ _ _ _=>U) us hl
 have F20:=aR (st:=Y33) l20 c20 k20;have b20:=F20.binds (ps:=["columns","domains","pools","own","cell"]) λ_ _ _ _ _ _ us hl=>ls5 (P:=λus=>bindArgs _ { pos:=us }=pure (List.zip _ us)) (λ_ _ _ _ _=>U) us hl
 have F21:=aR (st:=Y27) l21 c21 k21;have b21:=F21.binds (ps:=["script"]) λ_ _ _ _ _ _ us hl=>ls1 (P:=λus=>bindArgs _ { pos:=us }=pure (List.zip _ us)) (λ_=>U) us hl
 have F22:=aR (st:=Y30) l22 c22 k22;have b22:=F22.binds (ps:=["domain"]) λ_ _ _ _ _ _ us hl=>ls1 (P:=λus=>bindArgs _ { pos:=us }=pure (List.zip _ us)) (λ_=>U) us hl
 have F23:=aR (st:=Y36) l23 c23 k23;have b23:=F23.binds (ps:=["plan","k"]) λ_ _ _ _ _ _ us hl=>ls2 (P:=λus=>bindArgs _ { pos:=us }=pure (List.zip _ us)) (λ_ _=>U) us hl
 have F24:=aR (st:=Y29) l24 c24 k24;have b24:=F24.binds (ps:=["plan"]) λ_ _ _ _ _ _ us hl=>ls1 (P:=λus=>bindArgs _ { pos:=us }=pure (List.zip _ us)) (λ_=>U) us hl
 have F25:=aR (st:=Y31) l25 c25 k25;have b25:=F25.binds (ps:=["domain"]) λ_ _ _ _ _ _ us hl=>ls1 (P:=λus=>bindArgs _ { pos:=us }=pure (List.zip _ us)) (λ_=>U) us hl
 have F26:=aR (st:=Y35) l26 c26 k26;have b26:=F26.binds (ps:=["kind","cell","plan","facts","made"]) λ_ _ _ _ _ _ us hl=>ls5 (P:=λus=>bindArgs _ { pos:=us }=pure (List.zip _ us)) (λ_ _ _ _ _=>U) us hl
 have F27:=aR (st:=Y25) l27 c27 k27;have b27:=F27.binds (ps:=["plan"]) λ_ _ _ _ _ _ us hl=>ls1 (P:=λus=>bindArgs _ { pos:=us }=pure (List.zip _ us)) (λ_=>U) us hl
 have F28:=aR (st:=Y37) l28 c28 k28;have b28:=F28.binds (ps:=["kind","plan","facts","made"]) λ_ _ _ _ _ _ us hl=>ls4 (P:=λus=>bindArgs _ { pos:=us }=pure (List.zip _ us)) (λ_ _ _ _=>U) us hl
 have F29:=aR (st:=Y0) l29 c29 k29;have b29:=F29.binds (ps:=["self","facts","tables"]) λ_ _ _ _ _ _ us hl=>ls3 (P:=λus=>bindArgs _ { pos:=us }=pure (List.zip _ us)) (λ_ _ _=>U) us hl
 have F30:=aR (st:=Y9) l30 c30 k30;have b30:=F30.binds (ps:=["self","low","high"]) λ_ _ _ _ _ _ us hl=>ls3 (P:=λus=>bindArgs _ { pos:=us }=pure (List.zip _ us)) (λ_ _ _=>U) us hl
 have F31:=aR (st:=Y1) l31 c31 k31;have b31:=F31.binds (ps:=["self","low","high"]) λ_ _ _ _ _ _ us hl=>ls3 (P:=λus=>bindArgs _ { pos:=us }=pure (List.zip _ us)) (λ_ _ _=>U) us hl
 have F32:=aR (st:=Y19) l32 c32 k32;have b32:=F32.binds (ps:=["self","words"]) λ_ _ _ _ _ _ us hl=>ls2 (P:=λus=>bindArgs _ { pos:=us }=pure (List.zip _ us)) (λ_ _=>U) us hl
 have F33:=aR (st:=Y2) l33 c33 k33;have b33:=F33.binds (ps:=["self","low","high"]) λ_ _ _ _ _ _ us hl=>ls3 (P:=λus=>bindArgs _ { pos:=us }=pure (List.zip _ us)) (λ_ _ _=>U) us hl
 have F34:=aR (st:=Y12) l34 c34 k34;have b34:=F34.binds (ps:=["self","name","names","domains","outcome","way","rows"]) λ_ _ _ _ _ _ us hl=>ls7 (P:=λus=>bindArgs _ { pos:=us }=pure (List.zip _ us)) (λ_ _ _ _ _ _ _=>U) us hl
 have F35:=aR (st:=Y5) l35 c35 k35;have b35:=F35.binds (ps:=["self"]) λ_ _ _ _ _ _ us hl=>ls1 (P:=λus=>bindArgs _ { pos:=us }=pure (List.zip _ us)) (λ_=>U) us hl
 have F36:=aR (st:=Y13) l36 c36 k36;have b36:=F36.binds (ps:=["self","called"]) λ_ _ _ _ _ _ us hl=>ls2 (P:=λus=>bindArgs _ { pos:=us }=pure (List.zip _ us)) (λ_ _=>U) us hl
 have F37:=aR (st:=Y10) l37 c37 k37;have b37:=F37.binds (ps:=["self"]) λ_ _ _ _ _ _ us hl=>ls1 (P:=λus=>bindArgs _ { pos:=us }=pure (List.zip _ us)) (λ_=>U) us hl
 have F38:=aR (st:=Y17) l38 c38 k38;have b38:=F38.binds (ps:=["self","called"]) λ_ _ _ _ _ _ us hl=>ls2 (P:=λus=>bindArgs _ { pos:=us }=pure (List.zip _ us)) (λ_ _=>U) us hl
 have F39:=aR (st:=Y7) l39 c39 k39;have b39:=F39.binds (ps:=["self"]) λ_ _ _ _ _ _ us hl=>ls1 (P:=λus=>bindArgs _ { pos:=us }=pure (List.zip _ us)) (λ_=>U) us hl
 have F40:=aR (st:=Y15) l40 c40 k40;have b40:=F40.binds (ps:=["self","called"]) λ_ _ _ _ _ _ us hl=>ls2 (P:=λus=>bindArgs _ { pos:=us }=pure (List.zip _ us)) (λ_ _=>U) us hl
 have F41:=aR (st:=Y8) l41 c41 k41;have b41:=F41.binds (ps:=["self"]) λ_ _ _ _ _ _ us hl=>ls1 (P:=λus=>bindArgs _ { pos:=us }=pure (List.zip _ us)) (λ_=>U) us hl
 have F42:=aR (st:=Y16) l42 c42 k42;have b42:=F42.binds (ps:=["self","called"]) λ_ _ _ _ _ _ us hl=>ls2 (P:=λus=>bindArgs _ { pos:=us }=pure (List.zip _ us)) (λ_ _=>U) us hl
 have F43:=aR (st:=Y6) l43 c43 k43;have b43:=F43.binds (ps:=["self"]) λ_ _ _ _ _ _ us hl=>ls1 (P:=λus=>bindArgs _ { pos:=us }=pure (List.zip _ us)) (λ_=>U) us hl
 have F44:=aR (st:=Y14) l44 c44 k44;have b44:=F44.binds (ps:=["self","called"]) λ_ _ _ _ _ _ us hl=>ls2 (P:=λus=>bindArgs _ { pos:=us }=pure (List.zip _ us)) (λ_ _=>U) us hl
 have F45:=aR (st:=Y11) l45 c45 k45;have b45:=F45.binds (ps:=["self"]) λ_ _ _ _ _ _ us hl=>ls1 (P:=λus=>bindArgs _ { pos:=us }=pure (List.zip _ us)) (λ_=>U) us hl
 have F46:=aR (st:=Y18) l46 c46 k46;have b46:=F46.binds (ps:=["self","called"]) λ_ _ _ _ _ _ us hl=>ls2 (P:=λus=>bindArgs _ { pos:=us }=pure (List.zip _ us)) (λ_ _=>U) us hl
 have F47:=aR (st:=Y3) l47 c47 k47;have b47:=F47.binds (ps:=["self","value"]) λ_ _ _ _ _ _ us hl=>ls2 (P:=λus=>bindArgs _ { pos:=us }=pure (List.zip _ us)) (λ_ _=>U) us hl
 have F48:=aR (st:=Y4) l48 c48 k48;have b48:=F48.binds (ps:=["self","value"]) λ_ _ _ _ _ _ us hl=>ls2 (P:=λus=>bindArgs _ { pos:=us }=pure (List.zip _ us)) (λ_ _=>U) us hl
 have F49:=aR (st:=Y24) l49 c49 k49;have b49:=F49.binds (ps:=["script"]) λ_ _ _ _ _ _ us hl=>ls1 (P:=λus=>bindArgs _ { pos:=us }=pure (List.zip _ us)) (λ_=>U) us hl
 have bl:Bl K mg yA yI yH yG ah yN yO yP yQ yR yS yT yU yV yW yX ai:=⟨W.mg_of X G dk,dk,W.mg_of X G fI,fI,W.mg_of X G fJ,fJ,W.mg_of X G gN,gN,W.mg_of X G lI,lI,W.mg_of X G gO,gO,W.mg_of X G ib,ib,W.mg_of X G jU,jU,W.mg_of X G jV,jV,W.mg_of X G mX,mX,W.mg_of X G jW,jW,W.mg_of X G mY,mY,W.mg_of X G eM,eM,W.mg_of X G eJ,eJ,W.mg_of X G ie,ie,W.mg_of X G ig,ig,W.mg_of X G jX,jX,dI.value x_TooMany,⟨iS,iT,iU,iV,iW,iX,iY,iZ⟩,dI.value x_BadName,⟨i0,i3,i4,i5,i6,i7,ja,jb⟩,dI.value x_Unlike,⟨jZ,j0,kb,kc,kf,kg,kh,ki⟩,dI.value x_Ring,⟨oi,oj,om,oo,oq,ot,ox,oy⟩,⟨jw,jx,jy,jz⟩,⟨kM,kN,kO,kP⟩,⟨kQ,kR,kS,kT⟩,⟨oz,oA,oB,oC⟩,⟨kU,kW,kX,kY⟩,⟨oE,oF,oG,oH⟩,⟨gs,gu,gv,gw⟩,⟨jA,jB,jC,jD⟩,⟨jE,jF,jG,jH⟩,⟨kZ,lg,lh,lj⟩,⟨⟨jw,jx,jy,jz⟩,lT,lU,lV,lW⟩,⟨⟨kM,kN,kO,kP⟩,oI,oJ,oK,oM⟩,⟨⟨kQ,kR,kS,kT⟩,oN,oO,oP,oQ⟩,⟨⟨oz,oA,oB,oC⟩,qx,qy,qz,qA⟩,⟨⟨kU,kW,kX,kY⟩,oR,oS,oU,oV⟩,⟨⟨oE,oF,oG,oH⟩,qB,qC,qD,qF⟩,⟨⟨gs,gu,gv,gw⟩,jc,jd,je,jf⟩,⟨⟨jA,jB,jC,jD⟩,lX,lY,lZ,md⟩,⟨⟨jE,jF,jG,jH⟩,mf,mh,mi,mj⟩,⟨⟨kZ,lg,lh,lj⟩,oW,oX,oY,oZ⟩,na_First_called,na_Only_called,na_Like_called,na_Low_called,na_High_called,na_Sum_called,na_Numbers_low,na_Numbers_high,cV,na_Words_low,na_Words_high,na_Words_words,na_Table_name,na_Table_names,na_Table_domains,na_Table_outcome,na_Table_way,na_Table_rows,na_Book_facts,na_Book_tables,f_nn,f_wn,f_ww,vi,f_nw,e_TooMany,v_TooMany,g_TooMany_TooMany,g_TooMany_BadName,g_TooMany_Unlike,g_TooMany_Ring,e_BadName,v_BadName,g_BadName_TooMany,g_BadName_BadName,g_BadName_Unlike,g_BadName_Ring,e_Unlike,v_Unlike,g_Unlike_TooMany,g_Unlike_BadName,g_Unlike_Unlike,g_Unlike_Ring,e_Ring,v_Ring,g_Ring_TooMany,g_Ring_BadName,g_Ring_Unlike,g_Ring_Ring,W.mg_none_of X G z0,W.mg_none_of X G z1,W.mg_none_of X G z2,W.mg_none_of X G z3,W.mg_none_of X G z4,W.mg_none_of X G z5,W.mg_none_of X G z6,W.mg_none_of X G z7,W.mg_none_of X G z8,W.mg_none_of X G z9,W.mg_none_of X G z10,W.mg_none_of X G z11,⟨_,W.mg_of X G y0,x0⟩,⟨_,W.mg_of X G y1,x1⟩,⟨_,W.mg_of X G y2,x2⟩,⟨_,W.mg_of X G y3,x3⟩,⟨_,W.mg_of X G y4,x4⟩,⟨_,W.mg_of X G y5,x5⟩,⟨_,W.mg_of X G y6,x6⟩⟩;refine⟨W.fnOf "law" "law" (aI Y24) (aG Y24) (ao Y24) .none AI AJ AK zS xu AL,λs v=>.of_eq U,λbase _ _=>?_⟩;have O0:=By (P:=l.prog) (w:=w) (base:=base) F0 bl;have pT:Callee l.prog w K mg base 1 "all_among" ["text","signs"] (d9 K yA yI yH yG ah yN yO yP yQ yR yS yT yU yV yW yX ai):=⟨_,_,O0,b0,k0,W.mg_of X G a0⟩;have O2:=Bz (P:=l.prog) (w:=w) (base:=base) F2 bl;have ml:Callee l.prog w K mg base 1 "is_whole" ["value"] (dZ K yA yI yH yG ah yN yO yP yQ yR yS yT yU yV yW yX ai):=⟨_,_,O2,b2,k2,W.mg_of X G a2⟩;have O3:=BA (P:=l.prog) (w:=w) (base:=base) F3 bl;have vJ:Callee l.prog w K mg base 1 "alike" ["one","other"] (jv K yA yI yH yG ah yN yO yP yQ yR yS yT yU yV yW yX ai):=⟨_,_,O3,b3,k3,W.mg_of X G a3⟩;have O4:=BB (P:=l.prog) (w:=w) (base:=base) F4 bl;have gG:de l.prog w K mg base 1 "refuse_counts_books" ["facts","tables"] (bV K yA yI yH yG ah yN yO yP yQ yR yS yT yU yV yW yX ai):=⟨_,_,O4,b4,k4,W.mg_of X G a4⟩;have O8:=BC (P:=l.prog) (w:=w) (base:=base) F8 bl;have mG:Callee l.prog w K mg base 1 "named_among" ["table","names"] (dz K yA yI yH yG ah yN yO yP yQ yR yS yT yU yV yW yX ai):=⟨_,_,O8,b8,k8,W.mg_of X G a8⟩;have O11:=BD (P:=l.prog) (w:=w) (base:=base) F11 bl;have gx:Callee l.prog w K mg base 1 "refuse_counts_tables" ["names","rows"] (bR K yA yI yH yG ah yN yO yP yQ yR yS yT yU yV yW yX ai):=⟨_,_,O11,b11,k11,W.mg_of X G a11⟩;have O14:=BE (P:=l.prog) (w:=w) (base:=base) F14 bl;have rX:Callee l.prog w K mg base 1 "own_row" ["cells","code"] (gi K yA yI yH yG ah yN yO yP yQ yR yS yT yU yV yW yX ai):=⟨_,_,O14,b14,k14,W.mg_of X G a14⟩;have O15:=BF (P:=l.prog) (w:=w) (base:=base) F15 bl;have pU:Callee l.prog w K mg base 1 "_law_at" ["script","k"] (fP K yA yI yH yG ah yN yO yP yQ yR yS yT yU yV yW yX ai):=⟨_,_,O15,b15,k15,W.mg_of X G a15⟩;have O16:=BG (P:=l.prog) (w:=w) (base:=base) F16 bl;have ky:Callee l.prog w K mg base 1 "_law_words" ["cell","count"] (dA K yA yI yH yG ah yN yO yP yQ yR yS yT yU yV yW yX ai):=⟨_,_,O16,b16,k16,W.mg_of X G a16⟩;have O18:=BH (P:=l.prog) (w:=w) (base:=base) F18 bl;have qG:Callee l.prog w K mg base 1 "_law_pool" ["domain","cell"] (fm K yA yI yH yG ah yN yO yP yQ yR yS yT yU yV yW yX ai):=⟨_,_,O18,b18,k18,W.mg_of X G a18⟩;have O19:=BI (P:=l.prog) (w:=w) (base:=base) F19 bl;have pV:Callee l.prog w K mg base 1 "_law_spans" ["kind","one","two","domain"] (ee K yA yI yH yG ah yN yO yP yQ yR yS yT yU yV yW yX ai):=⟨_,_,O19,b19,k19,W.mg_of X G a19⟩;have O27:=BJ (P:=l.prog) (w:=w) (base:=base) F27 bl;have kz:Callee l.prog w K mg base 1 "_law_asked" ["plan"] (dB K yA yI yH yG ah yN yO yP yQ yR yS yT yU yV yW yX ai):=⟨_,_,O27,b27,k27,W.mg_of X G a27⟩;have O31:=O_1 (P:=l.prog) (w:=w) (base:=base) F31 bl;have eW:bQ CX0 l.prog w K mg base 1 "Domain" "__init__" ["self","low","high"] (bB K yA yI yH yG ah yN yO yP yQ yR yS yT yU yV yW yX ai):=⟨_,_,_,⟨uo,uq,ur,k31⟩,O31,b31,W.mg_of X G eM⟩;have O33:=O_2 (P:=l.prog) (w:=w) (base:=base) F33 bl;have fT:bQ CX0 l.prog w K mg base 1 "Domain" "__init__" ["self","low","high"] (bI K yA yI yH yG ah yN yO yP yQ yR yS yT yU yV yW yX ai):=⟨_,_,_,⟨uu,uv,uw,k33⟩,O33,b33,W.mg_of X G eM⟩;have O36:=BK (P:=l.prog) (w:=w) (base:=base) F36 bl;have gU:bQ CX0 l.prog w K mg base 1 "Way" "__init__" ["self","called"] (bZ K yA yI yH yG ah yN yO yP yQ yR yS yT yU yV yW yX ai):=⟨_,_,_,⟨ux,uy,uz,k36⟩,O36,b36,W.mg_of X G gO⟩;have O38:=BL (P:=l.prog) (w:=w) (base:=base) F38 bl;have iB:bQ CX0 l.prog w K mg base 1 "Way" "__init__" ["self","called"] (cz K yA yI yH yG ah yN yO yP yQ yR yS yT yU yV yW yX ai):=⟨_,_,_,⟨uB,uC,uD,k38⟩,O38,b38,W.mg_of X G gO⟩;have O40:=BM (P:=l.prog) (w:=w) (base:=base) F40 bl;have iC:bQ CX0 l.prog w K mg base 1 "Way" "__init__" ["self","called"] (cA K yA yI yH yG ah yN yO yP yQ yR yS yT yU yV yW yX ai):=⟨_,_,_,⟨uE,uF,uG,k40⟩,O40,b40,W.mg_of X G gO⟩;have O42:=BN (P:=l.prog) (w:=w) (base:=base) F42 bl;have jg:bQ CX0 l.prog w K mg base 1 "Way" "__init__" ["self","called"] (cG K yA yI yH yG ah yN yO yP yQ yR yS yT yU yV yW yX ai):=⟨_,_,_,⟨uH,uI,uJ,k42⟩,O42,b42,W.mg_of X G gO⟩;have O44:=BO (P:=l.prog) (w:=w) (base:=base) F44 bl;have iD:bQ CX0 l.prog w K mg base 1 "Way" "__init__" ["self","called"] (cC K yA yI yH yG ah yN yO yP yQ yR yS yT yU yV yW yX ai):=⟨_,_,_,⟨uK,uL,uM,k44⟩,O44,b44,W.mg_of X G gO⟩;have O46:=BP (P:=l.prog) (w:=w) (base:=base) F46 bl;have jh:bQ CX0 l.prog w K mg base 1 "Way" "__init__" ["self","called"] (cH K yA yI yH yG ah yN yO yP yQ yR yS yT yU yV yW yX ai):=⟨_,_,_,⟨uN,uO,uP,k46⟩,O46,b46,W.mg_of X G gO⟩;have O1:=BQ (P:=l.prog) (w:=w) (base:=base) F1 bl (pT.mono (by decide));have kj:Callee l.prog w K mg base 2 "is_word" ["text"] (dQ K yA yI yH yG ah yN yO yP yQ yR yS yT yU yV yW yX ai):=⟨_,_,O1,b1,k1,W.mg_of X G a1⟩;have O6:=BR (P:=l.prog) (w:=w) (base:=base) F6 bl (vJ.mono (by decide));have kn:de l.prog w K mg base 2 "refuse_domains" ["facts","tables"] (cQ K yA yI yH yG ah yN yO yP yQ yR yS yT yU yV yW yX ai):=⟨_,_,O6,b6,k6,W.mg_of X G a6⟩;have O7:=BV (P:=l.prog) (w:=w) (base:=base) F7 bl (mG.mono (by decide));have mm:de l.prog w K mg base 2 "refuse_rings" ["tables"] (df K yA yI yH yG ah yN yO yP yQ yR yS yT yU yV yW yX ai):=⟨_,_,O7,b7,k7,W.mg_of X G a7⟩;have O17:=BX (P:=l.prog) (w:=w) (base:=base) F17 bl (ky.mono (by decide));have o6:Callee l.prog w K mg base 2 "_law_domain" ["cell"] (dU K yA yI yH yG ah yN yO yP yQ yR yS yT yU yV yW yX ai):=⟨_,_,O17,b17,k17,W.mg_of X G a17⟩;have O20:=BY (P:=l.prog) (w:=w) (base:=base) F20 bl (pV.mono (by decide));have rY:Callee l.prog w K mg base 2 "_law_row" ["columns","domains","pools","own","cell"] (gj K yA yI yH yG ah yN yO yP yQ yR yS yT yU yV yW yX ai):=⟨_,_,O20,b20,k20,W.mg_of X G a20⟩;have O30:=O_9 (P:=l.prog) (w:=w) (base:=base) F30 bl (eW.mono (by decide));have bD:aU CX0 l.prog w K mg base 2 "Numbers" yV ["self","low","high"] (aS K yA yI yH yG ah yN yO yP yQ yR yS yT yU yV yW yX ai):=⟨_,_,⟨xA,i30,xy,xB⟩,O30,b30,W.mg_of X G eJ⟩;have O35:=O_5 (P:=l.prog) (w:=w) (base:=base) F35 bl (gU.mono (by decide));have gy:aU CX0 l.prog w K mg base 2 "First" yO ["self"] (J0 K yO):=⟨_,_,⟨xJ,i35,xI,xK⟩,O35,b35,W.mg_of X G ib⟩;have O37:=BZ (P:=l.prog) (w:=w) (base:=base) F37 bl (iB.mono (by decide));have gW:aU CX0 l.prog w K mg base 2 "Only" yP ["self"] (J4 K yP):=⟨_,_,⟨xN,i37,xM,xO⟩,O37,b37,W.mg_of X G jU⟩;have O39:=O_7 (P:=l.prog) (w:=w) (base:=base) F39 bl (iC.mono (by decide));have gX:aU CX0 l.prog w K mg base 2 "Like" yQ ["self"] (J2 K yQ):=⟨_,_,⟨xQ,i39,xP,xR⟩,O39,b39,W.mg_of X G jV⟩;have O41:=O_8 (P:=l.prog) (w:=w) (base:=base) F41 bl (jg.mono (by decide));have ji:aU CX0 l.prog w K mg base 2 "Low" yR ["self"] (J3 K yR):=⟨_,_,⟨xT,i41,xS,xU⟩,O41,b41,W.mg_of X G mX⟩;have O43:=O_6 (P:=l.prog) (w:=w) (base:=base) F43 bl (iD.mono (by decide));have gY:aU CX0 l.prog w K mg base 2 "High" yS ["self"] (J1 K yS):=⟨_,_,⟨xW,i43,xV,xX⟩,O43,b43,W.mg_of X G jW⟩;have O45:=B1 (P:=l.prog) (w:=w) (base:=base) F45 bl (jh.mono (by decide));have jk:aU CX0 l.prog w K mg base 2 "Sum" yT ["self"] (J5 K yT):=⟨_,_,⟨xZ,i45,xY,ya⟩,O45,b45,W.mg_of X G mY⟩;have O47:=O_3 (P:=l.prog) (w:=w) (base:=base) F47 bl (ml.mono (by decide));have eX:d8 CX0 l.prog w K mg base 2 yV "has_code" ["self","value"] (bC K yA yI yH yG ah yN yO yP yQ yR yS yT yU yV yW yX ai):=⟨_,_,⟨m47,yb,k47⟩,O47,b47⟩;have O48:=O_4 (P:=l.prog) (w:=w) (base:=base) F48 bl (ml.mono (by decide));have fU:d8 CX0 l.prog w K mg base 2 yW "has_code" ["self","value"] (bJ K yA yI yH yG ah yN yO yP yQ yR yS yT yU yV yW yX ai):=⟨_,_,⟨m48,yc,k48⟩,O48,b48⟩;have O5:=B2 (P:=l.prog) (w:=w) (base:=base) F5 bl (kj.mono (by decide));have gZ:de l.prog w K mg base 3 "refuse_names_books" ["facts","tables"] (cb K yA yI yH yG ah yN yO yP yQ yR yS yT yU yV yW yX ai):=⟨_,_,O5,b5,k5,W.mg_of X G a5⟩;have O10:=B4 (P:=l.prog) (w:=w) (base:=base) F10 bl (kj.mono (by decide));have gH:Callee l.prog w K mg base 3 "refuse_names_tables" ["names"] (bW K yA yI yH yG ah yN yO yP yQ yR yS yT yU yV yW yX ai):=⟨_,_,O10,b10,k10,W.mg_of X G a10⟩;have O13:=B5 (P:=l.prog) (w:=w) (base:=base) F13 bl (eX.mono (by decide)) (fU.mono (by decide));have o7:Callee l.prog w K mg base 3 "refuse_row" ["domains","outcome","cells","code"] (dW K yA yI yH yG ah yN yO yP yQ yR yS yT yU yV yW yX ai):=⟨_,_,O13,b13,k13,W.mg_of X G a13⟩;have O21:=B6 (P:=l.prog) (w:=w) (base:=base) F21 bl (o6.mono (by decide)) (qG.mono (by decide)) (pU.mono (by decide)) (ky.mono (by decide)) (rY.mono (by decide));have qH:Callee l.prog w K mg base 3 "_law_book" ["script"] (fq K yA yI yH yG ah yN yO yP yQ yR yS yT yU yV yW yX ai):=⟨_,_,O21,b21,k21,W.mg_of X G a21⟩;have O32:=B9 (P:=l.prog) (w:=w) (base:=base) F32 bl (fT.mono (by decide)) (kj.mono (by decide));have gA:aU CX0 l.prog w K mg base 3 "Words" yW ["self","words"] (bS K yA yI yH yG ah yN yO yP yQ yR yS yT yU yV yW yX ai):=⟨_,_,⟨xD,i32,xC,xE⟩,O32,b32,W.mg_of X G ie⟩;have O9:=Ca (P:=l.prog) (w:=w) (base:=base) F9 bl (gy.mono (by decide)) (gW.mono (by decide)) (gX.mono (by decide)) (ji.mono (by decide)) (gY.mono (by decide)) (jk.mono (by decide));have uQ:Callee l.prog w K mg base 4 "way_by" ["name"] (iw K yA yI yH yG ah yN yO yP yQ yR yS yT yU yV yW yX ai):=⟨_,_,O9,b9,k9,W.mg_of X G a9⟩;have O25:=Cb (P:=l.prog) (w:=w) (base:=base) F25 bl (bD.mono (by decide));have kA:Callee l.prog w K mg base 4 "_law_other" ["domain"] (dC K yA yI yH yG ah yN yO yP yQ yR yS yT yU yV yW yX ai):=⟨_,_,O25,b25,k25,W.mg_of X G a25⟩;have O29:=O_0 (P:=l.prog) (w:=w) (base:=base) F29 bl (gG.mono (by decide)) (gZ.mono (by decide)) (kn.mono (by decide)) (mm.mono (by decide));have hU:aU (CX1 l.prog w) l.prog w K mg base 4 "Book" ai ["self","facts","tables"] (cg K yA yI yH yG ah yN yO yP yQ yR yS yT yU yV yW yX ai):=⟨_,_,⟨xw,i29,xv,xx⟩,O29,b29,W.mg_of X G jX⟩;have O12:=Cc (P:=l.prog) (w:=w) (base:=base) F12 bl (uQ.mono (by decide));have o8:Callee l.prog w K mg base 5 "refuse_way" ["way","outcome"] (dX K yA yI yH yG ah yN yO yP yQ yR yS yT yU yV yW yX ai):=⟨_,_,O12,b12,k12,W.mg_of X G a12⟩;have O22:=Cd (P:=l.prog) (w:=w) (base:=base) F22 bl (bD.mono (by decide)) (gA.mono (by decide));have mn:Callee l.prog w K mg base 5 "_law_made" ["domain"] (d6 K yA yI yH yG ah yN yO yP yQ yR yS yT yU yV yW yX ai):=⟨_,_,O22,b22,k22,W.mg_of X G a22⟩;have O26:=Ce (P:=l.prog) (w:=w) (base:=base) F26 bl (kA.mono (by decide)) (bD.mono (by decide));have o9:Callee l.prog w K mg base 5 "_law_spoilt" ["kind","cell","plan","facts","made"] (dY K yA yI yH yG ah yN yO yP yQ yR yS yT yU yV yW yX ai):=⟨_,_,O26,b26,k26,W.mg_of X G a26⟩;have O24:=Ci (P:=l.prog) (w:=w) (base:=base) F24 bl (mn.mono (by decide));have pW:Callee l.prog w K mg base 6 "_law_facts" ["plan"] (eA K yA yI yH yG ah yN yO yP yQ yR yS yT yU yV yW yX ai):=⟨_,_,O24,b24,k24,W.mg_of X G a24⟩;have O34:=Cj (P:=l.prog) (w:=w) (base:=base) F34 bl (gH.mono (by decide)) (gx.mono (by decide)) (o8.mono (by decide)) (o7.mono (by decide)) (rX.mono (by decide));have dE:aU CX0 l.prog w K mg base 6 "Table" yX ["self","name","names","domains","outcome","way","rows"] (bw K yA yI yH yG ah yN yO yP yQ yR yS yT yU yV yW yX ai):=⟨_,_,⟨xG,i34,xF,xH⟩,O34,b34,W.mg_of X G ig⟩;have O23:=Ck (P:=l.prog) (w:=w) (base:=base) F23 bl (dE.mono (by decide)) (mn.mono (by decide));have pX:Callee l.prog w K mg base 8 "_law_table" ["plan","k"] (eB K yA yI yH yG ah yN yO yP yQ yR yS yT yU yV yW yX ai):=⟨_,_,O23,b23,k23,W.mg_of X G a23⟩;have O28:=Cp (P:=l.prog) (w:=w) (base:=base) F28 bl (kA.mono (by decide)) (dE.mono (by decide)) (kz.mono (by decide)) (bD.mono (by decide));have mH:Callee l.prog w K mg base 8 "_law_widened" ["kind","plan","facts","made"] (dD K yA yI yH yG ah yN yO yP yQ yR yS yT yU yV yW yX ai):=⟨_,_,O28,b28,k28,W.mg_of X G a28⟩;exact Cu F49 bl (qH.mono (by decide)) (pW.mono (by decide)) (mH.mono (by decide)) (pX.mono (by decide)) (o9.mono (by decide)) (hU.mono (by decide)) (pU.mono (by decide)) (kz.mono (by decide))
theorem walk{l:W.OpenLaw}{q:Program}{loose:List Str}{XP:(Str->Option Value)->Heap->Prop}{YP:World->Heap->Prop}{d:DefRec}{K:Params->W.Frag}(hn:l.most=some 63)(hdf:d.params.defaults=[])
  (hY:∀(w:World)(h:Heap),YP w h->(K w.params).In h)
  (F:∀(w:World)(mg:Str->Option Value)(fa:Addr)(h:Heap),(K w.params).In h->h.Ns mainGlobals mg->mg d.name=some (.ref fa) ->
   ∃fd:FuncData,(∀(s:Shared)(u:Value),BindsTo s fd ⟨[u],[]⟩ [("script",u)])/\∀base:Heap,(K w.params).In base->base.Ns mainGlobals mg->bg l.prog w (K w.params) mg base CX0 9 fa fd ["script"] (J6 (K w.params))) :
  W.WalkO q loose XP YP l.row.toRowW d [] (λf vs=>PySem.call f vs) :=
 L2.walk_of (n:=63) (k:=9) (x := "script") (CX:=λ_=>CX0) (sp:=λw=>J6 (K w.params)) hn (by decide) hdf ⟨U,by decide,by decide⟩ hY F (λ_ _ a ns hl _ hS=>⟨a,ns,U,hS,hl,λ_=>U⟩) λ_ _ _ _ _ z=>z
end My
set_option genSizeOf false in
set_option genInjectivity false in
structure PySem.W.Fast:Prop where (tw7357856435588168260 tw9493406687575038585 tw445813024728198608 tw12421558978737514676 tw15064892953259633266 tw158500453889455333 tw8738526801941677501 tw4376399845019403072 tw8103442314271962771 tw16927840081471264006 tw5534230569929164380 tw4172602722886466444 tw9475199937263843190 tw11265464261332773353 tw12048506037112913670 tw6858068715966402384 tw1612915067596515267 tw14568521472033818660 tw2445028944354795733 tw9212538608360375095 tw17367623919842449559 tw5545573249302716761 tw2876528511209436550 tw11481109088865550153 tw17830230800222686262 tw5681463887383586754 tw16063017560231543817 tw1374239389198277200 tw11093747736323622165 tw15639057923034516430 tw10145931421591722094 tw7201856737690344600 tw5974146236174953636 tw3700008870293228896 tw15176787802542447936 tw9941811206822432699 tw8000901623212313176 tw6785309438806239548 tw6081095710200093131 tw10275712308183051687 tw2003570304828141162 tw5690868845344635188 tw10669103495145712171 tw1593389608278957199 tw15641702794510144981 tw1771688014679528835 tw6848916658455922442 tw7993246925858513664 tw14388855995074190337 tw3782395594265187940 tw11811132985881048599 tw3427345093041106859 tw5174944874561253489 tw12143160903257584154 tw445974797528577245 tw12111328641380428235 tw4799150114030568341 tw17441345263191339737 tw18113605497926679950 tw2722314211581278202 tw8377092881164762310 tw7772661912738416688 tw13457701305254134059 tw13782597365643072946 tw7479740232725730900 tw2071416680404283653 tw13992087929037164495 tw17990436142947883670 tw12735431868070211140 tw13507040161321832169 tw15250736715230971720 tw2293517174091973914 tw7668177468591457145 tw12030093259188882215 tw7665784150801158743 tw13337503149302969800 tw17378125129490464269 tw15509716822843387022 tw10306818667601507347 tw17178783321632484730 tw5131278366113565242 tw17822710625369132172 tw5723660324824039392 tw5540387227335824849 tw7485554480190085564 tw11879218267915104255 tw390344370769379797 tw15442279479061388638 tw5481712248857307034 tw616989678853575336 tw14355260639161033257 tw5471066006400493388 tw17072137869720416794 tw458662692388154849 tw432867261199117551 tw10552732427480504907 tw7220602553707349552 tw17391773066562868055 tw5374524091116603429 tw13812334963854006264 tw15453023646078256513 tw7764821487963565724 tw5304598250543436937 tw7093381797637583349 tw533747268414190756 tw1243886088725961085 tw2613352117172296470 tw13963487651843749581 tw12811565607257636117 tw5810885133682329541 tw17792451739386839781 tw15062091827321721585 tw1123411361555769777 tw4296063157175234331 tw6085472650410569080 tw8828562861226888755 tw5473099494938119245 tw10640356924400856545 tw17003963374378284256 tw13294336196225924676 tw4190060499706514613 tw14171170700982961741 tw11508934485616175826 tw4972662649557165654 tw16499443779187012064 tw4995851247328903695 tw14076446614587089439 tw8484523645330279395 tw5794970706767662964 tw5450770379489473993 tw1773899998100587489 tw8623183246661780009 tw4731891384338713583 tw11801737399574732398 tw11249776672737227459 tw6312403177405035179 tw8079180541114998838 tw12849180128317340381 tw16108872927506089297 tw9186323293589980393 tw6979269897752090776 tw2437261653714135389 tw195061821278199838 tw1850240883467225551 tw7040498544834876144 tw14473222619558803612 tw16138158539399251018 tw6043580835085569511 tw14560286929356788713 tw11282075631622339814 tw14059177278066183824 tw15072558635021695366 tw11774776385754027354 tw4171265913386878804 tw10936839241399605943 tw2059654263761816125 tw1447258865536231120 tw12521844992018869103 tw10668800985087148868 tw17221434137080495640 tw15368213468102302269 tw8271463763718262440 tw1456582791623943632 tw6714593655116975271 tw5678482873354238244 tw277776715992424076 tw8582015523395221506 tw2096515161777361227 tw10070736518743353446 tw16203024660989448580 tw11009310444877665172 tw2217397014604333921 tw6646420976261550617 tw13850375444106353963 tw16071806596413097679 tw13003004415482749214 tw16399367223774280845 tw17657398611131226016 tw17010495009337052354 tw20599189774846870 tw15614282770584508857 tw5745683638483994799 tw3696589352173923103 tw13075764270014530124 tw3589289989897623884 tw13371257511543297705 tw14747207777872824583 tw10554041130990296835 tw16540806319916579632 tw16279781735150243913 tw8265117063066806188 tw12344000202704012064 tw288426192298894933 tw5048802809681862128 tw2068979085704555936 tw7011927862297072707 tw10892881645490985808 tw13593252535526663687 tw4210607678702806749 tw1694338850592488426 tw5832663671055509519 tw11701194450720716312 tw12158623735076703368 tw4208890025151466033 tw1979693099108547559 tw9914647672775759556 tw10434685965369196377 tw3130704195502556865 tw11218472097430625977 tw11627074532461787714 tw6178613006738503486 tw16470910450731141862 tw16245537414422199320 tw6337783836061069962 tw13265187182134836292 tw12384818674915910912 tw4501380007289447781 tw1025932637145185117 tw17798914828722324145 tw9881983369608427755 tw6815530365110716795 tw4281624447126898967 tw8878345039409080757 tw3717139814351773550 tw16912171855781199219 tw7816113980213864540 tw16476251987122387665 tw10805061279198990734 tw15734796067929193792 tw3201056227541251919 tw10035066145493130673 tw14525975879212572955 tw10775050082376633560 tw5709526241280122128 tw2032732471448595777 tw929123142626165605 tw11125976558500110520 tw5538075291367063782 tw6916002123121920008 tw8731175115544182538 tw12039368809775462696 tw666656424066590899 tw16058575284375148649 tw8772422496087511800 tw11008066013312318951 tw664191122706109871 tw1616488702417264449 tw6327732624677649219 tw15111169741971043508 tw3047343532143722522 tw2074853721687721517 tw13389885485720931899 tw16868052001694407924 tw13320635357633461321 tw5045656875548321665 tw17147871670228422589 tw14518605084258919997 tw15409627689828528800 tw3276867698163865680 tw10414872459060661605 tw6405255226654295915 tw2958978481210586388 tw15530305620458553963 tw6712486186817702368 tw10250864091317039933 tw3329324377455021635 tw15931391734063153509 tw11131437577520852053 tw9202543699326642372 tw12245534199499247780 tw13993708240888048978 tw12704315015551328970 tw4821054765763313192 tw8855724227930929453 tw1382218641757672847 tw9876200300481756848 tw6124116134166069897 tw9814211828204326580 tw2586812053328508051 tw15238074775493089412 tw6800782838831618906 tw11534378612685480834 tw5294009252890861493 tw6382951526587537679 tw2174835139257993034 tw2524497731196683056 tw11489749107243104662 tw3545828760566141774 tw12888096319573321087 tw4089045598427473986 tw16213461470098840049 tw2525658003216780814 tw10368668274365682887 tw150430502418730356 tw7043026661263473727 tw7827299499585922720 tw13476583507435138318 tw14142656135901133919 tw1629348747142278632 tw5633257214032454004 tw14552921061301325878 tw11774251574396678335 tw14195413751417373793 tw15689623056408599892 tw15522748349051536920 tw17208498542338510553 tw3583174690329947232 tw1859704962786019295 tw13139708884501525719 tw16387682759773867341 tw9519854256954940578 tw14277836458089555042 tw13367765674257763608 tw9233764930210655366 tw4292983373868534502 tw10806561344963714806 tw2273008234088312392 tw15086887330519062415 tw13886048078312787617 tw17796700200962005516 tw7697198281650732090 tw9838077572225464943 tw8884183521177585638 tw3613714608546273862 tw15468740156991595211 tw15075804345791662337 tw3390844383033614294 tw3674576490691921080 tw13559658399644499336 tw6436996617381056076 tw5572085365290622579 tw429237181371073660 tw1650380334245261764 tw2392659807236011955 tw8174523268455035413 tw13398867720539729719 tw14464189633770760871 tw140849728826360580 tw17683594552100996991 tw15269971768129155663 tw11003450240567336895 tw17728398286046252705 tw616994916311877077 tw7953621270693806031 tw487269846934716996 tw9044478440261685020 tw549536636737571590 tw185179588444152568 tw4792777874483491237 tw5878469190934292551 tw13555627902265503878 tw4560205900707854042 tw10656460553934654515 tw12083759732258529808 tw17356811824577461646 tw10977391461150913671 tw7439015891835027677 tw17898548296067733605 tw249809092162014310 tw12876373683687451723 tw993486278949251696 tw10414428403730247140 tw7519376311032677038 tw11363394320320743473 tw10639903229391028790 tw11502468087642260041 tw1388702464499910824 tw16475832234759021792 tw8370615844315580222 tw16579097433776423216 tw16713886075439856830 tw10814361209500517587 tw17880939321956060001 tw15709721154061349120 tw13284720656616156383 tw16745463832803440388 tw452976298330252850 tw13894385053351417597 tw10118294668314186023 tw17949564281940048872 tw4824660127038662828 tw3988806312274787005 tw4178960074596822372 tw4425074243340476523 tw16214493367352818903 tw2573047731812939112 tw16600769413830261934 tw5937579127728211615 tw13718000991037527336 tw7420042559746693698 tw17031054095795540831 tw1268468638710267854 tw11759486182735820732 tw7517185258703271295 tw16374979514953153622 tw16455231560758596420 tw3092201089366221111 tw4781633962338230381 tw18068521128192311375 tw12219634469967835905 tw17647149101398883958 tw5588138006661958839 tw6553687656947508407 tw13502849521061589672 tw12453081835372941551 tw2482264602528974030 tw4807591612102806591 tw12020789609081399565 tw13257441090417644991 tw8197170690331929862 tw9256861701750234251 tw3713221147389205144 tw8393525035792386206 tw4198916623257679482 tw4384123873649555885 tw16319564327848301777 tw15028342746653746281 tw10286428699519558890 tw3593508733482815010 tw11579131788371092881 tw10677209615843123831 tw17451040968104689802 tw2901277938405256115 tw10297543310643161410 tw14402537190225394663 tw7948653961260467905 tw17477354257257444418 tw11896640914470269119 tw8815616863149699818 tw11930183060057785139 tw17056490256440275945 tw16368675544195075176 tw9023483105485432628 tw881207451967351908 tw10941329510133908088 tw1197402698515714570 tw3907666848964528294 tw9502430705606856786 tw3343636453284238741 tw10719042021307483840 tw15938844436987576948 tw3043370675765375807 tw4806806121464391786 tw12521150009831588013 tw13610250572783452130 tw17926667089923082639 tw5830758250504493107 tw236991828475169777 tw6049691997212364435 tw3179674590291557929 tw1590130675536961895 tw2083549489748669817 tw4541391762292310643 tw14445229877816054690 tw2108252528993610363 tw7833329347683744170 tw16215173071193055342 tw12322110129076554640 tw6358407844239913407 tw16722063984269846250 tw16024717963469720576 tw6595379795883001770 tw151233130007329525 tw10941177222226609749 tw2286173680668682601 tw11536509545127778324 tw15238777875850049986 tw11815843641933684057 tw14832089492157931497 tw4475446532646787663 tw18134256988797181882 tw12829739970368552242 tw5055574506885242502 tw9565072030946140044 tw10413932461745129171 tw11598738890836327941 tw16267572172506534738 tw9227641384242258615 tw12276550240569431593 tw6669350861173596906 tw12585085791849920846 tw16210661988387158441 tw8088275338721198119 tw16701690892617097184 tw14642263299388739211 tw16836215742211609116 tw5296896754939285656 tw3475699168693916688 tw17878946367995975247 tw12725492963364200353 tw415472672569060605 tw2128251016746286491 tw9912281752391001247 tw17547490823570096138 tw3682002134492936053 tw13121316578411526619 tw11804334716286002805 tw17213022292291510055 tw7196344384155145362 tw18104804830661438012 tw17320689775043314259 tw15407766115450861658 tw3615711824992484260 tw7679453186007454010 tw15489864529905889705 tw15350929437927272134 tw11126692738735240832 tw6859871201147900371 tw18425979747893274091 tw8875937711106922485 tw14841466843331845465 tw6262806433211302482 tw17511259883089643194 tw9109419936442893677 tw1685524051621051979 tw14004571475985445691 tw15860404104420493331 tw16849095958685808371 tw6063530713243809790 tw10892354331588047388 tw7656890523939366544 tw13352288684979159604 tw688661586759659520 tw6849275360465474796 tw1523252597346218641 tw4531388610862535058 tw7641794668590820089 tw11104845244270602601 tw265779375546655435 tw11051572440527370134 tw90658393962610641 tw12522159561929124873 tw11531800123447109705 tw9296047333805704635 tw35782704088433753 tw8023647543901399430 tw13018390623102458390 tw2088449971481140049 tw7729557233486736909 tw6779825191006178596 tw16665924117771078037 tw7947411345656444676 tw7856526813368930000 tw14061785938429855282 tw4539487530238498766 tw2800632360001628302 tw6192501312006431969 tw11751421013187428972 tw14541964964327031792 tw18073788832939481873 tw6606463509568625525 tw12945708031944934476 tw15314018116713527338 tw13304272878810296553 tw3341192351702388286 tw12701019536706556025 tw17536583042403468884 tw8072330236841740532 tw7148351564275608763 tw7754253819912255531 tw9824282860052888124 tw6598601676603255925 tw9180776894500675552 tw13996504486847914313 tw4091142603591507721 tw3352523651101737371 tw1542529589314580642 tw6676885212905478356 tw16671161570917534391 tw12911456572388716707 tw8299872832921827471 tw3130571274938753359 tw3393846458255745949 tw14578701597316397949 tw8172405997703655124 tw11429830428682545575 tw5936305952816187793 tw4417198167878183719 tw16962872669254074343 tw3135182536579128757 tw7424622545804787658 tw15095165024316660984 tw2407809081643043309 tw5172232157046915238 tw7034283125127395740 tw16632491997176831004 tw5328168833172151496 tw5854327510753336405 tw7226033111705273376 tw6897126008710985050 tw17430307975288828387 tw3930594108572373867 tw7482778938601615687 tw4599819971565595482 tw9842003185271458244 tw6656037244782915547 tw7075958664745695174 tw8976575703544953441 tw12216993792841019195 tw7709560555204023330 tw18263001556375821012 tw14847766725819959519 tw8509055674338003426 tw9320213562689964388 tw13096470421264334664 tw4541842198064670038 tw1966610129573854702 tw16395417763556209407 tw10804453148652921810 tw15187063976503605480 tw10262204886706326330 tw11359054699663270413 tw10134150964915271846 tw12734874801433802089 tw13281681501237133330 tw10176470695276405719 tw7966783531186475499 tw16365495529995441001 tw11434858044120708838 tw14990650972657721250 tw6632557440065465189 tw15464710685832280739 tw11590096926964224312 tw11113286813489243021 tw9705165253408687667 tw8385334058579968909 tw1400371517905892331 tw11009762401345361229 tw16536641776860396474 tw15864681554125505621 tw15823113299556055694 tw16697307881979604739 tw1868673371048592747 tw8076420084361308302 tw9514154857257951424 tw3374744904896192790 tw10035997795381000026 tw5320984828067812471 tw15700208094328571747 tw10213754103138331650 tw6369653200688981038 tw10846663131105438898 tw697106320849997934 tw9879706658244617344 tw15632809309131496608 tw7325372552362245745 tw8228988403455467756 tw6220370453568382806 tw17957096105251224521 tw11353805024144620947 tw12720427802567174217 tw1881485958400065587 tw18366006445325115378 tw12124849738720797932 tw11744946931673308140 tw17019666896335698457 tw6511456017320903889 tw1864761553234752263 tw6664500272832830210 tw6639674351959225631 tw11063597623224981748 tw5844050894062481240 tw10661907381040772502 tw8215876935018019857 tw2500361853028564562 tw7647383479466691131 tw630205113073679295 tw11876389759712305486 tw15720059802359884803 tw5097882957759750971 tw12016597828092631894 tw5855085567442722605 tw18381387640186359478 tw8585276202473857188 tw9278380527192170114 tw8167450525735784244 tw6973595323506990014 tw5492860395162604854 tw10179242817630985134 tw6959960638531077266 tw1378984621246178681 tw13571032257594389254 tw5224098103778269980 tw4569979078465327788 tw13037613484020358040 tw9624069668929911485 tw1688418773536534135 tw5761275823606692382 tw13114074899649958081 tw5774861820432216198 tw10503884383575431615 tw17732316690848210366 tw1486046012886464084 tw4367271804838328135 tw14722926954782175369 tw17742702911343571988 tw13739409514164743160 tw17540048784059770792 tw2008441207857990466 tw3218039681005339647 tw11532155037395411049 tw16358259415199892592 tw5508604997232798305 tw2807514488303437963 tw9314804704642825258 tw12351319594177053625 tw5153216239485820596 tw17381057968432933233 tw7807192713422286109 tw1380461574027297109 tw8719535434123242846 tw16598870206001446125 tw15482224381024608233 tw12334136155915873448 tw637627767511792159 tw13714212026846447023 tw16091915058255262039 tw2949603683415812180 tw11904300951327830807 tw8719587390360139658 tw4793706643788640738 tw8917558598651060429 tw12355477243826178710 tw8092736572458815560 tw14432828686509903677 tw1369838424948126199 tw12713404874570494688 tw11525792798620422972 tw13992043091803789998 tw14107054421216615966 tw16479986401950771256 tw16383089940342073472 tw972514005550924372 tw7291355700193588313 tw1213627763986827509 tw17109801824472732312 tw6359859512895809322 tw11822859773021194184 tw13685572875212768224 tw16077867802499449966 tw13789599279843414297 tw15276253537768128950 tw5393803258380216037 tw5271299591809366221 tw12632922927686711540 tw1221873837624418459 tw11785341049640944608 tw10135593569327531610 tw2719777750908172642 tw9331665180964481699 tw3648224477324164417 tw8737962844807809968 tw16150353286558461244 tw17169483833576009914 tw8880575989406452585 tw17574144708501670841 tw3562491913236599788 tw6897002078316572427 tw17706010947702962658 tw1394292356272195489 tw16555675971536761722 tw11986414028822632567 tw11704840831529198817 tw8379125996123901950 tw8522144533501655252 tw13211749373405935701 tw15285022944918759018 tw3196521337349402305 tw2158556719528932227 tw13507030729457901677 tw7551775196427158832 tw3246461211728347931 tw11061219416836059288 tw17868916486512983817 tw18199901684423675276 tw3921717521482087281 tw6581787412147457102 tw848814377061935863 tw2136660711505489414 tw2695637920864247630 tw10120236221881188316 tw8702206107313136022 tw819419227679251236 tw12715172995514111849 tw375883881966869389 tw12681117333980491834 tw12199446987002927848 tw18188462466817246236 tw17173599047143692635 tw2173630799924367138 tw13229629432581773980 tw16281410747940777903 tw8724625019346484026 tw2236010577053726455 tw12006281822764104604 tw7439867741930735601 tw14257862786250501265 tw7417194020976907808 tw5999937596746059275 tw13334303044753114821 tw11942290390922748246 tw11910858917503101561 tw3586150512548847599 tw3703142376762814243 tw11433783513149935927 tw15016211048819124517 tw7078951444899403909 tw18343086602783607956 tw1879282670944037771 tw8085065835917799681 tw17121186840063095522 tw6417994951775839858 tw15751766817244187425 tw16514217989036478777 tw1386751321348761481 tw1190051597970015147 tw4194341495074228036 tw242863540788767131 tw13028218838260582323 tw7800594630736745502 tw2136546620833541486:True)
open PySem PySem.W PyProof.Rows
set_option maxRecDepth 100000 in
set_option maxHeartbeats 0 in
theorem PySem.Challenge.cw_rowjudge_k72_books_refused_holds : PySem.Challenge.rw_rowjudge_k72_books_refused.Holds := by
 w_on;o_law;k_head;(case hw=>w_witness2)
 k_fill
 refine My.walk (l:=PySem.Challenge.rw_rowjudge_k72_books_refused) rfl rfl (λw h Y=>PySem.W.kIn_of Y) ?F
 case F =>
  intro w mg fa h KX G hmg;refine' My.all_mk KX G hmg ?dk ?fI ?fJ ?gN ?lI ?gO ?ib ?jU ?jV ?mX ?jW ?mY ?eM ?eJ ?ie ?ig ?jX ?a0 ?l0 ?c0 ?k0 ?a1 ?l1 ?c1 ?k1 ?a2 ?l2 ?c2 ?k2 ?a3 ?l3 ?c3 ?k3 ?a4 ?l4 ?c4 ?k4 ?a5 ?l5 ?c5 ?k5 ?a6 ?l6 ?c6 ?k6 ?a7 ?l7 ?c7 ?k7 ?a8 ?l8 ?c8 ?k8 ?a9 ?l9 ?c9 ?k9 ?a10 ?l10 ?c10 ?k10 ?a11 ?l11 ?c11 ?k11 ?a12 ?l12 ?c12 ?k12 ?a13 ?l13 ?c13 ?k13 ?a14 ?l14 ?c14 ?k14 ?a15 ?l15 ?c15 ?k15 ?a16 ?l16 ?c16 ?k16 ?a17 ?l17 ?c17 ?k17 ?a18 ?l18 ?c18 ?k18 ?a19 ?l19 ?c19 ?k19 ?a20 ?l20 ?c20 ?k20 ?a21 ?l21 ?c21 ?k21 ?a22 ?l22 ?c22 ?k22 ?a23 ?l23 ?c23 ?k23 ?a24 ?l24 ?c24 ?k24 ?a25 ?l25 ?c25 ?k25 ?a26 ?l26 ?c26 ?k26 ?a27 ?l27 ?c27 ?k27 ?a28 ?l28 ?c28 ?k28 ?i29 ?xv ?xw ?xx ?l29 ?c29 ?k29 ?i30 ?xy ?xA ?xB ?l30 ?c30 ?k30 ?uo ?uq ?ur ?l31 ?c31 ?k31 ?i32 ?xC ?xD ?xE ?l32 ?c32 ?k32 ?uu ?uv ?uw ?l33 ?c33 ?k33 ?i34 ?xF ?xG ?xH ?l34 ?c34 ?k34 ?i35 ?xI ?xJ ?xK ?l35 ?c35 ?k35 ?ux ?uy ?uz ?l36 ?c36 ?k36 ?i37 ?xM ?xN ?xO ?l37 ?c37 ?k37 ?uB ?uC ?uD ?l38 ?c38 ?k38 ?i39 ?xP ?xQ ?xR ?l39 ?c39 ?k39 ?uE ?uF ?uG ?l40 ?c40 ?k40 ?i41 ?xS ?xT ?xU ?l41 ?c41 ?k41 ?uH ?uI ?uJ ?l42 ?c42 ?k42 ?i43 ?xV ?xW ?xX ?l43 ?c43 ?k43 ?uK ?uL ?uM ?l44 ?c44 ?k44 ?i45 ?xY ?xZ ?ya ?l45 ?c45 ?k45 ?uN ?uO ?uP ?l46 ?c46 ?k46 ?m47 ?yb ?l47 ?c47 ?k47 ?m48 ?yc ?l48 ?c48 ?k48 ?a49 ?l49 ?c49 ?k49 ?z0 ?z1 ?z2 ?z3 ?z4 ?z5 ?z6 ?z7 ?z8 ?z9 ?z10 ?z11 ?y0 ?x0 ?y1 ?x1 ?y2 ?x2 ?y3 ?x3 ?y4 ?x4 ?y5 ?x5 ?y6 ?x6 ?x_TooMany ?iS ?iT ?iU ?iV ?iW ?iX ?iY ?iZ ?x_BadName ?i0 ?i3 ?i4 ?i5 ?i6 ?i7 ?ja ?jb ?x_Unlike ?jZ ?j0 ?kb ?kc ?kf ?kg ?kh ?ki ?x_Ring ?oi ?oj ?om ?oo ?oq ?ot ?ox ?oy ?jw ?jx ?jy ?jz ?kM ?kN ?kO ?kP ?kQ ?kR ?kS ?kT ?oz ?oA ?oB ?oC ?kU ?kW ?kX ?kY ?oE ?oF ?oG ?oH ?gs ?gu ?gv ?gw ?jA ?jB ?jC ?jD ?jE ?jF ?jG ?jH ?kZ ?lg ?lh ?lj ?lT ?lU ?lV ?lW ?oI ?oJ ?oK ?oM ?oN ?oO ?oP ?oQ ?qx ?qy ?qz ?qA ?oR ?oS ?oU ?oV ?qB ?qC ?qD ?qF ?jc ?jd ?je ?jf ?lX ?lY ?lZ ?md ?mf ?mh ?mi ?mj ?oW ?oX ?oY ?oZ ?na_First_called ?na_Only_called ?na_Like_called ?na_Low_called ?na_High_called ?na_Sum_called ?na_Numbers_low ?na_Numbers_high ?cV ?na_Words_low ?na_Words_high ?na_Words_words ?na_Table_name ?na_Table_names ?na_Table_domains ?na_Table_outcome ?na_Table_way ?na_Table_rows ?na_Book_facts ?na_Book_tables ?f_nn ?f_wn ?f_ww ?vi ?f_nw ?e_TooMany ?v_TooMany ?g_TooMany_TooMany ?g_TooMany_BadName ?g_TooMany_Unlike ?g_TooMany_Ring ?e_BadName ?v_BadName ?g_BadName_TooMany ?g_BadName_BadName ?g_BadName_Unlike ?g_BadName_Ring ?e_Unlike ?v_Unlike ?g_Unlike_TooMany ?g_Unlike_BadName ?g_Unlike_Unlike ?g_Unlike_Ring ?e_Ring ?v_Ring ?g_Ring_TooMany ?g_Ring_BadName ?g_Ring_Unlike ?g_Ring_Ring
  (case dk|fI|fJ|gN|lI|gO|ib|jU|jV|mX|jW|mY|eM|eJ|ie|ig|jX=>k_is)
  (case a0=>k_is);(case l0=>k_is);(case c0=>k_is);(case k0=>k_is)
  (case a1=>k_is);(case l1=>k_is);(case c1=>k_is);(case k1=>k_is)
  (case a2=>k_is);(case l2=>k_is);(case c2=>k_is);(case k2=>k_is)
  (case a3=>k_is);(case l3=>k_is);(case c3=>k_is);(case k3=>k_is)
  (case a4=>k_is);(case l4=>k_is);(case c4=>k_is);(case k4=>k_is)
  (case a5=>k_is);(case l5=>k_is);(case c5=>k_is);(case k5=>k_is)
  (case a6=>k_is);(case l6=>k_is);(case c6=>k_is);(case k6=>k_is)
  (case a7=>k_is);(case l7=>k_is);(case c7=>k_is);(case k7=>k_is)
  (case a8=>k_is);(case l8=>k_is);(case c8=>k_is);(case k8=>k_is)
  (case a9=>k_is);(case l9=>k_is);(case c9=>k_is);(case k9=>k_is)
  (case a10=>k_is);(case l10=>k_is);(case c10=>k_is);(case k10=>k_is)
  (case a11=>k_is);(case l11=>k_is);(case c11=>k_is);(case k11=>k_is)
  (case a12=>k_is);(case l12=>k_is);(case c12=>k_is);(case k12=>k_is)
  (case a13=>k_is);(case l13=>k_is);(case c13=>k_is);(case k13=>k_is)
  (case a14=>k_is);(case l14=>k_is);(case c14=>k_is);(case k14=>k_is)
  (case a15=>k_is);(case l15=>k_is);(case c15=>k_is);(case k15=>k_is)
  (case a16=>k_is);(case l16=>k_is);(case c16=>k_is);(case k16=>k_is)
  (case a17=>k_is);(case l17=>k_is);(case c17=>k_is);(case k17=>k_is)
  (case a18=>k_is);(case l18=>k_is);(case c18=>k_is);(case k18=>k_is)
  (case a19=>k_is);(case l19=>k_is);(case c19=>k_is);(case k19=>k_is)
  (case a20=>k_is);(case l20=>k_is);(case c20=>k_is);(case k20=>k_is)
  (case a21=>k_is);(case l21=>k_is);(case c21=>k_is);(case k21=>k_is)
  (case a22=>k_is);(case l22=>k_is);(case c22=>k_is);(case k22=>k_is)
  (case a23=>k_is);(case l23=>k_is);(case c23=>k_is);(case k23=>k_is)
  (case a24=>k_is);(case l24=>k_is);(case c24=>k_is);(case k24=>k_is)
  (case a25=>k_is);(case l25=>k_is);(case c25=>k_is);(case k25=>k_is)
  (case a26=>k_is);(case l26=>k_is);(case c26=>k_is);(case k26=>k_is)
  (case a27=>k_is);(case l27=>k_is);(case c27=>k_is);(case k27=>k_is)
  (case a28=>k_is);(case l28=>k_is);(case c28=>k_is);(case k28=>k_is)
  (case i29=>k_is);(case xv=>k_is);(case xw=>k_is);(case xx=>k_is);(case l29=>k_is);(case c29=>k_is);(case k29=>k_is)
  (case i30=>k_is);(case xy=>k_is);(case xA=>k_is);(case xB=>k_is);(case l30=>k_is);(case c30=>k_is);(case k30=>k_is)
  (case uo=>k_is);(case uq=>k_is);(case ur=>k_is);(case l31=>k_is);(case c31=>k_is);(case k31=>k_is)
  (case i32=>k_is);(case xC=>k_is);(case xD=>k_is);(case xE=>k_is);(case l32=>k_is);(case c32=>k_is);(case k32=>k_is)
  (case uu=>k_is);(case uv=>k_is);(case uw=>k_is);(case l33=>k_is);(case c33=>k_is);(case k33=>k_is)
  (case i34=>k_is);(case xF=>k_is);(case xG=>k_is);(case xH=>k_is);(case l34=>k_is);(case c34=>k_is);(case k34=>k_is)
  (case i35=>k_is);(case xI=>k_is);(case xJ=>k_is);(case xK=>k_is);(case l35=>k_is);(case c35=>k_is);(case k35=>k_is)
  (case ux=>k_is);(case uy=>k_is);(case uz=>k_is);(case l36=>k_is);(case c36=>k_is);(case k36=>k_is)
  (case i37=>k_is);(case xM=>k_is);(case xN=>k_is);(case xO=>k_is);(case l37=>k_is);(case c37=>k_is);(case k37=>k_is)
  (case uB=>k_is);(case uC=>k_is);(case uD=>k_is);(case l38=>k_is);(case c38=>k_is);(case k38=>k_is)
  (case i39=>k_is);(case xP=>k_is);(case xQ=>k_is);(case xR=>k_is);(case l39=>k_is);(case c39=>k_is);(case k39=>k_is)
  (case uE=>k_is);(case uF=>k_is);(case uG=>k_is);(case l40=>k_is);(case c40=>k_is);(case k40=>k_is)
  (case i41=>k_is);(case xS=>k_is);(case xT=>k_is);(case xU=>k_is);(case l41=>k_is);(case c41=>k_is);(case k41=>k_is)
  (case uH=>k_is);(case uI=>k_is);(case uJ=>k_is);(case l42=>k_is);(case c42=>k_is);(case k42=>k_is)
  (case i43=>k_is);(case xV=>k_is);(case xW=>k_is);(case xX=>k_is);(case l43=>k_is);(case c43=>k_is);(case k43=>k_is)
  (case uK=>k_is);(case uL=>k_is);(case uM=>k_is);(case l44=>k_is);(case c44=>k_is);(case k44=>k_is)
  (case i45=>k_is);(case xY=>k_is);(case xZ=>k_is);(case ya=>k_is);(case l45=>k_is);(case c45=>k_is);(case k45=>k_is)
  (case uN=>k_is);(case uO=>k_is);(case uP=>k_is);(case l46=>k_is);(case c46=>k_is);(case k46=>k_is)
  (case m47=>k_is);(case yb=>k_is);(case l47=>k_is);(case c47=>k_is);(case k47=>k_is)
  (case m48=>k_is);(case yc=>k_is);(case l48=>k_is);(case c48=>k_is);(case k48=>k_is)
  (case a49=>k_is);(case l49=>k_is);(case c49=>k_is);(case k49=>k_is)
  (case z0|z1|z2|z3|z4|z5|z6|z7|z8|z9|z10|z11|y0=>k_is)
  (case x0=>exact⟨_,rfl⟩)
  (case y1=>k_is)
  (case x1=>exact⟨_,rfl⟩)
  (case y2=>k_is)
  (case x2=>exact⟨_,rfl⟩)
  (case y3=>k_is)
  (case x3=>exact⟨_,rfl⟩)
  (case y4=>k_is)
  (case x4=>exact⟨_,rfl⟩)
  (case y5=>k_is)
  (case x5=>exact⟨_,rfl⟩)
  (case y6=>k_is)
  (case x6=>exact⟨_,rfl⟩)
  (case jw|jx|jy|jz|kM|kN|kO|kP|kQ|kR|kS|kT|oz|oA|oB|oC|kU|kW|kX|kY|oE|oF|oG|oH|gs|gu|gv|gw|jA|jB|jC|jD|jE|jF|jG|jH|kZ|lg|lh|lj|lT|lU|lV|lW|oI|oJ|oK|oM|oN|oO|oP|oQ|qx|qy|qz|qA|oR|oS|oU|oV|qB|qC|qD|qF|jc|jd|je|jf|lX|lY|lZ|md|mf|mh|mi|mj|oW|oX|oY|oZ|na_First_called|na_Only_called|na_Like_called|na_Low_called|na_High_called|na_Sum_called|na_Numbers_low|na_Numbers_high|cV|na_Words_low|na_Words_high|na_Words_words|na_Table_name|na_Table_names|na_Table_domains|na_Table_outcome|na_Table_way|na_Table_rows|na_Book_facts|na_Book_tables=>first|k_is|rfl|with_unfolding_all rfl)
  (case x_TooMany=>first|rfl|with_unfolding_all rfl)
  (case iS|iT|iU|iV|iW|iX|iY|iZ=>first|k_is|rfl|with_unfolding_all rfl)
  (case x_BadName=>first|rfl|with_unfolding_all rfl)
  (case i0|i3|i4|i5|i6|i7|ja|jb=>first|k_is|rfl|with_unfolding_all rfl)
  (case x_Unlike=>first|rfl|with_unfolding_all rfl)
  (case jZ|j0|kb|kc|kf|kg|kh|ki=>first|k_is|rfl|with_unfolding_all rfl)
  (case x_Ring=>first|rfl|with_unfolding_all rfl)
  (case oi|oj|om|oo|oq|ot|ox|oy|f_nn|f_wn|f_ww|vi|f_nw|e_TooMany|v_TooMany|g_TooMany_TooMany|g_TooMany_BadName|g_TooMany_Unlike|g_TooMany_Ring|e_BadName|v_BadName|g_BadName_TooMany|g_BadName_BadName|g_BadName_Unlike|g_BadName_Ring|e_Unlike|v_Unlike|g_Unlike_TooMany|g_Unlike_BadName|g_Unlike_Unlike|g_Unlike_Ring|e_Ring|v_Ring|g_Ring_TooMany|g_Ring_BadName|g_Ring_Unlike|g_Ring_Ring=>first|k_is|rfl|with_unfolding_all rfl)
