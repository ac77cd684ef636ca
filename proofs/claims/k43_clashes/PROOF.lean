import PyProof.Rows.All
import Wide.All
import OpenK.AllK
import Wide.FinOn
import Lean
import PyProof.EqAt
import PyProof.EqKinds
import PyProof.TupleCall
import KE.KIntText
import KE.KTryMore
import KE.KIsAll
import PyProof.ZipIter
import KE.KRevIter
import PyProof.CollectIter
import PyProof.FactsAll.range_2
import PyProof.FactsAll.range_iterator_1
import KE.KNest
import KE.KLam
import PySem.Challenge.RW_rowjudge_k43_clashes
open List (length_map getD_eq_getElem?_getD length_append mem_cons map_append mem_cons_self mem_map size_toArray forall_mem_cons take_length mem_singleton mem_append getElem?_map length_singleton length_cons mem_cons_of_mem getElem?_append_left mem_append_right forall_mem_nil mem_range length_take all_eq_true getElem?_of_mem map_cons not_mem_nil append_nil length_zipWith mem_filter mem_append_left range_succ getElem?_zipWith filter_append filter_cons_of_pos filter_cons_of_neg getElem?_append_right getElem_mem find?_cons_of_pos find?_cons_of_neg length_filter_le reverse_reverse nodup_cons take_add_one length_range sum_cons length_replicate pairwise_cons getElem?_zip_eq_some pairwise_append getElem?_eq_none map_nil all_cons mem_flatMap pairwise_iff_getElem foldl_cons pairwise_singleton filterMap_cons of_mem_zip length_drop length_nil nodup_append nodup_nil map_fst_zip eq_nil_or_concat concat_eq_append append_assoc foldl_append getElem_inj any_eq_true)
open Nat (le_refl ne_of_lt lt_of_lt_of_le le_trans ne_of_gt zero_le lt_succ_of_lt lt_succ_self le_succ le_of_lt lt_irrefl not_lt_zero le_add_right succ_pos lt_of_succ_lt lt_of_le_of_lt mul_le_mul mod_lt pow_succ sub_self lt_or_ge not_lt)
open Array (length_toList getElem?_eq_getElem toList_push)
open Int (zero_add emod_nonneg emod_lt_of_pos toNat_natCast one_mul add_assoc add_zero mul_one pow_pos mul_zero)
open Bool (and_eq_true eq_false_iff false_eq_true)
open Option (isSome_iff_exists getD_none)
set_option Elab.async false
set_option linter.all false
set_option maxRecDepth 100000
theorem Fn{α:Type _}{l:List α}{i:Nat}(h:i<l.length):l[i]?=some l[i]:=List.getElem?_eq_getElem h
theorem Fo{α:Type _}{a:α}{l:List α}{i:Nat}:l[i]?=some a ↔ ∃h:i<l.length, l[i]=a:=List.getElem?_eq_some_iff
theorem Fp{α:Type _}{l:List α}{i:Nat}{a:α}(e:l[i]?=some a):a∈l:=List.mem_of_getElem? e
namespace L2
theorem U{α:Sort _}{a:α}:a=a:=rfl
open PySem PySem.Spec PyProof.Rows
abbrev Key:=Sum Int Str
def yn:Key->Value->Bool
 | .inl k,v=>Value.isInt k v
 | .inr x,v=>Value.isStrOf x v
def B2(w:World):Key->Int
 | .inl k=>hashInt k
 | .inr x=>hashStr w x
theorem bN:∀{k:Key}{v:Value},yn k v=true->(∃i t,k=Sum.inl i/\v=Value.int i t)\/(∃x t,k=Sum.inr x/\v=Value.str x t)
 | .inl i,v,h=>by
  obtain⟨t,e⟩:=Value.isInt_shape (k:=i) (v:=v) h;exact .inl ⟨i,t,U,e⟩
 | .inr x,v,h=>by
  obtain⟨t,e⟩:=Value.isStrOf_shape (x:=x) (v:=v) h;exact .inr ⟨x,t,U,e⟩
theorem yQ(a b:Int):decide ((Sum.inl a:Key)=Sum.inl b)=(a == b):=by
 by_cases e:a=b
 ·subst e;simp
 ·have h:¬ (Sum.inl a:Key)=Sum.inl b:=λq=>e (Sum.inl.inj q)
  rw[decide_eq_false h];exact(beq_eq_false_iff_ne.mpr e).symm
theorem yR(a b:Str):decide ((Sum.inr a:Key)=Sum.inr b)=decide (a=b):=by
 by_cases e:a=b
 ·subst e;simp
 ·have h:¬ (Sum.inr a:Key)=Sum.inr b:=λq=>e (Sum.inr.inj q)
  rw[decide_eq_false h,decide_eq_false e]
theorem yS(a:Int)(b:Str):decide ((Sum.inl a:Key)=Sum.inr b)=false:=decide_eq_false (λq=>nomatch q)
theorem yT(a:Str)(b:Int):decide ((Sum.inr a:Key)=Sum.inl b)=false:=decide_eq_false (λq=>nomatch q)
def og(prog:Program)(w:World):PySem.KeyKind prog w Key where
 is:=yn
 hash:=B2 w
 inj:=λv a b ha hb=>by
  rcases bN ha with⟨i,t,rfl,rfl⟩|⟨x,t,rfl,rfl⟩
  ·rcases bN hb with⟨j,u,rfl,e⟩|⟨y,u,rfl,e⟩
   ·injection e with e1 _;rw[e1]
   ·exact nomatch e
  ·rcases bN hb with⟨j,u,rfl,e⟩|⟨y,u,rfl,e⟩
   ·exact nomatch e
   ·injection e with e1 _;rw[e1]
 byValue:=λk v h=>by
  rcases bN h with⟨i,t,rfl,rfl⟩|⟨x,t,rfl,rfl⟩ <;> rfl
 pyHash:=λhv h=>by
  rcases bN hv with⟨i,t,rfl,rfl⟩|⟨x,t,rfl,rfl⟩
  ·exact wpAny_pyHash_int h
  ·exact wpAny_pyHash_str h
 eqBool:=λhu hv h=>by
  rcases bN hu with⟨i,t,rfl,rfl⟩|⟨x,t,rfl,rfl⟩
  ·rcases bN hv with⟨j,u,rfl,rfl⟩|⟨y,u,rfl,rfl⟩
   ·rw[yQ]at h;exact wpAny_eqBool_int h
   ·rw[yS]at h;exact SeqAt.EqAt.int_str i t y u _ _ _ _ h
  ·rcases bN hv with⟨j,u,rfl,rfl⟩|⟨y,u,rfl,rfl⟩
   ·rw[yT]at h;exact SeqAt.EqAt.str_int x t j u _ _ _ _ h
   ·rw[yR]at h;exact wpAny_eqBool_str h
 «strs»:=λk x t v h=>by
  rcases bN h with⟨i,u,rfl,e⟩|⟨y,u,rfl,e⟩
  ·exact nomatch e
  ·injection e with e1 _;subst e1;cases v <;> rfl
inductive V where
 |non|bl (b:Bool)|int (i:Int)|str (x:Str)|byt (b:Array UInt8)|flt (b:UInt64)|ref (a:Addr)|ty (n:String)
 deriving DecidableEq
def RelV:V->Value->Prop
 | .non,u=>u=Value.none
 | .bl b,u=>u=Value.bool b
 | .int i,u=>∃t,u=Value.int i t
 | .str x,u=>∃t,u=Value.str x t
 | .byt b,u=>∃t,u=Value.bytes b t
 | .flt b,u=>∃t,u=Value.float b t
 | .ref a,u=>u=Value.ref a
 | .ty n,u=>u=Value.type n
abbrev Vals:List V->List Value->Prop:=Paired RelV
theorem Vals.length{xs:List V}{us:List Value}(r:Vals xs us):xs.length=us.length:=Paired.length r
theorem Vals.get:∀{xs:List V}{us:List Value}{i:Nat}{x:V},Vals xs us->xs[i]?=some x->∃u,us[i]?=some u/\RelV x u
 |_,_,_,_,.nil,e=>by simp at e
 |_,_,0,_,.cons r _,e=>by simp at e;subst e;exact⟨_,U,r⟩
 |_,_,i+1,x,.cons _ t,e=>by
  obtain⟨u,h1,h2⟩:=Vals.get (i:=i) (x:=x) t (by simpa using e);exact⟨u,by simpa using h1,h2⟩
theorem Vals.set{x:V}{u:Value}(r:RelV x u):∀{xs:List V}{us:List Value}(i:Nat),Vals xs us->Vals (xs.set i x) (us.set i u)
 |_,_,_,.nil=>.nil
 |_,_,0,.cons _ t=>.cons r t
 |_,_,i+1,.cons q t=>.cons q (Vals.set r i t)
theorem Vals.append:∀{xs ys:List V}{us ws:List Value},Vals xs us->Vals ys ws->Vals (xs++ys) (us++ws)
 |_,_,_,_,.nil,s=>s
 |_,_,_,_,.cons r t,s=>.cons r (Vals.append t s)
theorem Vals.take:∀{xs:List V}{us:List Value}(n:Nat),Vals xs us->Vals (xs.take n) (us.take n)
 |_,_,0,_=>.nil
 |_,_,_+1,.nil=>.nil
 |_,_,n+1,.cons r t=>.cons r (Vals.take n t)
theorem Vals.drop:∀{xs:List V}{us:List Value}(n:Nat),Vals xs us->Vals (xs.drop n) (us.drop n)
 |_,_,0,r=>r
 |_,_,_+1,.nil=>.nil
 |_,_,n+1,.cons _ t=>Vals.drop n t
def mB:Option V->Option Value->Prop
 |some v,some u=>RelV v u
 |none,none=>True
 |_,_=>False
def KV{κ:Type}:List (κ×V)->List (κ×Value)->Prop:=Paired λ(p:κ×V)(q:κ×Value)=>p.1=q.1/\RelV p.2 q.2
def kV:Key->V
 | .inl i=>.int i
 | .inr x=>.str x
inductive HO where
 |lst (xs:List V)
 |tup (xs:List V)
 |dK (kvs:List (Key×V))|dT (kvs:List (List Key×V))
 |set (S:Int->Bool)(n:Nat)
 |ins (C dx:Addr)(fs:List (Str×V))
 |own (x:Addr)
 |xd (fs:List (Str×V))
 |met (f x:Addr)
 |rng (lo hi:Int)
 |frz (o:Obj)(u:HO)
 |tbl (ps:Array Value)
 |ext (φ:Heap->Prop)
abbrev Hp:=Addr->Option HO
def upd(H:Hp)(a:Addr)(o:HO):Hp:=λb=>if b=a then some o else H b
theorem ab{H:Hp}{a:Addr}{o:HO}:upd H a o a=some o:=by unfold upd;rw[if_pos U]
theorem aw{H:Hp}{a b:Addr}{o:HO}(h:b≠a):upd H a o b=H b:=by unfold upd;rw[if_neg h]
theorem xf{H:Hp}{a:Addr}{o u:HO}:upd (upd H a o) a u=upd H a u:=by
 funext b;unfold upd;split <;> rfl
theorem dA{H:Hp}{a b:Addr}{o u:HO}(h:H a=some o)(h':H b=some u)(d:o≠u):a≠b:=by
 intro e;subst e;rw[h]at h';exact d (Option.some.inj h')
theorem bj{H:Hp}{a b:Addr}{o:HO}(h:H a=some o)(h':H b=none):a≠b:=by
 intro e;subst e;rw[h]at h';cases h'
section
variable(P:Program)(w:World)
def cI(H:Hp)(h:Heap)(a:Addr):HO->Prop
 | .lst xs=>xs.length<=sizeLine/\∃(its:List Value)(n:Nat),Vals xs its/\h.get? a=some { cls:=.type "list",data:=.seq its.toArray n }
 | .tup xs=>xs.length<=sizeLine/\∃its:List Value,Vals xs its/\IsTup h a its.toArray
 | .dK kvs=>kvs.length<=sizeLine/\(a == sysModules)=false/\∃vs,KV kvs vs/\h.DictOf (og P w) a vs
 | .dT kvs=>kvs.length<=sizeLine/\(a == sysModules)=false/\∃xs:List (List Key×Addr×Value),
   Paired (λ(p:List Key×V)(q:List Key×Addr×Value)=>p.1=q.1/\H q.2.1=some (.tup (p.1.map kV))/\RelV p.2 q.2.2) kvs xs /\
   ∃o es ep,h.get? a=some o/\o.ExactDict/\o.data=.dict es ep/\es.toList=xs.map (entryOfKey (tupleKind (og P w)))/\(xs.map (·.1)).Nodup
 | .set S n=>h.SetOf (intKind P w) a S n
 | .ins C dx fs=>H dx=some (.own a)/\fs.length<=1000/\dx≠a/\h.get? a=some (W.instObj C dx) /\
   ∃mA,h.Ns1 dx mA/\(∀f,mB (fs.lookup f) (mA f))/\PySem.Within mA (fs.map (·.1))
 | .own _=>∃o,h.get? a=some o
 | .xd fs=>∃mA,h.Ns1 a mA/\∀f,mB (fs.lookup f) (mA f)
 | .rng lo hi=>∃t u v,h.get? a=some { cls:=.type "range",data:=.fields #[.int lo t,.int hi u,.int 1 v] }
 | .frz o u=>h.get? a=some o/\cI H h a u
 | .tbl ps=>h.get? a=some { cls:=.none,data:=.fields ps }
 | .met f x=>h.get? a=some (W.methodObj (.ref f) (.ref x))
 | .ext φ=>φ h/\(∃o,h.get? a=some o)/\∀h1 h2:Heap,φ h1->(∀o,h1.get? a=some o->h2.get? a=some o)->φ h2
def HOk(H:Hp)(h:Heap):Prop:=∀a o,H a=some o->cI P w H h a o
end
variable{P:Program}{w:World}{H H':Hp}{h h':Heap}{a:Addr}
section
variable{o:HO}
theorem cI.lt(x:cI P w H h a o):a<h.objs.size:=by
 cases o with
 |lst xs=>obtain⟨_,_,_,_,e⟩:=x;exact Heap.lt_size e
 |tup xs=>obtain⟨_,_,_,p⟩:=x;exact p.lt
 |dK kvs=>obtain⟨_,_,_,_,o,_,_,e,_⟩:=x;exact Heap.lt_size e
 |dT kvs=>obtain⟨_,_,_,_,o,_,_,e,_⟩:=x;exact Heap.lt_size e
 |set S n=>obtain⟨o,_,_,_,e,_⟩:=x;exact Heap.lt_size e
 |ins C dx fs=>obtain⟨_,_,_,e,_⟩:=x;exact Heap.lt_size e
 |own y=>obtain⟨_,e⟩:=x;exact Heap.lt_size e
 |xd fs=>obtain⟨_,⟨_,_,_,e,_⟩,_⟩:=x;exact Heap.lt_size e
 |rng lo hi=>obtain⟨_,_,_,e⟩:=x;exact Heap.lt_size e
 |frz ob u=>obtain⟨e,_⟩:=x;exact Heap.lt_size e
 |tbl ps=>exact Heap.lt_size (show h.get? a=some _ from x)
 |met f y=>exact Heap.lt_size (show h.get? a=some _ from x)
 |ext φ=>obtain⟨_,⟨_,e⟩,_⟩:=x;exact Heap.lt_size e
theorem Paired.mapP{α β:Type}{F G:α->β->Prop}:∀{l₁:List α}{l₂:List β},Paired F l₁ l₂->(∀a b,F a b->G a b)->Paired G l₁ l₂
 |_,_,.nil,_=>.nil
 |_,_,.cons r t,f=>.cons (f _ _ r) (Paired.mapP t f)
theorem cI.stay(x:cI P w H h a o)(k:∀b u,(b=a\/H b=some (.own a))->h.get? b=some u->h'.get? b=some u)
  (ho:∀b,H b=some (.own a)->H' b=some (.own a))(ht:∀b xs,H b=some (.tup xs)->H' b=some (.tup xs)):cI P w H' h' a o:=by
 induction o with
 |lst xs=>obtain⟨z,its,n,r,e⟩:=x;exact⟨z,its,n,r,k _ _ (.inl U) e⟩
 |tup xs=>obtain⟨z,its,r,ob,e,c⟩:=x;exact⟨z,its,r,ob,k _ _ (.inl U) e,c⟩
 |dK kvs=>obtain⟨z,y,vs,r,ob,es,ep,e,c⟩:=x;exact⟨z,y,vs,r,ob,es,ep,k _ _ (.inl U) e,c⟩
 |dT kvs =>
  obtain⟨z,y,xs,r,ob,es,ep,e,c⟩:=x;exact⟨z,y,xs,Paired.mapP r λp q z=>⟨z.1,ht _ _ z.2.1,z.2.2⟩,ob,es,ep,k _ _ (.inl U) e,c⟩
 |set S n=>obtain⟨ob,es,ep,t,e,c⟩:=x;exact⟨ob,es,ep,t,k _ _ (.inl U) e,c⟩
 |ins C dx fs =>
  obtain⟨d,z,ne,e,mA,⟨od,es,ep,e2,c⟩,r⟩:=x;exact⟨ho _ d,z,ne,k _ _ (.inl U) e,mA,⟨od,es,ep,k _ _ (.inr d) e2,c⟩,r⟩
 |own y=>obtain⟨ob,e⟩:=x;exact⟨ob,k _ _ (.inl U) e⟩
 |xd fs=>obtain⟨mA,⟨od,es,ep,e,c⟩,r⟩:=x;exact⟨mA,⟨od,es,ep,k _ _ (.inl U) e,c⟩,r⟩
 |rng lo hi=>obtain⟨t,u,v,e⟩:=x;exact⟨t,u,v,k _ _ (.inl U) e⟩
 |frz ob u ih=>obtain⟨e,q⟩:=x;exact⟨k _ _ (.inl U) e,ih q⟩
 |tbl ps =>
  have e:h.get? a=some { cls:=.none,data:=.fields ps }:=x;show h'.get? a=some { cls:=.none,data:=.fields ps };exact k a _ (.inl U) e
 |met f y =>
  have e:h.get? a=some (W.methodObj (.ref f) (.ref y)):=x;show h'.get? a=some (W.methodObj (.ref f) (.ref y));exact k a _ (.inl U) e
 |ext φ=>obtain⟨p,⟨o,e⟩,st⟩:=x;exact⟨st _ _ p λo q=>k _ _ (.inl U) q,⟨o,k _ _ (.inl U) e⟩,st⟩
theorem HOk.lt(x:HOk P w H h)(e:H a=some o):a<h.objs.size:=(x a o e).lt
theorem HOk.fresh(x:HOk P w H h)(e:h.objs.size<=a):H a=none:=by
 cases q:H a with
 |none=>rfl
 |some u=>exact absurd (lt_of_lt_of_le (x.lt q) e) (lt_irrefl _)
theorem HOk.kept(x:HOk P w H h)(k:∀b u,h.get? b=some u->h'.get? b=some u):HOk P w H h':=λa o e =>
 (x a o e).stay (λb u _ q=>k b u q) (λ_ q=>q) λ_ _ q=>q
theorem HOk.laid(x:HOk P w H h)(k:∀b u,h.get? b=some u->h'.get? b=some u)(hp:h.objs.size<=a)(new:cI P w (upd H a o) h' a o):HOk P w (upd H a o) h':=λb u e=>by
 have hn:=x.fresh hp;by_cases hb:b=a
 ·subst hb;rw[ab]at e;cases e;exact new
 ·rw[aw hb]at e;exact(x b u e).stay (λc v _ q=>k c v q) (λc q=>by rw[aw (bj q hn)];exact q) λc xs q=>by rw[aw (bj q hn)];exact q
end
def Rd(H:Hp)(a:Addr)(u:HO):Prop:=H a=some u\/∃o,H a=some (.frz o u)
theorem Rd.ok{P:Program}{w:World}{H:Hp}{h:Heap}{a:Addr}{u:HO}(r:Rd H a u)(x:HOk P w H h):cI P w H h a u:=by
 rcases r with r|⟨o,r⟩
 ·exact x a u r
 ·obtain⟨_,q⟩:=x a _ r;exact q
def Mut:Option HO->Prop
 |some (.lst _)=>True
 |some (.dK _)=>True
 |some (.dT _)=>True
 |some (.set _ _)=>True
 |some (.ins _ _ _)=>True
 |some (.ext _)=>True
 |_=>False
variable{x:Addr}
section
variable{e:Addr}{o':HO}
theorem HOk.write(ok:HOk P w H h)(mu:Mut (H x))(he:e=x\/H e=some (.own x))(k:∀b u,b≠e->h.get? b=some u->h'.get? b=some u)(heo:∃u,h'.get? e=some u)
  (new:cI P w (upd H x o') h' x o'):HOk P w (upd H x o') h':=λb u q=>by
 have Ap:∀c y,H c=some (.own y)->c≠x:=λc y r z=>by subst z;rw[r]at mu;exact mu
 have B3:∀c xs,H c=some (.tup xs)->c≠x:=λc xs r z=>by subst z;rw[r]at mu;exact mu
 by_cases hb:b=x
 ·subst hb;rw[ab]at q;cases q;exact new
 ·rw[aw hb]at q;by_cases hbe:b=e
  ·have q':H b=some (.own x):=by
    rcases he with z|z
    ·exact absurd (hbe.trans z) hb
    ·rw[hbe];exact z
   rw[q]at q';cases q';obtain⟨v,hv⟩:=heo;exact⟨v,by rw[hbe];exact hv⟩
  ·refine(ok b u q).stay (λc v hc r=>k c v ?_ r) (λc r=>by rw[aw (Ap c b r)];exact r) λc xs r=>by rw[aw (B3 c xs r)];exact r
   rcases hc with rfl|hc
   ·exact hbe
   ·rintro rfl;rcases he with z|z
    ·exact Ap c b hc z
    ·rw[hc]at z;cases z;exact hb U
end
structure Un(fs ex:List Addr)(H H':Hp)(h h':Heap):Prop where
 keep:∀b o,h.get? b=some o->H b=none->b ∉ fs->b ∉ ex->h'.get? b=some o
 slot:∀b o,h.get? b=some o->H b=none->b∈fs->b ∉ ex->∃sl,h'.get? b=some { o with slots:=sl }
 free:∀b o,h.get? b=some o->H b=none->b ∉ ex->H' b=none
 there:∀b o,h.get? b=some o->b ∉ ex->∃o',h'.get? b=some o'
 tups:∀b xs,H b=some (.tup xs)->H' b=some (.tup xs)
 frzs:∀b o u,H b=some (.frz o u)->H' b=some (.frz o u)
 tbls:∀b ps,H b=some (.tbl ps)->∃more,H' b=some (.tbl (ps++more))
section
variable{fs fs' ex ex':List Addr}{H1 H2:Hp}{h1 h2:Heap}{e:Addr}{o:HO}
theorem Un.any(u:Un fs ex H H1 h h1){b:Addr}{ob:Obj}(q:h.get? b=some ob)(n:H b=none)(hx:b ∉ ex):∃sl,h1.get? b=some { ob with slots:=sl }:=by
 by_cases hb:b∈fs
 ·exact u.slot b ob q n hb hx
 ·exact⟨ob.slots,u.keep b ob q n hb hx⟩
theorem Un.kept(k:∀b u,h.get? b=some u->h'.get? b=some u):Un fs ex H H h h' :=
 ⟨λb ob q _ _ _=>k b ob q,λb ob q _ _ _=>⟨ob.slots,k b ob q⟩,λ_ _ _ n _=>n,λb ob q _=>⟨ob,k b ob q⟩,λ_ _ q=>q,λ_ _ _ q=>q,λ_ ps q=>⟨#[],by rw[q];simp⟩⟩
theorem Un.refl:Un fs ex H H h h:=Un.kept λ_ _ q=>q
theorem Un.laid(k:∀b u,h.get? b=some u->h'.get? b=some u)(hp:h.objs.size<=a)(hn:H a=none):Un fs ex H (upd H a o) h h' where
 keep:=λb u q _ _ _=>k b u q
 slot:=λb u q _ _ _=>⟨u.slots,k b u q⟩
 free:=λb u q n _=>by rw[aw (ne_of_lt (lt_of_lt_of_le (Heap.lt_size q) hp))];exact n
 there:=λb u q _=>⟨u,k b u q⟩
 tups:=λb xs q=>by rw[aw (bj q hn)];exact q
 frzs:=λb u xs q=>by rw[aw (bj q hn)];exact q
 tbls:=λb ps q=>⟨#[],by rw[aw (bj q hn),q];simp⟩
theorem Un.write(mu:Mut (H x))(he:e=x\/H e=some (.own x))(k:∀b u,b≠e->h.get? b=some u->h'.get? b=some u)(heo:∃u,h'.get? e=some u):Un fs ex H (upd H x o) h h':=by
 have hx:∀b,H b=none->b≠x:=λb n z=>by subst z;rw[n]at mu;exact mu
 have hb:∀b,H b=none->b≠e:=λb n z=>by
  subst z;rcases he with r|r
  ·exact hx b n r
  ·rw[n]at r;cases r
 have hm:∀b u,H b=some u->¬ Mut (some u)->b≠x:=λb u q nm z=>by subst z;rw[q]at mu;exact nm mu
 refine⟨λb u q n _ _=>k b u (hb b n) q,λb u q n _ _=>⟨u.slots,k b u (hb b n) q⟩,λb u q n _=>by rw[aw (hx b n)];exact n,λb u q _=>?_,
  λb xs q=>by rw[aw (hm b _ q λz=>z)];exact q,λb u xs q=>by rw[aw (hm b _ q λz=>z)];exact q,λb ps q=>⟨#[],by rw[aw (hm b _ q λz=>z),q];simp⟩⟩
 by_cases hbe:b=e
 ·subst hbe;exact heo
 ·exact⟨u,k b u hbe q⟩
end
def trk(h:Heap)(H:Hp):List Addr:=(List.range h.objs.size).filter λa=>(H a).isSome
def kH(h:Heap)(H:Hp):Heap:=W.hideAll h (trk h H)
theorem tE(h:Heap)(H:Hp):(kH h H).objs.size=h.objs.size:=W.hideAll_size _ _
theorem uK{h:Heap}{H:Hp}{b:Addr}{o:Obj}(e:h.get? b=some o)(n:H b=none):(kH h H).get? b=some o :=
 W.hideAll_get _ e λhm=>by
  have q:(H b).isSome=true:=(mem_filter.mp hm).2;rw[n]at q;simp at q
theorem xg{h:Heap}{H:Hp}{b:Addr}{o:Obj}(e:(kH h H).get? b=some o):h.get? b=some o/\H b=none:=by
 have e':h.get? b=some o:=W.of_hideAll (trk h H) e;refine⟨e',?_⟩;cases q:H b with
 |none=>rfl
 |some x =>
  have hm:b∈trk h H:=mem_filter.mpr ⟨mem_range.mpr (Heap.lt_size e'),by simp[q]⟩;have z:(kH h H).get? b=none:=W.hideAll_none (trk h H) hm;rw[z]at e;cases e
def xh(g h:Heap)(L:Addr):List (Addr×Obj):=(List.range h.objs.size).filterMap λa=>if a=L\/(g.get? a).isSome=true then none else(h.get? a).map λo=>(a,o)
def rest(g h:Heap)(L d:Addr):List (Addr×Obj):=(xh g h L).filter λp=>decide (p.1≠d)
structure Mod(K:W.Frag)(mg:Str->Option Value)(base:Heap):Prop where
 kin:K.In base
 glob:base.Ns mainGlobals mg
 blt:∃mb,base.Ns builtinsNs mb/\∀x:Str,x ≠ "__name__" -> mb x=bootBuiltins x
 nolimit:base.NoLimit
structure Cx where
 prog:Program
 w:World
 K:W.Frag
 mg:Str->Option Value
 base:Heap
 A:Around
 N:List Str
 s₀:Shared
 H₀:Hp
 env:Env
 outer:List Env
 stack:List Env
 ex:List Addr
 fn:Str->Bool
 calm:Bool
 pn:List (Addr×Obj)
 xe:Value->Shared->Prop
def frs(l:List Env):List Addr:=l.filterMap (·.frame)
abbrev Cx.fs(X:Cx):List Addr:=frs X.outer
def Vis(sc:Scope)(x:Str):Prop:=sc.names.lookup x=some .local\/sc.names.lookup x=some .cell\/sc.names.lookup x=some .free
def Loc(sc:Scope)(x:Str):Prop:=sc.names.lookup x=some .local\/sc.names.lookup x=some .cell
def Look(env:Env)(h:Heap)(m:Str->Option Value)(x:Str)(u:Value):Prop :=
 (env.kindOf x=some .local/\m x=some u)\/((env.kindOf x=some .cell\/env.kindOf x=some .free)/\∃c,env.cells.lookup x=some c/\h.IsCell c (some u))
structure Cx.Ok(X:Cx):Prop where
 mod:Mod X.K X.mg X.base
 kind:X.env.scope.kind=.function
 glob:X.env.globals=mainGlobals
 blt:X.env.builtins=builtinsNs
 above:X.s₀.heap.objs.size<=X.env.locals
 inj:∀x y c,X.env.cells.lookup x=some c->X.env.cells.lookup y=some c->x=y
 has:∀x,(X.env.kindOf x=some .cell\/X.env.kindOf x=some .free)->∃c,X.env.cells.lookup x=some c
 cab:∀x c,X.fn x=true->X.env.cells.lookup x=some c->X.s₀.heap.objs.size<=c
 hd:X.calm=true->X.A.handled=none
 frames:X.A.frames=some X.stack
 stk:X.stack=X.outer\/(X.stack=X.env :: X.outer/\X.env.frame=some X.env.locals)
 exf:∀b∈X.ex,b≠X.env.locals/\∀x c,X.env.cells.lookup x=some c->c≠b
 bs:∀b o,X.base.get? b=some o->X.s₀.heap.get? b=some o/\X.H₀ b=none
 bsz:X.base.objs.size<=X.s₀.heap.objs.size
 noex:∀b o,X.base.get? b=some o->b ∉ X.ex
 exfs:∀b∈X.ex,b ∉ X.fs
 funs:X.s₀.heap.FunFrames X.base X.outer
 frf:∀b∈X.fs,X.H₀ b=none
structure Inv(X:Cx)(pins:List (Addr×Obj))(σ:List (Option V))(H:Hp)(s:Shared):Prop where
 ok:X.Ok
 os:s.os=X.s₀.os
 bare:AllBare s.gens
 base:Un X.fs X.ex X.H₀ H X.s₀.heap s.heap
 loc:∃m,s.heap.Ns X.env.locals m/\∀(i:Nat)(x:Str)(v:V),X.N[i]?=some x->σ[i]?=some (some v)->Vis X.env.scope x->∃u,RelV v u/\Look X.env s.heap m x u
 cell:∀x c,X.env.cells.lookup x=some c->∃v,s.heap.IsCell c v
 free:H X.env.locals=none
 freeC:∀x c,X.env.cells.lookup x=some c->H c=none
 pin:∀p∈X.pn++pins,s.heap.get? p.1=some p.2/\H p.1=none/\p.1≠X.env.locals/\p.1 ∉ X.fs/\∀v,p.2.data≠.cell v
 hok:HOk X.prog X.w H s.heap
 len:σ.length=X.N.length
variable{X:Cx}{pins:List (Addr×Obj)}{s:Shared}
section
variable{σ:List (Option V)}
theorem Cx.Ok.nofr(ok:X.Ok){b:Addr}{o:Obj}(e:X.base.get? b=some o):b ∉ X.fs:=λhb=>by
 have:=(ok.funs.mem hb).1;rw[e]at this;cases this
theorem Inv.bs(I:Inv X pins σ H s):∀b o,X.base.get? b=some o->s.heap.get? b=some o/\H b=none:=λb o e =>
 ⟨I.base.keep b o (I.ok.bs b o e).1 (I.ok.bs b o e).2 (I.ok.nofr e) (I.ok.noex b o e),I.base.free b o (I.ok.bs b o e).1 (I.ok.bs b o e).2 (I.ok.noex b o e)⟩
theorem Inv.bk(I:Inv X pins σ H s):∀b o,X.base.get? b=some o->s.heap.get? b=some o:=λb o e=>(I.bs b o e).1
theorem Inv.mod(I:Inv X pins σ H s):Mod X.K X.mg X.base:=I.ok.mod
theorem Inv.kIn(I:Inv X pins σ H s):X.K.In s.heap:=I.ok.mod.kin.keeps I.bk
theorem Inv.lt(I:Inv X pins σ H s):X.env.locals<s.heap.objs.size:=by obtain⟨_,hn,_⟩:=I.loc;exact hn.lt
theorem Inv.sz(I:Inv X pins σ H s):X.s₀.heap.objs.size<=s.heap.objs.size:=le_trans I.ok.above (le_of_lt I.lt)
theorem Inv.nofs(I:Inv X pins σ H s){a:Addr}(h:s.heap.objs.size<=a):a ∉ X.fs:=λhb=>by
 obtain⟨_,o,ho,_⟩:=I.ok.funs.mem hb;exact absurd (lt_of_lt_of_le (Heap.lt_size ho) (le_trans I.sz h)) (lt_irrefl _)
theorem Inv.cne(I:Inv X pins σ H s):∀x c,X.env.cells.lookup x=some c->c≠X.env.locals:=λx c e z=>by
 obtain⟨v,o,ho,hd⟩:=I.cell x c e;obtain⟨m,⟨o',es,ep,ho',hd',_⟩,_⟩:=I.loc;rw[z,ho']at ho;cases ho;rw[hd']at hd;cases hd
theorem Inv.funs(I:Inv X pins σ H s):s.heap.FunFrames X.base X.outer:=by
 have all:∀(l:List Env),(∀b∈frs l,b∈X.fs)->X.s₀.heap.FunFrames X.base l->s.heap.FunFrames X.base l:=by
  intro l;induction l with
  |nil=>intro _ _;trivial
  |cons env r ih =>
   intro hs hl;obtain⟨hk,⟨L,o,hf,hn,ho,hd⟩,hr⟩:=hl;have hL:L∈X.fs:=hs L (by unfold frs;rw[filterMap_cons,hf];exact mem_cons_self);obtain⟨sl,e⟩:=I.base.slot L o ho (I.ok.frf L hL) hL λz=>I.ok.exfs L z hL
   exact⟨hk,⟨L,_,hf,hn,e,hd⟩,ih (λb hb=>hs b (by unfold frs;rw[filterMap_cons,hf];exact mem_cons_of_mem _ hb)) hr⟩
 exact all X.outer (λ_ hb=>hb) I.ok.funs
theorem Inv.stack(I:Inv X pins σ H s):s.heap.FunFrames X.base X.stack:=by
 rcases I.ok.stk with e|⟨e,hf⟩
 ·rw[e];exact I.funs
 ·rw[e];obtain⟨m,hn,_⟩:=I.loc;refine .cons (by rw[I.ok.kind];decide) hf hn ?_ I.funs;exact Heap.get?_none_of_le (le_trans I.ok.bsz I.ok.above)
theorem Inv.stkSub(I:Inv X pins σ H s):∀b∈frs X.stack,b∈X.env.locals :: X.fs:=λb hb=>by
 rcases I.ok.stk with e|⟨e,hf⟩
 ·rw[e]at hb;exact mem_cons_of_mem _ hb
 ·rw[e]at hb;unfold frs at hb;rw[filterMap_cons,hf]at hb;exact hb
theorem Inv.stkFree(I:Inv X pins σ H s):∀b∈frs X.stack,H b=none:=λb hb=>by
 rcases mem_cons.mp (I.stkSub b hb)with e|hb
 ·rw[e];exact I.free
 ·obtain⟨_,o,ho,_⟩:=I.ok.funs.mem hb;exact I.base.free b o ho (I.ok.frf b hb) λz=>I.ok.exfs b z hb
theorem Inv.step{g':Array GenState}{t':Nat}{d':Drawn}{ch:List Addr}(I:Inv X pins σ H s)
  (hch:∀b∈ch,(b∈X.ex\/X.s₀.heap.objs.size<=b)/\b≠X.env.locals/\(∀x c,X.env.cells.lookup x=some c->c≠b)/\∀p∈X.pn++pins,p.1≠b)
  (keep:∀b o,b≠X.env.locals->b ∉ X.fs->b ∉ ch->s.heap.get? b=some o->H b=none->h'.get? b=some o)
  (slot:∀b o,b≠X.env.locals->b∈X.fs->b ∉ ch->s.heap.get? b=some o->H b=none->∃sl,h'.get? b=some { o with slots:=sl })(free:∀b o,b ∉ ch->s.heap.get? b=some o->H b=none->H' b=none)
  (there:∀b o,b ∉ ch->s.heap.get? b=some o->∃o',h'.get? b=some o')
  (tups:∀b xs,H b=some (.tup xs)->H' b=some (.tup xs))(frzs:∀b o u,H b=some (.frz o u)->H' b=some (.frz o u))(tbls:∀b ps,H b=some (.tbl ps)->∃more,H' b=some (.tbl (ps++more)))
  (ns:∀m,s.heap.Ns X.env.locals m->h'.Ns X.env.locals m)(hok:HOk X.prog X.w H' h')(hg:AllBare g') :
  Inv X pins σ H' { s with heap:=h',gens:=g',drawn:=d',toks:=t' }:=by
 have neL:∀b o,X.s₀.heap.get? b=some o->b≠X.env.locals:=λb o e=>ne_of_lt (lt_of_lt_of_le (Heap.lt_size e) I.ok.above)
 have neC:∀b o,X.s₀.heap.get? b=some o->b ∉ X.ex->b ∉ ch:=λb o e hx hb=>by
  rcases(hch b hb).1 with z|z
  ·exact hx z
  ·exact absurd (lt_of_lt_of_le (Heap.lt_size e) z) (lt_irrefl _)
 have cellK:∀x c,X.env.cells.lookup x=some c->∀v,s.heap.IsCell c v->h'.IsCell c v:=λx c e v ⟨o,ho,hd⟩=>by
  have nch:c ∉ ch:=λz=>(hch c z).2.2.1 x c e U
  by_cases hc:c∈X.fs
  ·obtain⟨sl,q⟩:=slot c o (I.cne x c e) hc nch ho (I.freeC x c e);exact⟨_,q,hd⟩
  ·exact⟨o,keep c o (I.cne x c e) hc nch ho (I.freeC x c e),hd⟩
 refine⟨I.ok,I.os,hg,⟨λb o e n hb hx=>?_,λb o e n hb hx=>?_,λb o e n hx=>?_,λb o e hx=>?_,λb xs e=>tups b xs (I.base.tups b xs e),λb o xs e=>frzs b o xs (I.base.frzs b o xs e),λb ps e=>?_⟩,?_,λx c e=>?_,?_,λx c e=>?_,λp hp=>?_,hok,I.len⟩
 ·exact keep b o (neL b o e) hb (neC b o e hx) (I.base.keep b o e n hb hx) (I.base.free b o e n hx)
 ·obtain⟨sl,e1⟩:=I.base.slot b o e n hb hx;obtain⟨sl',e2⟩:=slot b _ (neL b o e) hb (neC b o e hx) e1 (I.base.free b o e n hx);exact⟨sl',e2⟩
 ·obtain⟨o',e1⟩:=I.base.there b o e hx;exact free b o' (neC b o e hx) e1 (I.base.free b o e n hx)
 ·obtain⟨o',e1⟩:=I.base.there b o e hx;exact there b o' (neC b o e hx) e1
 ·obtain⟨m1,e1⟩:=I.base.tbls b ps e;obtain⟨m2,e2⟩:=tbls b _ e1;exact⟨m1++m2,by rw[e2,Array.append_assoc]⟩
 ·obtain⟨m,hn,hl⟩:=I.loc;refine⟨m,ns m hn,λi x v e1 e2 e3=>?_⟩;obtain⟨u,r,l⟩:=hl i x v e1 e2 e3;refine⟨u,r,?_⟩;rcases l with l|⟨k,c,e,z⟩
  ·exact .inl l
  ·exact .inr ⟨k,c,e,cellK x c e _ z⟩
 ·obtain⟨v,z⟩:=I.cell x c e;exact⟨v,cellK x c e v z⟩
 ·obtain⟨m,⟨o,_,_,ho,_⟩,_⟩:=I.loc;exact free _ o (λz=>(hch _ z).2.1 U) ho I.free
 ·obtain⟨v,o,ho,hd⟩:=I.cell x c e;exact free c o (λz=>(hch c z).2.2.1 x c e U) ho (I.freeC x c e)
 ·obtain⟨e,n,ne,nf,d⟩:=I.pin p hp;have nch:p.1 ∉ ch:=λz=>(hch p.1 z).2.2.2 p hp U
  exact⟨keep p.1 p.2 ne nf nch e n,free p.1 p.2 nch e n,ne,nf,d⟩
theorem Inv.un{t':Nat}(I:Inv X pins σ H s)(u:Un X.fs [] H H' s.heap h')(hok:HOk X.prog X.w H' h'):Inv X pins σ H' { s with heap:=h',toks:=t' }:=by
 obtain⟨m,⟨o,es,ep,ho,r⟩,_⟩:=id I.loc;obtain⟨sl,hL⟩:=u.any ho I.free (by simp);exact I.step (g':=s.gens) (d':=s.drawn) (ch:=[]) (λ_ z=>nomatch z) (λb o _ hb _ e n=>u.keep b o e n hb (by simp)) (λb o _ hb _ e n=>u.slot b o e n hb (by simp)) (λb o _ e n=>u.free b o e n (by simp)) (λb o _ e=>u.there b o e (by simp)) u.tups u.frzs u.tbls (λm' hm=>by
  obtain⟨o',es',ep',ho',r'⟩:=hm;rw[ho]at ho';cases ho';exact⟨_,es',ep',hL,r'⟩) hok I.bare
theorem Inv.call{g':Array GenState}{t':Nat}{d':Drawn}{ch:List Addr}(I:Inv X pins σ H s)(u:Un (frs X.stack) ch H H' s.heap h')(hok:HOk X.prog X.w H' h')(hg:AllBare g')
  (hch:∀b∈ch,(b∈X.ex\/X.s₀.heap.objs.size<=b)/\b≠X.env.locals/\(∀x c,X.env.cells.lookup x=some c->c≠b)/\∀p∈X.pn++pins,p.1≠b) :
  Inv X pins σ H' { s with heap:=h',gens:=g',drawn:=d',toks:=t' }:=by
 obtain⟨m,⟨o,es,ep,ho,r⟩,_⟩:=id I.loc;obtain⟨sl,hL⟩:=u.any ho I.free λz=>(hch _ z).2.1 U
 exact I.step (ch:=ch) hch (λb o hL hb hc e n=>u.keep b o e n (λz=>(mem_cons.mp (I.stkSub b z)).elim hL hb) hc) (λb o _ _ hc e n=>u.any e n hc) (λb o hc e n=>u.free b o e n hc) (λb o hc e=>u.there b o e hc) u.tups u.frzs u.tbls (λm' hm=>by
  obtain⟨o',es',ep',ho',r'⟩:=hm;rw[ho]at ho';cases ho';exact⟨_,es',ep',hL,r'⟩) hok hg
theorem Inv.turned{t':Nat}{it:Addr}(I:Inv X pins σ H s)(k:∀b o,b≠it->s.heap.get? b=some o->h'.get? b=some o)(hn:H it=none)(hL:it≠X.env.locals)
  (h1:it∈X.ex\/X.s₀.heap.objs.size<=it)(h2:∀x c,X.env.cells.lookup x=some c->c≠it)(h3:∀p∈X.pn++pins,p.1≠it):Inv X pins σ H { s with heap:=h',toks:=t' }:=by
 have nit:∀b u,H b=some u->b≠it:=λb u e z=>by rw[z,hn]at e;cases e
 refine I.step (g':=s.gens) (d':=s.drawn) (ch:=[it]) (λb hb=>?_) (λb o _ _ hc e _=>k b o (λz=>hc (by simp[z])) e) (λb o _ _ hc e _=>⟨o.slots,k b o (λz=>hc (by simp[z])) e⟩) (λ_ _ _ _ n=>n)
  (λb o hc e=>⟨o,k b o (λz=>hc (by simp[z])) e⟩) (λ_ _ e=>e) (λ_ _ _ e=>e) (λb ps e=>⟨#[],by rw[e];simp⟩) (λm hm=>?_) (λb u e=>?_) I.bare
 ·have e:b=it:=by simpa using hb
  subst e;exact⟨h1,hL,h2,h3⟩
 ·obtain⟨o,es,ep,ho,r⟩:=hm;exact⟨o,es,ep,k _ o (Ne.symm hL) ho,r⟩
 ·refine(I.hok b u e).stay (λc v hc q=>k c v ?_ q) (λ_ q=>q) λ_ _ q=>q
  rcases hc with z|z
  ·rw[z];exact nit b u e
  ·exact nit c _ z
theorem Inv.tok(I:Inv X pins σ H s)(t:Nat):Inv X pins σ H { s with toks:=t }:=I.un (h':=s.heap) (t':=t) Un.refl I.hok
theorem Inv.kept{t':Nat}(I:Inv X pins σ H s)(k:∀b u,s.heap.get? b=some u->h'.get? b=some u):Inv X pins σ H { s with heap:=h',toks:=t' }:=I.un (Un.kept k) (I.hok.kept k)
theorem Inv.laid{a:Addr}{o:HO}{t':Nat}(I:Inv X pins σ H s)(k:∀b u,s.heap.get? b=some u->h'.get? b=some u)(hp:s.heap.objs.size<=a)(new:cI X.prog X.w (upd H a o) h' a o) :
  Inv X pins σ (upd H a o) { s with heap:=h',toks:=t' }:=I.un (Un.laid k hp (I.hok.fresh hp)) (I.hok.laid k hp new)
theorem Inv.write{x e:Addr}{o:HO}{t':Nat}(I:Inv X pins σ H s)(mu:Mut (H x))(he:e=x\/H e=some (.own x))(k:∀b u,b≠e->s.heap.get? b=some u->h'.get? b=some u)(heo:∃u,h'.get? e=some u)
  (new:cI X.prog X.w (upd H x o) h' x o):Inv X pins σ (upd H x o) { s with heap:=h',toks:=t' }:=I.un (Un.write mu he k heo) (I.hok.write mu he k heo new)
theorem Inv.pins_of{yp:List (Addr×Obj)}(I:Inv X pins σ H s)(h:∀p∈yp,s.heap.get? p.1=some p.2/\H p.1=none/\p.1≠X.env.locals/\p.1 ∉ X.fs/\∀v,p.2.data≠.cell v):Inv X yp σ H s :=
 ⟨I.ok,I.os,I.bare,I.base,I.loc,I.cell,I.free,I.freeC,λp hp=>(mem_append.mp hp).elim (λz=>I.pin p (mem_append_left _ z)) (h p),I.hok,I.len⟩
theorem jr{N:List Str}(hN:N.Nodup){i j:Nat}{x:Str}(a:N[i]?=some x)(b:N[j]?=some x):i=j:=by
 obtain⟨h1,e1⟩:=Fo.mp a;obtain⟨h2,e2⟩:=Fo.mp b;exact(getElem_inj hN).mp (e1.trans e2.symm)
theorem jN{M:Model}{A:Around}{E:Value->Shared->Prop}{i:Nat}{x:Str}{v:V}{u:Value}{Q:Unit->Shared->Prop}(I:Inv X pins σ H s)(hN:X.N.Nodup)(hi:X.N[i]?=some x)(hx:Loc X.env.scope x)(r:RelV v u)
  (h:∀s',Inv X pins (σ.set i (some v)) H s'->(∃a,Heap.SameBut a s.heap s'.heap/\(a=X.env.locals\/X.env.cells.lookup x=some a))->Q () s')(hf:X.fn x=true\/X.env.scope.names.lookup x=some .local:=by first|exact .inl U|exact .inr U|assumption):wpAny M A (storeName X.env x u) Q E s:=by
 obtain⟨m,hn,hl⟩:=id I.loc;have B4:(X.env.scope.kind == .class || (X.env.scope.kind == .module && X.env.locals != X.env.globals))=false:=by rw[I.ok.kind];rfl
 have hiσ:i<σ.length:=by rw[I.len];exact(Fo.mp hi).1
 have cne:=I.cne;have tracked:∀{a:Addr}{h':Heap},(∃o,s.heap.get? a=some o/\H a=none)->Heap.SameBut a s.heap h'->HOk X.prog X.w H h':=λ{a h'} ha hs b ob e=>by
  obtain⟨_,_,sf⟩:=ha;refine(I.hok b ob e).stay (λc w' hc q=>(hs.2 c ?_).trans q) (λ_ q=>q) λ_ _ q=>q
  rintro rfl;rcases hc with rfl|hc
  ·rw[sf]at e;cases e
  ·rw[sf]at hc;cases hc
 rcases hx with hk|hk
 ·refine wpAny_storeName_local hk hn (λh' hn' hs=>?_) B4;obtain⟨oL,_,_,hoL,_⟩:=id hn;refine h _ ⟨I.ok,I.os,I.bare,⟨λb o e n hb hx=>?_,λb o e n hb hx=>?_,I.base.free,λb o e hx=>?_,I.base.tups,I.base.frzs,I.base.tbls⟩,⟨_,hn',λj y v' e1 e2 e3=>?_⟩,λy c e=>?_,I.free,I.freeC,λp hp=>?_,tracked ⟨oL,hoL,I.free⟩ hs,by simpa using I.len⟩ ⟨_,hs,.inl U⟩
  ·exact(hs.2 b (ne_of_lt (lt_of_lt_of_le (Heap.lt_size e) I.ok.above))).trans (I.base.keep b o e n hb hx)
  ·obtain⟨sl,e1⟩:=I.base.slot b o e n hb hx;exact⟨sl,(hs.2 b (ne_of_lt (lt_of_lt_of_le (Heap.lt_size e) I.ok.above))).trans e1⟩
  ·obtain⟨o',e1⟩:=I.base.there b o e hx;exact⟨o',(hs.2 b (ne_of_lt (lt_of_lt_of_le (Heap.lt_size e) I.ok.above))).trans e1⟩
  ·by_cases hj:j=i
   ·subst hj;rw[hi]at e1;cases e1;rw[List.getElem?_set_self hiσ]at e2;cases e2;exact⟨u,r,.inl ⟨hk,by simp⟩⟩
   ·rw[List.getElem?_set_ne (Ne.symm hj)]at e2;obtain⟨u',r',q⟩:=hl j y v' e1 e2 e3;refine⟨u',r',?_⟩;rcases q with⟨k,e⟩|⟨k,c,e,z⟩
    ·refine .inl ⟨k,?_⟩;have:y≠x:=λe=>hj (jr hN e1 (e ▸ hi))
     simp[this,e]
    ·exact .inr ⟨k,c,e,z.sameBut hs (cne y c e)⟩
  ·obtain⟨w',z⟩:=I.cell y c e;exact⟨w',z.sameBut hs (cne y c e)⟩
  ·obtain⟨e,n,ne,nf,d⟩:=I.pin p hp;exact⟨(hs.2 p.1 ne).trans e,n,ne,nf,d⟩
 ·have hfn:X.fn x=true:=by
   rcases hf with z|z
   ·exact z
   ·rw[z]at hk;cases hk
  obtain⟨c,hc⟩:=I.ok.has x (.inl hk);obtain⟨w',z⟩:=I.cell x c hc;refine wpAny_storeName_cell I.ok.kind hk hc z (λh' hc' hs=>?_);obtain⟨oc,hoc,B5⟩:=id z;refine h { s with heap:=h' } ⟨I.ok,I.os,I.bare,⟨λb o e n hb hx=>?_,λb o e n hb hx=>?_,I.base.free,λb o e hx=>?_,I.base.tups,I.base.frzs,I.base.tbls⟩,⟨m,hn.sameBut hs (Ne.symm (cne x c hc)),λj y v' e1 e2 e3=>?_⟩,λy c' e=>?_,I.free,I.freeC,λp hp=>?_,tracked ⟨oc,hoc,I.freeC x c hc⟩ hs,by simpa using I.len⟩ ⟨c,hs,.inr hc⟩
  ·exact(hs.2 b (ne_of_lt (lt_of_lt_of_le (Heap.lt_size e) (I.ok.cab x c hfn hc)))).trans (I.base.keep b o e n hb hx)
  ·obtain⟨sl,e1⟩:=I.base.slot b o e n hb hx;exact⟨sl,(hs.2 b (ne_of_lt (lt_of_lt_of_le (Heap.lt_size e) (I.ok.cab x c hfn hc)))).trans e1⟩
  ·obtain⟨o',e1⟩:=I.base.there b o e hx;exact⟨o',(hs.2 b (ne_of_lt (lt_of_lt_of_le (Heap.lt_size e) (I.ok.cab x c hfn hc)))).trans e1⟩
  ·by_cases hj:j=i
   ·subst hj;rw[hi]at e1;cases e1;rw[List.getElem?_set_self hiσ]at e2;cases e2;exact⟨u,r,.inr ⟨.inl hk,c,hc,hc'⟩⟩
   ·rw[List.getElem?_set_ne (Ne.symm hj)]at e2;obtain⟨u',r',q⟩:=hl j y v' e1 e2 e3;refine⟨u',r',?_⟩;rcases q with q|⟨k,c',e,z'⟩
    ·exact .inl q
    ·refine .inr ⟨k,c',e,z'.sameBut hs ?_⟩;rintro rfl;exact hj (jr hN e1 (I.ok.inj _ _ _ e hc ▸ hi))
  ·by_cases hcc:c'=c
   ·subst hcc;exact⟨_,hc'⟩
   ·obtain⟨w2,z2⟩:=I.cell y c' e;exact⟨w2,z2.sameBut hs hcc⟩
  ·obtain⟨e,n,ne,nf,d⟩:=I.pin p hp;refine⟨(hs.2 p.1 ?_).trans e,n,ne,nf,d⟩;intro q;rw[q,hoc]at e;have q':oc=p.2:=Option.some.inj e;exact d w' (by rw[←q'];exact B5)
theorem kI{M:Model}{A:Around}{E:Value->Shared->Prop}{i:Nat}{x:Str}{v:V}{u:Value}{Q:Unit->Shared->Prop}(I:Inv X pins σ H s)(hN:X.N.Nodup)(hi:X.N[i]?=some x)(hx:Loc X.env.scope x)(r:RelV v u)
  (h:∀s',Inv X pins (σ.set i (some v)) H s'->Q () s')(hf:X.fn x=true\/X.env.scope.names.lookup x=some .local:=by first|exact .inl U|exact .inr U|assumption):wpAny M A (storeName X.env x u) Q E s :=
 jN I hN hi hx r (λs' I' _=>h s' I') hf
theorem Inv.call'{s':Shared}{ch:List Addr}(I:Inv X pins σ H s)(ho:s'.os=s.os)(u:Un (frs X.stack) ch H H' s.heap s'.heap)(hok:HOk X.prog X.w H' s'.heap)(hg:AllBare s'.gens)
  (hch:∀b∈ch,(b∈X.ex\/X.s₀.heap.objs.size<=b)/\b≠X.env.locals/\(∀x c,X.env.cells.lookup x=some c->c≠b)/\∀p∈X.pn++pins,p.1≠b):Inv X pins σ H' s':=by
 obtain⟨h',g',d',t',o'⟩:=s';have e:o'=s.os:=ho;subst e;exact I.call (g':=g') (t':=t') (d':=d') u hok hg hch
end
abbrev XK:=Value->Option Addr->Hp->Prop
abbrev St:=List (Option V)
abbrev VK:=V->Hp->Prop
abbrev TE:=St->Hp->VK->Prop
abbrev TT:=St->Hp->(Bool->Hp->Prop)->Prop
abbrev TA:=St->Hp->(List V->Hp->Prop)->Prop
structure Ends where
 nx:St->Hp->Prop
 rt:VK
 bk:St->Hp->Prop:=λ_ _=>False
 ct:St->Hp->Prop:=λ_ _=>False
abbrev TS:=Ends->St->Hp->Prop
def EP(X:Cx)(pins:List (Addr×Obj))(σ:St)(Q:VK)(u:Value)(s':Shared):Prop:=∃v H',Inv X pins σ H' s'/\RelV v u/\Q v H'
def TP(X:Cx)(pins:List (Addr×Obj))(σ:St)(Q:Bool->Hp->Prop)(b:Bool)(s':Shared):Prop:=∃H',Inv X pins σ H' s'/\Q b H'
def AP(X:Cx)(pins:List (Addr×Obj))(σ:St)(Q:List V->Hp->Prop)(us:List Value)(s':Shared):Prop:=∃vs H',Inv X pins σ H' s'/\Vals vs us/\Q vs H'
def SP(X:Cx)(pins:List (Addr×Obj))(D:Ends)(f:Flow)(s':Shared):Prop :=
 match f with
 | .next=>∃σ' H',Inv X pins σ' H' s'/\D.nx σ' H'
 | .brk=>∃σ' H',Inv X pins σ' H' s'/\D.bk σ' H'
 | .cont=>∃σ' H',Inv X pins σ' H' s'/\D.ct σ' H'
 | .ret u=>∃v σ' H',Inv X pins σ' H' s'/\RelV v u/\D.rt v H'
def PE(X:Cx)(e:Expr)(t:TE):Prop :=
 ∀(pins:List (Addr×Obj))(s:Shared)(σ:St)(H:Hp)(Q:VK),Inv X pins σ H s->t σ H Q->wpAny (model X.prog X.w) X.A (eval e X.env) (EP X pins σ Q) X.xe s
def PT(X:Cx)(e:Expr)(t:TT):Prop :=
 ∀(pins:List (Addr×Obj))(s:Shared)(σ:St)(H:Hp)(Q:Bool->Hp->Prop),Inv X pins σ H s->t σ H Q->wpAny (model X.prog X.w) X.A (isTrue e X.env (eval e X.env)) (TP X pins σ Q) X.xe s
def PW(X:Cx)(e:Expr)(t:TT):Prop :=
 ∀(whole:Sem Value)(pins:List (Addr×Obj))(s:Shared)(σ:St)(H:Hp)(Q:Bool->Hp->Prop),Inv X pins σ H s->t σ H Q->wpAny (model X.prog X.w) X.A (isTrue e X.env whole) (TP X pins σ Q) X.xe s
theorem PW.pt{X:Cx}{e:Expr}{t:TT}(h:PW X e t):PT X e t:=h _
def PA(X:Cx)(es:List Expr)(t:TA):Prop :=
 ∀(pos:Pos)(pins:List (Addr×Obj))(s:Shared)(σ:St)(H:Hp)(Q:List V->Hp->Prop),Inv X pins σ H s->t σ H Q->wpAny (model X.prog X.w) X.A (spliced (backTo pos (starEach es X.env))) (AP X pins σ Q) X.xe s
def PS(X:Cx)(st:Stmt)(t:TS):Prop :=
 ∀(pins:List (Addr×Obj))(s:Shared)(σ:St)(H:Hp)(D:Ends),Inv X pins σ H s->t D σ H->wpAny (model X.prog X.w) X.A (exec st X.env) (SP X pins D) X.xe s
def PSs(X:Cx)(st:List Stmt)(t:TS):Prop :=
 ∀(pins:List (Addr×Obj))(s:Shared)(σ:St)(H:Hp)(D:Ends),Inv X pins σ H s->t D σ H->wpAny (model X.prog X.w) X.A (execs st X.env) (SP X pins D) X.xe s
theorem thn{α:Type}{t:Sem α}{Q Q':α->Shared->Prop}{M:Model}{A:Around}{E:Value->Shared->Prop}{s:Shared}(h:wpAny M A t Q E s)(hQ:∀a s,Q a s->Q' a s):wpAny M A t Q' E s:=wpAny_mono h hQ λ_ _ x=>x
variable{b:Expr}{ta tb:TE}{pos:Pos}
section
inductive yU(i:Nat)(σ:St)(H:Hp)(Q:VK):Prop
 |mk (v:_)(_:σ[i]?=some (some v))(_:Q v H):yU i σ H Q
def tC(v:V):TE:=λ_ H Q=>Q v H
theorem uL{i:Nat}{x:Str}{pos:Pos}(hN:X.N[i]?=some x)(hv:Vis X.env.scope x)(hd:(x == ("__debug__" : Str))=false:=by decide) (hcd:(x == ("__classdict__" : Str))=false:=by decide):PE X (.Name x pos) (yU i):=by
 intro pins s σ H Q I h;obtain⟨v,e,h⟩:=h;obtain⟨m,hn,hl⟩:=I.loc;obtain⟨u,r,l⟩:=hl i x v hN e hv;have fin:EP X pins σ Q u s:=⟨v,H,I,r,h⟩;rcases l with⟨hk,hm⟩|⟨hk,c,hc,js⟩
 ·exact wpAny_Name (wpAny_loadName_local I.ok.kind hk hn hm fin) hd
 ·rcases hk with hk|hk
  ·exact wpAny_Name (wpAny_loadName_cell I.ok.kind hk hc js fin) hd
  ·exact wpAny_Name (wpAny_loadName_free I.ok.kind hk hc js fin hcd) hd
theorem ag{i j pos}:PE X (.Constant (.int i) j pos) (tC (.int i)):=λ_ _ _ H _ I h=>wpAny_Constant_int ⟨.int i,H,I.tok _,⟨_,U⟩,h⟩
theorem cP{b j pos}:PE X (.Constant (.bool b) j pos) (tC (.bl b)):=λ_ _ _ H _ I h=>Constant_bool ⟨.bl b,H,I,U,h⟩
theorem uM{j pos}:PE X (.Constant .none j pos) (tC .non):=λ_ _ _ H _ I h=>Constant_none ⟨.non,H,I,U,h⟩
theorem aQ{x j pos}:PE X (.Constant (.str x) j pos) (tC (.str x)):=λ_ _ _ H _ I h=>Calls.Constant_str ⟨.str x,H,I.tok _,⟨_,U⟩,h⟩
def Gl(X:Cx)(x:Str):Prop:=X.env.kindOf x=some .globalImplicit
theorem gJ{E:Value->Shared->Prop}{pins:List (Addr×Obj)}{s:Shared}{σ:St}{H:Hp}{x:Str}{u:Value}{pos:Pos}{Q:Value->Shared->Prop}(I:Inv X pins σ H s)(hg:Gl X x)(hm:X.mg x=some u)(h:Q u s)
  (hd:(x == ("__debug__" : Str))=false:=by decide):wpAny (model X.prog X.w) X.A (eval (.Name x pos) X.env) Q E s :=
 Calls.Name_function_global I.ok.kind hg (Calls.loadGlobal_global (by rw[I.ok.glob];exact I.mod.glob.keeps I.bk) hm h) hd
theorem f7{E:Value->Shared->Prop}{pins:List (Addr×Obj)}{s:Shared}{σ:St}{H:Hp}{x:Str}{u:Value}{pos:Pos}{Q:Value->Shared->Prop}(I:Inv X pins σ H s)(hg:Gl X x)(hm:X.mg x=none)(hv:bootBuiltins x=some u)(h:Q u s)
  (hn:x ≠ "__name__" := by decide) (hd:(x == ("__debug__" : Str))=false:=by decide):wpAny (model X.prog X.w) X.A (eval (.Name x pos) X.env) Q E s:=by
 obtain⟨mb,h1,h2⟩:=I.mod.blt;exact Calls.Name_function_global I.ok.kind hg (Calls.loadGlobal_builtin (by rw[I.ok.glob];exact I.mod.glob.keeps I.bk) hm (by rw[I.ok.blt];exact h1.keeps I.bk) ((h2 x hn).trans hv) h) hd
theorem dc{x:Str}{v:V}{u:Value}{pos:Pos}(hg:Gl X x)(hm:X.mg x=some u)(r:RelV v u)(hd:(x == ("__debug__" : Str))=false:=by decide):PE X (.Name x pos) (tC v) :=
 λ_ _ _ H _ I h=>gJ I hg hm ⟨v,H,I,r,h⟩ hd
theorem eF{x:Str}{v:V}{u:Value}{pos:Pos}(hg:Gl X x)(hm:X.mg x=none)(hv:bootBuiltins x=some u)(r:RelV v u)(hn:x ≠ "__name__" := by decide) (hd:(x == ("__debug__" : Str))=false:=by decide):PE X (.Name x pos) (tC v) :=
 λ_ _ _ H _ I h=>f7 I hg hm hv ⟨v,H,I,r,h⟩ hn hd
variable{a:Expr}
inductive tBq  (Q:Bool->Hp->Prop)(x:V)(H1:Hp):Prop
 |mk (c:_)(_:x=.bl c)(_:Q c H1):tBq Q x H1
def tB(t:TE):TT:=λσ H Q=>t σ H λx H1=>tBq Q x H1
theorem cb{e:Expr}{t:TE}(h:PE X e t)(he:∀whole,isTrue e X.env whole=(do let v ←whole;standAt e.pos;holding [v] (truthy v)):=by intro _;rfl):PT X e (tB t):=by
 intro pins s σ H Q I hw;refine isTrue_plain (thn (h pins s σ H _ I hw) λv s1 ⟨x,H1,I1,r1,q1⟩=>?_) (he _);obtain⟨d,rfl,q⟩:=q1;cases r1;exact wpAny_truthy_bool ⟨H1,I1,q⟩
variable{tA tB':TT}{rest:List Expr}
def B6(t u:TT):TT:=λσ H Q=>t σ H λc H1=>if c=true then u σ H1 Q else Q false H1
def tOr(t u:TT):TT:=λσ H Q=>t σ H λc H1=>if c=true then Q true H1 else u σ H1 Q
def B7(t:TT):TT:=λσ H Q=>t σ H λc H1=>Q (!c) H1
theorem fB(ha:PT X a tA):PW X (.BoolOp .And [a] pos) tA:=by
 intro wh pins s σ H Q I h;refine isTrue_and (thn (ha pins s σ H Q I h) λc s1 e=>?_);cases c with
 |true=>exact isTrue_and_nil e
 |false=>exact e
theorem gc(ha:PT X a tA):PW X (.BoolOp .Or [a] pos) tA:=by
 intro wh pins s σ H Q I h;refine isTrue_or (thn (ha pins s σ H Q I h) λc s1 e=>?_);cases c with
 |false=>exact isTrue_or_nil e
 |true=>exact e
theorem iG(ha:PT X a tA)(hb:PW X (.BoolOp .And (b :: rest) pos) tB'):PW X (.BoolOp .And (a :: b :: rest) pos) (B6 tA tB'):=by
 intro wh pins s σ H Q I h;refine isTrue_and (thn (ha pins s σ H _ I h) λc s1 ⟨H1,I1,q1⟩=>?_);cases c with
 |true=>exact hb wh pins s1 σ H1 Q I1 q1
 |false=>exact⟨H1,I1,q1⟩
theorem ij(ha:PT X a tA)(hb:PW X (.BoolOp .Or (b :: rest) pos) tB'):PW X (.BoolOp .Or (a :: b :: rest) pos) (tOr tA tB'):=by
 intro wh pins s σ H Q I h;refine isTrue_or (thn (ha pins s σ H _ I h) λc s1 ⟨H1,I1,q1⟩=>?_);cases c with
 |true=>exact⟨H1,I1,q1⟩
 |false=>exact hb wh pins s1 σ H1 Q I1 q1
theorem bI(ha:PT X a tA):PT X (.UnaryOp .Not a pos) (B7 tA):=by
 intro pins s σ H Q I h;exact isTrue_not (ha pins s σ H (λc H1=>Q (!c) H1) I h)
inductive uN(tb:TE)(σ:St)(Q:VK)(x:V)(H1:Hp):Prop
 |mk (c:_)(_:x=.bl c)(_:if c=true then tb σ H1 Q else Q (.bl false) H1):uN tb σ Q x H1
def Aq(ta tb:TE):TE:=λσ H Q=>ta σ H λx H1=>uN tb σ Q x H1
inductive uO  (Q:VK)(x:V)(H1:Hp):Prop
 |mk (c:_)(_:x=.bl c)(_:Q (.bl (!c)) H1):uO Q x H1
def Ar(ta:TE):TE:=λσ H Q=>ta σ H λx H1=>uO Q x H1
theorem kJ{op} {t:TE}(h:PE X a t):PE X (.BoolOp op [a] pos) t:=λpins s σ H Q I hw=>BoolOp_one (h pins s σ H Q I hw)
theorem jO(ha:PE X a ta)(hb:PE X (.BoolOp .And (b :: rest) pos) tb):PE X (.BoolOp .And (a :: b :: rest) pos) (Aq ta tb):=by
 intro pins s σ H Q I h;refine BoolOp_and (thn (ha pins s σ H _ I h) λv s1 ⟨x,H1,I1,r1,q1⟩=>?_);obtain⟨c,rfl,q1⟩:=q1;cases r1;refine wpAny_truthy_bool ?_;cases c with
 |true=>exact hb pins s1 σ H1 Q I1 q1
 |false=>exact⟨.bl false,H1,I1,U,q1⟩
theorem uP(ha:PE X a ta):PE X (.UnaryOp .Not a pos) (Ar ta):=by
 intro pins s σ H Q I h;refine UnaryOp_ (thn (ha pins s σ H _ I h) λv s1 ⟨x,H1,I1,r1,q1⟩=>?_);obtain⟨c,rfl,q1⟩:=q1;cases r1;exact not_of (wpAny_truthy_bool ⟨.bl (!c),H1,I1,U,q1⟩)
def tIf(t:TT)(ta tb:TE):TE:=λσ H Q=>t σ H λc H1=>if c=true then ta σ H1 Q else tb σ H1 Q
theorem kK{c:Expr}(hc:PT X c tA)(ha:PE X a ta)(hb:PE X b tb):PE X (.IfExp c a b pos) (tIf tA ta tb):=by
 intro pins s σ H Q I h;refine wpAny_IfExp (thn (hc pins s σ H _ I h) λd s1 ⟨H1,I1,q1⟩=>?_);cases d with
 |true=>exact ha pins s1 σ H1 Q I1 q1
 |false=>exact hb pins s1 σ H1 Q I1 q1
end
def SqL(K:W.Frag)(H:Hp)(a:Addr)(xs:List V):Prop :=
 Rd H a (.lst xs) \/
  ∃(o:Obj)(its:Array Value)(n:Nat),K.lookup a=some o/\o.cls=.type "list" /\ o.dict=none/\o.data=.seq its n/\its.size<=sizeLine/\Vals xs its.toList
def SqT(K:W.Frag)(H:Hp)(a:Addr)(xs:List V):Prop :=
 Rd H a (.tup xs) \/
  ∃(o:Obj)(its:Array Value)(n:Nat),K.lookup a=some o/\o.cls=.type "tuple" /\ o.data=.seq its n/\its.size<=sizeLine/\Vals xs its.toList
def B8:Value->Option V
 | .none=>some .non
 | .bool b=>some (.bl b)
 | .int i _=>some (.int i)
 | .str x _=>some (.str x)
 | .bytes b _=>some (.byt b)
 | .float b _=>some (.flt b)
 | .ref a=>some (.ref a)
 | .type n=>some (.ty n)
 |_=>none
theorem RelV.abs{x:V}{u:Value}(r:RelV x u):B8 u=some x:=by
 cases x with
 |non=>cases r;rfl
 |bl _=>cases r;rfl
 |int _=>obtain⟨t,rfl⟩:=r;rfl
 |str _=>obtain⟨t,rfl⟩:=r;rfl
 |byt _=>obtain⟨t,rfl⟩:=r;rfl
 |flt _=>obtain⟨t,rfl⟩:=r;rfl
 |ref _=>cases r;rfl
 |ty _=>cases r;rfl
theorem RelV.inj{x y:V}{u:Value}(r:RelV x u)(q:RelV y u):x=y:=Option.some.inj (r.abs.symm.trans q.abs)
theorem Vals.inj:∀{xs ys:List V}{us:List Value},Vals xs us->Vals ys us->xs=ys
 |_,_,_,.nil,.nil=>rfl
 |_,_,_,.cons r t,.cons r' t'=>by rw[r.inj r',Vals.inj t t']
variable{σ:St}
section
variable{xs ys:List V}
theorem SqL.of{K:W.Frag}(h:H a=some (.lst xs)):SqL K H a xs:=.inl (.inl h)
theorem SqT.of{K:W.Frag}(h:H a=some (.tup xs)):SqT K H a xs:=.inl (.inl h)
theorem Inv.list(I:Inv X pins σ H s)(h:SqL X.K H a xs):∃its:List Value,Vals xs its/\PlainL s.heap a its.toArray/\xs.length<=sizeLine:=by
 rcases h with h|⟨o,its,n,hk,hc,hd,hs,hz,r⟩
 ·obtain⟨z,its,n,r,e⟩:=h.ok I.hok;exact⟨its,r,⟨_,n,e,U,U,U⟩,z⟩
 ·refine⟨its.toList,r,⟨o,n,I.kIn a o hk,hc,hd,by simpa using hs⟩,?_⟩;have e:=r.length;simp only[length_toList]at e;lia
theorem Inv.tuple(I:Inv X pins σ H s)(h:SqT X.K H a xs):∃its:List Value,Vals xs its/\IsTup s.heap a its.toArray/\xs.length<=sizeLine:=by
 rcases h with h|⟨o,its,n,hk,hc,hs,hz,r⟩
 ·obtain⟨z,its,r,p⟩:=h.ok I.hok;exact⟨its,r,p,z⟩
 ·refine⟨its.toList,r,⟨o,I.kIn a o hk,hc,n,by simpa using hs⟩,?_⟩;have e:=r.length;simp only[length_toList]at e;lia
theorem Inv.list_inj(I:Inv X pins σ H s)(h:SqL X.K H a xs)(h':SqL X.K H a ys):xs=ys:=by
 obtain⟨its,r,⟨o,n,e,_,_,d⟩,_⟩:=I.list h;obtain⟨its',r',⟨o',n',e',_,_,d'⟩,_⟩:=I.list h';rw[e]at e';cases e';rw[d]at d';injection d' with d1 _;have:its=its':=by simpa using congrArg Array.toList d1
 subst this;exact r.inj r'
theorem Inv.tuple_inj(I:Inv X pins σ H s)(h:SqT X.K H a xs)(h':SqT X.K H a ys):xs=ys:=by
 obtain⟨its,r,⟨o,e,_,n,d⟩,_⟩:=I.tuple h;obtain⟨its',r',⟨o',e',_,n',d'⟩,_⟩:=I.tuple h';rw[e]at e';cases e';rw[d]at d';injection d' with d1 _;have:its=its':=by simpa using congrArg Array.toList d1
 subst this;exact r.inj r'
end
abbrev Cx.wish(X:Cx)(E:Value->Shared->Prop):Cx:={ X with xe:=E }
abbrev Cx.nox(X:Cx):Cx:=X.wish λ_ _=>False
theorem Cx.Ok.wish{X:Cx}(ok:X.Ok)(E:Value->Shared->Prop):(X.wish E).Ok :=
 ⟨ok.mod,ok.kind,ok.glob,ok.blt,ok.above,ok.inj,ok.has,ok.cab,ok.hd,ok.frames,ok.stk,ok.exf,ok.bs,ok.bsz,ok.noex,ok.exfs,ok.funs,ok.frf⟩
theorem Cx.Ok.unwish{X:Cx}{E:Value->Shared->Prop}(ok:(X.wish E).Ok):X.Ok :=
 ⟨ok.mod,ok.kind,ok.glob,ok.blt,ok.above,ok.inj,ok.has,ok.cab,ok.hd,ok.frames,ok.stk,ok.exf,ok.bs,ok.bsz,ok.noex,ok.exfs,ok.funs,ok.frf⟩
variable{E:Value->Shared->Prop}
theorem Inv.wish(I:Inv X pins σ H s)(E:Value->Shared->Prop):Inv (X.wish E) pins σ H s:=⟨I.ok.wish E,I.os,I.bare,I.base,I.loc,I.cell,I.free,I.freeC,I.pin,I.hok,I.len⟩
theorem Inv.unwish(I:Inv (X.wish E) pins σ H s):Inv X pins σ H s:=⟨I.ok.unwish,I.os,I.bare,I.base,I.loc,I.cell,I.free,I.freeC,I.pin,I.hok,I.len⟩
theorem SP.unwish{D:Ends}{f:Flow}{s':Shared}(h:SP (X.wish E) pins D f s'):SP X pins D f s':=by
 cases f with
 |next=>obtain⟨σ',H',I,q⟩:=h;exact⟨σ',H',I.unwish,q⟩
 |brk=>obtain⟨σ',H',I,q⟩:=h;exact⟨σ',H',I.unwish,q⟩
 |cont=>obtain⟨σ',H',I,q⟩:=h;exact⟨σ',H',I.unwish,q⟩
 |ret u=>obtain⟨v,σ',H',I,r,q⟩:=h;exact⟨v,σ',H',I.unwish,r,q⟩
theorem PE.nox{e:Expr}{t:TE}(h:PE X.nox e t):PE X e t:=λpins s σ H Q I hw =>
 wpAny_mono (h pins s σ H Q (I.wish _) hw) (λ_ _ ⟨v,H',I',r,q⟩=>⟨v,H',I'.unwish,r,q⟩) λ_ _ z=>False.elim z
theorem PSs.nox{st:List Stmt}{t:TS}(h:PSs X.nox st t):PSs X st t:=λpins s σ H D I hw =>
 wpAny_mono (h pins s σ H D (I.wish _) hw) (λ_ _ q=>q.unwish) λ_ _ z=>False.elim z
variable{e:Expr}{te:TE}
section
variable{st:Stmt}{rest:List Stmt}{t u:TS}
def As:TS:=λD σ H=>D.nx σ H
def B9(t u:TS):TS:=λD σ H=>t { D with nx:=u D } σ H
theorem aD:PSs X [] As:=λ_ _ σ H _ I h=>wpAny_execs_nil ⟨σ,H,I,h⟩
theorem ak(h1:PS X st t)(h2:PSs X rest u):PSs X (st :: rest) (B9 t u):=by
 intro pins s σ H D I h;refine wpAny_execs_cons (thn (h1 pins s σ H { D with nx:=u D } I h) λf s1 q=>?_);cases f with
 |next =>
  obtain⟨σ',H',I',q⟩:=q;exact h2 pins s1 σ' H' D I' q
 |ret v=>exact q
 |brk=>exact q
 |cont=>exact q
theorem af(h1:PS X st t):PSs X [st] t:=by
 intro pins s σ H D I h;refine wpAny_execs_cons (thn (h1 pins s σ H D I h) λf s1 q=>?_);cases f with
 |next=>exact wpAny_execs_nil q
 |ret v=>exact q
 |brk=>exact q
 |cont=>exact q
theorem Inv.quiet{pins:List (Addr×Obj)}{σ:St}{H:Hp}{s:Shared}(I:Inv X pins σ H s):interactive X.env=false:=by simp[interactive,I.ok.kind]
def Au(te:TE):TS:=λD σ H=>te σ H λ_ H1=>D.nx σ H1
theorem aU(he:PE X e te)(hs:swapsWith e none pos.line X.env=pure false:=by rfl):PS X (.Expr e pos) (Au te):=by
 intro pins s σ H D I h;exact wpAny_Expr_any (thn (he pins s σ H _ I h) λv s1 ⟨x,H1,I1,r1,q1⟩=>⟨σ,H1,I1,q1⟩) I.quiet hs
def Ca(te:TE):TS:=λD σ H=>te σ H D.rt
theorem av(he:PE X e te):PS X (.Return (some e) pos) (Ca te):=by
 intro pins s σ H D I h;exact wpAny_Return_some (thn (he pins s σ H _ I h) λv s1 ⟨x,H1,I1,r1,q1⟩=>⟨x,σ,H1,I1,r1,q1⟩)
def Cb(c:TT)(t u:TS):TS:=λD σ H=>c σ H λb H1=>if b=true then t D σ H1 else u D σ H1
theorem aN{c:Expr}{a b:List Stmt}{tc:TT}(hc:PT X c tc)(ha:PSs X a t)(hb:PSs X b u):PS X (.If c a b pos) (Cb tc t u):=by
 intro pins s σ H D I h;refine wpAny_If (thn (hc pins s σ H _ I h) λd s1 ⟨H1,I1,q1⟩=>?_);cases d with
 |true=>exact ha pins s1 σ H1 D I1 q1
 |false=>exact hb pins s1 σ H1 D I1 q1
def yV:TS:=λ_ _ _=>False
theorem bO:PS X st yV:=λ_ _ _ _ _ _ h=>h.elim
end
abbrev TG:=V->St->Hp->(St->Hp->Prop)->Prop
abbrev TGs:=List V->St->Hp->(St->Hp->Prop)->Prop
def PG(X:Cx)(target:Expr)(t:TG):Prop :=
 ∀(pins:List (Addr×Obj))(s:Shared)(σ:St)(H:Hp)(v:V)(u:Value)(Q:St->Hp->Prop),Inv X pins σ H s->RelV v u->t v σ H Q ->
  wpAny (model X.prog X.w) X.A (assign target X.env u) (λ_ s'=>∃σ' H',Inv X pins σ' H' s'/\Q σ' H') X.xe s
def PGs(X:Cx)(ts:List Expr)(t:TGs):Prop :=
 ∀(pins:List (Addr×Obj))(s:Shared)(σ:St)(H:Hp)(vs:List V)(us:List Value)(Q:St->Hp->Prop),Inv X pins σ H s->Vals vs us->t vs σ H Q ->
  wpAny (model X.prog X.w) X.A (assignInOrder ((assignEach ts X.env).map (·.2)) us) (λ_ s'=>∃σ' H',Inv X pins σ' H' s'/\Q σ' H') X.xe s
abbrev yW:=V->V->V->Hp->(Hp->Prop)->Prop
def Av(X:Cx)(t:yW):Prop :=
 ∀(pins:List (Addr×Obj))(s:Shared)(σ:St)(H:Hp)(o i v:V)(ov iv u:Value)(Q:Hp->Prop),Inv X pins σ H s->RelV o ov->RelV i iv->RelV v u->t o i v H Q ->
  wpAny (model X.prog X.w) X.A (setItem ov iv u) (λ_ s'=>∃H',Inv X pins σ H' s'/\Q H') X.xe s
abbrev TIp:=V->V->Hp->VK->Prop
def PIp(X:Cx)(op:Operator)(t:TIp):Prop :=
 ∀(pins:List (Addr×Obj))(s:Shared)(σ:St)(H:Hp)(x y:V)(v u:Value)(Q:VK),Inv X pins σ H s->RelV x v->RelV y u->t x y H Q ->
  wpAny (model X.prog X.w) X.A (inplaceOp op v u) (EP X pins σ Q) X.xe s
def mX(i:Nat):TG:=λv σ H Q=>Q (σ.set i (some v)) H
theorem aC{i:Nat}{x:Str}(hN:X.N.Nodup)(hi:X.N[i]?=some x)(hx:Loc X.env.scope x)(hf:X.fn x=true\/X.env.scope.names.lookup x=some .local:=by first|exact .inl U|exact .inr U|assumption):PG X (.Name x pos) (mX i):=by
 intro pins s σ H v u Q I r h;exact wpAny_assign_Name (kI I hN hi hx r (λs' I'=>⟨_,H,I',h⟩) hf)
def Cc:TGs:=λvs σ H Q=>vs=[]/\Q σ H
def Aw(t:TG)(u:TGs):TGs:=λvs σ H Q=>∃v r,vs=v :: r/\t v σ H λσ' H'=>u r σ' H' Q
theorem bW:PGs X [] Cc:=by
 intro pins s σ H vs us Q I r h;obtain⟨e,h⟩:=h;subst e;cases r;exact assignInOrder_nil ⟨σ,H,I,h⟩
theorem aK{e:Expr}{es:List Expr}{t:TG}{u:TGs}(h1:PG X e t)(h2:PGs X es u)
  (hs:(assignEach (e :: es) X.env).map (·.2)=assign e X.env :: (assignEach es X.env).map (·.2):=by rfl):PGs X (e :: es) (Aw t u):=by
 intro pins s σ H vs us Q I r h;obtain⟨v,vr,e1,h⟩:=h;subst e1;cases r with
 |cons r rr =>
  rw[hs];refine assignInOrder_cons (thn (h1 pins s σ H _ _ _ I r h) λ_ s1 ⟨σ1,H1,I1,q1⟩=>?_);exact h2 pins s1 σ1 H1 _ _ Q I1 rr q1
def Ax(K:W.Frag)(n:Nat)(t:TGs):TG:=λv σ H Q=>∃a xs,v=.ref a/\SqT K H a xs/\xs.length=n/\t xs σ H Q
theorem eQ{es:List Expr}{k:Nat}{t:TGs}{n:Nat}(hc:X.calm=true)(h:PGs X es t)
  (hn:(assignEach es X.env).length=n:=by rfl)(hst:(assignEach es X.env).findIdx? (·.1)=none:=by rfl):PG X (.Tuple es k pos) (Ax X.K n t):=by
 intro pins s σ H v u Q I r hw;obtain⟨a,xs,e1,hq,hl,hw⟩:=hw;subst e1;cases r;obtain⟨its,rv,ht,hz⟩:=I.tuple hq;refine assign_Tuple_tuple (I.ok.hd hc) ht (by simp[hn,←hl,rv.length]) hst λh' hx=>?_
 have I1:Inv X pins σ H { s with heap:=h' }:=I.kept (t':=s.toks) λb o e=>hx b o (ne_of_lt (Heap.lt_size e)) e
 exact h pins _ σ H xs _ Q I1 (by simpa using rv) hw
def Cd(to ti:TE)(t:yW):TG:=λv σ H Q=>to σ H λo H1=>ti σ H1 λi H2=>t o i v H2 λH3=>Q σ H3
theorem qD{o i:Expr}{to ti:TE}{t:yW}(ho:PE X o to)(hi:PE X i ti)(hs:Av X t)
  (ha:∀v,assign (.Subscript o i pos) X.env v=(do
   let ov ←holding [v] (eval o X.env)
   let iv ←holding [v,ov] (eval i X.env)
   standAt pos
   holding [v,ov,iv] (setItem ov iv v)
   release [v,ov,iv] []):=by intro _;rfl):PG X (.Subscript o i pos) (Cd to ti t):=by
 intro pins s σ H v u Q I r h;rw[ha];refine wpAny_bind (wpAny_holding (thn (ho pins s σ H _ I h) λov s1 ⟨x,H1,I1,r1,q1⟩=>?_));refine wpAny_bind (wpAny_holding (thn (hi pins s1 σ H1 _ I1 q1) λiv s2 ⟨y,H2,I2,r2,q2⟩=>?_));refine wpAny_bind (wpAny_standAt (wpAny_bind (wpAny_holding (thn (hs pins s2 σ H2 x y v ov iv u _ I2 r1 r2 r q2) λ_ s3 ⟨H3,I3,q3⟩=>?_))));exact wpAny_release ⟨σ,H3,I3,q3⟩
def xi(te:TE)(g:TG):TS:=λD σ H=>te σ H λx H1=>g x σ H1 D.nx
theorem qE{tg e:Expr}{te:TE}{g:TG}(he:PE X e te)(hg:PG X tg g)(hs:swapsWithSole [tg] e pos.line X.env=pure false:=by rfl)(hw:swappedStores [tg] e X.env=pure none:=by rfl)
  (h1:(assignEach [tg] X.env).map (·.2)=[assign tg X.env]:=by rfl):PS X (.Assign [tg] e pos) (xi te g):=by
 intro pins s σ H D I h;refine wpAny_Assign_stores (thn (he pins s σ H _ I h) λv s1 ⟨x,H1,I1,r1,q1⟩=>?_) hs hw;rw[h1];exact thn (hg pins s1 σ H1 x v _ I1 r1 q1) λ_ s2 q=>q
theorem aJ{i:Nat}{x:Str}{e:Expr}{te:TE}{pos':Pos}(hN:X.N.Nodup)(hi:X.N[i]?=some x)(hx:Loc X.env.scope x)(he:PE X e te)(hs:swapsWith e (some (.Name x pos')) pos.line X.env=pure false:=by rfl)(hf:X.fn x=true\/X.env.scope.names.lookup x=some .local:=by first|exact .inl U|exact .inr U|assumption) :
  PS X (.Assign [.Name x pos'] e pos) (xi te (mX i)):=by
 intro pins s σ H D I h;refine wpAny_Assign_Name (thn (he pins s σ H _ I h) λv s1 ⟨y,H1,I1,r1,q1⟩=>?_) hs;exact kI I1 hN hi hx r1 (λs2 I2=>⟨_,H1,I2,q1⟩) hf
inductive Ay(i:Nat)(te:TE)(ti:TIp)(D:Ends)(σ:St)(H:Hp):Prop
 |mk (x:_)(_:σ[i]?=some (some x))(_:te σ H λy H1=>ti x y H1 λz H2=>D.nx (σ.set i (some z)) H2):Ay i te ti D σ H
theorem yX{i:Nat}{x:Str}{e:Expr}{te:TE}{op:Operator}{ti:TIp}{pos':Pos}(hN:X.N.Nodup)(hi:X.N[i]?=some x)(hx:Loc X.env.scope x)(he:PE X e te)(ho:PIp X op ti)(hf:X.fn x=true\/X.env.scope.names.lookup x=some .local:=by first|exact .inl U|exact .inr U|assumption) :
  PS X (.AugAssign (.Name x pos') op e pos) (Ay i te ti):=by
 intro pins s σ H D I h;obtain⟨v,e1,h⟩:=h;obtain⟨m,hn,hl⟩:=I.loc;have vis:Vis X.env.scope x:=by rcases hx with k|k;exact .inl k;exact .inr (.inl k)
 obtain⟨u,r,l⟩:=hl i x v hi e1 vis;refine wpAny_AugAssign_Name ?_;have go:wpAny (model X.prog X.w) X.A (eval e X.env) (λw s₂=>wpAny (model X.prog X.w) X.A (inplaceOp op u w) (λr s₃=>wpAny (model X.prog X.w) X.A (storeName X.env x r) (λ_=>SP X pins D .next) X.xe s₃) X.xe s₂) X.xe s:=by
  refine thn (he pins s σ H _ I h) λw s1 ⟨y,H1,I1,r1,q1⟩=>?_
  refine thn (ho pins s1 σ H1 v y u w _ I1 r r1 q1) λz s2 ⟨zv,H2,I2,r2,q2⟩=>?_
  exact kI I2 hN hi hx r2 (λs3 I3=>⟨_,H2,I3,q2⟩) hf
 rcases l with⟨hk,hm⟩|⟨hk,c,hc,js⟩
 ·exact wpAny_loadName_local I.ok.kind hk hn hm go
 ·rcases hk with hk|hk
  ·exact wpAny_loadName_cell I.ok.kind hk hc js go
  ·rcases hx with k|k
   ·have:X.env.scope.names.lookup x=some .free:=hk;rw[k]at this;cases this
   ·have:X.env.scope.names.lookup x=some .free:=hk;rw[k]at this;cases this
structure It where
 go:Nat->Hp->Prop
 yld:Nat->Hp->V->Hp->Prop
 stop:Nat->Hp->Prop
def jP(X:Cx)(pins:List (Addr×Obj))(H:Hp)(b:Addr):Prop :=
 H b=none/\b≠X.env.locals/\b ∉ X.fs/\(b∈X.ex\/X.s₀.heap.objs.size<=b)/\(∀x c,X.env.cells.lookup x=some c->c≠b)/\∀p∈X.pn++pins,p.1≠b
theorem Inv.fpOk{X:Cx}{pins:List (Addr×Obj)}{σ:St}{H H':Hp}{s:Shared}{b:Addr}(I:Inv X pins σ H s)(hb:s.heap.objs.size<=b)(hn:H' b=none):jP X pins H' b:=by
 refine⟨hn,ne_of_gt (lt_of_lt_of_le I.lt hb),I.nofs hb,.inr (le_trans I.sz hb),λx c e z=>?_,λp hp z=>?_⟩
 ·obtain⟨v,q⟩:=I.cell x c e;exact absurd (lt_of_lt_of_le q.lt (by rw[z];exact hb)) (lt_irrefl _)
 ·exact absurd (lt_of_lt_of_le (Heap.lt_size (I.pin p hp).1) (by rw[z];exact hb)) (lt_irrefl _)
structure Turn(P:Program)(w:World)(K:W.Frag)(tg:Expr)(J:It)(fp:List Addr)(it:Addr)(tn:Nat->Heap->Prop):Prop where
 mem:it∈fp
 obj:∀i h,tn i h->∀b∈fp,∃o,h.get? b=some o/\∀v,o.data≠.cell v
 keep:∀i h h',tn i h->(∀b∈fp,∀o,h.get? b=some o->h'.get? b=some o)->tn i h'
 item:∀(X:Cx),X.prog=P->X.w=w->X.K=K->X.calm=true->∀(i:Nat)(pins:List (Addr×Obj))(s:Shared)(σ:St)(H:Hp)(E:Value->Shared->Prop),Inv X pins σ H s->(∀b∈fp,jP X pins H b)->tn i s.heap->J.go i H ->
  wpAny (model P w) X.A (pyNext (.ref it)) (λr s1=>∃u,r=some u /\
   wpAny (model P w) X.A (letOwnedTupleGo tg (.ref it) u) (λ_ s2=>∃x H',Inv X pins σ H' s2/\RelV x u/\J.yld i H x H'/\tn (i+1) s2.heap/\∀b∈fp,H' b=none) E s1) E s
 done:∀(X:Cx),X.prog=P->X.w=w->X.K=K->X.calm=true->∀(i:Nat)(pins:List (Addr×Obj))(s:Shared)(σ:St)(H:Hp)(E:Value->Shared->Prop),Inv X pins σ H s->(∀b∈fp,jP X pins H b)->tn i s.heap->J.stop i H ->
  wpAny (model P w) X.A (pyNext (.ref it)) (λr s1=>r=none/\Inv X pins σ H s1) E s
 self:∀(A:Around)(i:Nat)(s:Shared)(Q:Value->Shared->Prop)(E:Value->Shared->Prop),tn i s.heap->Q (.ref it) s->wpAny (model P w) A (pyIter (.ref it)) Q E s
abbrev TI:=St->Hp->(It->Hp->Prop)->Prop
def PIE(X:Cx)(pins:List (Addr×Obj))(σ:St)(tg:Expr)(R:It->Hp->Prop)(itv:Value)(s2:Shared):Prop :=
 ∃(it:Addr)(fp:List Addr)(tn:Nat->Heap->Prop)(J:It)(H':Hp),itv=.ref it/\Inv X pins σ H' s2/\Turn X.prog X.w X.K tg J fp it tn/\tn 0 s2.heap/\(∀b∈fp,jP X pins H' b)/\R J H'
def PI(X:Cx)(tg iter:Expr)(wi:TI):Prop :=
 ∀(pins:List (Addr×Obj))(s:Shared)(σ:St)(H:Hp)(R:It->Hp->Prop),Inv X pins σ H s->wi σ H R ->
  wpAny (model X.prog X.w) X.A (eval iter X.env) (λv s1=>wpAny (model X.prog X.w) X.A (pyIter v) (PIE X pins σ tg R) X.xe s1) X.xe s
theorem o8{M:Model}{A:Around}{E:Value->Shared->Prop}{s:Shared}{tg:Expr}{it:Addr}{u:Value}{o:Obj}{n:String}{vs:Array Value}{Q:Unit->Shared->Prop}(ho:s.heap.get? it=some o)(hc:o.cls=.type n)(hd:o.data=.fields vs)
  (hn:["enumerate","zip","dict_itemiterator","dict_reverseitemiterator","odict_iterator","itertools.zip_longest","itertools.pairwise"].contains n=false) (hQ:Q () s):wpAny M A (letOwnedTupleGo tg (.ref it) u) Q E s:=by
 unfold letOwnedTupleGo
 cases tg <;> first
  |exact wpAny_pure hQ
  |(cases u <;> first
    |exact wpAny_pure hQ
    |(refine wpAny_bind (wpAny_load ho ?_);rw[hc,hd];show wpAny M A (if (["enumerate","zip","dict_itemiterator","dict_reverseitemiterator","odict_iterator","itertools.zip_longest","itertools.pairwise"].contains n && vs[0]? == some (rawInt _))=true then _ else _) Q E s;rw[if_neg (by intro h;rw[hn,Bool.false_and]at h;cases h)];exact wpAny_pure hQ))
def Itl(K:W.Frag)(a:Addr):It :=
 ⟨λi H=>∃xs x,SqL K H a xs/\xs[i]?=some x,λi H x H'=>H'=H/\∀xs,SqL K H a xs->xs[i]?=some x,λi H=>∃xs,SqL K H a xs/\xs.length<=i⟩
def Itt(K:W.Frag)(a:Addr):It :=
 ⟨λi H=>∃xs x,SqT K H a xs/\xs[i]?=some x,λi H x H'=>H'=H/\∀xs,SqT K H a xs->xs[i]?=some x,λi H=>∃xs,SqT K H a xs/\xs.length<=i⟩
def Itr(lo:Int)(n:Nat):It:=⟨λi _=>i<n,λi H x H'=>H'=H/\x=.int (lo+i),λi _=>n<=i⟩
theorem tF{P:Program}{w:World}{K:W.Frag}{tg:Expr}(a it:Addr):Turn P w K tg (Itl K a) [it] it (λi h=>h.IsListIter it a i) where
 mem:=by simp
 obj:=λi h st b hb=>by
  have e:b=it:=by simpa using hb
  subst e;obtain⟨o,e,c,d⟩:=st;exact⟨o,e,λv z=>by rw[d]at z;cases z⟩
 keep:=λi h h' st k=>st.at λo e=>k it (by simp) o e
 item:=by
  intro X hP hw hK hc i pins s σ H E I hf st hg;subst hP hw hK;obtain⟨xs,x,hq,hx⟩:=hg;obtain⟨its,rv,p,hz⟩:=I.list hq;obtain⟨u,hu,ru⟩:=rv.get hx;obtain⟨f0,f1,f2,f3,f4,f5⟩:=hf it (by simp);refine wpAny_pyNext_list_item st p.isList (x:=u) (by simpa using hu) λh' st' sb=>?_
  have I1:Inv X pins σ H { s with heap:=h' }:=I.turned (t':=s.toks) (λb o hb e=>(sb.2 b hb).trans e) f0 f1 f3 f4 f5;obtain⟨o,e,c,d⟩:=id st';exact⟨u,U,o8 (s:={ s with heap:=h' }) e c d (by decide) ⟨x,H,I1,ru,⟨U,λys hy=>by rw[I.list_inj hy hq];exact hx⟩,st',λb hb=>(hf b hb).1⟩⟩
 done:=by
  intro X hP hw hK hc i pins s σ H E I hf st hg;subst hP hw hK;obtain⟨xs,hq,hx⟩:=hg;obtain⟨its,rv,p,hz⟩:=I.list hq;obtain⟨f0,f1,f2,f3,f4,f5⟩:=hf it (by simp);have hl:=rv.length;exact wpAny_pyNext_list_end (I.ok.hd hc) st p.isList (by simp;lia) λh' eb=>⟨U,I.turned (t':=s.toks) (λb o hb e=>eb b o hb e) f0 f1 f3 f4 f5⟩
 self:=λ_ _ _ _ _ st h=>wpAny_pyIter_listiter st h
theorem qF{P:Program}{w:World}{K:W.Frag}{tg:Expr}(a it:Addr):Turn P w K tg (Itt K a) [it] it (λi h=>h.IsTupleIter it a i) where
 mem:=by simp
 obj:=λi h st b hb=>by
  have e:b=it:=by simpa using hb
  subst e;obtain⟨o,e,c,d⟩:=st;exact⟨o,e,λv z=>by rw[d]at z;cases z⟩
 keep:=λi h h' st k=>st.at λo e=>k it (by simp) o e
 item:=by
  intro X hP hw hK hc i pins s σ H E I hf st hg;subst hP hw hK;obtain⟨xs,x,hq,hx⟩:=hg;obtain⟨its,rv,p,hz⟩:=I.tuple hq;obtain⟨u,hu,ru⟩:=rv.get hx;obtain⟨f0,f1,f2,f3,f4,f5⟩:=hf it (by simp);refine wpAny_pyNext_tuple_item st (show s.heap.IsTuple a its.toArray from p) (x:=u) (by simpa using hu) λh' st' sb=>?_
  have I1:Inv X pins σ H { s with heap:=h' }:=I.turned (t':=s.toks) (λb o hb e=>(sb.2 b hb).trans e) f0 f1 f3 f4 f5;obtain⟨o,e,c,d⟩:=id st';exact⟨u,U,o8 (s:={ s with heap:=h' }) e c d (by decide) ⟨x,H,I1,ru,⟨U,λys hy=>by rw[I.tuple_inj hy hq];exact hx⟩,st',λb hb=>(hf b hb).1⟩⟩
 done:=by
  intro X hP hw hK hc i pins s σ H E I hf st hg;subst hP hw hK;obtain⟨xs,hq,hx⟩:=hg;obtain⟨its,rv,p,hz⟩:=I.tuple hq;obtain⟨f0,f1,f2,f3,f4,f5⟩:=hf it (by simp);have hl:=rv.length;exact wpAny_pyNext_tuple_end (I.ok.hd hc) st (show s.heap.IsTuple a its.toArray from p) (by simp;lia) λh' eb=>⟨U,I.turned (t':=s.toks) (λb o hb e=>eb b o hb e) f0 f1 f3 f4 f5⟩
 self:=λ_ _ _ _ _ st h=>wpAny_pyIter_tupleiter st h
theorem qG{P:Program}{w:World}{K:W.Frag}{tg:Expr}(it:Addr)(lo:Int)(n:Nat):Turn P w K tg (Itr lo n) [it] it (λi h=>IsRangeIter h it (lo+(i:Nat)*1) ((n:Int)-(i:Nat)) 1) where
 mem:=by simp
 obj:=λi h st b hb=>by
  have e:b=it:=by simpa using hb
  subst e;exact⟨_,st,λv z=>by
   have z':Data.fields _=Data.cell v:=z;cases z'⟩
 keep:=λi h h' st k=>k it (by simp) _ st
 item:=by
  intro X hP hw hK hc i pins s σ H E I hf st hg;subst hP hw hK;obtain⟨f0,f1,f2,f3,f4,f5⟩:=hf it (by simp);have W:=Walks.range (prog:=X.prog) (w:=X.w) (I.ok.hd hc) it lo 1 n;refine W.item i s _ _ hg st λv h' tk hv st' kk=>?_
  obtain⟨t,rfl⟩:=hv;have I1:Inv X pins σ H { s with heap:=h',toks:=tk }:=I.turned (λb o hb e=>kk b o (by simpa using hb) e) f0 f1 f3 f4 f5;refine⟨_,U,o8 (s:={ s with heap:=h',toks:=tk }) (n := "range_iterator") st' U U (by decide) ⟨.int (lo+i),H,I1,⟨t,?_⟩,⟨U,U⟩,st',λb hb=>(hf b hb).1⟩⟩;rw[mul_one]
 done:=by
  intro X hP hw hK hc i pins s σ H E I hf st hg;subst hP hw hK;obtain⟨f0,f1,f2,f3,f4,f5⟩:=hf it (by simp);exact wpAny_pyNext_range_end (I.ok.hd hc) st (by have:n<=i:=hg;lia) λh' eb=>⟨U,I.turned (t':=s.toks) (λb o hb e=>eb b o hb e) f0 f1 f3 f4 f5⟩
 self:=λ_ _ _ _ _ st h=>wpAny_pyIter_rangeiter st h
section
variable{tg:Expr}
inductive uQ(K:W.Frag)(R:It->Hp->Prop)(x:V)(H1:Hp):Prop
 |mk (a:_)(_:x=.ref a)(_:(∃xs,SqL K H1 a xs))(_:R (Itl K a) H1):uQ K R x H1
def Az(K:W.Frag)(tl:TE):TI:=λσ H R=>tl σ H λx H1=>uQ K R x H1
inductive yq(K:W.Frag)(R:It->Hp->Prop)(x:V)(H1:Hp):Prop
 |mk (a:_)(_:x=.ref a)(_:(∃xs,SqT K H1 a xs))(_:R (Itt K a) H1):yq K R x H1
def Ce(K:W.Frag)(tl:TE):TI:=λσ H R=>tl σ H λx H1=>yq K R x H1
theorem aV{l:Expr}{tl:TE}(hl:PE X l tl):PI X tg l (Az X.K tl):=by
 intro pins s σ H R I h;refine thn (hl pins s σ H _ I h) λv s1 ⟨x,H1,I1,r1,q1⟩=>?_
 obtain⟨a,e,⟨xs,hq⟩,q⟩:=q1;subst e;cases r1;obtain⟨its,rv,p,hz⟩:=I1.list hq;refine wpAny_pyIter_list p.isList ?_;refine⟨s1.heap.objs.size,[s1.heap.objs.size],_,_,H1,U,I1.kept (t':=s1.toks) λb o e=>Heap.get?_push_of_some _ e,tF a _,⟨_,Heap.get?_push_size _ U,U,U⟩,λb hb=>?_,q⟩;have e:b=s1.heap.objs.size:=by simpa using hb
 subst e;exact I1.fpOk (le_refl _) (I1.hok.fresh (le_refl _))
theorem qH{l:Expr}{tl:TE}(hl:PE X l tl):PI X tg l (Ce X.K tl):=by
 intro pins s σ H R I h;refine thn (hl pins s σ H _ I h) λv s1 ⟨x,H1,I1,r1,q1⟩=>?_
 obtain⟨a,e,⟨xs,hq⟩,q⟩:=q1;subst e;cases r1;obtain⟨its,rv,p,hz⟩:=I1.tuple hq;refine wpAny_pyIter_tuple (show s1.heap.IsTuple a its.toArray from p) ?_;refine⟨s1.heap.objs.size,[s1.heap.objs.size],_,_,H1,U,I1.kept (t':=s1.toks) λb o e=>Heap.get?_push_of_some _ e,qF a _,⟨_,Heap.get?_push_size _ U,U,U⟩,λb hb=>?_,q⟩;have e:b=s1.heap.objs.size:=by simpa using hb
 subst e;exact I1.fpOk (le_refl _) (I1.hok.fresh (le_refl _))
theorem uR{pins:List (Addr×Obj)}{σ:St}{H:Hp}{s:Shared}{R:It->Hp->Prop}{E:Value->Shared->Prop}{lo hi:Int}{t u v:Tok}{tk:Nat}(I:Inv X pins σ H s)(h1 : -(2^62)<=lo)(h2:lo<2^62)(h3 : -(2^62)<=hi)(h4:hi<2^62)
  (q:R (Itr lo (hi-lo).toNat) H):wpAny (model X.prog X.w) X.A (pyIter (.ref s.heap.objs.size)) (PIE X pins σ tg R) E { s with heap:=s.heap.push { cls:=.type "range",data:=.fields #[.int lo t,.int hi u,.int 1 v] },toks:=tk }:=by
 refine wpAny_pyIter_range (IsRange.new ..) (small_one h1 h2 h3 h4) ?_;have I1:Inv X pins σ H { s with heap:=s.heap.push { cls:=.type "range",data:=.fields #[.int lo t,.int hi u,.int 1 v] },toks:=tk }:=I.kept λb o e=>Heap.get?_push_of_some _ e
 refine⟨(s.heap.push { cls:=.type "range",data:=.fields #[.int lo t,.int hi u,.int 1 v] }).objs.size,[(s.heap.push { cls:=.type "range",data:=.fields #[.int lo t,.int hi u,.int 1 v] }).objs.size],_,_,H,U,
  I1.kept (t':=tk) λb o e=>Heap.get?_push_of_some _ e,qG _ lo (hi-lo).toNat,?_,λb hb=>?_,q⟩
 ·have e1:lo+((0:Nat):Int)*1=lo:=by simp
  have e2:(((hi-lo).toNat:Nat):Int)-((0:Nat):Int)=Builtin.Range.rangeSize lo hi 1:=by rw[rangeSize_one];split <;> lia
  show IsRangeIter _ _ (lo+((0:Nat):Int)*1) ((((hi-lo).toNat:Nat):Int)-((0:Nat):Int)) 1;rw[e1,e2];exact Heap.get?_push_size _ U
 ·have e:b=(s.heap.push { cls:=.type "range",data:=.fields #[.int lo t,.int hi u,.int 1 v] }).objs.size:=by simpa using hb
  subst e;exact I1.fpOk (le_refl _) (I1.hok.fresh (le_refl _))
inductive uS  (R:It->Hp->Prop)(vs:List V)(H1:Hp):Prop
 |mk (j:Int)(_:vs=[.int j])(_ : -(2^62)<=j)(_:j<2^62)(_:R (Itr 0 j.toNat) H1):uS R vs H1
def AA(ta:TA):TI:=λσ H R=>ta σ H λvs H1=>uS R vs H1
theorem aP{a:Expr}{ta:TA}{p pos:Pos}(hg:Gl X "range") (hm:X.mg "range" = none) (ha:PA X [a] ta)(hs:starEach [a] X.env=[(false,eval a X.env)]:=by rfl):PI X tg (.Call (.Name "range" p) [a] [] pos) (AA ta):=by
 intro pins s σ H R I h;refine Call_ (f7 I hg hm boot_range (PyProof.Rows.callWith_type1 (thn (ha pos pins s σ H _ I h) λus s1 ⟨vs,H1,I1,r1,q1⟩=>?_) hs U));obtain⟨j,e,q1,q2,q⟩:=q1;subst e;cases r1 with
 |cons r rr =>
  cases rr;obtain⟨t,rfl⟩:=r;exact call_range_1 (uR I1 (by lia) (by lia) q1 q2 (by simpa using q))
def Cf(wi:TI)(g:TG)(tb:TS):TS:=λD σ H=>wi σ H λJ H1=>∃W:Nat->Nat->St->Hp->Prop,(∃m,W 0 m σ H1)/\∀i m σ H,W i m σ H ->
 (J.stop i H/\D.nx σ H)\/(J.go i H/\∃N:St->Hp->Prop,(∀σ' H',N σ' H'->∃m',m'<m/\W (i+1) m' σ' H')/\∀x H',J.yld i H x H'->g x σ H' λσ2 H2=>tb { D with nx:=N,ct:=N,bk:=D.nx } σ2 H2)
def jQ(fp:List Addr)(h:Heap):List (Addr×Obj):=fp.filterMap λb=>(h.get? b).map λo=>(b,o)
theorem dr{fp:List Addr}{h:Heap}{b:Addr}{o:Obj}(hb:b∈fp)(e:h.get? b=some o):(b,o)∈jQ fp h:=List.mem_filterMap.mpr ⟨b,hb,by rw[e];rfl⟩
theorem tG{fp:List Addr}{h:Heap}{p:Addr×Obj}(hp:p∈jQ fp h):p.1∈fp/\h.get? p.1=some p.2:=by
 obtain⟨b,hb,e⟩:=List.mem_filterMap.mp hp;cases q:h.get? b with
 |none=>rw[q]at e;cases e
 |some o =>
  rw[q]at e;have e':(b,o)=p:=Option.some.inj e;subst e';exact⟨hb,q⟩
theorem Inv.pinned{pins:List (Addr×Obj)}{σ:St}{H:Hp}{s:Shared}{fp:List Addr}(I:Inv X pins σ H s)(hf:∀b∈fp,jP X pins H b)(ho:∀b∈fp,∃o,s.heap.get? b=some o/\∀v,o.data≠.cell v):Inv X (pins++jQ fp s.heap) σ H s :=
 I.pins_of λp hp=>(mem_append.mp hp).elim (λz=>I.pin p (mem_append_right _ z)) λz=>by
  obtain⟨hb,e⟩:=tG z;obtain⟨f0,f1,f2,_⟩:=hf p.1 hb;obtain⟨o,e',d⟩:=ho p.1 hb;rw[e]at e';cases e';exact⟨e,f0,f1,f2,d⟩
theorem Inv.unpinned{pins pl:List (Addr×Obj)}{σ:St}{H:Hp}{s:Shared}(I:Inv X (pins++pl) σ H s):Inv X pins σ H s:=I.pins_of λp hp=>I.pin p (mem_append_right _ (mem_append_left _ hp))
theorem aY{iter:Expr}{body:List Stmt}{wi:TI}{g:TG}{tb:TS}{pos:Pos}(hp:PassesOwn (model X.prog X.w) X.A X.env X.xe)(hc:X.calm=true)(hi:PI X tg iter wi)(hg:PG X tg g)(hb:PSs X body tb)
  (hs:∀x,foldedSetIterable iter X.env x=pure x:=by intro _;rfl):PS X (.For tg iter body [] pos) (Cf wi g tb):=by
 intro pins s σ H D I h;refine wpAny_For (thn (hi pins s σ H _ I h) λv s1 h1=>thn h1 λitv s2 h2=>?_) hs;obtain⟨it,fp,tn,J,H2,e,I2,T,st2,f2,W,⟨m0,w0⟩,turn⟩:=h2;subst e;have yY:∀{H':Hp},(∀b∈fp,H' b=none)->∀b∈fp,jP X pins H' b:=λhn b hb=>⟨hn b hb,(f2 b hb).2⟩
 refine codeAny_forLoop_any (λn s'=>∃i σ' H',Inv X pins σ' H' s'/\tn i s'.heap/\(∀b∈fp,H' b=none)/\W i n σ' H') ?_ m0 ⟨0,σ,H2,I2,st2,λb hb=>(f2 b hb).1,w0⟩;rintro n s3 ⟨i,σ3,H3,I3,st3,fr3,w3⟩;rcases turn i n σ3 H3 w3 with⟨stop,qn⟩|⟨go,N,hN,step⟩
 ·refine wpAny_passesOwn hp (thn (T.done X U U U hc i pins s3 σ3 H3 X.xe I3 (yY fr3) st3 stop) λr s4 ⟨hr,I4⟩=>?_);subst hr;exact wpAny_execs_nil ⟨σ3,H3,I4,qn⟩
 ·refine wpAny_passesOwn hp (thn (T.item X U U U hc i pins s3 σ3 H3 X.xe I3 (yY fr3) st3 go) λr s4 ⟨u,hr,h4⟩=>?_);subst hr;refine wpAny_passesOwn hp (thn h4 λ_ s5 ⟨x,H5,I5,r5,y5,st5,fr5⟩=>?_);have I5':=I5.pinned (yY fr5) (T.obj _ _ st5);refine wpAny_passesOwn hp (thn (hg _ s5 σ3 H5 x u _ I5' r5 (step x H5 y5)) λ_ s6 ⟨σ6,H6,I6,q6⟩=>?_);refine wpAny_passesOwn hp (thn (hb _ s6 σ6 H6 _ I6 q6) λf s7 q7=>?_);have again:∀{σ7:St}{H7:Hp},Inv X (pins++jQ fp s5.heap) σ7 H7 s7->N σ7 H7->∃m,m<n/\∃i σ' H',Inv X pins σ' H' s7/\tn i s7.heap/\(∀b∈fp,H' b=none)/\W i m σ' H':=λ{σ7 H7} I7 n7=>by
   obtain⟨m',hm,w7⟩:=hN σ7 H7 n7;refine⟨m',hm,i+1,σ7,H7,I7.unpinned,T.keep _ _ _ st5 λb hb o e=>(I7.pin (b,o) (mem_append_right _ (mem_append_right _ (dr hb e)))).1,λb hb=>?_,w7⟩;obtain⟨o,e,d⟩:=T.obj _ _ st5 b hb;exact(I7.pin (b,o) (mem_append_right _ (mem_append_right _ (dr hb e)))).2.1
  cases f with
  |next=>obtain⟨σ7,H7,I7,n7⟩:=q7;exact again I7 n7
  |cont=>obtain⟨σ7,H7,I7,n7⟩:=q7;exact again I7 n7
  |brk=>obtain⟨σ7,H7,I7,q7⟩:=q7;exact⟨σ7,H7,I7.unpinned,q7⟩
  |ret v=>obtain⟨x7,σ7,H7,I7,r7,q7⟩:=q7;exact⟨x7,σ7,H7,I7.unpinned,r7,q7⟩
end
theorem bB{K:W.Frag}{a:Addr}{xs:List V}{g:TG}{tb:TS}{D:Ends}{σ:St}{H:Hp}(Pv:Nat->St->Hp->Prop)(h0:Pv 0 σ H)(hl:∀i σ H,i<=xs.length->Pv i σ H->SqL K H a xs)
  (hs:∀i x σ H,xs[i]?=some x->Pv i σ H->g x σ H λσ2 H2=>tb { D with nx:=Pv (i+1),ct:=Pv (i+1),bk:=D.nx } σ2 H2)(hd:∀σ H,Pv xs.length σ H->D.nx σ H) :
  ∃W:Nat->Nat->St->Hp->Prop,(∃m,W 0 m σ H)/\∀i m σ H,W i m σ H ->
   ((Itl K a).stop i H/\D.nx σ H)\/((Itl K a).go i H/\∃N:St->Hp->Prop,(∀σ' H',N σ' H'->∃m',m'<m/\W (i+1) m' σ' H')/\∀x H',(Itl K a).yld i H x H'->g x σ H' λσ2 H2=>tb { D with nx:=N,ct:=N,bk:=D.nx } σ2 H2):=by
 refine⟨λi m σ H=>m=xs.length-i/\i<=xs.length/\Pv i σ H,⟨xs.length,by simp,zero_le _,h0⟩,?_⟩;rintro i m σ H ⟨rfl,hi,p⟩;have q:=hl i σ H hi p;by_cases hlt:i<xs.length
 ·refine .inr ⟨⟨xs,xs[i],q,by simp[hlt]⟩,Pv (i+1),λσ' H' p'=>⟨xs.length-(i+1),by lia,U,hlt,p'⟩,λx H' y=>?_⟩;obtain⟨e,y⟩:=y;subst e;exact hs i x σ _ (y xs q) p
 ·have e:i=xs.length:=by lia
  subst e;exact .inl ⟨⟨xs,q,le_refl _⟩,hd σ H p⟩
theorem sh{K:W.Frag}{a:Addr}{xs:List V}{g:TG}{tb:TS}{D:Ends}{σ:St}{H:Hp}(Pv:Nat->St->Hp->Prop)(h0:Pv 0 σ H)(hl:∀i σ H,i<=xs.length->Pv i σ H->SqT K H a xs)
  (hs:∀i x σ H,xs[i]?=some x->Pv i σ H->g x σ H λσ2 H2=>tb { D with nx:=Pv (i+1),ct:=Pv (i+1),bk:=D.nx } σ2 H2)(hd:∀σ H,Pv xs.length σ H->D.nx σ H) :
  ∃W:Nat->Nat->St->Hp->Prop,(∃m,W 0 m σ H)/\∀i m σ H,W i m σ H ->
   ((Itt K a).stop i H/\D.nx σ H)\/((Itt K a).go i H/\∃N:St->Hp->Prop,(∀σ' H',N σ' H'->∃m',m'<m/\W (i+1) m' σ' H')/\∀x H',(Itt K a).yld i H x H'->g x σ H' λσ2 H2=>tb { D with nx:=N,ct:=N,bk:=D.nx } σ2 H2):=by
 refine⟨λi m σ H=>m=xs.length-i/\i<=xs.length/\Pv i σ H,⟨xs.length,by simp,zero_le _,h0⟩,?_⟩;rintro i m σ H ⟨rfl,hi,p⟩;have q:=hl i σ H hi p;by_cases hlt:i<xs.length
 ·refine .inr ⟨⟨xs,xs[i],q,by simp[hlt]⟩,Pv (i+1),λσ' H' p'=>⟨xs.length-(i+1),by lia,U,hlt,p'⟩,λx H' y=>?_⟩;obtain⟨e,y⟩:=y;subst e;exact hs i x σ _ (y xs q) p
 ·have e:i=xs.length:=by lia
  subst e;exact .inl ⟨⟨xs,q,le_refl _⟩,hd σ H p⟩
theorem bK{lo:Int}{n:Nat}{g:TG}{tb:TS}{D:Ends}{σ:St}{H:Hp}(Pv:Nat->St->Hp->Prop)(h0:Pv 0 σ H)
  (hs:∀i σ H,i<n->Pv i σ H->g (.int (lo+i)) σ H λσ2 H2=>tb { D with nx:=Pv (i+1),ct:=Pv (i+1),bk:=D.nx } σ2 H2)(hd:∀σ H,Pv n σ H->D.nx σ H) :
  ∃W:Nat->Nat->St->Hp->Prop,(∃m,W 0 m σ H)/\∀i m σ H,W i m σ H ->
   ((Itr lo n).stop i H/\D.nx σ H)\/((Itr lo n).go i H/\∃N:St->Hp->Prop,(∀σ' H',N σ' H'->∃m',m'<m/\W (i+1) m' σ' H')/\∀x H',(Itr lo n).yld i H x H'->g x σ H' λσ2 H2=>tb { D with nx:=N,ct:=N,bk:=D.nx } σ2 H2):=by
 refine⟨λi m σ H=>m=n-i/\i<=n/\Pv i σ H,⟨n,by simp,zero_le _,h0⟩,?_⟩;rintro i m σ H ⟨rfl,hi,p⟩;by_cases hlt:i<n
 ·refine .inr ⟨hlt,Pv (i+1),λσ' H' p'=>⟨n-(i+1),by lia,U,hlt,p'⟩,λx H' y=>?_⟩;obtain⟨e,y⟩:=y;subst e y;exact hs i σ _ hlt p
 ·have e:i=n:=by lia
  subst e;exact .inl ⟨le_refl _,hd σ H p⟩
abbrev R2:=V->V->Hp->VK->Prop
def OpR(X:Cx)(f:Value->Value->Sem Value)(r:R2):Prop :=
 ∀(pins:List (Addr×Obj))(s:Shared)(σ:St)(H:Hp)(x y:V)(v u:Value)(Q:VK),Inv X pins σ H s->RelV x v->RelV y u->r x y H Q ->
  wpAny (model X.prog X.w) X.A (f v u) (EP X pins σ Q) X.xe s
def UnR(X:Cx)(f:Value->Sem Value)(r:V->Hp->VK->Prop):Prop :=
 ∀(pins:List (Addr×Obj))(s:Shared)(σ:St)(H:Hp)(x:V)(v:Value)(Q:VK),Inv X pins σ H s->RelV x v->r x H Q ->
  wpAny (model X.prog X.w) X.A (f v) (EP X pins σ Q) X.xe s
def de(X:Cx)(f:Value)(r:List V->Hp->VK->Prop):Prop :=
 ∀(pins:List (Addr×Obj))(s:Shared)(σ:St)(H:Hp)(xs:List V)(us:List Value)(Q:VK),Inv X pins σ H s->Vals xs us->r xs H Q ->
  wpAny (model X.prog X.w) X.A (call f us) (EP X pins σ Q) X.xe s
def Cg(X:Cx)(r:V->Hp->(Bool->Hp->Prop)->Prop):Prop :=
 ∀(pins:List (Addr×Obj))(s:Shared)(σ:St)(H:Hp)(x:V)(v:Value)(Q:Bool->Hp->Prop),Inv X pins σ H s->RelV x v->r x H Q ->
  wpAny (model X.prog X.w) X.A (truthy v) (TP X pins σ Q) X.xe s
def tOp(r:R2)(ta tb:TE):TE:=λσ H Q=>ta σ H λx H1=>tb σ H1 λy H2=>r x y H2 Q
def tUn(r:V->Hp->VK->Prop)(ta:TE):TE:=λσ H Q=>ta σ H λx H1=>r x H1 Q
inductive rI(C:Int->Int->Prop)(g:Int->Int->V)(x:V)(y:V)(H:Hp)(Q:VK):Prop
 |mk (i j:_)(_:x=.int i)(_:y=.int j)(_:C i j)(_:Q (g i j) H):rI C g x y H Q
inductive rI0(g:Int->Int->V)(x:V)(y:V)(H:Hp)(Q:VK):Prop
 |mk (i j:_)(_:x=.int i)(_:y=.int j)(_:Q (g i j) H):rI0 g x y H Q
inductive rU(g:Int->V)(x:V)(H:Hp)(Q:VK):Prop
 |mk (i:_)(_:x=.int i)(_:Q (g i) H):rU g x H Q
section
variable{a c:Expr}{tc:TE}
theorem yZ(ha:PE X a ta)(hb:PE X b tb){pins:List (Addr×Obj)}{s:Shared}{σ:St}{H:Hp}{R:V->V->Hp->Prop}(I:Inv X pins σ H s)
  (h:ta σ H λx H1=>tb σ H1 λy H2=>R x y H2){Q:Value->Shared->Prop}{f:Value->Value->Sem Value}
  (hf:∀v u s2 x y H2,Inv X pins σ H2 s2->RelV x v->RelV y u->R x y H2->wpAny (model X.prog X.w) X.A (f v u) Q X.xe s2) :
  wpAny (model X.prog X.w) X.A (eval a X.env) (λv s₁=>wpAny (model X.prog X.w) X.A (eval b X.env) (λu s₂=>wpAny (model X.prog X.w) X.A (f v u) Q X.xe s₂) X.xe s₁) X.xe s:=by
 refine thn (ha pins s σ H _ I h) λv s1 ⟨x,H1,I1,r1,q1⟩=>?_
 refine thn (hb pins s1 σ H1 _ I1 q1) λu s2 ⟨y,H2,I2,r2,q2⟩=>?_
 exact hf v u s2 x y H2 I2 r1 r2 q2
theorem ax{op:Operator}{r:R2}(ho:OpR X (binaryOp op) r)(ha:PE X a ta)(hb:PE X b tb):PE X (.BinOp a op b pos) (tOp r ta tb):=by
 intro pins s σ H Q I h;exact wpAny_BinOp (yZ ha hb I h λv u s2 x y H2 I2 rx ry q=>ho pins s2 σ H2 x y v u Q I2 rx ry q)
theorem iq{op:UnaryOp}{r:V->Hp->VK->Prop}(ho:UnR X (unaryOp op) r)(ha:PE X a ta):PE X (.UnaryOp op a pos) (tUn r ta):=by
 intro pins s σ H Q I h;exact UnaryOp_ (thn (ha pins s σ H _ I h) λv s1 ⟨x,H1,I1,r1,q1⟩=>ho pins s1 σ H1 x v Q I1 r1 q1)
theorem opI{f:Value->Value->Sem Value}{C:Int->Int->Prop}{g:Int->Int->Int}
  (rule:∀(i j:Int)(t u:Tok)(s:Shared)(Q:Value->Shared->Prop)(E:Value->Shared->Prop),C i j->Q (.int (g i j) s.toks) { s with toks:=s.toks+1 }->wpAny (model X.prog X.w) X.A (f (.int i t) (.int j u)) Q E s) :
  OpR X f (rI C λi j=>.int (g i j)):=by
 intro pins s σ H x y v u Q I rx ry h;obtain⟨i,j,rfl,rfl,hc,q⟩:=h;obtain⟨t,rfl⟩:=rx;obtain⟨t',rfl⟩:=ry;exact rule i j t t' s _ _ hc ⟨.int (g i j),H,I.tok _,⟨_,U⟩,q⟩
theorem y7{f:Value->Value->Sem Value}{g:Int->Int->Int}
  (rule:∀(i j:Int)(t u:Tok)(s:Shared)(Q:Value->Shared->Prop)(E:Value->Shared->Prop),Q (.int (g i j) s.toks) { s with toks:=s.toks+1 }->wpAny (model X.prog X.w) X.A (f (.int i t) (.int j u)) Q E s) :
  OpR X f (rI0 λi j=>.int (g i j)):=by
 intro pins s σ H x y v u Q I rx ry h;obtain⟨i,j,rfl,rfl,q⟩:=h;obtain⟨t,rfl⟩:=rx;obtain⟨t',rfl⟩:=ry;exact rule i j t t' s _ _ ⟨.int (g i j),H,I.tok _,⟨_,U⟩,q⟩
theorem xj{f:Value->Value->Sem Value}{g:Int->Int->Bool}
  (rule:∀(i j:Int)(t u:Tok)(s:Shared)(Q:Value->Shared->Prop)(E:Value->Shared->Prop),Q (.bool (g i j)) s->wpAny (model X.prog X.w) X.A (f (.int i t) (.int j u)) Q E s) :
  OpR X f (rI0 λi j=>.bl (g i j)):=by
 intro pins s σ H x y v u Q I rx ry h;obtain⟨i,j,rfl,rfl,q⟩:=h;obtain⟨t,rfl⟩:=rx;obtain⟨t',rfl⟩:=ry;exact rule i j t t' s _ _ ⟨.bl (g i j),H,I,U,q⟩
def Ci(i j:Int):Prop:=0<j/\j<1073741824
def AB(i j:Int):Prop:=0<=j/\j<=1000000/\i.natAbs<2^64
def xk(i j:Int):Prop:=(-(2^64)<i/\i<2^64)\/(-(2^64)<j/\j<2^64)
theorem xk.ok{i j:Int}(h:xk i j):IntMulOk i j:=by
 rcases h with⟨h1,h2⟩|⟨h1,h2⟩
 ·exact .of_left (intBits_le_64 h1 h2)
 ·exact .of_right (intBits_le_64 h1 h2)
theorem qI(k:Nat):(0:Int)<=2^k:=by
 rw[two_pow_cast];exact Int.natCast_nonneg _
theorem cc:OpR X (binaryOp .Add) (rI0 λi j=>.int (i+j)):=y7 λ_ _ _ _ _ _ _ q=>add_int q
theorem bY:OpR X (binaryOp .Sub) (rI0 λi j=>.int (i-j)):=y7 λ_ _ _ _ _ _ _ q=>sub_int q
theorem fC:OpR X (binaryOp .Mult) (rI xk λi j=>.int (i*j)):=opI λ_ _ _ _ _ _ _ hc q=>mul_int q hc.ok
theorem cq:OpR X (binaryOp .FloorDiv) (rI Ci λi j=>.int (i / j)):=opI λi j _ _ _ _ _ hc q=>by
 have h1:(0:Int)<j:=hc.1;have h2:j<1073741824:=hc.2;exact floordiv_int (by lia) (by rw[Int.fdiv_eq_ediv_of_nonneg i (by lia)];exact q) (.inl (PyProof.noPylong_small (by lia)))
theorem aX:OpR X (binaryOp .Mod) (rI (λ_ j=>0<j) λi j=>.int (i%j)):=opI λi j _ _ _ _ _ hc q=>by
 have h1:(0:Int)<j:=hc;exact mod_int' (by lia) (by rw[Int.fmod_eq_emod_of_nonneg i (by lia)];exact q)
theorem jR:OpR X (binaryOp .Pow) (rI AB λi j=>.int (i^j.toNat)):=opI λ_ _ _ _ _ _ _ hc q=>pow_int_small hc.1 hc.2.1 hc.2.2 q
theorem oh:OpR X (binaryOp .LShift) (rI AB λi j=>.int (i*2^j.toNat)):=opI λ_ _ _ _ _ _ _ hc q=>lshift_int_small hc.1 hc.2.1 hc.2.2 q
theorem qJ:OpR X (binaryOp .RShift) (rI (λ_ j=>0<=j) λi j=>.int (i / 2^j.toNat)):=opI λi j _ _ _ _ _ hc q =>
 rshift_int hc (by rw[Int.fdiv_eq_ediv_of_nonneg i (qI _)];exact q)
theorem qK:OpR X (binaryOp .BitAnd) (rI0 λi j=>.int (Builtin.bitAnd i j)):=y7 λ_ _ _ _ _ _ _ q=>and_int q
theorem unI{f:Value->Sem Value}{g:Int->Int}
  (rule:∀(i:Int)(t:Tok)(s:Shared)(Q:Value->Shared->Prop)(E:Value->Shared->Prop),Q (.int (g i) s.toks) { s with toks:=s.toks+1 }->wpAny (model X.prog X.w) X.A (f (.int i t)) Q E s) :
  UnR X f (rU λi=>.int (g i)):=by
 intro pins s σ H x v Q I rx h;obtain⟨i,rfl,q⟩:=h;obtain⟨t,rfl⟩:=rx;exact rule i t s _ _ ⟨.int (g i),H,I.tok _,⟨_,U⟩,q⟩
theorem eR:UnR X (unaryOp .USub) (rU λi=>.int (-i)):=unI λ_ _ _ _ _ q=>neg_int q
end
def y8:V->V->Bool
 | .non,.non=>true | .non,.int _=>true | .int _,.non=>true | .non,.bl _=>true | .bl _,.non=>true | .non,.str _=>true | .str _,.non=>true
 | .int _,.int _=>true | .bl _,.bl _=>true | .str _,.str _=>true | .byt _,.byt _=>true
 | .int _,.str _=>true | .str _,.int _=>true | .bl _,.str _=>true | .str _,.bl _=>true
 |_,_=>false
def rEq:R2:=λx y H Q=>y8 x y=true/\Q (.bl (decide (x=y))) H
def rNe:R2:=λx y H Q=>y8 x y=true/\Q (.bl (!decide (x=y))) H
theorem si{i j:Int}:decide (V.int i=V.int j)=(i == j):=by
 rw[Bool.eq_iff_iff];simp
theorem uT{i j:Bool}:decide (V.bl i=V.bl j)=(i == j):=by
 rw[Bool.eq_iff_iff];simp
theorem sj{i j:Str}:decide (V.str i=V.str j)=(i == j):=by
 rw[Bool.eq_iff_iff];simp
theorem sk{i j:Array UInt8}:decide (V.byt i=V.byt j)=(i.toList == j.toList):=by
 rw[Bool.eq_iff_iff];cases i;cases j;simp
section
variable{a c:Expr}{tc:TE}
theorem ba{pins:List (Addr×Obj)}{σ:St}{H:Hp}{s:Shared}{Q:VK}{k k':Bool}(I:Inv X pins σ H s)(q:Q (.bl k) H)(e:k=k'):EP X pins σ Q (.bool k') s:=by
 subst e;exact⟨.bl k,H,I,U,q⟩
theorem bU:OpR X (compareOp .Eq) rEq:=by
 intro pins s σ H x y v u Q I rx ry h;obtain⟨hs,q⟩:=h;cases x with
 |non =>
  cases rx;cases y with
  |non=>cases ry;exact PySem.EqNone.eq_none_none (ba I q (by simp))
  |bl j=>cases ry;exact PySem.EqNone.eq_none_bool (ba I q (by simp))
  |int j=>obtain⟨t',rfl⟩:=ry;exact PySem.EqNone.eq_none_int (ba I q (by simp))
  |str j=>obtain⟨t',rfl⟩:=ry;exact PySem.EqNone.eq_none_str (ba I q (by simp))
  |_=>exact absurd (show false=true from hs) Bool.false_ne_true
 |bl i =>
  cases rx;cases y with
  |non=>cases ry;exact PySem.EqNone.eq_bool_none (ba I q (by simp))
  |bl j=>cases ry;exact eq_bool (ba I q uT)
  |str j=>obtain⟨t',rfl⟩:=ry;exact PySem.EqMixed.eq_bool_str (ba I q (by simp))
  |_=>exact absurd (show false=true from hs) Bool.false_ne_true
 |int i =>
  obtain⟨t,rfl⟩:=rx;cases y with
  |non=>cases ry;exact PySem.EqNone.eq_int_none (ba I q (by simp))
  |int j=>obtain⟨t',rfl⟩:=ry;exact eq_int (ba I q si)
  |str j=>obtain⟨t',rfl⟩:=ry;exact PySem.EqMixed.eq_int_str (ba I q (by simp))
  |_=>exact absurd (show false=true from hs) Bool.false_ne_true
 |str i =>
  obtain⟨t,rfl⟩:=rx;cases y with
  |non=>cases ry;exact PySem.EqNone.eq_str_none (ba I q (by simp))
  |bl j=>cases ry;exact PySem.EqMixed.eq_str_bool (ba I q (by simp))
  |int j=>obtain⟨t',rfl⟩:=ry;exact PySem.EqMixed.eq_str_int (ba I q (by simp))
  |str j=>obtain⟨t',rfl⟩:=ry;exact eq_str (ba I q sj)
  |_=>exact absurd (show false=true from hs) Bool.false_ne_true
 |byt i =>
  obtain⟨t,rfl⟩:=rx;cases y with
  |byt j=>obtain⟨t',rfl⟩:=ry;exact W.eq_bytes (ba I q sk)
  |_=>exact absurd (show false=true from hs) Bool.false_ne_true
 |_=>cases y <;> exact absurd (show false=true from hs) Bool.false_ne_true
theorem kf:OpR X (compareOp .NotEq) rNe:=by
 intro pins s σ H x y v u Q I rx ry h;obtain⟨hs,q⟩:=h;cases x with
 |non =>
  cases rx;cases y with
  |non=>cases ry;exact PySem.EqNone.ne_none_none (ba I q (by simp))
  |bl j=>cases ry;exact PySem.EqNone.ne_none_bool (ba I q (by simp))
  |int j=>obtain⟨t',rfl⟩:=ry;exact PySem.EqNone.ne_none_int (ba I q (by simp))
  |str j=>obtain⟨t',rfl⟩:=ry;exact PySem.EqNone.ne_none_str (ba I q (by simp))
  |_=>exact absurd (show false=true from hs) Bool.false_ne_true
 |bl i =>
  cases rx;cases y with
  |non=>cases ry;exact PySem.EqNone.ne_bool_none (ba I q (by simp))
  |bl j=>cases ry;exact ne_bool (ba I q (congrArg not uT))
  |str j=>obtain⟨t',rfl⟩:=ry;exact PySem.EqMixed.ne_bool_str (ba I q (by simp))
  |_=>exact absurd (show false=true from hs) Bool.false_ne_true
 |int i =>
  obtain⟨t,rfl⟩:=rx;cases y with
  |non=>cases ry;exact PySem.EqNone.ne_int_none (ba I q (by simp))
  |int j=>obtain⟨t',rfl⟩:=ry;exact ne_int (ba I q (congrArg not si))
  |str j=>obtain⟨t',rfl⟩:=ry;exact PySem.EqMixed.ne_int_str (ba I q (by simp))
  |_=>exact absurd (show false=true from hs) Bool.false_ne_true
 |str i =>
  obtain⟨t,rfl⟩:=rx;cases y with
  |non=>cases ry;exact PySem.EqNone.ne_str_none (ba I q (by simp))
  |bl j=>cases ry;exact PySem.EqMixed.ne_str_bool (ba I q (by simp))
  |int j=>obtain⟨t',rfl⟩:=ry;exact PySem.EqMixed.ne_str_int (ba I q (by simp))
  |str j=>obtain⟨t',rfl⟩:=ry;exact ne_str (ba I q (congrArg not sj))
  |_=>exact absurd (show false=true from hs) Bool.false_ne_true
 |byt i =>
  obtain⟨t,rfl⟩:=rx;cases y with
  |byt j=>obtain⟨t',rfl⟩:=ry;exact W.ne_bytes (ba I q (congrArg not sk))
  |_=>exact absurd (show false=true from hs) Bool.false_ne_true
 |_=>cases y <;> exact absurd (show false=true from hs) Bool.false_ne_true
theorem jt:OpR X (compareOp .Lt) (rI0 λi j=>.bl (decide (i<j))):=xj λ_ _ _ _ _ _ _ q=>lt_int q
theorem eG:OpR X (compareOp .LtE) (rI0 λi j=>.bl (decide (i<=j))):=xj λ_ _ _ _ _ _ _ q=>le_int q
theorem ir:OpR X (compareOp .Gt) (rI0 λi j=>.bl (decide (j<i))):=xj λ_ _ _ _ _ _ _ q=>gt_int q
theorem AE:OpR X (compareOp .GtE) (rI0 λi j=>.bl (decide (j<=i))):=xj λ_ _ _ _ _ _ _ q=>ge_int q
theorem xl:OpR X (compareOp .IsNot) (λx y H Q=>y=.non/\Q (.bl (!decide (x=.non))) H):=by
 intro pins s σ H x y v u Q I rx ry h;obtain⟨rfl,q⟩:=h;cases ry;refine isnot_none_gen (ba I q ?_)
 cases x <;> first
  |(cases rx;rfl)
  |(obtain⟨t,rfl⟩:=rx;rfl)
theorem oi:OpR X (compareOp .NotIn) (λx y H Q=>∃i j,x=.str i/\y=.str j/\Q (.bl (!(!(Builtin.Str.occurrences j i 0 j.length 1).isEmpty))) H):=by
 intro pins s σ H x y v u Q I rx ry h;obtain⟨i,j,rfl,rfl,q⟩:=h;obtain⟨t,rfl⟩:=rx;obtain⟨t',rfl⟩:=ry;exact notIn_str (ba I q U)
theorem aG(b:Expr){op:CmpOp}(h:op≠.In:=by decide)(h2:op≠.NotIn:=by decide):behindInMarks op b=false:=by
 have e1:(op == CmpOp.In)=false:=by cases op <;> first|rfl|exact absurd U h
 have e2:(op == CmpOp.NotIn)=false:=by cases op <;> first|rfl|exact absurd U h2
 cases b <;> simp[behindInMarks,e1,e2]
theorem kB{op:CmpOp}{r:R2}(ho:OpR X (compareOp op) r)(ha:PE X a ta)(hb:PE X b tb)(hm:behindInMarks op b=false):PE X (.Compare a [op] [b] pos) (tOp r ta tb):=by
 intro pins s σ H Q I h;exact wpAny_Compare1 (yZ ha hb I h λv u s2 x y H2 I2 rx ry q=>ho pins s2 σ H2 x y v u Q I2 rx ry q) hm
inductive uU  (Q:Bool->Hp->Prop)(x:V)(H':Hp):Prop
 |mk (k:_)(_:x=.bl k)(_:Q k H'):uU Q x H'
def yr(t:TE):TT:=λσ H Q=>t σ H λx H'=>uU Q x H'
theorem aE{op:CmpOp}{r:R2}(ho:OpR X (compareOp op) r)(ha:PE X a ta)(hb:PE X b tb)(hm:behindInMarks op b=false):PT X (.Compare a [op] [b] pos) (yr (tOp r ta tb)):=by
 intro pins s σ H Q I h;refine wpAny_isTrue_Compare1 (thn (ha pins s σ H _ I h) λv s1 ⟨x,H1,I1,r1,q1⟩=>thn (hb pins s1 σ H1 _ I1 q1) λu s2 ⟨y,H2,I2,r2,q2⟩ =>
  thn (ho pins s2 σ H2 x y v u _ I2 r1 r2 q2) λc s3 ⟨z,H3,I3,r3,k,e,q3⟩=>?_) hm
 subst e;cases r3;exact wpAny_truthy_bool ⟨H3,I3,q3⟩
inductive sr(r':R2)(tc:TE)(σ:St)(Q:VK)(y:V)(z:V)(H3:Hp):Prop
 |mk (k:_)(_:z=.bl k)(_:(if k=true then tc σ H3 λw' H4=>r' y w' H4 Q else Q (.bl false) H3)):sr r' tc σ Q y z H3
def uV(r r':R2)(ta tb tc:TE):TE:=λσ H Q=>ta σ H λx H1=>tb σ H1 λy H2=>r x y H2 λz H3=>sr r' tc σ Q y z H3
theorem kL{op op':CmpOp}{r r':R2}(ho:OpR X (compareOp op) r)(ho':OpR X (compareOp op') r')(ha:PE X a ta)(hb:PE X b tb)(hc:PE X c tc)
  (hm:lastMarks [op,op'] [b,c]=false:=by with_unfolding_all rfl):PE X (.Compare a [op,op'] [b,c] pos) (uV r r' ta tb tc):=by
 intro pins s σ H Q I h;refine Compare_chain (thn (ha pins s σ H _ I h) λv s1 ⟨x,H1,I1,r1,q1⟩=>chain_link (thn (hb pins s1 σ H1 _ I1 q1) λu s2 ⟨y,H2,I2,r2,q2⟩ =>
  thn (ho pins s2 σ H2 x y v u _ I2 r1 r2 q2) λd s3 ⟨z,H3,I3,r3,k,e,q3⟩=>?_)) hm
 subst e;cases r3;refine wpAny_truthy_bool ?_;cases k with
 |false=>exact ite_ff ⟨.bl false,H3,I3,U,q3⟩
 |true=>exact ite_tt (chain_last (thn (hc pins s3 σ H3 _ I3 q3) λw' s4 ⟨z',H4,I4,r4,q4⟩=>ho' pins s4 σ H4 y z' u w' Q I4 r2 r4 q4))
theorem gd{op op':CmpOp}{r r':R2}(ho:OpR X (compareOp op) r)(ho':OpR X (compareOp op') r')(ha:PE X a ta)(hb:PE X b tb)(hc:PE X c tc)
  (hm:lastMarks [op,op'] [b,c]=false:=by with_unfolding_all rfl):PT X (.Compare a [op,op'] [b,c] pos) (yr (uV r r' ta tb tc)):=by
 intro pins s σ H Q I h;refine isTrue_chain (thn (ha pins s σ H _ I h) λv s1 ⟨x,H1,I1,r1,q1⟩=>test_link (thn (hb pins s1 σ H1 _ I1 q1) λu s2 ⟨y,H2,I2,r2,q2⟩ =>
  thn (ho pins s2 σ H2 x y v u _ I2 r1 r2 q2) λd s3 ⟨z,H3,I3,r3,k,e,q3⟩=>?_)) hm
 subst e;cases r3;refine wpAny_truthy_bool ?_;cases k with
 |false =>
  obtain⟨k',e',q'⟩:=q3;cases e';exact ite_ff ⟨H3,I3,q'⟩
 |true =>
  refine ite_tt (test_last (thn (hc pins s3 σ H3 _ I3 q3) λw' s4 ⟨z',H4,I4,r4,q4⟩=>thn (ho' pins s4 σ H4 y z' u w' _ I4 r2 r4 q4) λd' s5 ⟨z2,H5,I5,r5,k2,e2,q5⟩=>?_));subst e2;cases r5;exact wpAny_truthy_bool ⟨H5,I5,q5⟩
def y9(K:W.Frag)(x:V)(H:Hp)(k:Bool):Prop :=
 match x with
 | .non=>k=false
 | .bl b=>k=b
 | .int i=>k=(i != 0)
 | .str y=>y.length<=sizeLine/\k=((y.length:Int) != 0)
 | .byt y=>y.size<=sizeLine/\k=((y.size:Int) != 0)
 | .ref p=>(∃xs,SqL K H p xs/\k = !xs.isEmpty)\/(∃xs,SqT K H p xs/\k = !xs.isEmpty)\/∃kvs,H p=some (.dK kvs)/\k = !kvs.isEmpty
 |_=>False
theorem qL{κ:Type}{kvs:List (κ×V)}{vs:List (κ×Value)}(r:KV kvs vs):(!vs.isEmpty) = !kvs.isEmpty:=by
 cases r <;> rfl
theorem kM{xs:List V}{its:List Value}(r:Vals xs its):(!its.toArray.isEmpty) = !xs.isEmpty:=by
 cases r <;> simp
theorem iH:(sizeLine:Nat)<2^63:=by rw[sizeLine_eq];decide
theorem za:Cg X (λx H Q=>∃k,y9 X.K x H k/\Q k H):=by
 intro pins s σ H x v Q I rx h;obtain⟨k,e,q⟩:=h;have hl:=iH;have hs:sizeLine=16777216:=sizeLine_eq;cases x with
 |non =>
  cases rx;have e':k=false:=e;subst e';exact truthy_none ⟨H,I,q⟩
 |bl b =>
  cases rx;have e':k=b:=e;subst e';exact wpAny_truthy_bool ⟨H,I,q⟩
 |int i =>
  obtain⟨t,rfl⟩:=rx;have e':k=(i != 0):=e;subst e';exact PySem.P.truthy_int ⟨H,I,q⟩
 |str y =>
  obtain⟨t,rfl⟩:=rx;obtain⟨hy,e'⟩:y.length<=sizeLine/\k=((y.length:Int) != 0):=e;subst e';exact PySem.P.truthy_str (by lia) ⟨H,I.tok _,q⟩
 |byt y =>
  obtain⟨t,rfl⟩:=rx;obtain⟨hy,e'⟩:y.size<=sizeLine/\k=((y.size:Int) != 0):=e;subst e';exact W.truthy_bytes (by lia) ⟨H,I.tok _,q⟩
 |ref p =>
  cases rx;have e':(∃xs,SqL X.K H p xs/\k = !xs.isEmpty)\/(∃xs,SqT X.K H p xs/\k = !xs.isEmpty)\/∃kvs,H p=some (.dK kvs)/\k = !kvs.isEmpty:=e;rcases e' with⟨xs,hx,e'⟩|⟨xs,hx,e'⟩|⟨kvs,hx,e'⟩
  ·subst e';obtain⟨its,r,pl,hz⟩:=I.list hx;have hlen:=r.length;exact wpAny_truthy_list pl.isList (by simp only[size_toArray];lia) ⟨H,I.tok _,by rw[kM r];exact q⟩
  ·subst e';obtain⟨its,r,pl,hz⟩:=I.tuple hx;have hlen:=r.length;exact truthy_tuple pl (by simp only[size_toArray];lia) ⟨H,I.tok _,by rw[kM r];exact q⟩
  ·subst e';obtain⟨hz,hS,vs,r,m⟩:kvs.length<=sizeLine/\(p == sysModules)=false/\∃vs,KV kvs vs/\s.heap.DictOf (og X.prog X.w) p vs:=I.hok p _ hx;have hlen:kvs.length=vs.length:=Paired.length r;exact wpAny_truthy_dict hS m (by lia) ⟨H,I.tok _,by rw[qL r];exact q⟩
 |_=>exact(show False from e).elim
theorem df(ha:PE X a ta)(he:∀whole,isTrue a X.env whole=(do let v ←whole;standAt a.pos;holding [v] (truthy v))) :
  PT X a (λσ H Q=>ta σ H λx H'=>∃k,y9 X.K x H' k/\Q k H'):=by
 intro pins s σ H Q I h;exact isTrue_plain (thn (ha pins s σ H _ I h) λv s1 ⟨x,H1,I1,r1,q1⟩=>za pins s1 σ H1 x v Q I1 r1 q1) (he _)
theorem iI:OpR X (binaryOp .Add) (λx y H Q=>∃i j,x=.str i/\y=.str j/\i.length+j.length<=sizeLine/\Q (.str (i++j)) H):=by
 intro pins s σ H x y v u Q I rx ry h;obtain⟨i,j,rfl,rfl,hz,q⟩:=h;obtain⟨t,rfl⟩:=rx;obtain⟨t',rfl⟩:=ry;exact add_str (λt' tk=>⟨.str (i++j),H,I.tok _,⟨_,U⟩,q⟩) hz
theorem zc:OpR X (binaryOp .Add) (λx y H Q=>∃i j,x=.byt i/\y=.byt j/\i.size+j.size<=16777216/\Q (.byt (i++j)) H):=by
 intro pins s σ H x y v u Q I rx ry h;obtain⟨i,j,rfl,rfl,hz,q⟩:=h;obtain⟨t,rfl⟩:=rx;obtain⟨t',rfl⟩:=ry;exact W.KBy.add_bytes hz (λt' tk=>⟨.byt (i++j),H,I.tok _,⟨_,U⟩,q⟩)
theorem vals1{x:V}{us:List Value}(r:Vals [x] us):∃u,us=[u]/\RelV x u:=by
 cases r with
 |cons r1 r2=>cases r2;exact⟨_,U,r1⟩
theorem vals2{x y:V}{us:List Value}(r:Vals [x,y] us):∃u w',us=[u,w']/\RelV x u/\RelV y w':=by
 cases r with
 |cons r1 r2 =>
  cases r2 with
  |cons r3 r4=>cases r4;exact⟨_,_,U,r1,r3⟩
theorem mY(hc:X.calm=true):de X (.builtin "max") (λxs H Q=>∃i j,xs=[.int i,.int j]/\Q (.int (if j>i then j else i)) H):=by
 intro pins s σ H xs us Q I r h;obtain⟨i,j,rfl,q⟩:=h;obtain⟨u,w',rfl,⟨t,rfl⟩,⟨t',rfl⟩⟩:=vals2 r;refine max_two_ints (I.ok.hd hc) λh' tk k=>⟨_,H,I.kept k,?_,q⟩
 by_cases hj:j>i
 ·rw[if_pos hj,if_pos hj];exact⟨_,U⟩
 ·rw[if_neg hj,if_neg hj];exact⟨_,U⟩
theorem mZ(hc:X.calm=true):de X (.builtin "min") (λxs H Q=>∃i j,xs=[.int i,.int j]/\Q (.int (if j<i then j else i)) H):=by
 intro pins s σ H xs us Q I r h;obtain⟨i,j,rfl,q⟩:=h;obtain⟨u,w',rfl,⟨t,rfl⟩,⟨t',rfl⟩⟩:=vals2 r;refine min_two_ints (I.ok.hd hc) λh' tk k=>⟨_,H,I.kept k,?_,q⟩
 by_cases hj:j<i
 ·rw[if_pos hj,if_pos hj];exact⟨_,U⟩
 ·rw[if_neg hj,if_neg hj];exact⟨_,U⟩
end
structure qM(h:Heap)(x dx C:Addr)(mA:Str->Option Value):Prop where
 obj:h.get? x=some (W.instObj C dx)
 ns:h.Ns1 dx mA
 ne:dx≠x
theorem tH{h:Heap}{dx:Addr}{mA:Str->Option Value}(n:h.Ns1 dx mA):∃od,h.get? dx=some od/\∀name,W.lookIn name od=some (mA name):=by
 obtain⟨o,es,ep,ho,hd,hk,_,hm⟩:=n;refine⟨o,ho,λname=>?_⟩;have e:=hm name;unfold nsFind findBy at e;rw[←Array.find?_toList]at e;unfold W.lookIn;rw[hd];dsimp only;split
 ·rename_i y q
  rw[q]at e;exact congrArg some e
 ·rename_i q
  rw[q]at e;have a:es.toList.any (·.refKey)=false:=by
   rw[List.any_eq_false];intro y hy;obtain⟨z,t,zd⟩:=hk y (Array.mem_toList_iff.mp hy);simp[DictEntry.refKey,zd]
  have a':¬ es.toList.any (·.refKey)=true:=by rw[a];exact Bool.false_ne_true
  rw[if_neg a'];exact congrArg some e
theorem qM.look{h:Heap}{x dx C:Addr}{mA:Str->Option Value}(I:qM h x dx C mA):∃od,W.InstAt h x (W.instObj C dx) C (some od)/\∀name,W.lookIn name od=some (mA name):=by
 obtain⟨od,ho,hl⟩:=tH I.ns;exact⟨od,⟨I.obj,U,U,ho⟩,hl⟩
variable{A:Around}{dx C f:Addr}
section
variable{prog:Program}{K:W.Frag}{mA:Str->Option Value}{name:Str}{v:Value}
theorem get_map{expr:Bool}{Q:Value->Shared->Prop}(X:K.In s.heap)(I:qM s.heap x dx C mA)(hg:W.plainGet K C name=true)(hh:W.hasDictIn K C=true)
  (ha:W.findIn K (.ref C) name=some none)(hv:mA name=some v)(hv':W.handedIn v=true)(h:Q v { s with toks:=s.toks+1 }) :
  wpAny (model prog w) A (getAttr (.ref x) name expr) Q E s:=by
 obtain⟨od,J,hl⟩:=I.look;exact W.get_value X J (W.plainGet_of hg).1 (W.findObj_own hh ha U (by rw[hl,hv])) hv' h
theorem uW{pl:Sem Bool}{Q:Value×List Value->Shared->Prop}(X:K.In s.heap)(I:qM s.heap x dx C mA)(hg:W.plainGet K C name=true)
  (hf:W.findIn K (.ref C) name=some (some (.ref f)))(ht:W.isFn K (.ref f)=true)(hv:mA name=none)(h:Q (.ref f,[.ref x]) s) :
  wpAny (model prog w) A (getMethod (.ref x) name pl) Q E s:=by
 obtain⟨od,J,hl⟩:=I.look;exact W.method_fn X J (W.plainGet_of hg).1 (W.plainGet_of hg).2 hf (beq_iff_eq.mp ht) (by show(W.lookIn name od).map (·.isSome)=some false;rw[hl,hv];rfl) h
theorem xm{ns:List Str}{Q:Unit->Shared->Prop}(X:K.In s.heap)(I:qM s.heap x dx C mA)
  (hs:W.findIn K (.ref C) "__setattr__" = some (some (.builtin "object.__setattr__"))) (hp:W.plainOver K C=true)(ht:W.takerIn K C name=some none)(hh:W.hasDictIn K C=true)
  (hw:PySem.Within mA ns)(hsz:ns.length<=sizeLine)
  (h:∀h',qM h' x dx C (λy=>if y=name then some v else mA y)->Heap.SameBut dx s.heap h'->Q () { s with heap:=h',toks:=s.toks+2 }) :
  wpAny (model prog w) A (setAttr (.ref x) name v) Q E s:=by
 obtain⟨od,J,hl⟩:=I.look;refine W.set_plain X J hs (W.osa_open (s:={ s with toks:=s.toks+1 }) (r:=none) X J hp ht λb=>?_);obtain⟨cd,hc,hd'⟩:=W.any_some hh;have hx:s.heap.get? x=some ⟨.ref C,some dx,.plain,#[]⟩:=I.obj;refine wpAny_bind (wpAny_pure (wpAny_bind (wpAny_bind (wpAny_loadPart hx (wpAny_bind (W.Looks.here (s:={ s with toks:=s.toks+1 }) (W.looks_clsIn X hc) ?_))))));rw[hd'];refine wpAny_pure (a:=some dx) (wpAny_bind (wpAny_pure (wpAny_bind ?_)));refine wpAny_nsSet1 (s:={ s with toks:=s.toks+1 }) I.ns λh' hn2 hs2=>?_
 obtain⟨oD,esD,epD,hoD,hdD,hcD⟩:=hn2.count (PySem.Within.cons name v hw);refine wpAny_bind (wpAny_lookBehind hoD (by rw[hdD];exact pastItsLine_dict (le_trans hcD (by rw[length_cons];lia))) ?_);exact wpAny_pure (h _ ⟨(hs2.2 _ (Ne.symm I.ne)).trans I.obj,hn2,I.ne⟩ hs2)
theorem uX{R:Result->Shared->Prop}{vs:List Value}{kw:List (Str×Value)}(X:K.In s.heap)(hm:W.makesIn K C=true)
  (hi:W.findIn K (.ref C) "__init__" = some (some (.ref f))) (hf:W.typeIn K (.ref f)=some (.type "function"))
  (h:codeAny (model prog w) (A.under (.builtin "type.__call__" ⟨.ref C :: vs,kw⟩)) (.call (.ref f) ⟨.ref (s.heap.objs.size+1) :: vs,kw⟩) (W.InitBack (s.heap.objs.size+1) R)
   { s with heap:=(s.heap.push W.emptyDict).push (W.instObj C s.heap.objs.size) }) :
  codeAny (model prog w) A (.call (.ref C) ⟨vs,kw⟩) R s:=by
 obtain⟨hh,g,d,t,os⟩:=s;exact W.make_core (W.makes_of X hm) (W.looks_findIn X hi) (λself=>W.bind_fn X self hf) (.inl U) h
end
def bq(f:Str)(v:V):List (Str×V)->List (Str×V)
 | []=>[(f,v)]
 |(g,x) :: r=>if g=f then(g,v) :: r else(g,x) :: bq f v r
theorem kg(f g:Str)(v:V):∀fs:List (Str×V),(bq f v fs).lookup g=if g=f then some v else fs.lookup g
 | []=>by
  show List.lookup g [(f,v)]=_;by_cases h:g=f
  ·have hb:(g == f)=true:=beq_iff_eq.mpr h;simp only[List.lookup,hb,if_pos h]
  ·have hb:(g == f)=false:=beq_eq_false_iff_ne.mpr h;simp only[List.lookup,hb,if_neg h]
 |(k,x) :: r=>by
  have ih:=kg f g v r;rw[show bq f v ((k,x) :: r)=(if k=f then(k,v) :: r else(k,x) :: bq f v r)from U];by_cases hk:k=f
  ·rw[if_pos hk];by_cases h:g=k
   ·have hb:(g == k)=true:=beq_iff_eq.mpr h;simp only[List.lookup,hb,if_pos (h.trans hk)]
   ·have hb:(g == k)=false:=beq_eq_false_iff_ne.mpr h;simp only[List.lookup,hb,if_neg (λe:g=f=>h (e.trans hk.symm))]
  ·rw[if_neg hk];by_cases h:g=k
   ·have hb:(g == k)=true:=beq_iff_eq.mpr h;simp only[List.lookup,hb,if_neg (λe:g=f=>hk (h.symm.trans e))]
   ·have hb:(g == k)=false:=beq_eq_false_iff_ne.mpr h;simp only[List.lookup,hb];exact ih
theorem jS(f:Str)(v:V):∀fs:List (Str×V),f∈(bq f v fs).map (·.1)/\∀g,g∈fs.map (·.1)->g∈(bq f v fs).map (·.1)
 | []=>⟨by simp[bq],λg h=>by simp at h⟩
 |(k,x) :: r=>by
  obtain⟨i1,i2⟩:=jS f v r;rw[show bq f v ((k,x) :: r)=(if k=f then(k,v) :: r else(k,x) :: bq f v r)from U];by_cases hk:k=f
  ·rw[if_pos hk];subst hk;exact⟨by simp,λg h=>by simpa using h⟩
  ·rw[if_neg hk];refine⟨?_,λg h=>?_⟩
   ·rw[map_cons];exact mem_cons_of_mem _ i1
   ·rw[map_cons]at h⊢;rcases mem_cons.mp h with e|e
    ·exact mem_cons.mpr (.inl e)
    ·exact mem_cons_of_mem _ (i2 g e)
theorem kh(f:Str)(v:V):∀fs:List (Str×V),(bq f v fs).length<=fs.length+1
 | []=>by simp[bq]
 |(k,x) :: r=>by
  have ih:=kh f v r;rw[show bq f v ((k,x) :: r)=(if k=f then(k,v) :: r else(k,x) :: bq f v r)from U];by_cases hk:k=f
  ·rw[if_pos hk,length_cons,length_cons];lia
  ·rw[if_neg hk,length_cons,length_cons];lia
theorem mB.some_of{v:V}{o:Option Value}(r:mB (some v) o):∃u,o=some u/\RelV v u:=by
 cases o with
 |none=>exact(show False from r).elim
 |some u=>exact⟨u,U,r⟩
theorem mB.none_of{o:Option Value}(r:mB none o):o=none:=by
 cases o with
 |none=>rfl
 |some u=>exact(show False from r).elim
theorem m3{v:V}{u:Value}(r:RelV v u):W.handedIn u=true:=by
 cases v with
 |non=>cases (show u=Value.none from r);rfl
 |bl b=>cases (show u=Value.bool b from r);rfl
 |int i=>obtain⟨t,e⟩:=(show ∃t,u=Value.int i t from r);cases e;rfl
 |str x=>obtain⟨t,e⟩:=(show ∃t,u=Value.str x t from r);cases e;rfl
 |byt b=>obtain⟨t,e⟩:=(show ∃t,u=Value.bytes b t from r);cases e;rfl
 |flt b=>obtain⟨t,e⟩:=(show ∃t,u=Value.float b t from r);cases e;rfl
 |ref a=>cases (show u=Value.ref a from r);rfl
 |ty n=>cases (show u=Value.type n from r);rfl
section
variable{fs fs':List (Str×V)}
theorem kC(hok:HOk P w H h)(e:H a=some (.ins C dx fs)):∃mA,qM h a dx C mA/\(∀f,mB (fs.lookup f) (mA f))/\PySem.Within mA (fs.map (·.1))/\fs.length<=1000/\H dx=some (.own a):=by
 obtain⟨d,z,ne,ob,mA,n,r,q⟩:=(show cI P w H h a (.ins C dx fs)from hok a _ e);exact⟨mA,⟨ob,n,ne⟩,r,q,z,d⟩
end
structure Cls(K:W.Frag)(C:Addr):Prop where
 pg:W.plainGet K C Str.empty=true
 hd:W.hasDictIn K C=true
 po:W.plainOver K C=true
 sa:W.findIn K (.ref C) "__setattr__" = some (some (.builtin "object.__setattr__"))
theorem Cls.get{K:W.Frag}{C:Addr}(c:Cls K C)(f:Str):W.plainGet K C f=true:=c.pg
def NoAttr(K:W.Frag)(C:Addr)(f:Str):Prop:=W.findIn K (.ref C) f=some none
theorem NoAttr.taker{K:W.Frag}{C:Addr}{f:Str}(n:NoAttr K C f):W.takerIn K C f=some none:=by
 unfold W.takerIn;rw[show W.findIn K (.ref C) f=some none from n];rfl
structure Con(K:W.Frag)(C:Addr)(f:Str)(v:V)(u:Value):Prop where
 at_:W.findIn K (.ref C) f=some (some u)
 rel:RelV v u
 get:W.specialIn K u "__get__" = some none
 cp:W.copiedNames.contains f=false
structure Meth(K:W.Frag)(C:Addr)(m:Str)(f:Addr):Prop where
 at_:W.findIn K (.ref C) m=some (some (.ref f))
 fn:W.isFn K (.ref f)=true
 kp:W.keepIn K (.ref f)=true
section
variable{fs:List (Str×V)}{f:Str}{v:V}
theorem qN{b:Bool}{Q:Value->Shared->Prop}(I:Inv X pins σ H s)(e:H a=some (.ins C dx fs))(c:Cls X.K C)(n:NoAttr X.K C f)(l:fs.lookup f=some v)
  (h:∀u s',Inv X pins σ H s'->RelV v u->Q u s'):wpAny (model X.prog X.w) A (getAttr (.ref a) f b) Q E s:=by
 obtain⟨mA,O,r,_,_,_⟩:=kC I.hok e;obtain⟨u,hu,ru⟩:=mB.some_of (v:=v) (o:=mA f) (by rw[←l];exact r f);exact get_map I.kIn O (c.get f) c.hd n hu (m3 ru) (h u _ (I.tok _) ru)
theorem kN{m:Str}{g:Addr}{pl:Sem Bool}{Q:Value×List Value->Shared->Prop}(I:Inv X pins σ H s)(e:H a=some (.ins C dx fs))(c:Cls X.K C)(k:Meth X.K C m g)(l:fs.lookup m=none)
  (h:Q (.ref g,[.ref a]) s):wpAny (model X.prog X.w) A (getMethod (.ref a) m pl) Q E s:=by
 obtain⟨mA,O,r,_,_,_⟩:=kC I.hok e;have hn:mA m=none:=mB.none_of (by rw[←l];exact r m);exact uW I.kIn O (c.get m) k.at_ k.fn hn h
theorem qO{y:V}{u:Value}{Q:Unit->Shared->Prop}(I:Inv X pins σ H s)(e:H a=some (.ins C dx fs))(c:Cls X.K C)(n:NoAttr X.K C f)(hl:fs.length<1000)(ry:RelV y u)
  (h:∀s',Inv X pins σ (upd H a (.ins C dx (bq f y fs))) s'->Q () s'):wpAny (model X.prog X.w) A (setAttr (.ref a) f u) Q E s:=by
 obtain⟨mA,O,r,wi,_,ho⟩:=kC I.hok e;have hz:(fs.map (·.1)).length<=sizeLine:=by rw[length_map,sizeLine_eq];lia
 refine xm I.kIn O c.sa c.po n.taker c.hd wi hz λh' O' sb=>h _ ?_
 have hd:∃o,h'.get? dx=some o:=let ⟨o,_,_,e',_⟩:=O'.ns;⟨o,e'⟩;refine I.write (x:=a) (e:=dx) (by rw[e];exact True.intro) (.inr ho) (λb q hb z=>(sb.2 b hb).trans z) hd ?_;refine⟨by rw[aw O.ne];exact ho,?_,O.ne,O'.obj,_,O'.ns,λg=>?_,λg hg=>?_⟩
 ·have:=kh f y fs;lia
 ·show mB ((bq f y fs).lookup g) (if g=f then some u else mA g);rw[kg];by_cases q:g=f
  ·rw[if_pos q,if_pos q];exact ry
  ·rw[if_neg q,if_neg q];exact r g
 ·by_cases q:g=f
  ·rw[q];exact(jS f y fs).1
  ·refine(jS f y fs).2 g (wi g λz=>hg ?_);show(if g=f then some u else mA g)=none;rw[if_neg q];exact z
theorem Inv.made(I:Inv X pins σ H s):Inv X pins σ (upd (upd H s.heap.objs.size (.own (s.heap.objs.size+1))) (s.heap.objs.size+1) (.ins C s.heap.objs.size []))
  { s with heap:=(s.heap.push W.emptyDict).push (W.instObj C s.heap.objs.size) }:=by
 have e1:(s.heap.push W.emptyDict).get? s.heap.objs.size=some W.emptyDict:=Heap.get?_push_size s.heap U;have e2:((s.heap.push W.emptyDict).push (W.instObj C s.heap.objs.size)).get? (s.heap.objs.size+1)=some (W.instObj C s.heap.objs.size):=by
  have:=Heap.get?_push_size (s.heap.push W.emptyDict) (o:=W.instObj C s.heap.objs.size) U
  rwa [Heap.size_push]at this
 have e3:(s.heap.push W.emptyDict).Ns s.heap.objs.size (λ_=>none):=⟨W.emptyDict,#[],_,e1,U,(λe he=>absurd he (by simp)),λ_=>U⟩;have I1:=I.laid (a:=s.heap.objs.size) (o:=.own (s.heap.objs.size+1)) (h':=s.heap.push W.emptyDict) (t':=s.toks) (λb u q=>Heap.get?_push_of_some _ q) (le_refl _) ⟨_,e1⟩;refine I1.laid (a:=s.heap.objs.size+1) (o:=.ins C s.heap.objs.size []) (t':=s.toks) (λb u q=>Heap.get?_push_of_some _ q) (Nat.le_of_eq (Heap.size_push _ _)) ?_;have ne:s.heap.objs.size≠s.heap.objs.size+1:=ne_of_lt (lt_succ_self _);refine⟨by rw[aw ne,ab],zero_le _,ne,e2,λ_=>none,(Heap.Ns1.of_empty e3).at λo q=>Heap.get?_push_of_some _ q,λ_=>True.intro,λy hy=>absurd U hy⟩
theorem xn{prog:Program}{w:World}{env:Env}{e:Expr}{f:Str}{pos:Pos}{s:Shared}{Q:Value->Shared->Prop}(hb:attributeBase e f env (eval e env)=eval e env)
  (h:wpAny (model prog w) A (eval e env) (λo s₁=>wpAny (model prog w) A (getAttr o f true) Q E s₁) E s):wpAny (model prog w) A (eval (.Attribute e f pos) env) Q E s :=
 Attribute_any_ h (by rw[arm_eval_Attribute,hb])
end
inductive yt(K:W.Frag)(f:Str)(Q:VK)(x:V)(H1:Hp):Prop
 |mk (a C dx fs v:_)(_:x=.ref a)(_:H1 a=some (.ins C dx fs))(_:Cls K C)(_:NoAttr K C f)(_:fs.lookup f=some v)(_:Q v H1):yt K f Q x H1
def AF(K:W.Frag)(ta:TE)(f:Str):TE:=λσ H Q=>ta σ H λx H1=>yt K f Q x H1
def Cj(K:W.Frag)(ta tv:TE)(f:Str):TS:=λD σ H=>tv σ H λy H1=>ta σ H1 λx H2=>∃a C dx fs,x=.ref a/\H2 a=some (.ins C dx fs)/\Cls K C/\NoAttr K C f/\fs.length<1000 /\
 D.nx σ (upd H2 a (.ins C dx (bq f y fs)))
variable{o:Expr}
section
variable{value:Expr}{f:Str}{pos' EV:Pos}{tv:TE}
theorem bJ(he:PE X e ta)(hb:attributeBase e f X.env (eval e X.env)=eval e X.env):PE X (.Attribute e f pos) (AF X.K ta f):=by
 intro pins s σ H Q I h;refine xn hb (thn (he pins s σ H _ I h) λu s1 ⟨x,H1,I1,rx,a,C,dx,fs,v,ex,ea,c,n,l,q⟩=>?_);subst ex;obtain rfl:u=Value.ref a:=rx;exact qN I1 ea c n l λu' s2 I2 ru=>⟨v,H1,I2,ru,q⟩
theorem cx(ha:PE X o ta)(hv:PE X value tv)(hs:swapsWith value (some (.Attribute o f pos')) pos.line X.env=pure false):PS X (.Assign [.Attribute o f pos'] value pos) (Cj X.K ta tv f):=by
 intro pins s σ H D I h;refine plainObj_wpAny_Assign_Attribute (thn (hv pins s σ H _ I h) λu s1 ⟨y,H1,I1,ry,q⟩=>thn (ha pins s1 σ H1 _ I1 q) λov s2 ⟨x,H2,I2,rx,a,C,dx,fs,ex,ea,c,n,l,q2⟩=>?_) hs;subst ex;obtain rfl:ov=Value.ref a:=rx;exact qO I2 ea c n l ry λs3 I3=>⟨σ,_,I3,q2⟩
end
section
variable{Q:Value->Shared->Prop}{c:Value}{b:Bool}
inductive jT(K:W.Frag)(H:Hp):V->Value->Prop where
 |non:jT K H .non (.type "NoneType")
 |bl (x:Bool):jT K H (.bl x) (.type "bool")
 |int (i:Int):jT K H (.int i) (.type "int")
 |str (x:Str):jT K H (.str x) (.type "str")
 |flt (x:UInt64):jT K H (.flt x) (.type "float")
 |lst {a:Addr}{xs:List V}(e:H a=some (.lst xs)):jT K H (.ref a) (.type "list")
 |frz {a:Addr}{o:Obj}{xs:List V}(e:H a=some (.frz o (.lst xs))):jT K H (.ref a) (.type "list")
 |tup {a:Addr}{xs:List V}(e:H a=some (.tup xs)):jT K H (.ref a) (.type "tuple")
 |dK {a:Addr}{kvs:List (Key×V)}(e:H a=some (.dK kvs)):jT K H (.ref a) (.type "dict")
 |dT {a:Addr}{kvs:List (List Key×V)}(e:H a=some (.dT kvs)):jT K H (.ref a) (.type "dict")
 |ins {a C dx:Addr}{fs:List (Str×V)}(e:H a=some (.ins C dx fs))(cl:Cls K C)(ha:W.findIn K (.ref C) "__class__" = some (some (.builtin "object.__class__")))
   (hn:W.specialIn K (.builtin "object.__class__") "__get__" = some (some (.builtin "getset_descriptor.__get__"))) (htk:W.takesIn K (.builtin "object.__class__")=some true)
   (hm:W.mroIn K C (.type "object")=some true):jT K H (.ref a) (.ref C)
theorem tI{x:V}{u t:Value}(I:Inv X pins σ H s)(rx:RelV x u)(ty:jT X.K H x t)(e:W.kitOne X.K t c=some b)(h:∀tk,Q (.bool b) { s with toks:=tk }) :
  wpAny (model X.prog X.w) A (call (.builtin "isinstance") [u,c]) Q E s:=by
 cases ty with
 |non=>cases (show u=Value.none from rx);exact W.kia_one W.kitx_none I.kIn True.intro e (λz=>nomatch z) h
 |bl y=>cases (show u=Value.bool y from rx);exact W.kia_one W.kitx_bool I.kIn True.intro e (λz=>nomatch z) h
 |int i=>obtain⟨t,q⟩:=(show ∃t,u=Value.int i t from rx);cases q;exact W.kia_one W.kitx_int I.kIn True.intro e (λz=>nomatch z) h
 |str y=>obtain⟨t,q⟩:=(show ∃t,u=Value.str y t from rx);cases q;exact W.kia_one W.kitx_str I.kIn True.intro e (λz=>nomatch z) h
 |flt y=>obtain⟨t,q⟩:=(show ∃t,u=Value.float y t from rx);cases q;exact W.kia_one W.kitx_float I.kIn True.intro e (λz=>nomatch z) h
 | @lst a xs ea =>
  cases (show u=Value.ref a from rx);obtain⟨_,_,n,_,h1⟩:=(show cI X.prog X.w H s.heap a (.lst xs)from I.hok a _ ea);exact W.kia_one W.kitx_list I.kIn ⟨_,h1,U⟩ e (λz=>nomatch z) h
 | @frz a ob xs ea =>
  cases (show u=Value.ref a from rx);obtain⟨_,_,_,n,_,h1⟩:=(show cI X.prog X.w H s.heap a (.frz ob (.lst xs))from I.hok a _ ea);exact W.kia_one W.kitx_list I.kIn ⟨_,h1,U⟩ e (λz=>nomatch z) h
 | @tup a xs ea =>
  cases (show u=Value.ref a from rx);obtain⟨_,_,_,p⟩:=(show cI X.prog X.w H s.heap a (.tup xs)from I.hok a _ ea);obtain⟨o,h1,h2,_⟩:=p;exact W.kia_one W.kitx_tuple I.kIn ⟨o,h1,h2⟩ e (λz=>nomatch z) h
 | @dK a kvs ea =>
  cases (show u=Value.ref a from rx);obtain⟨_,_,vs,_,p⟩:=(show cI X.prog X.w H s.heap a (.dK kvs)from I.hok a _ ea);obtain⟨o,es,ep,h1,h2,_⟩:=p;exact W.kia_one W.kitx_dict I.kIn ⟨o,h1,h2.1⟩ e (λz=>nomatch z) h
 | @dT a kvs ea =>
  cases (show u=Value.ref a from rx);obtain⟨_,_,xs,_,o,es,ep,h1,h2,_⟩:=(show cI X.prog X.w H s.heap a (.dT kvs)from I.hok a _ ea);exact W.kia_one W.kitx_dict I.kIn ⟨o,h1,h2.1⟩ e (λz=>nomatch z) h
 | @ins a C dx fs ea cl ha hn htk hm =>
  cases (show u=Value.ref a from rx);obtain⟨mA,O,_⟩:=kC I.hok ea;obtain⟨od,J,_⟩:=O.look;exact W.kia_one (W.kitx_own (cl.get _) cl.hd ha hn htk hm) I.kIn J e (λz=>nomatch z) h
end
structure bZ(k:Nat)(A:Around):Prop where
 hd:A.handled=none
 dp:A.depth+3*k+5<recursionLimit
 un:A.units+16*k+200<cLine
theorem bZ.mono{j k:Nat}{A:Around}(r:bZ k A)(h:j<=k):bZ j A:=⟨r.hd,by have:=r.dp;lia,by have:=r.un;lia⟩
theorem bZ.deeper{k:Nat}{A:Around}(r:bZ (k+1) A)(env:Env):bZ k (A.deeper env) :=
 ⟨r.hd,by have:=r.dp;show A.depth+1+3*k+5<_;lia,by have:=r.un;show A.units+3+16*k+200<_;lia⟩
theorem qP{A:Around}{C:Addr}{us:List Value}{kw:List (Str×Value)}:(A.under (.builtin "type.__call__" ⟨.ref C :: us,kw⟩)).depth=A.depth+1:=by
 first|rfl|simp[Around.under,Code.weight,Code.isCreation,Code.isGuard,Code.isCaller,Code.frames,Code.isFrame,guardIds]
theorem qQ{A:Around}{C:Addr}{us:List Value}{kw:List (Str×Value)}:(A.under (.builtin "type.__call__" ⟨.ref C :: us,kw⟩)).units=A.units+1:=by
 first|rfl|simp[Around.under,Code.cUnits,Code.frames,Code.isFrame]
theorem bZ.make{k:Nat}{A:Around}(r:bZ (k+1) A)(C:Addr)(us:List Value)(kw:List (Str×Value)):bZ k (A.under (.builtin "type.__call__" ⟨.ref C :: us,kw⟩)) :=
 ⟨r.hd,by have:=r.dp;rw[qP];lia,by have:=r.un;rw[qQ];lia⟩
theorem bZ.depth{k:Nat}{A:Around}(r:bZ k A):A.depth<recursionLimit:=by have:=r.dp;lia
theorem bZ.units{k:Nat}{A:Around}(r:bZ k A):A.units+64<cLine:=by have:=r.un;lia
def ze:TA:=λ_ H Q=>Q [] H
def AG(ta:TE)(tr:TA):TA:=λσ H Q=>ta σ H λx H1=>tr σ H1 λxs H2=>Q (x :: xs) H2
variable{es:List Expr}{t:TA}
theorem ae:PA X [] ze:=λ_ _ _ _ H Q I h=>Calls.spliced_nil ⟨[],H,I,.nil,h⟩
theorem aa(ha:PE X e te)(hr:PA X es t)(hs:starEach (e :: es) X.env=(false,eval e X.env) :: starEach es X.env:=by rfl):PA X (e :: es) (AG te t):=by
 intro pos pins s σ H Q I h;rw[hs];show wpAny _ _ (spliced ((false,eval e X.env) :: backTo pos (starEach es X.env))) _ _ s;refine Calls.spliced_cons (thn (ha pins s σ H _ I h) λu s1 ⟨x,H1,I1,r1,q1⟩=>?_);exact thn (hr pos pins s1 σ H1 _ I1 q1) λus s2 ⟨xs,H2,I2,r2,q2⟩=>⟨x :: xs,H2,I2,.cons r1 r2,q2⟩
def Ck(t:TA):TE:=λσ H Q=>t σ H λxs H1=>xs.length<=sizeLine/\∀p,H1 p=none->Q (.ref p) (upd H1 p (.tup xs))
def Cm(t:TA):TE:=λσ H Q=>t σ H λxs H1=>xs.length<=sizeLine/\∀p,H1 p=none->Q (.ref p) (upd H1 p (.lst xs))
theorem bh{x1} (h:PA X es t):PE X (.Tuple es x1 pos) (Ck t):=by
 intro pins s σ H Q I hq;refine wpAny_Tuple_spliced (thn (h pos pins s σ H _ I hq) λus s1 ⟨xs,H1,I1,r,z,q⟩=>⟨by rw[←r.length];exact z,?_⟩);have hf:H1 s1.heap.objs.size=none:=I1.hok.fresh (le_refl _);refine⟨.ref s1.heap.objs.size,upd H1 s1.heap.objs.size (.tup xs),I1.laid (t':=s1.toks) (λb u e=>Heap.get?_push_of_some _ e) (le_refl _) ?_,U,q _ hf⟩;exact⟨z,us,r,⟨_,Heap.get?_push_size _ U,U,_,U⟩⟩
theorem aW(h:PA X es t):PE X (.List es pos) (Cm t):=by
 intro pins s σ H Q I hq;refine wpAny_List_spliced (thn (h pos pins s σ H _ I hq) λus s1 ⟨xs,H1,I1,r,z,q⟩=>⟨by rw[←r.length];exact z,?_⟩);have hf:H1 s1.heap.objs.size=none:=I1.hok.fresh (le_refl _);refine⟨.ref s1.heap.objs.size,upd H1 s1.heap.objs.size (.lst xs),I1.laid (t':=s1.toks) (λb u e=>Heap.get?_push_of_some _ e) (le_refl _) ?_,U,q _ hf⟩;exact⟨z,us,0,r,Heap.get?_push_size _ U⟩
abbrev Sp:=List V->Hp->VK->XK->Prop
abbrev CXT:=List Env->Hp->Shared->XK->Value->Shared->Prop
structure o9(P:Program)(w:World)(K:W.Frag)(mg:Str->Option Value)(base:Heap)(A:Around)(outer:List Env)(s:Shared)(H:Hp):Prop where
 frames:A.frames=some outer
 mod:Mod K mg base
 bs:∀b o,base.get? b=some o->s.heap.get? b=some o/\H b=none
 bsz:base.objs.size<=s.heap.objs.size
 funs:s.heap.FunFrames base outer
 frf:∀b∈frs outer,H b=none
 hok:HOk P w H s.heap
 bare:AllBare s.gens
def CE(outer:List Env)(P:Program)(w:World)(H:Hp)(s:Shared)(Q:VK)(u:Value)(s':Shared):Prop :=
 ∃v H',s'.os=s.os/\AllBare s'.gens/\Un (frs outer) [] H H' s.heap s'.heap/\HOk P w H' s'.heap/\RelV v u/\Q v H'
def CR(CX:CXT)(outer:List Env)(P:Program)(w:World)(H:Hp)(s:Shared)(Q:VK)(E:XK)(r:Result)(s':Shared):Prop :=
 match r with
 | .ok (.ret u)=>CE outer P w H s Q u s'
 | .ok _=>False
 | .error e=>CX outer H s E e s'
structure aH(P:Program)(w:World)(K:W.Frag)(mg:Str->Option Value)(base:Heap)(CX:CXT)(k:Nat)(f:Addr)(fd:FuncData)(ps:List Str)(sp:Sp):Prop where
 len:∀vs H Q E,sp vs H Q E->vs.length=ps.length
 run:∀(A:Around)(outer:List Env)(s:Shared)(H:Hp)(args:Args)(us:List Value)(vs:List V)(Q:VK)(E:XK),bZ k A->o9 P w K mg base A outer s H->BindsTo s fd args (ps.zip us)->Vals vs us->sp vs H Q E ->
  codeAny (model P w) A (.call (.ref f) args) (CR CX outer P w H s Q E) s
theorem aH.mono{P:Program}{w:World}{K:W.Frag}{mg:Str->Option Value}{base:Heap}{CX:CXT}{j k:Nat}{f:Addr}{fd:FuncData}{ps:List Str}{sp:Sp}(F:aH P w K mg base CX j f fd ps sp)(h:j<=k) :
  aH P w K mg base CX k f fd ps sp:=⟨F.len,λA outer s H args us vs Q E hr=>F.run A outer s H args us vs Q E (hr.mono h)⟩
theorem o9.make{P:Program}{w:World}{K:W.Frag}{mg:Str->Option Value}{base:Heap}{A:Around}{outer:List Env}{s:Shared}{H:Hp}(e:o9 P w K mg base A outer s H)(C:Addr)(us:List Value)(kw:List (Str×Value)) :
  o9 P w K mg base (A.under (.builtin "type.__call__" ⟨.ref C :: us,kw⟩)) outer s H:=⟨by first|exact e.frames|(simpa[Around.under,Code.envs,Code.isFrame,pushEnvs]using e.frames),e.mod,e.bs,e.bsz,e.funs,e.frf,e.hok,e.bare⟩
section
variable{s':Shared}
theorem Inv.env0(I:Inv X pins σ H s):o9 X.prog X.w X.K X.mg X.base X.A X.stack s H :=
 ⟨I.ok.frames,I.ok.mod,I.bs,le_trans I.ok.bsz I.sz,I.stack,I.stkFree,I.hok,I.bare⟩
theorem Inv.after{Q:VK}{u:Value}(I:Inv X pins σ H s)(h:CE X.stack X.prog X.w H s Q u s'):EP X pins σ Q u s':=by
 obtain⟨v,H',os,bare,un,hok,r,q⟩:=h;obtain⟨hh,g,d,t,os'⟩:=s';obtain rfl:os'=s.os:=os;exact⟨v,H',I.call (h':=hh) (g':=g) (d':=d) (t':=t) (ch:=[]) un hok bare (λb z=>absurd z (by simp)),r,q⟩
end
def AH(sp:Sp)(dvs:List V)(E:XK)(t:TA):TE:=λσ H Q=>t σ H λvs H1=>sp (vs++dvs) H1 Q E
def yu(C:Addr)(sp:Sp)(dvs:List V)(E:XK)(t:TA):TE:=λσ H Q=>t σ H λvs H1=>∀x dx,H1 x=none->H1 dx=none->dx≠x ->
 sp (.ref x :: (vs++dvs)) (upd (upd H1 dx (.own x)) x (.ins C dx [])) (λv H2=>v=.non/\Q (.ref x) H2) E
def Binds(K:W.Frag)(fd:FuncData)(ps:List Str)(ds:List Value):Prop :=
 ∀(s:Shared)(us:List Value),K.In s.heap->(us++ds).length=ps.length->BindsTo s fd ⟨us,[]⟩ (ps.zip (us++ds))
theorem Binds.all{K:W.Frag}{fd:FuncData}{ps:List Str}(h:∀us:List Value,us.length=ps.length->bindArgs fd ⟨us,[]⟩=pure (ps.zip us)):Binds K fd ps []:=λs us _ hl=>by
 rw[append_nil]at hl⊢;exact .of_eq (h us hl)
def Passes(CX:CXT)(X:Cx)(E:XK):Prop:=∀(pins:List (Addr×Obj))(σ:St)(H:Hp)(s:Shared)(e:Value)(s':Shared),Inv X pins σ H s->CX X.stack H s E e s'->X.xe e s'
variable{p:Pos}
section
variable{CX:CXT}{k:Nat}{fd:FuncData}{ps:List Str}{sp:Sp}{dvs:List V}{ds:List Value}{E:XK}{x m:Str}{apos:Pos}
theorem qR{pins:List (Addr×Obj)}{σ:St}{H:Hp}{s:Shared}{Q:VK}{us:List Value}{vs:List V}(F:aH X.prog X.w X.K X.mg X.base CX k f fd ps sp)(hr:bZ k X.A)(hb:Binds X.K fd ps ds)(hd:Vals dvs ds)(hx:Passes CX X E)
  (I:Inv X pins σ H s)(r:Vals vs us)(h:sp (vs++dvs) H Q E):wpAny (model X.prog X.w) X.A (call (.ref f) us) (EP X pins σ Q) X.xe s:=by
 have r2:Vals (vs++dvs) (us++ds):=r.append hd;have hl:(us++ds).length=ps.length:=by rw[←r2.length];exact F.len _ _ _ _ h
 refine wpAny_call (codeAny_mono (F.run X.A X.stack s H ⟨us,[]⟩ (us++ds) (vs++dvs) Q E hr I.env0 (hb s us I.kIn hl) r2 h) λr s' hq=>?_);cases r with
 |error e=>exact hx pins σ H s e s' I hq
 |ok fl =>
  cases fl with
  |ret u=>exact I.after hq
  |next=>exact False.elim hq
  |brk=>exact False.elim hq
  |cont=>exact False.elim hq
theorem xo(F:aH X.prog X.w X.K X.mg X.base CX k f fd ps sp)(hr:bZ k X.A)(hg:Gl X x)(hm:X.mg x=some (.ref f))(hk:W.keepIn X.K (.ref f)=true)(hb:Binds X.K fd ps ds)(hd:Vals dvs ds)(hx:Passes CX X E)
  (ha:PA X (e :: es) t)(hdb:(x == ("__debug__" : Str))=false:=by decide) (he:starEach (e :: es) X.env=(false,eval e X.env) :: starEach es X.env:=by rfl)(hpl:(backTo pos (starEach es X.env)).any (·.1)=false:=by rfl) :
  PE X (.Call (.Name x p) (e :: es) [] pos) (AH sp dvs E t):=by
 intro pins s σ H Q I h;refine wpAny_Call_Name_kw (gJ I hg hm ?_ hdb);refine W.callWith_K (h₀:=X.base) I.ok.mod.kin hk (thn (ha pos pins s σ H _ I h) λus s1 ⟨vs,H1,I1,r,q⟩=>⟨I1.kIn,?_⟩) he hpl;exact qR F hr hb hd hx I1 r q
structure Mk(K:W.Frag)(C f:Addr):Prop where
 makes:W.makesIn K C=true
 init:W.findIn K (.ref C) "__init__" = some (some (.ref f))
 fn:W.isFn K (.ref f)=true
 kp:W.keepIn K (.ref C)=true
theorem pb{pins:List (Addr×Obj)}{σ:St}{H:Hp}{s:Shared}{Q:VK}{us:List Value}{vs:List V}(M:Mk X.K C f)(F:aH X.prog X.w X.K X.mg X.base CX k f fd ps sp)(hr:bZ (k+1) X.A)(hb:Binds X.K fd ps ds)(hd:Vals dvs ds)
  (hx:Passes CX X E)(I:Inv X pins σ H s)(r:Vals vs us)
  (h:∀x dx,H x=none->H dx=none->dx≠x->sp (.ref x :: (vs++dvs)) (upd (upd H dx (.own x)) x (.ins C dx [])) (λv H2=>v=.non/\Q (.ref x) H2) E) :
  wpAny (model X.prog X.w) X.A (call (.ref C) us) (EP X pins σ Q) X.xe s:=by
 have hq:=h (s.heap.objs.size+1) s.heap.objs.size (I.hok.fresh (le_succ _)) (I.hok.fresh (le_refl _)) (ne_of_lt (lt_succ_self _));have I2:=Inv.made (C:=C) I;have r2:Vals (V.ref (s.heap.objs.size+1) :: (vs++dvs)) (Value.ref (s.heap.objs.size+1) :: (us++ds)):=.cons U (r.append hd);have hl:(Value.ref (s.heap.objs.size+1) :: us++ds).length=ps.length:=by
  have e:=r2.length;rw[F.len _ _ _ _ hq]at e;exact e.symm
 refine wpAny_call (uX (f:=f) I.kIn M.makes M.init (beq_iff_eq.mp M.fn) (codeAny_mono (F.run _ X.stack _ _ ⟨Value.ref (s.heap.objs.size+1) :: us,[]⟩ (Value.ref (s.heap.objs.size+1) :: (us++ds)) _ _ E (hr.make C us [])
  (I2.env0.make C us []) (hb _ (Value.ref (s.heap.objs.size+1) :: us) I2.kIn hl) r2 hq) λr s' hq'=>?_))
 cases r with
 |error e=>exact hx pins σ _ _ e s' I2 hq'
 |ok fl =>
  cases fl with
  |ret u =>
   obtain⟨v,H',I3,rv,ev,q3⟩:=I2.after hq';subst ev;exact⟨rv,⟨V.ref (s.heap.objs.size+1),H',I3,U,q3⟩⟩
  |next=>exact False.elim hq'
  |brk=>exact False.elim hq'
  |cont=>exact False.elim hq'
theorem xp(M:Mk X.K C f)(F:aH X.prog X.w X.K X.mg X.base CX k f fd ps sp)(hr:bZ (k+1) X.A)(hg:Gl X x)(hm:X.mg x=some (.ref C))(hb:Binds X.K fd ps ds)(hd:Vals dvs ds)(hx:Passes CX X E)
  (ha:PA X (e :: es) t)(hdb:(x == ("__debug__" : Str))=false:=by decide) (he:starEach (e :: es) X.env=(false,eval e X.env) :: starEach es X.env:=by rfl)(hpl:(backTo pos (starEach es X.env)).any (·.1)=false:=by rfl) :
  PE X (.Call (.Name x p) (e :: es) [] pos) (yu C sp dvs E t):=by
 intro pins s σ H Q I h;refine wpAny_Call_Name_kw (gJ I hg hm ?_ hdb);refine W.callWith_K (h₀:=X.base) I.ok.mod.kin M.kp (thn (ha pos pins s σ H _ I h) λus s1 ⟨vs,H1,I1,r,q⟩=>⟨I1.kIn,?_⟩) he hpl;exact pb M F hr hb hd hx I1 r q
theorem uY(M:Mk X.K C f)(F:aH X.prog X.w X.K X.mg X.base CX k f fd ps sp)(hr:bZ (k+1) X.A)(hg:Gl X x)(hm:X.mg x=some (.ref C))(hb:Binds X.K fd ps ds)(hd:Vals dvs ds)(hx:Passes CX X E)
  (hdb:(x == ("__debug__" : Str))=false:=by decide):PE X (.Call (.Name x p) [] [] pos) (yu C sp dvs E ze):=by
 intro pins s σ H Q I h;refine wpAny_Call_Name_kw (gJ I hg hm ?_ hdb);exact W.callWith_K0 I.kIn M.kp (pb (us:=[]) M F hr hb hd hx I .nil h)
end
section
variable{CX:CXT}{k:Nat}{fd:FuncData}{ps ks:List Str}{sp:Sp}{E:XK}{x m:Str}{apos EW:Pos}{kws:List Keyword}{tk:TA}{nm:Option Str}
structure Cn(K:W.Frag)(fd:FuncData)(ps ks:List Str)(g:List Value->List Value->List Value)(gV:List V->List V->List V):Prop where
 to:∀(s:Shared)(us ws:List Value),K.In s.heap->(g us ws).length=ps.length->BindsTo s fd ⟨us,ks.zip ws⟩ (ps.zip (g us ws))
 rel:∀{vs:List V}{us:List Value}{zs:List V}{ws:List Value},Vals vs us->Vals zs ws->Vals (gV vs zs) (g us ws)
variable{g:List Value->List Value->List Value}{gV:List V->List V->List V}
end
structure ao(N P:List Str)(sc:Scope):Prop where
 kind:sc.kind=.function
 co:sc.isCoroutine=false
 gen:sc.isGenerator=false
 nd:N.Nodup
 pre:N.take P.length=P
 par:∀x∈P,sc.names.lookup x=some .local\/sc.names.lookup x=some .cell
 nofree:∀y∈sc.names,y.2≠.free
theorem m4{kindOf:Str->Option NameKind}{x:Str}:∀{binds:List (Str×Value)}{m:Str->Option Value},(∀v,(x,v) ∉ binds)->bindL kindOf binds m x=m x
 | [],_,_=>rfl
 |(n,v) :: r,m,h=>by
  unfold bindL;rw[m4 λw hw=>h w (mem_cons_of_mem _ hw)];split
  ·have:x≠n:=by rintro rfl;exact h v mem_cons_self
   simp[this]
  ·rfl
theorem m5{kindOf:Str->Option NameKind}{x:Str}:∀{binds:List (Str×Value)}{m:Str->Option Value},(∀v,(x,v) ∉ binds)->bindC kindOf binds m x=m x
 | [],_,_=>rfl
 |(n,v) :: r,m,h=>by
  unfold bindC;rw[m5 λw hw=>h w (mem_cons_of_mem _ hw)];split
  ·rfl
  ·have:x≠n:=by rintro rfl;exact h v mem_cons_self
   simp[this]
theorem m6{kindOf:Str->Option NameKind}{x:Str}{v:Value}:∀{P:List Str}{vs:List Value}{i:Nat}{m:Str->Option Value},P.Nodup->P[i]?=some x->vs[i]?=some v->kindOf x=some .local ->
  bindL kindOf (P.zip vs) m x=some v
 | [],_,_,_,_,h,_,_=>by simp at h
 |_ :: _,[],_,_,_,_,h,_=>by simp at h
 |p :: P,w :: vs,0,m,nd,h1,h2,hk=>by
  simp at h1 h2;subst h1;subst h2;show bindL kindOf ((p,w) :: P.zip vs) m p=_;unfold bindL;rw[m4 λv hv=>(nodup_cons.mp nd).1 (of_mem_zip hv).1,if_pos hk];simp
 |p :: P,w :: vs,i+1,m,nd,h1,h2,hk=>by
  show bindL kindOf ((p,w) :: P.zip vs) m x=_;unfold bindL;exact m6 (i:=i) (nodup_cons.mp nd).2 (by simpa using h1) (by simpa using h2) hk
theorem m7{kindOf:Str->Option NameKind}{x:Str}{v:Value}:∀{P:List Str}{vs:List Value}{i:Nat}{m:Str->Option Value},P.Nodup->P[i]?=some x->vs[i]?=some v->kindOf x≠some .local ->
  bindC kindOf (P.zip vs) m x=some v
 | [],_,_,_,_,h,_,_=>by simp at h
 |_ :: _,[],_,_,_,_,h,_=>by simp at h
 |p :: P,w :: vs,0,m,nd,h1,h2,hk=>by
  simp at h1 h2;subst h1;subst h2;show bindC kindOf ((p,w) :: P.zip vs) m p=_;unfold bindC;rw[m5 λv hv=>(nodup_cons.mp nd).1 (of_mem_zip hv).1,if_neg hk];simp
 |p :: P,w :: vs,i+1,m,nd,h1,h2,hk=>by
  show bindC kindOf ((p,w) :: P.zip vs) m x=_;unfold bindC;exact m7 (i:=i) (nodup_cons.mp nd).2 (by simpa using h1) (by simpa using h2) hk
def start(N:List Str)(vs:List V):St:=vs.map some++List.replicate (N.length-vs.length) none
def pd(CX:CXT)(P:Program)(w:World)(K:W.Frag)(mg:Str->Option Value)(base:Heap)(N:List Str)(qual:Str)(scope:Scope)(f:Addr)(cd:Value)(A:Around)(outer:List Env)(s:Shared)(H:Hp)(E:XK):Cx where
 prog:=P
 w:=w
 K:=K
 mg:=mg
 base:=base
 A:=A.deeper (envOfC qual scope s.heap.objs.size f cd)
 N:=N
 s₀:=s
 H₀:=H
 env:=envOfC qual scope s.heap.objs.size f cd
 outer:=outer
 stack:=envOfC qual scope s.heap.objs.size f cd :: outer
 ex:=[]
 calm:=true
 fn:=λ_=>true
 pn:=[]
 xe:=λe s'=>wpAny (model P w) (A.deeper (envOfC qual scope s.heap.objs.size f cd)) (leaving (envOfC qual scope s.heap.objs.size f cd) e) (λ_ s''=>CX outer H s E e s'') (λe' s''=>CX outer H s E e' s'') s'
theorem pe{sc:Scope}{n:Nat}{x:Str}(h:sc.names.lookup x=some .cell):∃c,(cellsFrom n sc.names []).lookup x=some c:=by
 have q:=W.cellsFrom_some sc.names n [] (.inl h);exact isSome_iff_exists.mp q
theorem tJ{CX:CXT}{P:Program}{w:World}{K:W.Frag}{mg:Str->Option Value}{base:Heap}{N ps:List Str}{qual:Str}{scope:Scope}{f:Addr}{cd:Value}{A:Around}{outer:List Env}{s s1:Shared}{H:Hp}{E:XK}{us:List Value}{vs:List V}
  (S:ao N ps scope)(hd:A.handled=none)(e0:o9 P w K mg base A outer s H)(hl:vs.length=ps.length)(r:Vals vs us)
  (x:InCallC s s.heap.objs.size (bindL (envOfC qual scope s.heap.objs.size f cd).kindOf (ps.zip us) λ_=>none) (cellsFrom (s.heap.objs.size+1) scope.names []) (bindC (envOfC qual scope s.heap.objs.size f cd).kindOf (ps.zip us) λ_=>none) s1) :
  Inv (pd CX P w K mg base N qual scope f cd A outer s H E) [] (start N vs) H s1:=by
 have hpl:ps.length<=N.length:=by have:=congrArg List.length S.pre;rw[length_take]at this;lia
 obtain⟨h1,tk,rfl,hk⟩:=x.done;have noA:∀b:Addr,b ∉ (pd CX P w K mg base N qual scope f cd A outer s H E).ex:=λb z=>absurd (show b∈([]:List Addr)from z) (by simp)
 refine⟨⟨e0.mod,S.kind,U,U,le_refl _,λy z c h1 h2=>?_,λy hy=>?_,λy c _ h=>?_,λ_=>hd,Around.frames_deeper e0.frames,.inr ⟨U,U⟩,λb z=>absurd z (noA b),e0.bs,e0.bsz,λb _ _=>noA b,λb z=>absurd z (noA b),e0.funs,e0.frf⟩,
  rfl,e0.bare,Un.kept hk,⟨_,x.toInCall.ns,λi y v h1 h2 h3=>?_⟩,λy c h=>⟨_,x.cell y c h⟩,e0.hok.fresh (le_refl _),λy c h=>?_,λp hp=>absurd (show p∈([]:List (Addr×Obj))from hp) (by simp),e0.hok.kept hk,?_⟩
 ·exact name_of_addr x.apart (mem_of_lookup h1) (mem_of_lookup h2)
 ·have hy:scope.names.lookup y=some .cell\/scope.names.lookup y=some .free:=hy;rcases hy with hy|hy
  ·exact pe hy
  ·exact absurd U (S.nofree _ (mem_of_lookup hy))
 ·exact le_of_lt (x.above y c (mem_of_lookup h))
 ·have hi:i<vs.length:=by
   unfold start at h2;by_cases hi:i<vs.length
   ·exact hi
   ·rw[getElem?_append_right (by simpa using hi)]at h2;rw[List.getElem?_replicate]at h2;split at h2 <;> cases h2
  have ha:vs[i]?=some v:=by
   unfold start at h2;rw[getElem?_append_left (by simpa using hi),getElem?_map]at h2;cases e:vs[i]? with
   |none=>rw[e]at h2;cases h2
   |some a=>rw[e]at h2;cases h2;rfl
  obtain⟨u,hu,rv⟩:=r.get ha;have hp:ps[i]?=some y:=by
   rw[←S.pre,List.getElem?_take_of_lt (by lia)];exact h1
  have ndP:ps.Nodup:=by rw[←S.pre];exact S.nd.sublist (List.take_sublist _ _)
  refine⟨u,rv,?_⟩;rcases S.par y (Fp hp)with k|k
  ·exact .inl ⟨k,m6 ndP hp hu k⟩
  ·obtain⟨c,e⟩:=pe (n:=s.heap.objs.size+1) k;refine .inr ⟨.inl k,c,e,?_⟩;have q:=x.cell y c e;rw[m7 ndP hp hu (by show scope.names.lookup y≠_;rw[k];decide)]at q;exact q
 ·exact e0.hok.fresh (le_of_lt (x.above y c (mem_of_lookup h)))
 ·unfold start;show _=N.length;rw[length_append,length_map,length_replicate];lia
theorem yv{CX:CXT}{P:Program}{w:World}{K:W.Frag}{mg:Str->Option Value}{base:Heap}{k:Nat}{f:Addr}{name qual:Str}{params:Arguments}{body:List Stmt}{scope:Scope}{dV kV doc pm cdv ct oc:Value}{an od:Option Addr}
  {osl:Array (Option Value)}{N ps:List Str}{sp:Sp}(lk:K.lookup f=some ⟨oc,od,.func (W.fnOf name qual params body scope dV kV doc pm an cdv ct),osl⟩)(hcd:W.codeIn K cdv qual=true)(S:ao N ps scope)
  (len:∀vs H Q E,sp vs H Q E->vs.length=ps.length)
  (gf:∀(A:Around)(outer:List Env)(s:Shared)(H:Hp)(vs:List V)(Q:VK)(E:XK),bZ k (A.deeper (envOfC qual scope s.heap.objs.size f cdv))->sp vs H Q E ->
   ∃t,PSs (pd CX P w K mg base N qual scope f cdv A outer s H E) body t/\t { nx:=λ_ H'=>Q .non H',rt:=Q } (start N vs) H) :
  aH P w K mg base CX (k+1) f (W.fnOf name qual params body scope dV kV doc pm an cdv ct) ps sp:=by
 refine⟨len,λA outer s H args us vs Q E hr e0 hb r hsp=>?_⟩;have hl:=len _ _ _ _ hsp;have KX:K.In s.heap:=e0.mod.kin.keeps λb o e=>(e0.bs b o e).1
 have lim:s.heap.NoLimit:=e0.mod.nolimit.keeps λb o e=>(e0.bs b o e).1
 have AI:∀y∈ps.zip us,scope.names.lookup y.1=some .local\/(scope.names.lookup y.1=some .cell/\((cellsFrom (s.heap.objs.size+1) scope.names []).lookup y.1).isSome=true):=λ⟨n,v⟩ hy=>by
  rcases S.par n (of_mem_zip hy).1 with q|q
  ·exact .inl q
  ·exact .inr ⟨q,W.cellsFrom_some _ _ _ (.inl q)⟩
 refine codeAny_call_function hr.depth (KX _ _ lk) U S.co S.gen U (W.codeRec_of KX hcd) (hb _ _ _ _ ?_);refine wpAny_newFunctionEnv_cells S.kind AI λenv he s1 x=>?_
 subst he;refine⟨lim.keeps x.toInCall.keep,codeAny_func ?_⟩;obtain⟨t,ht,hq⟩:=gf A outer s H vs Q E (hr.deeper _) hsp;have I:Inv (pd CX P w K mg base N qual scope f cdv A outer s H E) [] (start N vs) H s1:=tJ S hr.hd e0 hl r x;refine wpAny_mono (ht [] s1 (start N vs) H _ I hq) (λfl s' hs=>?_) λe s' hs=>hs
 have fin:∀{σ':St}{H':Hp}{v:V}{u:Value},Inv (pd CX P w K mg base N qual scope f cdv A outer s H E) [] σ' H' s'->RelV v u->Q v H'->CE outer P w H s Q u s' :=
  λ{σ' H' v u} J rv q=>⟨v,H',J.os,J.bare,J.base,J.hok,rv,q⟩
 cases fl with
 |ret u =>
  obtain⟨v,σ',H',J,rv,q⟩:=hs;exact fin J rv q
 |next =>
  obtain⟨σ',H',J,q⟩:=hs;exact fin (v:=V.non) (u:=Value.none) J U q
 |brk =>
  obtain⟨_,_,_,q⟩:=hs;exact False.elim q
 |cont =>
  obtain⟨_,_,_,q⟩:=hs;exact False.elim q
section
variable{x:Str}{id T:String}{r:List V->Hp->VK->Prop}
def tCB(r:List V->Hp->VK->Prop)(t:TA):TE:=λσ H Q=>t σ H λvs H1=>r vs H1 Q
theorem aq(hc:de X (.builtin id) r)(hg:Gl X x)(hm:X.mg x=none)(hv:bootBuiltins x=some (.builtin id))(ha:PA X (e :: es) t)(hn:x ≠ "__name__" := by decide) (hdb:(x == ("__debug__" : Str))=false:=by decide)
  (he:starEach (e :: es) X.env=(false,eval e X.env) :: starEach es X.env:=by rfl)(hpl:(backTo pos (starEach es X.env)).any (·.1)=false:=by rfl):PE X (.Call (.Name x p) (e :: es) [] pos) (tCB r t):=by
 intro pins s σ H Q I h;refine wpAny_Call_Name_kw (f7 I hg hm hv ?_ hn hdb);exact PyProof.Rows.callWith_builtin1 (thn (ha pos pins s σ H _ I h) λus s1 ⟨vs,H1,I1,r1,q1⟩=>hc pins s1 σ H1 vs us Q I1 r1 q1) he hpl
theorem bL(hc:de X (.type T) r)(hg:Gl X x)(hm:X.mg x=none)(hv:bootBuiltins x=some (.type T))(ha:PA X (e :: es) t)(hn:x ≠ "__name__" := by decide) (hdb:(x == ("__debug__" : Str))=false:=by decide)
  (he:starEach (e :: es) X.env=(false,eval e X.env) :: starEach es X.env:=by rfl)(hpl:(backTo pos (starEach es X.env)).any (·.1)=false:=by rfl):PE X (.Call (.Name x p) (e :: es) [] pos) (tCB r t):=by
 intro pins s σ H Q I h;refine wpAny_Call_Name_kw (f7 I hg hm hv ?_ hn hdb);exact PyProof.Rows.callWith_type1 (thn (ha pos pins s σ H _ I h) λus s1 ⟨vs,H1,I1,r1,q1⟩=>hc pins s1 σ H1 vs us Q I1 r1 q1) he hpl
end
end L2
namespace HT
open PySem PyProof.Rows
theorem uZ(A:Around)(s:Shared)(a:Int)(t:Tok)(c:Int)(u:Tok):∃e,SeqAt.EqAt A s (.int a t) (.int c u) e/\(e=true↔a=c) :=
 ⟨(a == c),SeqAt.EqAt.int_int a t c u,by simp⟩
section
open PySem.SeqAt
open PySem.AutoSeq1 (wpAny_loadPart')
open PySem.MeetsSeq PySem.MeetsSeq2 PySem.MeetsSeq3
end
section
variable{prog:Program}{w:World}{A:Around}{E:Value->Shared->Prop}{s:Shared}
theorem cat_tup{t b:Addr}{vs ws:List Value}{Q:Value->Shared->Prop}(ht:IsTup s.heap t vs.toArray)(hb:IsTup s.heap b ws.toArray)(hv:vs≠[])
  (h1:ws=[]->Q (.ref t) s)(h2:ws≠[]->Q (.ref s.heap.objs.size) { s with heap:=s.heap.push { cls:=.type "tuple",data:=.seq (vs++ws).toArray } })
  (hsz:vs.length+ws.length<=sizeLine):wpAny (model prog w) A (binaryOp .Add (.ref t) (.ref b)) Q E s:=by
 obtain⟨⟨cls,dd,data,sl⟩,ho,hc,n,hd⟩:=id ht;obtain⟨⟨zf,dd2,data2,sl2⟩,ho2,hc2,n2,hd2⟩:=id hb;simp only at hc hd hc2 hd2;subst hc hd hc2 hd2;have e:vs.toArray++ws.toArray=(vs++ws).toArray:=by simp
 by_cases hw:ws=[]
 ·exact concat_meets ⟨_,ho,rfl⟩ ⟨_,ho2,rfl⟩ noFill_tuple_add seq_tuple_add PySem.F.slot_tuple_add PySem.F.entry_tuple_add (PySem.F.args_tuple_add_2 _ _)
   (tuple_addW1 t b vs.toArray ws.toArray n n2 dd dd2 sl sl2 (by simpa using hv) (by simp[hw])) ⟨ho,ho2,h1 hw⟩
 ·refine concat_meets ⟨_,ho,rfl⟩ ⟨_,ho2,rfl⟩ noFill_tuple_add seq_tuple_add PySem.F.slot_tuple_add PySem.F.entry_tuple_add (PySem.F.args_tuple_add_2 _ _)
   (tuple_addW2 t b vs.toArray ws.toArray n n2 dd dd2 sl sl2 (by simpa using hv) (by simpa using hw) (by rw[size_toArray,size_toArray];exact hsz)) ⟨ho,ho2,?_⟩
  rw[e];exact h2 hw
def sIx(n d:Nat):Option Int->Nat
 |none=>d
 |some v=>if v<0 then(v+(n:Int)).toNat else min v.toNat n
end
end HT
namespace L2
open PySem PySem.Spec PyProof.Rows
abbrev TO:=St->Hp->(Option Int->Hp->Prop)->Prop
def PO(X:Cx)(e:Option Expr)(t:TO):Prop :=
 ∀(pins:List (Addr×Obj))(s:Shared)(σ:St)(H:Hp)(Q:Option Int->Hp->Prop),Inv X pins σ H s->t σ H Q ->
  wpAny (model X.prog X.w) X.A (evalPart e X.env) (λu s'=>∃o H',Inv X pins σ H' s'/\IsPart u o/\Q o H') X.xe s
def xq:TO:=λ_ H Q=>Q none H
inductive u5  (Q:Option Int->Hp->Prop)(x:V)(H1:Hp):Prop
 |mk (i:_)(_:x=.int i)(_:Q (some i) H1):u5 Q x H1
def AJ(t:TE):TO:=λσ H Q=>t σ H λx H1=>u5 Q x H1
theorem intsAre_of{ns:List Int}:∀{us:List Value},Vals (ns.map V.int) us->IntsAre us ns:=by
 induction ns with
 |nil=>intro us r;rw[map_nil]at r;cases r;exact .nil
 |cons n ns ih =>
  intro us r;rw[map_cons]at r;cases r with
  |cons r1 r2 =>
   obtain⟨t,e⟩:=r1;subst e;exact .cons n t (ih r2)
variable{X:Cx}
section
variable{e:Expr}{te:TE}{lo hi:Option Expr}{tl th:TO}{pos p2:Pos}
theorem kD:PO X none xq:=by
 intro pins s σ H Q I h;rw[evalPart_none];exact wpAny_pure ⟨none,H,I,.none,h⟩
theorem gK(h:PE X e te):PO X (some e) (AJ te):=by
 intro pins s σ H Q I hw;rw[evalPart_some];refine thn (h pins s σ H _ I hw) λu s1 ⟨x,H1,I1,r1,q1⟩=>?_
 obtain⟨i,rfl,q⟩:=q1;obtain⟨t,rfl⟩:=r1;exact⟨some i,H1,I1,.int i t,q⟩
def SlR(X:Cx)(r:V->Option Int->Option Int->Hp->VK->Prop):Prop :=
 ∀(pins:List (Addr×Obj))(s:Shared)(σ:St)(H:Hp)(x:V)(v vl vu:Value)(lo hi:Option Int)(sl:Addr)(Q:VK),Inv X pins σ H s->RelV x v->s.heap.IsSliceOf sl vl vu .none->IsPart vl lo->IsPart vu hi->r x lo hi H Q ->
  ∃T id,typeLookup (.type T) "__getitem__" = pure (some (.builtin id))/\s.TypeIs v T/\wpAny (model X.prog X.w) X.A (getItem v (.ref sl)) (EP X pins σ Q) X.xe s
def tSl(r:V->Option Int->Option Int->Hp->VK->Prop)(te:TE)(tl th:TO):TE:=λσ H Q=>te σ H λx H1=>tl σ H1 λl H2=>th σ H2 λu H3=>r x l u H3 Q
theorem gg{r:V->Option Int->Option Int->Hp->VK->Prop}(hr:SlR X r)(he:PE X e te)(hl:PO X lo tl)(hu:PO X hi th):PE X (.Subscript e (.Slice lo hi none p2) pos) (tSl r te tl th):=by
 intro pins s σ H Q I h;refine Subscript_ (thn (he pins s σ H _ I h) λv s1 ⟨x,H1,I1,r1,q1⟩=>?_);refine wpAny_Slice (thn (hl pins s1 σ H1 _ I1 q1) λvl s2 ⟨l,H2,I2,pl,q2⟩=>thn (hu pins s2 σ H2 _ I2 q2) λvu s3 ⟨u,H3,I3,pu,q3⟩=>?_);rw[evalPart_none];refine wpAny_pure ?_;have I4:Inv X pins σ H3 { s3 with heap:=s3.heap.push { cls:=.type "slice",data:=.fields #[vl,vu,.none] } }:=I3.kept (t':=s3.toks) λb ob q=>Heap.get?_push_of_some _ q
 obtain⟨T,id,hT,ht,hg⟩:=hr pins { s3 with heap:=s3.heap.push { cls:=.type "slice",data:=.fields #[vl,vu,.none] } } σ H3 x v vl vu l u s3.heap.objs.size Q I4 r1 (Heap.IsSliceOf.new ..) pl pu q3;show wpAny (model X.prog X.w) X.A (subscriptTail e (.Slice lo hi none p2) v (.ref s3.heap.objs.size)) (EP X pins σ Q) X.xe { s3 with heap:=s3.heap.push { cls:=.type "slice",data:=.fields #[vl,vu,.none] } };exact tail_any (ops:=[.ref s3.heap.objs.size,v]) ht hT hg (by with_unfolding_all rfl)
def oj(xs:List V)(lo hi:Option Int):List V:=(xs.drop (HT.sIx xs.length 0 lo)).take (HT.sIx xs.length xs.length hi-HT.sIx xs.length 0 lo)
theorem pf(xs:List V)(lo hi:Option Int):(oj xs lo hi).length<=xs.length:=by
 unfold oj;rw[length_take,length_drop];lia
inductive yw(K:W.Frag)(x:V)(y:V)(H:Hp)(Q:VK):Prop
 |mk (a b xs ys:_)(_:x=.ref a)(_:y=.ref b)(_:SqT K H a xs)(_:SqT K H b ys)(_:xs≠[])(_:xs.length+ys.length<=sizeLine)(_:(ys=[]->Q (.ref a) H))(_:(ys≠[]->∀p,H p=none->Q (.ref p) (upd H p (.tup (xs++ys))))):yw K x y H Q
theorem Vals.nil_iff{xs:List V}{us:List Value}(r:Vals xs us):us=[]↔xs=[]:=by
 cases r with
 |nil=>simp
 |cons _ _=>simp
theorem xr:OpR X (binaryOp .Add) (yw X.K):=by
 intro pins s σ H x y v u Q I rx ry h;obtain⟨a,b,xs,ys,rfl,rfl,ha,hb,hx,hz,q1,q2⟩:=h;cases rx;cases ry;obtain⟨its,r1,p1,_⟩:=I.tuple ha;obtain⟨jU,r2,p2,_⟩:=I.tuple hb;refine HT.cat_tup p1 p2 (λz=>hx (r1.nil_iff.mp z)) (λz=>⟨.ref a,H,I,U,q1 (r2.nil_iff.mp z)⟩) (λz=>?_) (by rw[←r1.length,←r2.length];exact hz);refine⟨.ref s.heap.objs.size,_,I.laid (t':=s.toks) (o:=.tup (xs++ys)) (λb ob q=>Heap.get?_push_of_some _ q) (le_refl _) ?_,U,q2 (λw=>z (r2.nil_iff.mpr w)) _ (I.hok.fresh (le_refl _))⟩;exact⟨by rw[length_append];exact hz,_,r1.append r2,IsTup.new _ _⟩
end
def ixN(n:Nat)(i:Int):Option Nat:=if 0<=i then(if i<n then some i.toNat else none)else if -(n:Int)<=i then some (i+n).toNat else none
def atI{α:Type}(xs:List α)(i:Int):Option α:=(ixN xs.length i).bind λj=>xs[j]?
theorem sv{n:Nat}{i:Int}{j:Nat}(h:ixN n i=some j):seqIndex? i n=some j/\j<n/\-(n:Int)<=i/\i<n:=by
 unfold ixN at h;by_cases h0:0<=i
 ·rw[if_pos h0]at h;by_cases h1:i<n
  ·rw[if_pos h1]at h;have e:i.toNat=j:=Option.some.inj h;exact⟨by rw[seqIndex_of h0 h1,e],by lia,by lia,h1⟩
  ·rw[if_neg h1]at h;cases h
 ·rw[if_neg h0]at h;by_cases h1 : -(n:Int)<=i
  ·rw[if_pos h1]at h;have e:(i+n).toNat=j:=Option.some.inj h;exact⟨by rw[seqIndex_neg (by lia) h1,e],by lia,h1,by lia⟩
  ·rw[if_neg h1]at h;cases h
theorem om{α:Type}{xs:List α}{i:Int}{v:α}(h:atI xs i=some v):∃j,seqIndex? i xs.length=some j/\xs[j]?=some v/\j<xs.length/\-(xs.length:Int)<=i/\i<xs.length:=by
 unfold atI at h;cases e:ixN xs.length i with
 |none=>rw[e]at h;cases h
 |some j =>
  rw[e]at h;obtain⟨h1,h2,h3,h4⟩:=sv e;exact⟨j,h1,h,h2,h3,h4⟩
theorem aZ{α:Type}{xs:List α}{j:Nat}{v:α}(h:xs[j]?=some v):atI xs (j:Int)=some v:=by
 have hj:j<xs.length:=(Fo.mp h).1;have e:ixN xs.length (j:Int)=some j:=by
  unfold ixN;rw[if_pos (by lia),if_pos (by lia)];simp
 unfold atI;rw[e];exact h
theorem ju{α:Type}(xs:List α)(v:α):atI (xs++[v]) (-1)=some v:=by
 have hl:(xs++[v]).length=xs.length+1:=by simp
 have e:ixN (xs++[v]).length (-1)=some xs.length:=by
  unfold ixN;rw[hl,if_neg (by decide),if_pos (by lia)]
  congr 1
  lia
 unfold atI;rw[e];show(xs++[v])[xs.length]?=some v;simp
def xt(b:Expr):Prop:=∀o i,subscripted b false o i=operate [o,i] (getItem o i)
def IxR(X:Cx)(r:R2):Prop :=
 ∀(value slice:Expr)(pins:List (Addr×Obj))(s:Shared)(σ:St)(H:Hp)(x y:V)(v u:Value)(Q:VK),Inv X pins σ H s->RelV x v->RelV y u->r x y H Q ->
  subscripted slice false v u=operate [v,u] (getItem v u)->wpAny (model X.prog X.w) X.A (subscriptTail value slice v u) (EP X pins σ Q) X.xe s
def MtR(X:Cx)(id:String)(r:V->List V->Hp->VK->Prop):Prop :=
 ∀(pins:List (Addr×Obj))(s:Shared)(σ:St)(H:Hp)(x:V)(xs:List V)(v:Value)(us:List Value)(Q:VK),Inv X pins σ H s->RelV x v->Vals xs us->r x xs H Q ->
  wpAny (model X.prog X.w) X.A (call (.builtin id) (v :: us)) (EP X pins σ Q) X.xe s
section
variable{a b:Expr}{ta tb:TE}{pos:Pos}
theorem az{r:R2}(hr:IxR X r)(ha:PE X a ta)(hb:PE X b tb)(hs:xt b):PE X (.Subscript a b pos) (tOp r ta tb):=by
 intro pins s σ H Q I h;exact Subscript_ (yZ ha hb I h λv u s2 x y H2 I2 rx ry q=>hr a b pins s2 σ H2 x y v u Q I2 rx ry q (hs _ _))
inductive zg(K:W.Frag)(x:V)(y:V)(H:Hp)(Q:VK):Prop
 |mk (p xs i v:_)(_:x=.ref p)(_:y=.int i)(_:SqL K H p xs)(_:atI xs i=some v)(_:Q v H):zg K x y H Q
inductive zh(K:W.Frag)(x:V)(y:V)(H:Hp)(Q:VK):Prop
 |mk (p xs i v:_)(_:x=.ref p)(_:y=.int i)(_:SqT K H p xs)(_:atI xs i=some v)(_:Q v H):zh K x y H Q
inductive AK  (x:V)(y:V)(H:Hp)(Q:VK):Prop
 |mk (z i c:_)(_:x=.str z)(_:y=.int i)(_:z.length<=sizeLine)(_:atI z.cps.toList i=some c)(_:Q (.str ⟨#[c]⟩) H):AK x y H Q
theorem aF:IxR X (zg X.K):=by
 intro value slice pins s σ H x y v u Q I rx ry h hs;obtain⟨p,xs,i,z,rfl,rfl,hq,he,q⟩:=h;cases rx;obtain⟨t,rfl⟩:=ry;obtain⟨its,r,pl,hz⟩:=I.list hq;obtain⟨j,h1,h2,h3,h4,h5⟩:=om he;obtain⟨w,ew,rw'⟩:=r.get h2;have hl:=r.length;have hn:=iH;have fin:EP X pins σ Q w s:=⟨z,H,I,rw',q⟩;by_cases h0:0<=i
 ·have hj:i.toNat=j:=by
   rw[seqIndex_of h0 h5]at h1;exact Option.some.inj h1
  exact item_listR pl.isList h0 (by lia) (by rw[hj];simpa using ew) fin hs
 ·have hj:(i+(its.toArray.size:Int)).toNat=j:=by
   rw[seqIndex_neg (by lia) h4]at h1;rw[size_toArray,←hl];exact Option.some.inj h1
  exact subscriptTail_builtinR (x:=w) pl.isList.typeIs slot_list_getitem.lookup
   (wpAny_getItem_list_neg (Q:=λr s'=>r=w/\EP X pins σ Q r s') pl.isList (by lia) (by rw[size_toArray] <;> lia) (by lia) (by rw[hj];simpa using ew) ⟨U,fin⟩) hs
theorem aR:IxR X (zh X.K):=by
 intro value slice pins s σ H x y v u Q I rx ry h hs;obtain⟨p,xs,i,z,rfl,rfl,hq,he,q⟩:=h;cases rx;obtain⟨t,rfl⟩:=ry;obtain⟨its,r,pl,hz⟩:=I.tuple hq;obtain⟨j,h1,h2,h3,h4,h5⟩:=om he;obtain⟨w,ew,rw'⟩:=r.get h2;have hl:=r.length;have hn:=iH;have fin:EP X pins σ Q w s:=⟨z,H,I,rw',q⟩
 exact subscriptTail_builtinR (x:=w) pl.typeIs slot_tuple_getitem.lookup
  (getItem_tuple (j:=j) (Q:=λr s'=>r=w/\EP X pins σ Q r s') pl (by lia) (by lia) (by rw[size_toArray,←hl];exact h1) (by simpa using ew) ⟨U,fin⟩) hs
theorem qS:IxR X AK:=by
 intro value slice pins s σ H x y v u Q I rx ry h hs;obtain⟨z,i,c,rfl,rfl,hz,he,q⟩:=h;obtain⟨t,rfl⟩:=rx;obtain⟨t',rfl⟩:=ry;obtain⟨j,h1,h2,h3,h4,h5⟩:=om he;have hl:z.cps.toList.length=z.length:=by simp[Str.length]
 rw[hl]at h1 h4 h5;have hn:=iH;exact tail_any (typeIs_str s z t) slot_str_getitem.lookup (getItem_str (c:=c) (by
  have e1:decide (i < -(2^63:Int))=false:=decide_eq_false (by lia);have e2:decide (i ≥ 2^63)=false:=decide_eq_false (by lia);rw[e1,e2,Bool.or_false]) (by rw[h1];simpa using h2) ⟨.str ⟨#[c]⟩,H,I.tok _,⟨_,U⟩,q⟩) hs
theorem qT(its:List Value)(n j:Nat)(u:Value):Obj.mapSeq (·.setIfInBounds j u) { cls:=.type "list",data:=.seq its.toArray n }={ cls:=.type "list",data:=.seq (its.set j u).toArray n }:=by
 simp[Obj.mapSeq]
theorem Inv.lst{pins:List (Addr×Obj)}{σ:St}{H:Hp}{s:Shared}{p:Addr}{xs:List V}(I:Inv X pins σ H s)(h:H p=some (.lst xs)) :
  ∃(its:List Value)(n:Nat),Vals xs its/\s.heap.get? p=some { cls:=.type "list",data:=.seq its.toArray n }/\xs.length<=sizeLine:=by
 obtain⟨z,its,n,r,e⟩:=I.hok p _ h;exact⟨its,n,r,e,z⟩
theorem Inv.lstUpd{pins:List (Addr×Obj)}{σ:St}{H:Hp}{s:Shared}{p:Addr}{xs ys:List V}{its its':List Value}{n n':Nat}{f:Obj->Obj}(I:Inv X pins σ H s)(h:H p=some (.lst xs))
  (ho:s.heap.get? p=some { cls:=.type "list",data:=.seq its.toArray n }) (hf:f { cls:=.type "list",data:=.seq its.toArray n }={ cls:=.type "list",data:=.seq its'.toArray n' }) (r:Vals ys its')(hz:ys.length<=sizeLine)(t:Nat) :
  Inv X pins σ (upd H p (.lst ys)) { s with heap:=s.heap.update p f,toks:=t }:=by
 have e:(s.heap.update p f).get? p=some { cls:=.type "list",data:=.seq its'.toArray n' }:=by
  rw[Heap.get?_update_self f ho (by rw[hf] <;> rfl),hf]
 refine I.write (x:=p) (e:=p) (by rw[h];trivial) (.inl U) (λb u hb q=>(Heap.get?_update_other _ _ (Ne.symm hb)).trans q) ⟨_,e⟩ ?_;exact⟨hz,its',n',r,e⟩
inductive yx  (o:V)(i:V)(v:V)(H:Hp)(Q:(Hp->Prop)):Prop
 |mk (p xs k j:_)(_:o=.ref p)(_:i=.int k)(_:H p=some (.lst xs))(_:ixN xs.length k=some j)(_:Q (upd H p (.lst (xs.set j v)))):yx o i v H Q
theorem set_list:Av X yx:=by
 intro pins s σ H o i v ov iv u Q I ro ri rv h;obtain⟨p,xs,k,j,rfl,rfl,hp,hj,q⟩:=h;cases ro;obtain⟨t,rfl⟩:=ri;obtain⟨its,n,r,ho,hz⟩:=I.lst hp;obtain⟨h1,h2,h3,h4⟩:=sv hj;have hl:=r.length;have hn:=iH;have I':Inv X pins σ (upd H p (.lst (xs.set j v))) { s with heap:=s.heap.update p (Obj.mapSeq (·.setIfInBounds j u)) } :=
  I.lstUpd hp ho (qT its n j u) (r.set rv j) (by rw[List.length_set];exact hz) s.toks
 by_cases h0:0<=k
 ·have hk:k.toNat=j:=by
   rw[seqIndex_of h0 h4]at h1;exact Option.some.inj h1
  exact W.ki_setAt ho h0 (by lia) (by rw[size_toArray,←hl];exact h4) (by rw[hk];exact⟨_,I',q⟩)
 ·have hk:(k+(its.toArray.size:Int)).toNat=j:=by
   rw[seqIndex_neg (by lia) h3]at h1;rw[size_toArray,←hl];exact Option.some.inj h1
  exact W.ki_setBack ho (by lia) (by rw[size_toArray,←hl];exact h3) (by lia) (by rw[hk];exact⟨_,I',q⟩)
theorem oo(lo hi:Option Int)(n:Nat):(sliceBounds lo hi none n).1=((HT.sIx n 0 lo:Nat):Int)/\(sliceBounds lo hi none n).2.1=((HT.sIx n n hi:Nat):Int)/\(sliceBounds lo hi none n).2.2=1:=by
 refine⟨?_,?_,U⟩
 ·cases lo with
  |none=>simp[sliceBounds,HT.sIx]
  |some i =>
   simp only[sliceBounds,HT.sIx,getD_none,show(1:Int)>0 by decide,if_true];by_cases h:i<0
   ·simp only[h,if_true] <;> lia
   ·simp only[h,if_false] <;> lia
 ·cases hi with
  |none=>simp[sliceBounds,HT.sIx]
  |some i =>
   simp only[sliceBounds,HT.sIx,getD_none,show(1:Int)>0 by decide,if_true];by_cases h:i<0
   ·simp only[h,if_true] <;> lia
   ·simp only[h,if_false] <;> lia
theorem mC(its:List Value)(lo hi:Option Int):slicePick its.toArray lo hi none=((its.drop (HT.sIx its.length 0 lo)).take (HT.sIx its.length its.length hi-HT.sIx its.length 0 lo)).toArray:=by
 obtain⟨h1,h2,h3⟩:=oo lo hi its.toArray.size;unfold slicePick;rw[h1,h2,h3];simp only[sliceRange_one,pick_run,size_toArray] <;> rfl
inductive zi(K:W.Frag)(x:V)(lo:Option Int)(hi:Option Int)(H:Hp)(Q:VK):Prop
 |mk (a xs:_)(_:x=.ref a)(_:SqL K H a xs)(_:∀p,H p=none->Q (.ref p) (upd H p (.lst (oj xs lo hi)))):zi K x lo hi H Q
theorem oq:SlR X (zi X.K):=by
 intro pins s σ H x v vl vu lo hi sl Q I rx hs pl pu h;obtain⟨a,xs,rfl,hx,q⟩:=h;cases rx;obtain⟨its,r,ht,hz⟩:=I.list hx;have hlen:=r.length;refine⟨"list",_,slot_list_getitem.lookup,ht.isList.typeIs,?_⟩;refine wpAny_getItem_list_slice ht.isList hs pl pu .none (by simp) ?_ (by rw[size_toArray] <;> lia);rw[mC,←hlen];refine⟨.ref s.heap.objs.size,_,I.laid (t':=s.toks) (o:=.lst (oj xs lo hi)) (λb ob q=>Heap.get?_push_of_some _ q) (le_refl _) ?_,U,q _ (I.hok.fresh (le_refl _))⟩;exact⟨le_trans (pf xs lo hi) hz,_,0,(r.drop (HT.sIx xs.length 0 lo)).take (HT.sIx xs.length xs.length hi-HT.sIx xs.length 0 lo),Heap.get?_push_size _ U⟩
def fU:V->Bool
 | .non=>true
 | .bl _=>true
 | .int _=>true
 | .str _=>true
 |_=>false
def eqV:V->V->Bool
 | .non,.non=>true
 | .bl a,.bl b=>a == b
 | .bl a,.int b=>(if a then 1 else 0) == b
 | .int a,.bl b=>a == (if b then 1 else 0)
 | .int a,.int b=>a == b
 | .str a,.str b=>a == b
 |_,_=>false
theorem qU{A:Around}{s:Shared}{y x:V}{u v:Value}(ry:RelV y u)(rx:RelV x v)(fy:fU y=true)(fx:fU x=true):SeqAt.EqAt A s u v (eqV y x):=by
 cases y with
 |non =>
  cases ry;cases x with
  |non=>cases rx;exact SeqAt.EqAt.same _
  |bl b=>cases rx;exact SeqAt.EqAt.none_bool b
  |int b=>obtain⟨t,rfl⟩:=rx;exact SeqAt.EqAt.none_int b t
  |str b=>obtain⟨t,rfl⟩:=rx;exact SeqAt.EqAt.none_str b t
  |_=>exact absurd (show false=true from fx) Bool.false_ne_true
 |bl a =>
  cases ry;cases x with
  |non=>cases rx;exact SeqAt.EqAt.bool_none a
  |bl b=>cases rx;exact SeqAt.EqAt.bool_bool a b
  |int b=>obtain⟨t,rfl⟩:=rx;exact SeqAt.EqAt.bool_int a b t
  |str b=>obtain⟨t,rfl⟩:=rx;exact SeqAt.EqAt.bool_str a b t
  |_=>exact absurd (show false=true from fx) Bool.false_ne_true
 |int a =>
  obtain⟨t',rfl⟩:=ry;cases x with
  |non=>cases rx;exact SeqAt.EqAt.int_none a t'
  |bl b=>cases rx;exact SeqAt.EqAt.int_bool a t' b
  |int b=>obtain⟨t,rfl⟩:=rx;exact SeqAt.EqAt.int_int a t' b t
  |str b=>obtain⟨t,rfl⟩:=rx;exact SeqAt.EqAt.int_str a t' b t
  |_=>exact absurd (show false=true from fx) Bool.false_ne_true
 |str a =>
  obtain⟨t',rfl⟩:=ry;cases x with
  |non=>cases rx;exact SeqAt.EqAt.str_none a t'
  |bl b=>cases rx;exact SeqAt.EqAt.str_bool a t' b
  |int b=>obtain⟨t,rfl⟩:=rx;exact SeqAt.EqAt.str_int a t' b t
  |str b=>obtain⟨t,rfl⟩:=rx;exact SeqAt.EqAt.str_str a t' b t
  |_=>exact absurd (show false=true from fx) Bool.false_ne_true
 |_=>exact absurd (show false=true from fy) Bool.false_ne_true
theorem au:de X (.builtin "len") (λxs H Q=>∃p ys,xs=[.ref p]/\(SqL X.K H p ys\/SqT X.K H p ys)/\Q (.int ys.length) H):=by
 intro pins s σ H xs us Q I r h;obtain⟨p,ys,rfl,hq,q⟩:=h;obtain⟨u,rfl,rx⟩:=vals1 r;cases rx;have hn:=iH;rcases hq with hq|hq
 ·obtain⟨its,r',pl,hz⟩:=I.list hq;have hlen:=r'.length;exact Calls.call_len_list pl.isList (by simp only[size_toArray] <;> lia) ⟨.int ys.length,H,I.tok _,⟨s.toks+1,by rw[size_toArray,hlen]⟩,q⟩
 ·obtain⟨its,r',pl,hz⟩:=I.tuple hq;have hlen:=r'.length;exact len_tuple pl (by simp only[size_toArray] <;> lia) ⟨.int ys.length,H,I.tok _,⟨s.toks+1,by rw[size_toArray,hlen]⟩,q⟩
theorem ot:de X (.builtin "len") (λxs H Q=>∃z,xs=[.str z]/\z.length<=sizeLine/\Q (.int z.length) H):=by
 intro pins s σ H xs us Q I r h;obtain⟨z,rfl,hz,q⟩:=h;obtain⟨u,rfl,t,rfl⟩:=vals1 r;have hn:=iH;exact len_str (by lia) ⟨.int z.length,H,I.tok _,⟨_,U⟩,q⟩
theorem dg:de X (.type "list") (λxs H Q=>∃p ys,xs=[.ref p]/\(SqL X.K H p ys\/SqT X.K H p ys)/\∀l,H l=none->Q (.ref l) (upd H l (.lst ys))):=by
 intro pins s σ H xs us Q I r h;obtain⟨p,ys,rfl,hq,q⟩:=h;obtain⟨u,rfl,rx⟩:=vals1 r;cases rx
 have fin:∀(its:List Value),Vals ys its->ys.length<=sizeLine->∀(h':Heap)(c':Nat),(∀b o',s.heap.get? b=some o'->h'.get? b=some o') ->
   h'.get? s.heap.objs.size=some { cls:=.type "list",dict:=none,data:=.seq its.toArray c',slots:=#[] }->EP X pins σ Q (.ref s.heap.objs.size) { s with heap:=h' }:=λits r' hz h' c' kp e =>
  ⟨.ref s.heap.objs.size,_,I.laid (t':=s.toks) kp (le_refl _) (show cI X.prog X.w _ h' _ (.lst ys) from⟨hz,its,c',r',e⟩),U,q _ (I.hok.fresh (le_refl _))⟩
 rcases hq with hq|hq
 ·obtain⟨its,r',pl,hz⟩:=I.list hq;have hlen:=r'.length;obtain⟨o,ho,hc,n,hd⟩:=pl.isList;exact call_list_seq p (.inl U) ho hc hd (λh' c' kp e=>fin its r' hz h' c' kp e) (by simp only[size_toArray] <;> lia)
 ·obtain⟨its,r',pl,hz⟩:=I.tuple hq;have hlen:=r'.length;obtain⟨o,ho,hc,n,hd⟩:=pl;exact call_list_seq p (.inr U) ho hc hd (λh' c' kp e=>fin its r' hz h' c' kp e) (by simp only[size_toArray] <;> lia)
theorem iu:de X (.type "tuple") (λxs H Q=>∃p ys,xs=[.ref p]/\((SqL X.K H p ys/\∀l,H l=none->Q (.ref l) (upd H l (.tup ys)))\/(SqT X.K H p ys/\Q (.ref p) H))):=by
 intro pins s σ H xs us Q I r h;obtain⟨p,ys,rfl,h⟩:=h;obtain⟨u,rfl,rx⟩:=vals1 r;cases rx;rcases h with⟨hq,q⟩|⟨hq,q⟩
 ·obtain⟨its,r',pl,hz⟩:=I.list hq;have hlen:=r'.length;refine call_tuple_list pl.isList (λh' kp=>?_) (by simp only[size_toArray] <;> lia);have I1:Inv X pins σ H { s with heap:=h' }:=I.kept (t':=s.toks) kp;have I2:Inv X pins σ (upd H h'.objs.size (.tup ys)) { s with heap:=h'.push { cls:=.type "tuple",data:=.seq its.toArray } } :=
   I1.laid (t':=s.toks) (λb o e=>Heap.get?_push_of_some _ e) (le_refl _) (show cI X.prog X.w _ _ _ (.tup ys) from⟨hz,its,r',IsTup.new _ _⟩)
  exact⟨.ref h'.objs.size,_,I2,U,q _ (I1.hok.fresh (le_refl _))⟩
 ·obtain⟨its,r',pl,hz⟩:=I.tuple hq;exact call_tuple_same pl ⟨.ref p,H,I,U,q⟩
def tyV(K:W.Frag)(T:String)(x:V)(H:Hp):Prop:=match x with
 | .str _=>T = "str"
 | .int _=>T = "int"
 | .ref p=>(T = "list" /\ ∃xs,SqL K H p xs)\/(T = "tuple" /\ ∃o,K.lookup p=some o/\o.cls=.type "tuple" /\ o.dict=none) \/
   (T = "dict" /\ ((∃kvs,H p=some (.dK kvs))\/∃kvs,H p=some (.dT kvs)))\/(T = "set" /\ ∃S n,H p=some (.set S n))
 |_=>False
theorem u7{pins:List (Addr×Obj)}{σ:St}{H:Hp}{s:Shared}{T:String}{x:V}{v:Value}(I:Inv X pins σ H s)(r:RelV x v)(ty:tyV X.K T x H) :
  s.TypeIs v T/\∀a,v=.ref a->∃ob,s.heap.get? a=some ob/\ob.dict=none:=by
 cases x with
 |str z =>
  obtain⟨t,rfl⟩:=r;cases (show T = "str" from ty);exact⟨typeIs_str s z t,λ_ e=>nomatch e⟩
 |int i =>
  obtain⟨t,rfl⟩:=r;cases (show T = "int" from ty);exact⟨typeIs_int s i t,λ_ e=>nomatch e⟩
 |ref p =>
  cases r;rcases ty with⟨rfl,xs,hq⟩|⟨rfl,o,hk,hc,hd⟩|⟨rfl,hk⟩|⟨rfl,S,n,hk⟩
  ·obtain⟨its,_,pl,_⟩:=I.list hq;refine⟨pl.isList.typeIs,λa e=>?_⟩;cases e;obtain⟨o,n,e,c,hd,_⟩:=pl;exact⟨o,e,hd⟩
  ·refine⟨⟨o,I.kIn p o hk,hc⟩,λa e=>?_⟩;cases e;exact⟨o,I.kIn _ o hk,hd⟩
  ·have z:∃o,s.heap.get? p=some o/\o.ExactDict:=by
    rcases hk with⟨kvs,hk⟩|⟨kvs,hk⟩
    ·obtain⟨_,_,_,_,o,_,_,e,ex,_⟩:=I.hok p _ hk;exact⟨o,e,ex⟩
    ·obtain⟨_,_,_,_,o,_,_,e,ex,_⟩:=I.hok p _ hk;exact⟨o,e,ex⟩
   obtain⟨o,e,ex⟩:=z;refine⟨⟨o,e,ex.1⟩,λa e2=>?_⟩;cases e2;exact⟨o,e,ex.2.1⟩
  ·obtain⟨o,_,_,_,e,ex,_⟩:=I.hok p _ hk;refine⟨⟨o,e,ex.1⟩,λa e2=>?_⟩;cases e2;exact⟨o,e,ex.2.1⟩
 |_=>exact False.elim ty
def Co(K:W.Frag)(T:String)(r:V->List V->Hp->VK->Prop)(to:TE):TE:=λσ H Q=>to σ H λx H1=>tyV K T x H1/\r x [] H1 Q
def tBM(K:W.Frag)(T:String)(r:V->List V->Hp->VK->Prop)(to:TE)(t:TA):TE:=λσ H Q=>to σ H λx H1=>tyV K T x H1/\t σ H1 λxs H2=>r x xs H2 Q
variable{o e:Expr}{es:List Expr}{to:TE}{t:TA}{name:Str}{apos ow:Pos}{T id:String}{r:V->List V->Hp->VK->Prop}
theorem zj(pa:PlainAttrs T)(slot:Slot T name id)(hty:typeOf (.builtin id)=pure (.type "method_descriptor")) (hm:MtR X id r)(ho:PE X o to)
  (vb:attributeBase o name X.env (eval o X.env)=eval o X.env:=by rfl)(vc:(apos.endLine == ow.line)=true:=by rfl):PE X (.Call (.Attribute o name apos) [] [] ow) (Co X.K T r to):=by
 intro pins s σ H Q I h;refine wpAny_Call_method0_late vb vc (thn (ho pins s σ H _ I h) λv s1 ⟨x,H1,I1,r1,ty,q1⟩=>?_);obtain⟨h1,h2⟩:=u7 I1 r1 ty;exact⟨T,id,pa,slot,hty,h1,h2,Calls.callWith_builtin U (PySem.evalArgs_none (hm pins s1 σ H1 x [] v [] Q I1 r1 .nil q1))⟩
theorem dP(pa:PlainAttrs T)(slot:Slot T name id)(hty:typeOf (.builtin id)=pure (.type "method_descriptor")) (hm:MtR X id r)(ho:PE X o to)(ha:PA X (e :: es) t)
  (vb:attributeBase o name X.env (eval o X.env)=eval o X.env:=by rfl)
  (Cp:((backTo ow (starEach (e :: es) X.env)).all (λx=>!x.1) && (backToKw ow (keywordEach [] X.env)).all (λx=>x.1.isSome)
   && decide ((e :: es).length+([]:List Keyword).length+(if ([]:List Keyword).isEmpty then 0 else 1)<30))=true:=by rfl)
  (vc:(apos.endLine == ow.line)=true:=by rfl)(hs:starEach (e :: es) X.env=(false,eval e X.env) :: starEach es X.env:=by rfl)(zk:(backTo ow (starEach es X.env)).any (·.1)=false:=by rfl) :
  PE X (.Call (.Attribute o name apos) (e :: es) [] ow) (tBM X.K T r to t):=by
 intro pins s σ H Q I h;refine wpAny_Call_method_late vb Cp vc U (thn (ho pins s σ H _ I h) λv s1 ⟨x,H1,I1,r1,ty,q1⟩=>?_);obtain⟨h1,h2⟩:=u7 I1 r1 ty;refine⟨T,id,pa,slot,hty,h1,h2,?_⟩;have hA:=ha ow pins s1 σ H1 _ I1 q1;rw[hs]at hA⊢;refine Calls.callWith_builtin (by show(false || (backTo ow (starEach es X.env)).any (·.1))=false;rw[zk] <;> rfl) (Calls.evalArgs_plain ?_);exact thn hA λus s2 ⟨vs,H2,I2,r2,q2⟩=>hm pins s2 σ H2 x vs v us Q I2 r1 r2 q2
end
def MtM(X:Cx)(id:String)(r:V->List V->Hp->VK->Prop):Prop :=
 ∀(pins:List (Addr×Obj))(s:Shared)(σ:St)(H:Hp)(x:V)(xs:List V)(v:Value)(us:List Value)(Q:VK),Inv X pins σ H s->RelV x v->Vals xs us->r x xs H Q ->
  wpAny (model X.prog X.w) X.A (call (.builtin id) (v :: us)) (EP X pins σ Q) X.xe s
theorem Vals.one:∀{x:V}{us:List Value},Vals [x] us->∃u,us=[u]/\RelV x u
 |_,_,.cons r .nil=>⟨_,U,r⟩
theorem Vals.two:∀{x y:V}{us:List Value},Vals [x,y] us->∃u v,us=[u,v]/\RelV x u/\RelV y v
 |_,_,_,.cons r (.cons q .nil)=>⟨_,_,U,r,q⟩
theorem Vals.zero:∀{us:List Value},Vals [] us->us=[]
 |_,.nil=>rfl
section
variable{pins:List (Addr×Obj)}{σ:St}{H:Hp}{s:Shared}{l b:Addr}{xs ys zs:List V}
theorem Inv.lset{its its':List Value}{n:Nat}{f:Array Value->Array Value}{t':Nat}(I:Inv X pins σ H s)(hH:H l=some (.lst xs))
  (e:s.heap.get? l=some { cls:=.type "list",data:=.seq its.toArray n }) (hf:f its.toArray=its'.toArray)(hv:Vals ys its')(hz:ys.length<=sizeLine) :
  Inv X pins σ (upd H l (.lst ys)) { s with heap:=s.heap.update l (Obj.mapSeq f),toks:=t' }:=by
 have q:=PySem.IsL.update e f;rw[hf]at q;refine I.write (x:=l) (e:=l) (by rw[hH];exact trivial) (.inl U) (λb' u hb hu=>(Heap.get?_update_other s.heap (Obj.mapSeq f) (Ne.symm hb)).trans hu) ⟨_,q⟩ ?_;exact⟨hz,its',_,hv,q⟩
theorem Inv.lnew{its:List Value}{t':Nat}(I:Inv X pins σ H s)(hv:Vals ys its)(hz:ys.length<=sizeLine) :
  Inv X pins σ (upd H s.heap.objs.size (.lst ys)) { s with heap:=s.heap.push { cls:=.type "list",data:=.seq its.toArray },toks:=t' } :=
 I.laid (λ_ _ q=>Heap.get?_push_of_some _ q) (le_refl _) ⟨hz,its,0,hv,Heap.get?_push_size _ U⟩
theorem Inv.fresh(I:Inv X pins σ H s):H s.heap.objs.size=none:=I.hok.fresh (le_refl _)
theorem Inv.lstM(I:Inv X pins σ H s)(hH:H l=some (.lst xs)):xs.length<=sizeLine/\∃(its:List Value)(n:Nat),Vals xs its/\xs.length=its.length/\s.heap.get? l=some { cls:=.type "list",data:=.seq its.toArray n }:=by
 obtain⟨z,its,n,r,e⟩:=I.hok l _ hH;exact⟨z,its,n,r,r.length,e⟩
theorem vd{n:Nat}(h:n<=sizeLine):Builtin.List.listTooLong n=false:=by
 unfold Builtin.List.listTooLong;exact decide_eq_false (by lia)
end
inductive sx  (x:V)(vs:List V)(H:Hp)(Q:VK):Prop
 |mk (l xs y:_)(_:x=.ref l)(_:vs=[y])(_:H l=some (.lst xs))(_:xs.length<sizeLine)(_:Q .non (upd H l (.lst (xs++[y])))):sx x vs H Q
theorem bp:MtM X "list.append" sx:=by
 intro pins s σ H x vs v us Q I rx rv h;obtain⟨l,xs,y,rfl,rfl,hH,hz,q⟩:=h;cases rx;obtain⟨u,rfl,ru⟩:=rv.one;obtain⟨z,its,n,r,hl,e⟩:=I.lstM hH;refine call_meets F.slot_list_append ⟨_,e,U⟩ F.entry_list_append (F.args_list_append_2 _ _) (PySem.list_append l its.toArray n u (by rw[size_toArray];lia)) ⟨e,?_⟩;refine⟨.non,_,I.lset (its':=its++[u]) hH e (by simp) (r.append (.cons ru .nil)) ?_,U,q⟩;rw[length_append,length_singleton];lia
inductive sy  (x:V)(vs:List V)(H:Hp)(Q:VK):Prop
 |mk (l b xs zs:_)(_:x=.ref l)(_:vs=[.ref b])(_:H l=some (.lst xs))(_:H b=some (.lst zs))(_:xs.length+zs.length<=sizeLine)(_:Q .non (upd H l (.lst (xs++zs)))):sy x vs H Q
theorem tK:MtM X "list.extend" sy:=by
 intro pins s σ H x vs v us Q I rx rv h;obtain⟨l,b,xs,zs,rfl,rfl,hH,hB,hz,q⟩:=h;cases rx;obtain⟨u,rfl,ru⟩:=rv.one;cases ru;obtain⟨z,its,n,r,hl,e⟩:=I.lstM hH;obtain⟨z2,jU,n2,r2,hl2,e2⟩:=I.lstM hB;have hsz:its.toArray.size+jU.toArray.size<=sizeLine:=by rw[size_toArray,size_toArray];lia
 have AL:¬ (!its.toArray.isEmpty && Builtin.List.listTooLong (its.toArray.size+jU.toArray.size))=true:=by
  rw[vd hsz,Bool.and_false];exact Bool.false_ne_true
 refine call_meets F.slot_list_extend ⟨_,e,U⟩ F.entry_list_extend (F.args_list_extend_2 _ _)
  (AutoSeq1.list_extend_list_list_0 l its.toArray n b jU.toArray n2 AL (by rw[size_toArray];lia) (by lia)) ⟨e,e2,?_⟩
 refine⟨.non,_,I.lset (its':=its++jU) hH e (by simp) (r.append r2) ?_,U,q⟩;rw[length_append];lia
inductive ve  (x:V)(vs:List V)(H:Hp)(Q:VK):Prop
 |mk (l xs:_)(_:x=.ref l)(_:vs=[])(_:H l=some (.lst xs))(_:Q .non (upd H l (.lst []))):ve x vs H Q
theorem vf:MtM X "list.clear" ve:=by
 intro pins s σ H x vs v us Q I rx rv h;obtain⟨l,xs,rfl,rfl,hH,q⟩:=h;cases rx;have hus:=rv.zero;subst hus;obtain⟨z,its,n,r,hl,e⟩:=I.lstM hH;refine call_meets F.slot_list_clear ⟨_,e,U⟩ F.entry_list_clear (F.args_list_clear_1 _) (AutoSeq1.list_clear_list_0 l its.toArray n (by rw[size_toArray];lia)) ⟨e,?_⟩;exact⟨.non,_,I.lset (its':=[]) (ys:=[]) hH e U .nil (zero_le _),U,q⟩
inductive AM  (x:V)(y:V)(H:Hp)(Q:VK):Prop
 |mk (l b xs zs:_)(_:x=.ref l)(_:y=.ref b)(_:H l=some (.lst xs))(_:H b=some (.lst zs))(_:xs.length+zs.length<=sizeLine)(_:∀p,H p=none->Q (.ref p) (upd H p (.lst (xs++zs)))):AM x y H Q
theorem kO:OpR X (binaryOp .Add) AM:=by
 intro pins s σ H x y v u Q I rx ry h;obtain⟨l,b,xs,zs,rfl,rfl,hH,hB,hz,q⟩:=h;cases rx;cases ry;obtain⟨z,its,n,r,hl,e⟩:=I.lstM hH;obtain⟨z2,jU,n2,r2,hl2,e2⟩:=I.lstM hB;refine PySem.P.add_list e e2 ?_ (by rw[size_toArray,size_toArray];lia);have ea:its.toArray++jU.toArray=(its++jU).toArray:=by simp
 rw[ea];exact⟨.ref _,_,I.lnew (t':=s.toks) (r.append r2) (by rw[length_append];lia),U,q _ I.fresh⟩
section
variable{prog:Program}{w:World}{A:Around}{E:Value->Shared->Prop}{s:Shared}
end
end L2
namespace Att
open PySem PySem.W PySem.Calls PyProof.Rows
theorem ku{P:Params}{h:Heap}:∀(ns:List Int)(vs:List Value),WellAll P h vs (ns.map WData.int)->IntsAre vs ns:=by
 intro ns;induction ns with
 |nil =>
  intro vs w;rw[map_nil]at w;cases w;exact .nil
 |cons n ns ih =>
  intro vs w;rw[map_cons]at w;cases w with
  |cons a b =>
   cases a;exact .cons _ _ (ih _ b)
theorem tL{l:OpenLaw}{n:Nat}(hn:l.most=some n){P:Params}{h:Heap}{args:List WData}{vals:List Value}
  (xu:l.row.toRowW.claim.pre args=true)(hwl:WellAll P h vals args) :
  ∃a vs ns,vals=[Value.ref a]/\args=[WData.list (ns.map WData.int)]/\h.get? a=some { cls:=.type "list",data:=.seq vs.toArray }/\IntsAre vs ns/\ns.length<=n:=by
 have hsh:WShape.hasAll [] args [.list .int]=true:=(pre_splitW xu).1;have hc:l.pre.holds [] { args:=args }=true:=(pre_splitW xu).2;obtain⟨d,r,rfl,h1,h2⟩:=hasAllW_cons hsh;obtain rfl:=hasAllW_nil h2;obtain⟨xs,rfl,h3⟩:=hasW_list h1;obtain⟨ns,rfl⟩:=items_int h3;have hlen:ns.length<=n:=by
  unfold OpenLaw.pre at hc;have h4:(WTm.not (.lt (.lit (.int (n:Int))) (.len (.arg 0)))).holds [] { args:=[.list (ns.map .int)] }=true:=by
   have h4:=(holds_andW hc).1;rw[hn]at h4;exact h4
  have h5:=condW_of h4 (w_not (w_lt w_lit (w_len_list (w_arg rfl))));rw[length_map]at h5;refine Nat.le_of_not_lt λq=>?_
  have q':(n:Int)<((ns.length:Nat):Int):=by lia
  first
   |(rw[decide_eq_true q']at h5;exact absurd h5 (by decide))
   |(simp at h5;lia)
 cases hwl with
 |cons w1 w2 =>
  cases w2;cases w1 with
  |list ho fD=>exact⟨_,_,ns,rfl,rfl,ho,ku ns _ fD,hlen⟩
theorem tM(l:OpenLaw)(args:List WData):l.row.toRowW.claim.post args (.bool true) args=true :=
 postW_of (r:=l.row.toRowW) (X:=(true == true))
  (show WShape.has [] (.bool true) .bool=true by first|rfl|decide|simp[WShape.has,WShape.arms,WShape.armsAll])
  (show(WTm.eq .res (.lit (.bool true))).value [] { args:=args,res:=some (.bool true),after:=args }=some (.bool (true == true))from w_eq_bool (w_res rfl) w_lit) rfl
theorem attach_call{l:OpenLaw}{n:Nat}{q:Program}{loose:List Str}{XP:(Str->Option Value)->Heap->Prop}{YP:World->Heap->Prop}{d:DefRec}
  (hn:l.most=some n)(hdf:d.params.defaults=[])
  (call:∀(w:World)(s₀ s₁:Shared)(mg mb:Str->Option Value)(fa:Addr)(o:Obj)(pm cd doc:Value)(a:Addr)(vs:List Value)(ns:List Int),
   Ground q loose [] XP w s₀ mg mb s₁.heap->YP w s₁.heap ->
   s₁.heap.get? fa=some o->o.data=.func (docDef d.name d.params d.body d.scope pm cd doc)->s₁.heap.CodeRec cd d.name->mg d.name=some (.ref fa) ->
   s₁.heap.get? a=some { cls:=.type "list",data:=.seq vs.toArray }->IntsAre vs ns->ns.length<=n->s₁.gens = #[] ->
   codeAny (model l.prog w) callerA (.call (.ref fa) ⟨[.ref a],[]⟩) (λr s'=>r=.ok (.ret (.bool true))/\OldK s₁.heap s'.heap/\s'.os=s₁.os/\AllBare s'.gens) s₁) :
  WalkO q loose XP YP l.row.toRowW d [] (λf vs=>PySem.call f vs):=by
 intro w s₀ s₁ mg mb G Y fa o pm cd doc dV kV ho hd hcd hD hmg hg args vals as xu EY hrd hwl hlo;obtain rfl:dV=.none:=Dflts.none hD hdf;obtain rfl:kV=.none:=Dflts.noKw hD;obtain⟨a,vs,ns,rfl,rfl,zl,hints,hlen⟩:=tL hn xu hwl;refine enter_call (codeAny_mono (call w s₀ s₁ mg mb fa o pm cd doc a vs ns G Y ho (fd_plain hd) hcd hmg zl hints hlen hg) λr s' hq=>?_);obtain⟨rfl,h2,h3,h4⟩:=hq;exact⟨.inl ⟨.bool true,.bool true,[],rfl,λ_=>rfl,.bool true,tM l _,λ_=>⟨List.Pairwise.nil,λ_ hm=>(nomatch hm)⟩⟩,h2,h3,h4⟩
section
variable{prog:Program}{w:World}{A:Around}{E:Value->Shared->Prop}{s:Shared}{K:Frag}
end
end Att
namespace L2
open PySem PySem.Spec PyProof.Rows
theorem m8:∀{vs:List Value}{ns:List Int},IntsAre vs ns->Vals (ns.map V.int) vs
 |_,_,.nil=>.nil
 |_,_,.cons n t h=>.cons ⟨t,U⟩ (m8 h)
def EZ(H:Hp):Prop:=∀b,H b=none\/∃o xs,H b=some (.frz o (.lst xs))
def inClass(s:Stmt)(j:Nat):Stmt:=match s with
 | .ClassDef _ _ _ body _ _ _ _ _ _ _=>body.getD j (.Pass ⟨0,0,0,0⟩)
 |_=>.Pass ⟨0,0,0,0⟩
def fE(s:Stmt):Arguments:=match s with
 | .FunctionDef _ a _ _ _ _ _ _ _ _=>a
 |_=>{ posonlyargs:=[],args:=[],vararg:=none,kwonlyargs:=[],kw_defaults:=[],kwarg:=none,defaults:=[] }
def dh(s:Stmt):List Stmt:=match s with
 | .FunctionDef _ _ b _ _ _ _ _ _ _=>b
 |_=>[]
def aj(s:Stmt):Scope:=match s with
 | .FunctionDef _ _ _ _ _ _ sc _ _ _=>sc
 |_=>{ kind:=.function,names:=[],isGenerator:=false,isCoroutine:=false }
abbrev CX0:CXT:=λ_ _ _ _ _ _=>False
abbrev E0:XK:=λ_ _ _=>False
theorem bG{X:Cx}:Passes CX0 X E0:=λ_ _ _ _ _ _ _ h=>h.elim
structure Fun(K:W.Frag)(x qual:Str)(st:Stmt)(f:Addr)(fd:FuncData):Prop where
 ex:∃(oc:Value)(od:Option Addr)(kV doc pm:Value)(an:Option Addr)(cdv ct:Value)(osl:Array (Option Value)),
  fd=W.fnOf x qual (fE st) (dh st) (aj st) .none kV doc pm an cdv ct/\K.lookup f=some ⟨oc,od,.func fd,osl⟩/\W.codeIn K cdv qual=true
 kp:W.keepIn K (.ref f)=true
section
variable{P:Program}{w:World}{K:W.Frag}{mg:Str->Option Value}{base:Heap}
theorem Fun.ok{x qual:Str}{st:Stmt}{f:Addr}{fd:FuncData}{N ps:List Str}{k:Nat}{sp:Sp}(F:Fun K x qual st f fd)(S:ao N ps (aj st))(len:∀vs H Q E,sp vs H Q E->vs.length=ps.length)
  (gf:∀(cdv:Value)(A:Around)(outer:List Env)(s:Shared)(H:Hp)(vs:List V)(Q:VK)(E:XK),bZ k (A.deeper (envOfC qual (aj st) s.heap.objs.size f cdv))->sp vs H Q E ->
   ∃t,PSs (pd CX0 P w K mg base N qual (aj st) f cdv A outer s H E).nox (dh st) t/\t { nx:=λ_ H'=>Q .non H',rt:=Q } (start N vs) H):aH P w K mg base CX0 (k+1) f fd ps sp:=by
 obtain⟨oc,od,kV,doc,pm,an,cdv,ct,osl,rfl,lk,hcd⟩:=F.ex;refine yv lk hcd S len λA outer s H vs Q E hr hsp=>?_
 obtain⟨t,h,q⟩:=gf cdv A outer s H vs Q E hr hsp;exact⟨t,h.nox,q⟩
theorem Fun.binds{x qual:Str}{st:Stmt}{f:Addr}{fd:FuncData}{ps:List Str}(F:Fun K x qual st f fd)
  (h:∀(kV doc pm:Value)(an:Option Addr)(cdv ct:Value)(us:List Value),us.length=ps.length->bindArgs (W.fnOf x qual (fE st) (dh st) (aj st) .none kV doc pm an cdv ct) ⟨us,[]⟩=pure (ps.zip us)):Binds K fd ps []:=by
 obtain⟨oc,od,kV,doc,pm,an,cdv,ct,osl,rfl,lk,hcd⟩:=F.ex;exact .all (h kV doc pm an cdv ct)
theorem fun_mk{x qual:Str}{st:Stmt}{f:Addr}{oc:Value}{od an:Option Addr}{osl:Array (Option Value)}{kV doc pm cdv ct:Value}(l:K.lookup f=some ⟨oc,od,.func (W.fnOf x qual (fE st) (dh st) (aj st) .none kV doc pm an cdv ct),osl⟩)
  (c:W.codeIn K cdv qual=true)(k:W.keepIn K (.ref f)=true):Fun K x qual st f (W.fnOf x qual (fE st) (dh st) (aj st) .none kV doc pm an cdv ct):=⟨⟨oc,od,kV,doc,pm,an,cdv,ct,osl,U,l,c⟩,k⟩
end
theorem ay{n:Nat}(h:n<=1000):n<sizeLine:=lt_of_le_of_lt h (by decide)
variable{X:Cx}
theorem pv(i:Nat){x:Str}{pos:Pos}(hN:X.N[i]?=some x:=by rfl)(hv:Vis X.env.scope x:=by first|exact Or.inl U|exact Or.inr (Or.inl U)|exact Or.inr (Or.inr U))(hd:(x == ("__debug__" : Str))=false:=by decide)
  (hcd:(x == ("__classdict__" : Str))=false:=by decide):PE X (.Name x pos) (yU i):=uL hN hv hd hcd
theorem bA{A B:Prop}(h:B):if false=true then A else B:=by
 rw[if_neg Bool.false_ne_true];exact h
theorem f6{A B:Prop}(h:A):if true=true then A else B:=by
 rw[if_pos U];exact h
theorem bV{c A B:Prop} [Decidable c] (h1:c->A)(h2:¬ c->B):if c then A else B:=by
 by_cases h:c
 ·rw[if_pos h];exact h1 h
 ·rw[if_neg h];exact h2 h
theorem AN{c A B:Prop} [Decidable c] (hc:c)(h:B):if (!decide c)=true then A else B:=by
 rw[decide_eq_true hc];exact bA h
def ar(H H':Hp):Prop:=∀b o,H b=some o->H' b=some o
theorem ar.refl(H:Hp):ar H H:=λ_ _ h=>h
theorem ar.trans{H H1 H2:Hp}(a:ar H H1)(b:ar H1 H2):ar H H2:=λc o h=>b c o (a c o h)
theorem ar.free{H H':Hp}(e:ar H H'){l:Addr}(h:H' l=Option.none):H l=Option.none:=by
 cases q:H l with
 |none=>rfl
 |some o =>
  rw[e l o q]at h;cases h
theorem ar.seq{K:W.Frag}{H H':Hp}{a:Addr}{xs:List V}(e:ar H H')(h:SqL K H a xs):SqL K H' a xs:=by
 rcases h with(h|⟨o,h⟩)|h
 ·exact .inl (.inl (e _ _ h))
 ·exact .inl (.inr ⟨o,e _ _ h⟩)
 ·exact .inr h
set_option maxHeartbeats 4000000
abbrev Pr:=Int×Int
def inR(n:Int)(p:Pr):Bool:=decide (p.1<=n) && decide (n<=p.2)
def inP(ps:List Pr)(n:Int):Bool:=ps.any (inR n)
structure Apart(R:List Pr):Prop where
 le:∀p∈R,p.1<=p.2
 gap:R.Pairwise λp q=>p.2+2<=q.1
theorem ph(R:List Pr)(p:Pr)(n:Int):inP (R++[p]) n=(inP R n || inR n p):=by
 unfold inP;rw[List.any_append];simp
structure E1(R qs:List Pr):Prop where
 ap:Apart R
 mem:∀n,inP R n=inP qs n
 cov:∀p∈qs,p.1<=p.2->∃r∈R,r.1<=p.1/\p.2<=r.2
 low:∀r∈R,∃q∈qs,r.1=q.1
def Callee(P:Program)(w:World)(K:W.Frag)(mg:Str->Option Value)(base:Heap)(k:Nat)(x:Str)(ps:List Str)(sp:Sp):Prop :=
 ∃f fd,aH P w K mg base CX0 k f fd ps sp/\Binds K fd ps []/\W.keepIn K (.ref f)=true/\mg x=some (.ref f)
theorem Callee.mono{P:Program}{w:World}{K:W.Frag}{mg:Str->Option Value}{base:Heap}{j k:Nat}{x:Str}{ps:List Str}{sp:Sp}(C:Callee P w K mg base j x ps sp)(h:j<=k):Callee P w K mg base k x ps sp:=by
 obtain⟨f,fd,F,r⟩:=C;exact⟨f,fd,F.mono h,r⟩
variable{pos:Pos}
section
variable{k:Nat}{x:Str}{ps:List Str}{sp:Sp}{e:Expr}{es:List Expr}{t:TA}{p:Pos}
def tFn(sp:Sp)(t:TA):TE:=λσ H Q=>t σ H λvs H1=>sp vs H1 Q E0
theorem aL(C:Callee X.prog X.w X.K X.mg X.base k x ps sp)(hr:bZ k X.A)(hg:Gl X x)(ha:PA X (e :: es) t)(hdb:(x == ("__debug__" : Str))=false:=by decide)
  (he:starEach (e :: es) X.env=(false,eval e X.env) :: starEach es X.env:=by rfl)(hpl:(backTo pos (starEach es X.env)).any (·.1)=false:=by rfl):PE X (.Call (.Name x p) (e :: es) [] pos) (tFn sp t):=by
 obtain⟨f,fd,F,b,kk,m⟩:=C;have h:=xo (E:=E0) (dvs:=[]) (ds:=[]) (p:=p) F hr hg m kk b .nil bG ha hdb he hpl;intro pins s σ H Q I q;refine h pins s σ H Q I ?_;have q':t σ H λvs H1=>sp vs H1 Q E0:=q
 have e1:(λ(vs:List V)(H1:Hp)=>sp (vs++[]) H1 Q E0)=λvs H1=>sp vs H1 Q E0:=by
  funext vs H1
  rw[append_nil]
 show t σ H λvs H1=>sp (vs++[]) H1 Q E0
 rw[e1];exact q'
end
def Cq(t u:TS):TS:=λD σ H=>∃M:St->Hp->Prop,t { D with nx:=M } σ H/\∀σ' H',M σ' H'->u D σ' H'
theorem aM{X:Cx}{st:Stmt}{rest:List Stmt}{t u:TS}(h1:PS X st t)(h2:PSs X rest u):PSs X (st :: rest) (Cq t u):=by
 intro pins s σ H D I ⟨M,a,b⟩;refine wpAny_execs_cons (thn (h1 pins s σ H { D with nx:=M } I a) λfl s1 q=>?_);cases fl with
 |next=>obtain⟨σ',H',I',q⟩:=q;exact h2 pins s1 σ' H' D I' (b σ' H' q)
 |ret v=>exact q
 |brk=>exact q
 |cont=>exact q
inductive EqI(K:W.Frag)(H:Hp):V->V->Bool->Prop where
 |flat {x y:V}(fx:fU x=true)(fy:fU y=true):EqI K H x y (eqV x y)
 |same (a:Addr):EqI K H (.ref a) (.ref a) true
 |tup {a b:Addr}{xs ys:List V}(ha:SqT K H a xs)(hb:SqT K H b ys)(fx:xs.all fU=true)(fy:ys.all fU=true):EqI K H (.ref a) (.ref b) (decide (xs.length=ys.length) && (List.zipWith eqV xs ys).all id)
theorem vg:∀{x:V},fU x=true->eqV x x=true
 | .non,_=>rfl
 | .bl b,_=>by simp[eqV]
 | .int i,_=>by simp[eqV]
 | .str z,_=>by simp[eqV]
theorem kP:∀{xs:List V},xs.all fU=true->(List.zipWith eqV xs xs).all id=true
 | [],_=>rfl
 |x :: xs,h=>by
  rw[all_cons,and_eq_true]at h;rw[List.zipWith_cons_cons,all_cons,kP h.2,Bool.and_true];exact vg h.1
theorem iw{f:Nat->Bool}:∀{xs ys:List V},(∀j x y,xs[j]?=some x->ys[j]?=some y->f j=eqV x y)->(List.range (min xs.length ys.length)).all f=(List.zipWith eqV xs ys).all id
 | [],ys,_=>by simp
 |x :: xs,[],_=>by simp
 |x :: xs,y :: ys,h=>by
  have ih:=iw (f:=λj=>f (j+1)) (xs:=xs) (ys:=ys) λj a b e1 e2=>h (j+1) a b (by simpa using e1) (by simpa using e2)
  have e0:=h 0 x y U U;have em:min (x :: xs).length (y :: ys).length=min xs.length ys.length+1:=by simp only[length_cons];lia
  rw[em,List.range_succ_eq_map,all_cons,List.zipWith_cons_cons,all_cons,List.all_map,e0];show(eqV x y && (List.range (min xs.length ys.length)).all (λj=>f (j+1)))=_;rw[ih];rfl
section
variable{pins:List (Addr×Obj)}{σ:St}{H:Hp}{s:Shared}
theorem EqI.at{A:Around}{x y:V}{u v:Value}{b:Bool}(e:EqI X.K H x y b)(I:Inv X pins σ H s)(hu:A.units+1<cLine)(rx:RelV x u)(ry:RelV y v):SeqAt.EqAt A s u v b:=by
 cases e with
 |flat fx fy=>exact qU rx ry fx fy
 |same a =>
  cases (show u=Value.ref a from rx);cases (show v=Value.ref a from ry);exact SeqAt.EqAt.same _
 | @tup a b xs ys ha hb fx fy =>
  cases (show u=Value.ref a from rx);cases (show v=Value.ref b from ry);by_cases z:a=b
  ·subst z;have e:=I.tuple_inj ha hb;subst e;rw[kP fx,decide_eq_true U];exact SeqAt.EqAt.same _
  ·obtain⟨its,r,p,_⟩:=I.tuple ha;obtain⟨its',r',p',_⟩:=I.tuple hb;have l1:=r.length;have l2:=r'.length;have h0:=SeqAt.RcAt.tuples (A:=A) (e:=λj=>match its[j]?,xs[j]?,ys[j]? with|_,some x,some y=>eqV x y|_,_,_=>false) (show s.heap.IsTuple a its.toArray from p) (show s.heap.IsTuple b its'.toArray from p') (by lia) (λj h1 h2=>by
    have j1:j<its.length:=by simpa using h1
    have j2:j<its'.length:=by simpa using h2
    have x1:xs[j]?=some xs[j]:=Fn (by lia);have y1:ys[j]?=some ys[j]:=Fn (by lia);obtain⟨u1,q1,r1⟩:=r.get x1;obtain⟨u2,q2,r2⟩:=r'.get y1;have eu:its.toArray[j]=u1:=by
     have:=Fn j1;rw[this]at q1;simpa using Option.some.inj q1
    have ev:its'.toArray[j]=u2:=by
     have:=Fn j2;rw[this]at q2;simpa using Option.some.inj q2
    rw[eu,ev];rw[x1,y1];have f1:fU xs[j]=true:=all_eq_true.mp fx _ (getElem_mem _);have f2:fU ys[j]=true:=all_eq_true.mp fy _ (getElem_mem _);exact qU r1 r2 f1 f2)
   have h1:=SeqAt.EqAt.of_refs z h0;have e1:((List.range (min its.toArray.size its'.toArray.size)).all λj=>match its[j]?,xs[j]?,ys[j]? with|_,some x,some y=>eqV x y|_,_,_=>false)=(List.zipWith eqV xs ys).all id:=by
    have es:min its.toArray.size its'.toArray.size=min xs.length ys.length:=by simp only[size_toArray];lia
    rw[es];exact iw λj x y q1 q2=>by rw[q1,q2]
   rw[e1]at h1;have e2:(its.toArray.size == its'.toArray.size)=decide (xs.length=ys.length):=by
    simp only[size_toArray,←l1,←l2];exact Bool.beq_eq_decide_eq _ _
   rw[e2,Bool.and_comm]at h1;exact h1
end
theorem zm{pins:List (Addr×Obj)}{σ:St}{H:Hp}{s:Shared}{A:Around}{xs ys:List V}{its its':List Value}{f:Nat->Bool}(I:Inv X pins σ H s)(hu:A.units+1<cLine)(r:Vals xs its)(r':Vals ys its')
  (hf:∀j x y,xs[j]?=some x->ys[j]?=some y->EqI X.K H x y (f j)):∀j (h1:j<its.toArray.size)(h2:j<its'.toArray.size),SeqAt.EqAt A s its.toArray[j] its'.toArray[j] (f j):=λj h1 h2=>by
 have j1:j<its.length:=by simpa using h1
 have j2:j<its'.length:=by simpa using h2
 have l1:=r.length;have l2:=r'.length;have x1:xs[j]?=some xs[j]:=Fn (by lia);have y1:ys[j]?=some ys[j]:=Fn (by lia);obtain⟨u1,q1,r1⟩:=r.get x1;obtain⟨u2,q2,r2⟩:=r'.get y1;have eu:its.toArray[j]=u1:=by
  have:=Fn j1;rw[this]at q1;simpa using Option.some.inj q1
 have ev:its'.toArray[j]=u2:=by
  have:=Fn j2;rw[this]at q2;simpa using Option.some.inj q2
 rw[eu,ev];exact(hf j _ _ x1 y1).at I hu r1 r2
def cj(H H':Hp):Prop:=∀b xs,H b=some (.tup xs)->H' b=some (.tup xs)
theorem ar.tups{H H':Hp}(h:ar H H'):cj H H':=λb xs e=>h b _ e
theorem cj.trans{H H1 H2:Hp}(a:cj H H1)(b:cj H1 H2):cj H H2:=λc xs e=>b c xs (a c xs e)
theorem gL{H:Hp}{p:Addr}{o:HO}(h:H p=none):cj H (upd H p o):=λb xs e=>by rw[aw (bj e h)];exact e
theorem aO{H:Hp}{p:Addr}{o:HO}{ys:List V}(h:H p=some (.lst ys)):cj H (upd H p o):=λb xs e=>by rw[aw (dA e h (by intro z;cases z))];exact e
theorem ai{H:Hp}{p:Addr}(h:H p=none)(o:HO):ar H (upd H p o):=λb u q=>by rw[aw (bj q h)];exact q
theorem ar.upd{H H':Hp}{p:Addr}{o:HO}(s:ar H H')(h:H p=none):ar H (upd H' p o):=λb u q=>by rw[aw (bj q h)];exact s b u q
def PL(H:Hp):List V->List (Int×Int)->Prop:=Paired λx p=>∃r,x=.ref r/\H r=some (.tup [.int p.1,.int p.2])
theorem PL.mono{H H':Hp}{xs:List V}{ps:List (Int×Int)}(h:PL H xs ps)(s:cj H H'):PL H' xs ps:=Paired.mapP h λ_ _ ⟨r,e,z⟩=>⟨r,e,s r _ z⟩
theorem PL.get{H:Hp}:∀{xs:List V}{ps:List (Int×Int)}{i:Nat}{x:V},PL H xs ps->xs[i]?=some x->∃p r,ps[i]?=some p/\x=.ref r/\H r=some (.tup [.int p.1,.int p.2])
 |_,_,_,_,.nil,e=>by simp at e
 |_,_,0,_,.cons (b:=b) ⟨r,e1,z⟩ _,e=>by simp at e;subst e;exact⟨b,r,U,e1,z⟩
 |_,_,i+1,x,.cons _ t,e=>by
  obtain⟨p,r,q⟩:=PL.get (i:=i) (x:=x) t (by simpa using e);exact⟨p,r,by simpa using q.1,q.2⟩
theorem PL.length{H:Hp}{xs:List V}{ps:List (Int×Int)}(h:PL H xs ps):xs.length=ps.length:=Paired.length h
theorem PL.snoc{H:Hp}{xs:List V}{ps:List (Int×Int)}{r:Addr}{a b:Int}(h:PL H xs ps)(e:H r=some (.tup [.int a,.int b])):PL H (xs++[.ref r]) (ps++[(a,b)]):=Paired.snoc h ⟨r,U,e⟩
theorem PL.last{H:Hp}{xs:List V}{ps:List (Int×Int)}(h:PL H xs ps)(hn:xs≠[]):∃xs' r ps' p,xs=xs'++[.ref r]/\ps=ps'++[p]/\PL H xs' ps'/\H r=some (.tup [.int p.1,.int p.2]):=by
 induction h with
 |nil=>exact absurd U hn
 | @cons a b l1 l2 hd tl ih =>
  cases tl with
  |nil =>
   obtain⟨r,e,z⟩:=hd;exact⟨[],r,[],b,by rw[e];rfl,U,.nil,z⟩
  | @cons a2 b2 l3 l4 hd2 tl2 =>
   obtain⟨xs',r,ps',p,e1,e2,h3,h4⟩:=ih (by simp);exact⟨a :: xs',r,b :: ps',p,by rw[e1];rfl,by rw[e2];rfl,.cons hd h3,h4⟩
theorem PL.app{H:Hp}{xs ys:List V}{ps qs:List (Int×Int)}(h:PL H xs ps)(h':PL H ys qs):PL H (xs++ys) (ps++qs):=by
 induction h with
 |nil=>exact h'
 |cons r t ih=>exact .cons r ih
abbrev Tr:=Int×Int×Int
def TL(H:Hp):List V->List Tr->Prop:=Paired λx t=>∃r,x=.ref r/\H r=some (.tup [.int t.1,.int t.2.1,.int t.2.2])
theorem iz{ps:List (Int×Int)}{i:Nat}{p:Int×Int}{f:Int×Int->Bool}(e:ps[i]?=some p)(h:(ps.take i).any f=false)(hf:f p=false):(ps.take (i+1)).any f=false:=by
 rw[take_add_one,e,List.any_append,h];simp[hf]
theorem qV{ps:List (Int×Int)}{i:Nat}{p:Int×Int}{f:Int×Int->Bool}(e:ps[i]?=some p)(hf:f p=true):ps.any f=true:=any_eq_true.mpr ⟨p,Fp e,hf⟩
theorem V.int_inj{i j:Int}(h:V.int i=V.int j):i=j:=by cases h;rfl
theorem jV{i j:Int}(h:decide (V.int i=V.int j)=true):i=j:=V.int_inj (of_decide_eq_true h)
theorem m9{i j:Int}(h:¬ decide (V.int i=V.int j)=true):i≠j:=λe=>h (decide_eq_true (congrArg V.int e))
theorem kQ{p:Prop} [Decidable p] (h:decide p=true):p:=of_decide_eq_true h
theorem pj{p:Prop} [Decidable p] (h:¬ decide p=true):¬ p:=λe=>h (decide_eq_true e)
theorem b7{X:Cx}{K:W.Frag}(h:X.K=K):IxR X (zg K):=h ▸ aF
theorem jv{X:Cx}{K:W.Frag}(h:X.K=K):IxR X (zh K):=h ▸ aR
def br(X:Cx)(N:List Str)(scope:Scope)(cl:List (Str×Addr))(fp:List Addr)(C:Addr)(s2:Shared)(H2:Hp):Cx :=
 { prog:=X.prog,w:=X.w,K:=X.K,mg:=X.mg,base:=X.base,A:=X.A,N:=N,s₀:=s2,H₀:=H2,env:=compEnvC scope cl C X.env,outer:=X.stack,stack:=X.stack,ex:=fp,fn:=λ_=>false,calm:=X.calm,pn:=[],xe:=λ_ _=>False }
def PIf(X:Cx)(ifs:List Expr)(t:TT):Prop :=
 ∀(pins:List (Addr×Obj))(s:Shared)(σ:St)(H:Hp)(Q:Bool->Hp->Prop),Inv X pins σ H s->t σ H Q ->
  wpAny (model X.prog X.w) X.A (forIn ifs true λc r=>if r=true then do let ok ←isTrue c X.env (eval c X.env);pure (ForInStep.yield ok)else pure (ForInStep.yield r)) (TP X pins σ Q) X.xe s
def Cr:TT:=λ_ H Q=>Q true H
theorem bw{X:Cx}:PIf X [] Cr:=λ_ _ _ H _ I h=>wpAny_tests_nil ⟨H,I,h⟩
theorem gM{X:Cx}{c:Expr}{t:TT}(h:PT X c t):PIf X [c] t:=λpins s σ H Q I q=>wpAny_tests_one (h pins s σ H Q I q)
structure pq(X:Cx)(N:List Str)(fr:List Nat)(scope:Scope)(cl:List (Str×Addr))(x:Str):Prop where
 clos:closureFor scope X.env=pure cl
 kind:scope.kind=.function
 nocell:∀y∈scope.names,y.2≠.cell
 names:∀y∈scope.names,y.2=.local->scope.names.lookup y.1=some .local
 hx:scope.names.lookup x=some .local
 nd:N.Nodup
 n0:N[0]?=some x
 len:N.length=fr.length+1
 sub:∀(i:Nat)(y:Str),N[i+1]?=some y->∃j,fr[i]?=some j/\X.N[j]?=some y/\(X.env.kindOf y=some .cell\/X.env.kindOf y=some .free)/\((relabel scope X.env).names.lookup y=some .cell\/(relabel scope X.env).names.lookup y=some .free)
 cells:∀y c,cl.lookup y=some c->X.env.cells.lookup y=some c
 has:∀y,((relabel scope X.env).names.lookup y=some .cell\/(relabel scope X.env).names.lookup y=some .free)->∃c,cl.lookup y=some c
theorem dB{X:Cx}{scope:Scope}{x:Str}(kind:scope.kind=.function)(nofree:∀y∈scope.names,y.2≠.free)(nocell:∀y∈scope.names,y.2≠.cell)
  (names:∀y∈scope.names,y.2=.local->scope.names.lookup y.1=some .local)(hx:scope.names.lookup x=some .local):pq X [x] [] scope [] x:=by
 have er:(relabel scope X.env).names=scope.names:=map_eq_self λy hy=>by
  have z:(y.2 == NameKind.free)=false:=by simpa using nofree y hy
  simp[z]
 have no:∀y,¬ ((relabel scope X.env).names.lookup y=some .cell\/(relabel scope X.env).names.lookup y=some .free):=λy h=>by
  rw[er]at h;rcases h with h|h
  ·exact nocell _ (mem_of_lookup h) U
  ·exact nofree _ (mem_of_lookup h) U
 exact⟨closureFor_none nofree,kind,nocell,names,hx,by simp,U,U,λi y e=>by simp at e,(λy c e=>by cases e),λy h=>absurd h (no y)⟩
theorem bo{X:Cx}{N:List Str}{fr:List Nat}{scope:Scope}{cl:List (Str×Addr)}{x:Str}(clos:closureFor scope X.env=pure cl)(kind:scope.kind=.function)(nocell:∀y∈scope.names,y.2≠.cell)
  (names:∀y∈scope.names,y.2=.local->scope.names.lookup y.1=some .local)(hx:scope.names.lookup x=some .local)(nd:N.Nodup)(n0:N[0]?=some x)(len:N.length=fr.length+1)
  (sub:((List.range fr.length).all λi=>match N[i+1]?,fr[i]? with|some y,some j=>(X.N[j]? == some y) && ((X.env.kindOf y == some .cell) && ((relabel scope X.env).names.lookup y == some .cell))|_,_=>false)=true)
  (cells:∀p∈cl,X.env.cells.lookup p.1=some p.2)(has:((relabel scope X.env).names.all λp=>(p.2 != .cell && p.2 != .free) || (cl.lookup p.1).isSome)=true):pq X N fr scope cl x:=by
 refine⟨clos,kind,nocell,names,hx,nd,n0,len,λi y e=>?_,λy c e=>cells _ (mem_of_lookup e),λy h=>?_⟩
 ·have hi:i<fr.length:=by have:=(Fo.mp e).1;lia
  have z:=all_eq_true.mp sub i (mem_range.mpr hi);rw[e,Fn hi]at z;simp only[and_eq_true,beq_iff_eq]at z;exact⟨_,Fn hi,z.1,.inl z.2.1,.inl z.2.2⟩
 ·have look:∀k,(relabel scope X.env).names.lookup y=some k->(k=.cell\/k=.free)->∃c,cl.lookup y=some c:=λk e hk=>by
   have z:=all_eq_true.mp has _ (mem_of_lookup e);rcases hk with rfl|rfl
   ·exact isSome_iff_exists.mp (by simpa using z)
   ·exact isSome_iff_exists.mp (by simpa using z)
  rcases h with h|h
  ·exact look _ h (.inl U)
  ·exact look _ h (.inr U)
def ff(σ:St)(fr:List Nat)(x:Option V):St:=x :: fr.map λj=>(σ[j]?).join
def ox(J:It)(fr:List Nat)(tt:TT)(te:TE)(σ:St)(Q:VK)(H1:Hp):Prop:=∀D,H1 D=none->∃W:Nat->Nat->Hp->Prop,(∃m,W 0 m (upd H1 D (.lst [])))/\∀i m H,W i m H ->
 (J.stop i H/\Q (.ref D) H)\/(J.go i H/\∀x H',J.yld i H x H'->tt (ff σ fr (some x)) H' λb H2=>if b=true then te (ff σ fr (some x)) H2 λy H3=>∃ys,H3 D=some (.lst ys)/\ys.length<sizeLine/\∃m',m'<m/\W (i+1) m' (upd H3 D (.lst (ys++[y])))
  else ∃m',m'<m/\W (i+1) m' H2)
def yy(wi:TI)(fr:List Nat)(tt:TT)(te:TE):TE:=λσ H Q=>wi σ H λJ H1=>ox J fr tt te σ Q H1
section
variable{prog:Program}{w:World}{A:Around}{R:Result->Shared->Prop}{s:Shared}
theorem kR{elt target iter:Expr}{ifs:List Expr}{scope:Scope}{pos:Pos}{it acc:Value}{env:Env}(J:Nat->Shared->Prop)
  (turn:∀n s,J n s->wpAny (model prog w) A (pyNext it) (λr s1=>match r with
   |none=>R (.ok .next) s1
   |some v=>wpAny (model prog w) A (letOwnedTupleGo target it v) (λ_ s2=>wpAny (model prog w) A (assign target env v) (λ_ s3 =>
     wpAny (model prog w) A (forIn ifs true λc r=>if r=true then do let ok ←isTrue c env (eval c env);pure (ForInStep.yield ok)else pure (ForInStep.yield r)) (λok s4 =>
      if ok=true then wpAny (model prog w) A (eval elt env) (λy s5=>wpAny (model prog w) A (call (.builtin "list.append") [acc,y]) (λ_ s6=>∃m,m<n/\J m s6) (λ_ _=>False) s5) (λ_ _=>False) s4
      else ∃m,m<n/\J m s4) (λ_ _=>False) s3) (λ_ _=>False) s2) (λ_ _=>False) s1) (λ_ _=>False) s)
  (n:Nat)(h:J n s):codeAny (model prog w) A (.compLoop (.ListComp elt [⟨target,iter,ifs,0⟩] scope pos) 0 it acc env) R s:=by
 refine codeAny_loop U J (λn s hJ=>?_) n h;show wpAny _ A ((compTurn (.ListComp elt [⟨target,iter,ifs,0⟩] scope pos) 0 it acc env).onRaise (λx=>do noteFrame x env;theTreesLotGoes x)) _ _ s;refine wpAny_noted ?_;rw[compTurn_list];refine wpAny_bind (wpAny_standAt (wpAny_bind (wpAny_mono (turn n s hJ) (λr s1 h1=>?_) λ_ _ z=>z.elim)));cases r with
 |none=>exact wpAny_pure h1
 |some v =>
  refine wpAny_bind (wpAny_mono h1 (λ_ s2 h2=>?_) λ_ _ z=>z.elim);refine wpAny_bind (wpAny_mono h2 (λ_ s3 h3=>wpAny_bind (wpAny_mono h3 (λok s4 h4=>?_) λ_ _ z=>z.elim)) λ_ _ z=>z.elim);cases ok with
  |false=>exact wpAny_pure ⟨U,h4⟩
  |true=>exact wpAny_bind (wpAny_bind (wpAny_mono h4 (λy s5 h5=>wpAny_bind (wpAny_mono h5 (λ_ s6 h6=>wpAny_pure (wpAny_pure ⟨U,h6⟩)) λ_ _ z=>z.elim)) λ_ _ z=>z.elim))
end
section
variable{elt iter:Expr}{ifs:List Expr}{x:Str}{px:Pos}{scope:Scope}{cl:List (Str×Addr)}{N:List Str}{fr:List Nat}{tt:TT}{te:TE}
theorem nh{pins:List (Addr×Obj)}{σ:St}{s2:Shared}{H2:Hp}{it:Addr}{fp:List Addr}{tn:Nat->Heap->Prop}{J:It}{Q:VK}{E:Value->Shared->Prop}{RR:Value->Addr->Result->Shared->Prop}
  (O:pq X N fr scope cl x)(hc:X.calm=true)(I2:Inv X pins σ H2 s2)(T:Turn X.prog X.w X.K (.Name x px) J fp it tn)(st2:tn 0 s2.heap)(f2:∀b∈fp,jP X pins H2 b)
  (ht:∀fp C s H,PIf (br X N scope cl fp C s H) ifs tt)(he:∀fp C s H,PE (br X N scope cl fp C s H) elt te)
  (hW:ox J fr tt te σ Q H2)
  (fin:∀D C s' H',s2.heap.objs.size<=C->H' C=none->(∃m,s'.heap.Ns C m)->Inv X pins σ H' s'->Q (.ref D) H'->RR (.ref D) C (.ok .next) s') :
  wpAny (model X.prog X.w) X.A (newList []) (λacc s3=>wpAny (model X.prog X.w) X.A (newFunctionEnv scope X.env.globals cl [] X.env.qual none .none (some X.env)) (λvh s4 =>
   codeAny (model X.prog X.w) X.A (.compStart (.ListComp elt [⟨.Name x px,iter,ifs,0⟩] scope pos) 0 (.ref it) acc { vh with scope:=relabel scope X.env }) (RR acc vh.locals) s4) E s3) E s2:=by
 refine wpAny_newObj_type (wpAny_newFunctionEnv O.nocell (by intro y hy;simp at hy) (λh1 hns hsb=>?_) O.kind);dsimp only at hns hsb⊢;generalize hG:s2.heap.push { cls:=.type "list",dict:=none,data:=.seq ([]:List Value).toArray }=G at hns hsb⊢;have hC:G.objs.size=s2.heap.objs.size+1:=by rw[←hG,Heap.size_push]
 have old:∀b o,s2.heap.get? b=some o->h1.get? b=some o:=λb o e=>hsb.extBut b o (ne_of_lt (by rw[hC];exact lt_succ_of_lt (Heap.lt_size e))) (Heap.get?_push_of_some _ (hG ▸ Heap.get?_push_of_some _ e))
 have vi:h1.get? s2.heap.objs.size=some { cls:=.type "list",data:=.seq ([]:List Value).toArray 0 }:=hsb.extBut _ _ (ne_of_lt (by rw[hC];exact lt_succ_self _)) (Heap.get?_push_of_some _ (hG ▸ Heap.get?_push_size _ U));have hD:H2 s2.heap.objs.size=none:=I2.fresh;have okX:(br X N scope cl fp G.objs.size s2 H2).Ok:=by
  refine⟨I2.ok.mod,O.kind,I2.ok.glob,I2.ok.blt,by show s2.heap.objs.size<=G.objs.size;rw[hC];exact le_succ _,λy z c e1 e2=>I2.ok.inj y z c (O.cells y c e1) (O.cells z c e2),λy hy=>O.has y hy,λy c z=>absurd (show false=true from z) Bool.false_ne_true,I2.ok.hd,I2.ok.frames,.inl U,
   λb hb=>⟨?_,λy c e=>(f2 b hb).2.2.2.2.1 y c (O.cells y c e)⟩,I2.bs,le_trans I2.ok.bsz I2.sz,λb o e hb=>?_,λb hb z=>?_,I2.stack,I2.stkFree⟩
  ·obtain⟨o,e,_⟩:=T.obj _ _ st2 b hb;show b≠G.objs.size;exact ne_of_lt (by rw[hC];exact lt_succ_of_lt (Heap.lt_size e))
  ·rcases(f2 b hb).2.2.2.1 with z|z
   ·exact I2.ok.noex b o e z
   ·exact absurd (lt_of_lt_of_le (Heap.lt_size e) (le_trans I2.ok.bsz z)) (lt_irrefl _)
  ·rcases mem_cons.mp (I2.stkSub b z)with z|z
   ·exact(f2 b hb).2.1 z
   ·exact(f2 b hb).2.2.1 z
 have kS:∀{H':Hp},(∀b∈fp,H' b=none)->∀b∈fp,jP (br X N scope cl fp G.objs.size s2 H2) [] H' b:=λhn b hb =>
  ⟨hn b hb,(okX.exf b hb).1,okX.exfs b hb,.inl hb,(okX.exf b hb).2,λp hp=>absurd (show p∈([]:List (Addr×Obj))from hp) (by simp)⟩
 have I':Inv (br X N scope cl fp G.objs.size s2 H2) [] (ff σ fr none) (upd H2 s2.heap.objs.size (.lst [])) { s2 with heap:=h1,toks:=s2.toks+([]:List (Str×Value)).length }:=by
  refine⟨okX,U,I2.bare,Un.laid old (le_refl _) hD,⟨_,hns,λi y v e1 e2 e3=>?_⟩,λy c e=>?_,?_,λy c e=>?_,λp hp=>absurd (show p∈([]:List (Addr×Obj))from hp) (by simp),I2.hok.laid old (le_refl _) ⟨zero_le _,[],0,.nil,vi⟩,?_⟩
  ·cases i with
   |zero=>cases e2
   |succ i =>
    obtain⟨j,q1,q2,q3,q4⟩:=O.sub i y e1;have e2':(σ[j]?).join=some v:=by
     have:(fr.map λj=>(σ[j]?).join)[i]?=some (some v):=e2;rw[getElem?_map,q1]at this;exact Option.some.inj this
    have e4:σ[j]?=some (some v):=by
     cases z:σ[j]? with
     |none=>rw[z]at e2';cases e2'
     |some t=>rw[z]at e2';exact congrArg some e2'
    obtain⟨m,_,hl⟩:=I2.loc;have vis:Vis X.env.scope y:=.inr q3;obtain⟨u,r,l⟩:=hl j y v q2 e4 vis;refine⟨u,r,.inr ⟨q4,?_⟩⟩;obtain⟨c',hc'⟩:=O.has y q4;rcases l with⟨k,_⟩|⟨_,c,ec,ic⟩
    ·rcases q3 with z|z
     ·rw[z]at k;cases k
     ·rw[z]at k;cases k
    ·have:=O.cells y c' hc';have e':c=c':=Option.some.inj (ec.symm.trans this);obtain⟨o,ho,hd⟩:=ic;rw[e']at ho;exact⟨c',hc',o,old c' o ho,hd⟩
  ·obtain⟨v,o,ho,hd⟩:=I2.cell y c (O.cells y c e);exact⟨v,o,old c o ho,hd⟩
  ·show upd H2 s2.heap.objs.size (.lst []) G.objs.size=none;rw[aw (ne_of_gt (by rw[hC];exact lt_succ_self _))];exact I2.hok.fresh (by rw[hC];exact le_succ _)
  ·obtain⟨v,o,ho,hd⟩:=I2.cell y c (O.cells y c e);rw[aw (ne_of_lt (Heap.lt_size ho))];exact I2.freeC y c (O.cells y c e)
  ·show(ff σ fr none).length=N.length;rw[O.len];simp[ff]
 have st1:tn 0 h1:=T.keep _ _ _ st2 λb hb o e=>old b o e
 have loop:∀s3:Shared,s3={ s2 with heap:=h1,toks:=s2.toks+([]:List (Str×Value)).length } ->
   codeAny (model X.prog X.w) X.A (.compLoop (.ListComp elt [⟨.Name x px,iter,ifs,0⟩] scope pos) 0 (.ref it) (.ref s2.heap.objs.size) (compEnvC scope cl G.objs.size X.env)) (RR (.ref s2.heap.objs.size) G.objs.size) s3:=by
  rintro s3 rfl;obtain⟨W,⟨m0,w0⟩,turn⟩:=hW _ hD
  refine kR (λn s'=>∃i t H',Inv (br X N scope cl fp G.objs.size s2 H2) [] (ff σ fr t) H' s'/\tn i s'.heap/\(∀b∈fp,H' b=none)/\W i n H') ?_ m0
   ⟨0,none,_,I',st1,λb hb=>by
    rw[aw (by obtain⟨o,e,_⟩:=T.obj _ _ st2 b hb;exact ne_of_lt (Heap.lt_size e))];exact(f2 b hb).1,w0⟩
  rintro n s' ⟨i,t,H',I3,st3,fr3,w3⟩;rcases turn i n H' w3 with⟨stop,qn⟩|⟨go,step⟩
  ·refine thn (T.done (br X N scope cl fp G.objs.size s2 H2) U U U hc i [] s' _ H' _ I3 (kS fr3) st3 stop) λr s4 ⟨hr,I4⟩=>?_
   subst hr;obtain⟨m,hm,_⟩:=I4.loc;refine fin _ _ s4 H' (by rw[hC];exact le_succ _) I4.free ⟨m,hm⟩ (I2.call' (ch:=fp) I4.os I4.base I4.hok I4.bare λb hb=>?_) qn;exact⟨(f2 b hb).2.2.2.1,(f2 b hb).2.1,(f2 b hb).2.2.2.2.1,(f2 b hb).2.2.2.2.2⟩
  ·refine thn (T.item (br X N scope cl fp G.objs.size s2 H2) U U U hc i [] s' _ H' _ I3 (kS fr3) st3 go) λr s4 ⟨u,hr,h4⟩=>?_
   subst hr;refine thn h4 λ_ s5 ⟨y,H5,I5,r5,y5,st5,fr5⟩=>?_
   have I5':=I5.pinned (kS fr5) (T.obj _ _ st5);have lx:(br X N scope cl fp G.objs.size s2 H2).env.scope.names.lookup x=some .local:=lookup_relabel_local O.hx;refine thn (aC (X:=br X N scope cl fp G.objs.size s2 H2) (i:=0) O.nd O.n0 (.inl lx) (.inr lx) _ s5 _ H5 y u (λσ' H'=>σ'=ff σ fr (some y)/\H'=H5) I5' r5 ⟨U,U⟩) λ_ s6 ⟨σ6,H6,I6,e6,e6'⟩=>?_
   subst e6;subst e6'
   have again:∀{σ7:St}{H7:Hp}{s7:Shared}{m':Nat},σ7=ff σ fr (some y)->Inv (br X N scope cl fp G.objs.size s2 H2) ([]++jQ fp s5.heap) σ7 H7 s7->m'<n->W (i+1) m' H7 ->
     ∃m,m<n/\∃i t H',Inv (br X N scope cl fp G.objs.size s2 H2) [] (ff σ fr t) H' s7/\tn i s7.heap/\(∀b∈fp,H' b=none)/\W i m H':=λ{σ7 H7 s7 m'} e7 I7 hm w7=>by
    subst e7;refine⟨m',hm,i+1,some y,H7,I7.unpinned,T.keep _ _ _ st5 λb hb o e=>(I7.pin (b,o) (mem_append_right _ (mem_append_right _ (dr hb e)))).1,λb hb=>?_,w7⟩;obtain⟨o,e,d⟩:=T.obj _ _ st5 b hb;exact(I7.pin (b,o) (mem_append_right _ (mem_append_right _ (dr hb e)))).2.1
   refine thn (ht fp G.objs.size s2 H2 _ s6 _ H6 _ I6 (step y H6 y5)) λok s7 ⟨H7,I7,q7⟩=>?_
   cases ok with
   |false =>
    rw[if_neg Bool.false_ne_true]at q7⊢;obtain⟨m',hm,w7⟩:=q7;exact again U I7 hm w7
   |true =>
    rw[if_pos U]at q7⊢;refine thn (he fp G.objs.size s2 H2 _ s7 _ H7 _ I7 q7) λu8 s8 ⟨v8,H8,I8,r8,ys,hys,hlen,m',hm,w8⟩=>?_
    refine thn (bp (X:=br X N scope cl fp G.objs.size s2 H2) _ s8 _ H8 (.ref s2.heap.objs.size) [v8] _ [u8] (λ_ H9=>W (i+1) m' H9) I8 U (.cons r8 .nil) ⟨_,ys,v8,U,U,hys,hlen,w8⟩) λ_ s9 ⟨_,H9,I9,_,w9⟩=>?_
    exact again U I9 hm w9
 exact codeAny_compStart_list (loop _ U) (T.self _ 0 _ _ _ st1 (loop _ U))
theorem Inv.left{pins:List (Addr×Obj)}{σ σ2:St}{s2 s':Shared}{H2 H':Hp}{C:Addr}{h':Heap}(I2:Inv X pins σ2 H2 s2)(I':Inv X pins σ H' s')(hC:s2.heap.objs.size<=C)(hn:H' C=none)(hs:Heap.SameBut C s'.heap h'):Inv X pins σ H' { s' with heap:=h' }:=by
 refine I'.turned (t':=s'.toks) (it:=C) (λb o hb e=>(hs.2 b hb).trans e) hn (ne_of_gt (lt_of_lt_of_le I2.lt hC)) (.inr (le_trans I2.sz hC)) (λy c e=>?_) λp hp=>?_
 ·obtain⟨v,o,ho,_⟩:=I2.cell y c e;exact ne_of_lt (lt_of_lt_of_le (Heap.lt_size ho) hC)
 ·exact ne_of_lt (lt_of_lt_of_le (Heap.lt_size (I2.pin p hp).1) hC)
theorem bP{wi:TI}(hi:PI X (.Name x px) iter wi)(O:pq X N fr scope cl x)(hc:X.calm=true)(ht:∀fp C s H,PIf (br X N scope cl fp C s H) ifs tt)(he:∀fp C s H,PE (br X N scope cl fp C s H) elt te)
  (hs:∀v,foldedSetIterable iter X.env v=pure v:=by intro _;rfl):PE X (.ListComp elt [⟨.Name x px,iter,ifs,0⟩] scope pos) (yy wi fr tt te):=by
 intro pins s σ H Q I h;rw[eval_ListComp];refine wpAny_comprehension_free (use:=none) U hs O.clos O.kind O.names (thn (hi pins s σ H _ I h) λv s1 h1=>thn h1 λitv s2 h2=>?_);obtain⟨it,fp,tn,J,H2,e,I2,T,st2,f2,hW⟩:=h2;subst e;refine nh (RR:=λacc C=>compPost (model X.prog X.w) X.A X.xe none (EP X pins σ Q) acc C) O hc I2 T st2 f2 ht he hW λD C s' H' hC hn ⟨m,hm⟩ I' q=>?_
 exact⟨m,hm,λh' hs'=>⟨.ref D,H',I2.left I' hC hn hs',U,q⟩⟩
theorem sD{wi:TI}{i:Nat}{y:Str}{py vj:Pos}(hN:X.N.Nodup)(hy:X.N[i]?=some y)(hl:Loc X.env.scope y)(hi:PI X (.Name x px) iter wi)(O:pq X N fr scope cl x)(hc:X.calm=true)
  (ht:∀fp C s H,PIf (br X N scope cl fp C s H) ifs tt)(he:∀fp C s H,PE (br X N scope cl fp C s H) elt te)(hs:∀v,foldedSetIterable iter X.env v=pure v:=by intro _;rfl)
  (hsw:swapsWith (.ListComp elt [⟨.Name x px,iter,ifs,0⟩] scope pos) (some (.Name y py)) vj.line X.env=pure true:=by rfl)(hf:X.fn y=true\/X.env.scope.names.lookup y=some .local:=by first|exact .inl U|exact .inr U|assumption) :
  PS X (.Assign [.Name y py] (.ListComp elt [⟨.Name x px,iter,ifs,0⟩] scope pos) vj) (xi (yy wi fr tt te) (mX i)):=by
 intro pins s σ H D0 I h;rw[exec_Assign_Name_used _ _ _ _ hsw];refine wpAny_bind (wpAny_standAt (wpAny_bind ?_));show wpAny _ X.A (do let _ ←comprehension (.ListComp elt [⟨.Name x px,iter,ifs,0⟩] scope pos) scope X.env _ (newList []) false (eval iter X.env) (some (assign (.Name y py) X.env))) _ _ s;refine wpAny_bind (wpAny_mono (wpAny_comprehension_free (use:=some (assign (.Name y py) X.env)) (Q:=λ_ s'=>SP X pins D0 .next s') U hs O.clos O.kind O.names (thn (hi pins s σ H _ I h) λv s1 h1=>thn h1 λitv s2 h2=>?_)) (λ_ s' hq=>wpAny_pure (wpAny_pure hq)) λ_ _ z=>z);obtain⟨it,fp,tn,J,H2,e,I2,T,st2,f2,hW⟩:=h2;subst e;refine nh (Q:=λv H1=>mX i v σ H1 D0.nx) (RR:=λacc C=>compPost (model X.prog X.w) X.A X.xe (some (assign (.Name y py) X.env)) (λ_ s'=>SP X pins D0 .next s') acc C) O hc I2 T st2 f2 ht he hW λD C s' H' hC hn ⟨m,hm⟩ I' q=>?_
 show wpAny _ X.A (assign (.Name y py) X.env (.ref D)) _ _ s';refine wpAny_assign_Name (jN I' hN hy hl (v:=.ref D) U (λs3 I3 ⟨a,hsa,ha⟩=>?_) hf);have hCa:C≠a:=by
  rcases ha with z|z
  ·rw[z];exact ne_of_gt (lt_of_lt_of_le I2.lt hC)
  ·obtain⟨v,o,ho,_⟩:=I2.cell y a z;exact ne_of_gt (lt_of_lt_of_le (Heap.lt_size ho) hC)
 exact⟨m,hm.sameBut hsa hCa,λh' hs'=>⟨_,H',I2.left I3 hC hn hs',q⟩⟩
def dC(Pv:Addr->Nat->List V->Hp->Prop)(D:Addr)(i n:Nat)(H2:Hp):Prop:=∃m',m'<n-i/\m'=n-(i+1)/\i+1<=n/\∃zs,Pv D (i+1) zs H2
def cF(Pv:Addr->Nat->List V->Hp->Prop)(D:Addr)(i n:Nat):VK:=λy H3=>∃ys,H3 D=some (.lst ys)/\ys.length<sizeLine/\dC Pv D i n (upd H3 D (.lst (ys++[y])))
theorem dC.mk{Pv:Addr->Nat->List V->Hp->Prop}{D:Addr}{i n:Nat}{H2:Hp}{zs:List V}(hi:i<n)(h:Pv D (i+1) zs H2):dC Pv D i n H2:=⟨n-(i+1),by lia,U,hi,zs,h⟩
theorem cF.mk{Pv:Addr->Nat->List V->Hp->Prop}{D:Addr}{i n:Nat}{H3:Hp}{ys:List V}{y:V}(hi:i<n)(e:H3 D=some (.lst ys))(hl:ys.length<sizeLine)(h:Pv D (i+1) (ys++[y]) (upd H3 D (.lst (ys++[y])))):cF Pv D i n y H3:=⟨ys,e,hl,.mk hi h⟩
theorem cY{K:W.Frag}{a:Addr}{xs:List V}{σ:St}{H1:Hp}{Q:VK}(Pv:Addr->Nat->List V->Hp->Prop)(h0:∀D,H1 D=none->Pv D 0 [] (upd H1 D (.lst [])))
  (hk:∀D i ys H,H1 D=none->i<=xs.length->Pv D i ys H->SqL K H a xs)
  (hs:∀D i x ys H,H1 D=none->xs[i]?=some x->Pv D i ys H->tt (ff σ fr (some x)) H λb H2=>if b=true then te (ff σ fr (some x)) H2 (cF Pv D i xs.length)else dC Pv D i xs.length H2)
  (hd:∀D ys H,H1 D=none->Pv D xs.length ys H->Q (.ref D) H):ox (Itl K a) fr tt te σ Q H1:=by
 intro D hD;refine⟨λi m H=>m=xs.length-i/\i<=xs.length/\∃ys,Pv D i ys H,⟨_,U,zero_le _,[],h0 D hD⟩,?_⟩;rintro i m H ⟨rfl,hi,ys,p⟩;have q:=hk D i ys H hD hi p;by_cases hlt:i<xs.length
 ·refine .inr ⟨⟨xs,xs[i],q,by simp[hlt]⟩,λx H' y=>?_⟩;obtain⟨e,y⟩:=y;subst e;exact hs D i x ys _ hD (y xs q) p
 ·have e:i=xs.length:=by lia
  subst e;exact .inl ⟨⟨xs,q,le_refl _⟩,hd D ys H hD p⟩
theorem bD{lo:Int}{n:Nat}{σ:St}{H1:Hp}{Q:VK}(Pv:Addr->Nat->List V->Hp->Prop)(h0:∀D,H1 D=none->Pv D 0 [] (upd H1 D (.lst [])))
  (hs:∀D i ys H,H1 D=none->i<n->Pv D i ys H->tt (ff σ fr (some (.int (lo+i)))) H λb H2=>if b=true then te (ff σ fr (some (.int (lo+i)))) H2 (cF Pv D i n)else dC Pv D i n H2)
  (hd:∀D ys H,H1 D=none->Pv D n ys H->Q (.ref D) H):ox (Itr lo n) fr tt te σ Q H1:=by
 intro D hD;refine⟨λi m H=>m=n-i/\i<=n/\∃ys,Pv D i ys H,⟨_,U,zero_le _,[],h0 D hD⟩,?_⟩;rintro i m H ⟨rfl,hi,ys,p⟩;by_cases hlt:i<n
 ·refine .inr ⟨hlt,λx H' y=>?_⟩;obtain⟨e,y⟩:=y;subst e;subst y;exact hs D i ys _ hD hlt p
 ·have e:i=n:=by lia
  subst e;exact .inl ⟨le_refl _,hd D ys H hD p⟩
end
structure kT(X:Cx)(N:List Str)(k:Nat)(fr:List Nat)(scope:Scope)(cl:List (Str×Addr)):Prop where
 clos:closureFor scope X.env=pure cl
 kind:scope.kind=.function
 nocell:∀y∈scope.names,y.2≠.cell
 names:∀y∈scope.names,y.2=.local->scope.names.lookup y.1=some .local
 len:N.length=k+fr.length
 sub:∀(i:Nat)(y:Str),N[k+i]?=some y->∃j,fr[i]?=some j/\X.N[j]?=some y/\(X.env.kindOf y=some .cell\/X.env.kindOf y=some .free)/\((relabel scope X.env).names.lookup y=some .cell\/(relabel scope X.env).names.lookup y=some .free)
 cells:∀y c,cl.lookup y=some c->X.env.cells.lookup y=some c
 has:∀y,((relabel scope X.env).names.lookup y=some .cell\/(relabel scope X.env).names.lookup y=some .free)->∃c,cl.lookup y=some c
theorem fF{X:Cx}{N:List Str}{k:Nat}{scope:Scope}(len:N.length=k)(kind:scope.kind=.function)(nofree:∀y∈scope.names,y.2≠.free)(nocell:∀y∈scope.names,y.2≠.cell)
  (names:∀y∈scope.names,y.2=.local->scope.names.lookup y.1=some .local):kT X N k [] scope []:=by
 have er:(relabel scope X.env).names=scope.names:=map_eq_self λy hy=>by
  have z:(y.2 == NameKind.free)=false:=by simpa using nofree y hy
  simp[z]
 have no:∀y,¬ ((relabel scope X.env).names.lookup y=some .cell\/(relabel scope X.env).names.lookup y=some .free):=λy h=>by
  rw[er]at h;rcases h with h|h
  ·exact nocell _ (mem_of_lookup h) U
  ·exact nofree _ (mem_of_lookup h) U
 refine⟨closureFor_none nofree,kind,nocell,names,by rw[len];rfl,λi y e=>?_,(λy c e=>by cases e),λy h=>absurd h (no y)⟩;have:=(Fo.mp e).1;lia
def cK(σ:St)(fr:List Nat)(ts:St):St:=ts++fr.map λj=>(σ[j]?).join
def gN(J:It)(gt:TG)(k:Nat)(fr:List Nat)(tt:TT)(te:TE)(σ:St)(Q:VK)(H1:Hp):Prop:=∀D,H1 D=none->∃W:Nat->Nat->Hp->Prop,(∃m,W 0 m (upd H1 D (.lst [])))/\∀i m H,W i m H ->
 (J.stop i H/\Q (.ref D) H)\/(J.go i H/\∀x H',J.yld i H x H'->∀ts:St,ts.length=k->gt x (cK σ fr ts) H' λσ2 H2=>(∃ts2:St,ts2.length=k/\σ2=cK σ fr ts2)/\tt σ2 H2 λb H3=>if b=true then te σ2 H3 λy H4=>∃ys,H4 D=some (.lst ys)/\ys.length<sizeLine/\∃m',m'<m/\W (i+1) m' (upd H4 D (.lst (ys++[y])))
  else ∃m',m'<m/\W (i+1) m' H3)
def vk(wi:TI)(gt:TG)(k:Nat)(fr:List Nat)(tt:TT)(te:TE):TE:=λσ H Q=>wi σ H λJ H1=>gN J gt k fr tt te σ Q H1
section
variable{elt iter tg:Expr}{ifs:List Expr}{scope:Scope}{cl:List (Str×Addr)}{N:List Str}{k:Nat}{fr:List Nat}{gt:TG}{tt:TT}{te:TE}
theorem kU{pins:List (Addr×Obj)}{σ:St}{s2:Shared}{H2:Hp}{it:Addr}{fp:List Addr}{tn:Nat->Heap->Prop}{J:It}{Q:VK}{E:Value->Shared->Prop}{RR:Value->Addr->Result->Shared->Prop}
  (O:kT X N k fr scope cl)(hc:X.calm=true)(I2:Inv X pins σ H2 s2)(T:Turn X.prog X.w X.K tg J fp it tn)(st2:tn 0 s2.heap)(f2:∀b∈fp,jP X pins H2 b)
  (ht:∀fp C s H,PIf (br X N scope cl fp C s H) ifs tt)(he:∀fp C s H,PE (br X N scope cl fp C s H) elt te)
  (hg:∀fp C s H,PG (br X N scope cl fp C s H) tg gt)(hW:gN J gt k fr tt te σ Q H2)
  (fin:∀D C s' H',s2.heap.objs.size<=C->H' C=none->(∃m,s'.heap.Ns C m)->Inv X pins σ H' s'->Q (.ref D) H'->RR (.ref D) C (.ok .next) s') :
  wpAny (model X.prog X.w) X.A (newList []) (λacc s3=>wpAny (model X.prog X.w) X.A (newFunctionEnv scope X.env.globals cl [] X.env.qual none .none (some X.env)) (λvh s4 =>
   codeAny (model X.prog X.w) X.A (.compStart (.ListComp elt [⟨tg,iter,ifs,0⟩] scope pos) 0 (.ref it) acc { vh with scope:=relabel scope X.env }) (RR acc vh.locals) s4) E s3) E s2:=by
 refine wpAny_newObj_type (wpAny_newFunctionEnv O.nocell (by intro y hy;simp at hy) (λh1 hns hsb=>?_) O.kind);dsimp only at hns hsb⊢;generalize hG:s2.heap.push { cls:=.type "list",dict:=none,data:=.seq ([]:List Value).toArray }=G at hns hsb⊢;have hC:G.objs.size=s2.heap.objs.size+1:=by rw[←hG,Heap.size_push]
 have old:∀b o,s2.heap.get? b=some o->h1.get? b=some o:=λb o e=>hsb.extBut b o (ne_of_lt (by rw[hC];exact lt_succ_of_lt (Heap.lt_size e))) (Heap.get?_push_of_some _ (hG ▸ Heap.get?_push_of_some _ e))
 have vi:h1.get? s2.heap.objs.size=some { cls:=.type "list",data:=.seq ([]:List Value).toArray 0 }:=hsb.extBut _ _ (ne_of_lt (by rw[hC];exact lt_succ_self _)) (Heap.get?_push_of_some _ (hG ▸ Heap.get?_push_size _ U));have hD:H2 s2.heap.objs.size=none:=I2.fresh;have okX:(br X N scope cl fp G.objs.size s2 H2).Ok:=by
  refine⟨I2.ok.mod,O.kind,I2.ok.glob,I2.ok.blt,by show s2.heap.objs.size<=G.objs.size;rw[hC];exact le_succ _,λy z c e1 e2=>I2.ok.inj y z c (O.cells y c e1) (O.cells z c e2),λy hy=>O.has y hy,λy c z=>absurd (show false=true from z) Bool.false_ne_true,I2.ok.hd,I2.ok.frames,.inl U,
   λb hb=>⟨?_,λy c e=>(f2 b hb).2.2.2.2.1 y c (O.cells y c e)⟩,I2.bs,le_trans I2.ok.bsz I2.sz,λb o e hb=>?_,λb hb z=>?_,I2.stack,I2.stkFree⟩
  ·obtain⟨o,e,_⟩:=T.obj _ _ st2 b hb;show b≠G.objs.size;exact ne_of_lt (by rw[hC];exact lt_succ_of_lt (Heap.lt_size e))
  ·rcases(f2 b hb).2.2.2.1 with z|z
   ·exact I2.ok.noex b o e z
   ·exact absurd (lt_of_lt_of_le (Heap.lt_size e) (le_trans I2.ok.bsz z)) (lt_irrefl _)
  ·rcases mem_cons.mp (I2.stkSub b z)with z|z
   ·exact(f2 b hb).2.1 z
   ·exact(f2 b hb).2.2.1 z
 have kS:∀{H':Hp},(∀b∈fp,H' b=none)->∀b∈fp,jP (br X N scope cl fp G.objs.size s2 H2) [] H' b:=λhn b hb =>
  ⟨hn b hb,(okX.exf b hb).1,okX.exfs b hb,.inl hb,(okX.exf b hb).2,λp hp=>absurd (show p∈([]:List (Addr×Obj))from hp) (by simp)⟩
 have I':Inv (br X N scope cl fp G.objs.size s2 H2) [] (cK σ fr (List.replicate k none)) (upd H2 s2.heap.objs.size (.lst [])) { s2 with heap:=h1,toks:=s2.toks+([]:List (Str×Value)).length }:=by
  refine⟨okX,U,I2.bare,Un.laid old (le_refl _) hD,⟨_,hns,λi y v e1 e2 e3=>?_⟩,λy c e=>?_,?_,λy c e=>?_,λp hp=>absurd (show p∈([]:List (Addr×Obj))from hp) (by simp),I2.hok.laid old (le_refl _) ⟨zero_le _,[],0,.nil,vi⟩,?_⟩
  ·by_cases hik:i<k
   ·have e2':(List.replicate k none++fr.map λj=>(σ[j]?).join)[i]?=some (some v):=e2;rw[getElem?_append_left (by rw[length_replicate];exact hik),List.getElem?_replicate,if_pos hik]at e2';cases e2'
   ·obtain⟨j,q1,q2,q3,q4⟩:=O.sub (i-k) y (by rw[show k+(i-k)=i by lia];exact e1);have e2':(σ[j]?).join=some v:=by
     have:(List.replicate k none++fr.map λj=>(σ[j]?).join)[i]?=some (some v):=e2;rw[getElem?_append_right (by rw[length_replicate];lia),length_replicate,getElem?_map,q1]at this;exact Option.some.inj this
    have e4:σ[j]?=some (some v):=by
     cases z:σ[j]? with
     |none=>rw[z]at e2';cases e2'
     |some t=>rw[z]at e2';exact congrArg some e2'
    obtain⟨m,_,hl⟩:=I2.loc;have vis:Vis X.env.scope y:=.inr q3;obtain⟨u,r,l⟩:=hl j y v q2 e4 vis;refine⟨u,r,.inr ⟨q4,?_⟩⟩;obtain⟨c',hc'⟩:=O.has y q4;rcases l with⟨k,_⟩|⟨_,c,ec,ic⟩
    ·rcases q3 with z|z
     ·rw[z]at k;cases k
     ·rw[z]at k;cases k
    ·have:=O.cells y c' hc';have e':c=c':=Option.some.inj (ec.symm.trans this);obtain⟨o,ho,hd⟩:=ic;rw[e']at ho;exact⟨c',hc',o,old c' o ho,hd⟩
  ·obtain⟨v,o,ho,hd⟩:=I2.cell y c (O.cells y c e);exact⟨v,o,old c o ho,hd⟩
  ·show upd H2 s2.heap.objs.size (.lst []) G.objs.size=none;rw[aw (ne_of_gt (by rw[hC];exact lt_succ_self _))];exact I2.hok.fresh (by rw[hC];exact le_succ _)
  ·obtain⟨v,o,ho,hd⟩:=I2.cell y c (O.cells y c e);rw[aw (ne_of_lt (Heap.lt_size ho))];exact I2.freeC y c (O.cells y c e)
  ·show(cK σ fr (List.replicate k none)).length=N.length;rw[O.len];simp[cK]
 have st1:tn 0 h1:=T.keep _ _ _ st2 λb hb o e=>old b o e
 have loop:∀s3:Shared,s3={ s2 with heap:=h1,toks:=s2.toks+([]:List (Str×Value)).length } ->
   codeAny (model X.prog X.w) X.A (.compLoop (.ListComp elt [⟨tg,iter,ifs,0⟩] scope pos) 0 (.ref it) (.ref s2.heap.objs.size) (compEnvC scope cl G.objs.size X.env)) (RR (.ref s2.heap.objs.size) G.objs.size) s3:=by
  rintro s3 rfl;obtain⟨W,⟨m0,w0⟩,turn⟩:=hW _ hD
  refine kR (λn s'=>∃i ts H',ts.length=k/\Inv (br X N scope cl fp G.objs.size s2 H2) [] (cK σ fr ts) H' s'/\tn i s'.heap/\(∀b∈fp,H' b=none)/\W i n H') ?_ m0
   ⟨0,List.replicate k none,_,length_replicate,I',st1,λb hb=>by
    rw[aw (by obtain⟨o,e,_⟩:=T.obj _ _ st2 b hb;exact ne_of_lt (Heap.lt_size e))];exact(f2 b hb).1,w0⟩
  rintro n s' ⟨i,ts,H',hts,I3,st3,fr3,w3⟩;rcases turn i n H' w3 with⟨stop,qn⟩|⟨go,step⟩
  ·refine thn (T.done (br X N scope cl fp G.objs.size s2 H2) U U U hc i [] s' _ H' _ I3 (kS fr3) st3 stop) λr s4 ⟨hr,I4⟩=>?_
   subst hr;obtain⟨m,hm,_⟩:=I4.loc;refine fin _ _ s4 H' (by rw[hC];exact le_succ _) I4.free ⟨m,hm⟩ (I2.call' (ch:=fp) I4.os I4.base I4.hok I4.bare λb hb=>?_) qn;exact⟨(f2 b hb).2.2.2.1,(f2 b hb).2.1,(f2 b hb).2.2.2.2.1,(f2 b hb).2.2.2.2.2⟩
  ·refine thn (T.item (br X N scope cl fp G.objs.size s2 H2) U U U hc i [] s' _ H' _ I3 (kS fr3) st3 go) λr s4 ⟨u,hr,h4⟩=>?_
   subst hr;refine thn h4 λ_ s5 ⟨y,H5,I5,r5,y5,st5,fr5⟩=>?_
   have I5':=I5.pinned (kS fr5) (T.obj _ _ st5);refine thn (hg fp G.objs.size s2 H2 _ s5 _ H5 y u _ I5' r5 (step y H5 y5 ts hts)) λ_ s6 ⟨σ6,H6,I6,⟨ts6,Cs,e6⟩,q6⟩=>?_
   subst e6
   have again:∀{σ7:St}{H7:Hp}{s7:Shared}{m':Nat},σ7=cK σ fr ts6->Inv (br X N scope cl fp G.objs.size s2 H2) ([]++jQ fp s5.heap) σ7 H7 s7->m'<n->W (i+1) m' H7 ->
     ∃m,m<n/\∃i ts H',ts.length=k/\Inv (br X N scope cl fp G.objs.size s2 H2) [] (cK σ fr ts) H' s7/\tn i s7.heap/\(∀b∈fp,H' b=none)/\W i m H':=λ{σ7 H7 s7 m'} e7 I7 hm w7=>by
    subst e7;refine⟨m',hm,i+1,ts6,H7,Cs,I7.unpinned,T.keep _ _ _ st5 λb hb o e=>(I7.pin (b,o) (mem_append_right _ (mem_append_right _ (dr hb e)))).1,λb hb=>?_,w7⟩;obtain⟨o,e,d⟩:=T.obj _ _ st5 b hb;exact(I7.pin (b,o) (mem_append_right _ (mem_append_right _ (dr hb e)))).2.1
   refine thn (ht fp G.objs.size s2 H2 _ s6 _ H6 _ I6 q6) λok s7 ⟨H7,I7,q7⟩=>?_
   cases ok with
   |false =>
    rw[if_neg Bool.false_ne_true]at q7⊢;obtain⟨m',hm,w7⟩:=q7;exact again U I7 hm w7
   |true =>
    rw[if_pos U]at q7⊢;refine thn (he fp G.objs.size s2 H2 _ s7 _ H7 _ I7 q7) λu8 s8 ⟨v8,H8,I8,r8,ys,hys,hlen,m',hm,w8⟩=>?_
    refine thn (bp (X:=br X N scope cl fp G.objs.size s2 H2) _ s8 _ H8 (.ref s2.heap.objs.size) [v8] _ [u8] (λ_ H9=>W (i+1) m' H9) I8 U (.cons r8 .nil) ⟨_,ys,v8,U,U,hys,hlen,w8⟩) λ_ s9 ⟨_,H9,I9,_,w9⟩=>?_
    exact again U I9 hm w9
 exact codeAny_compStart_list (loop _ U) (T.self _ 0 _ _ _ st1 (loop _ U))
theorem fg{wi:TI}(hi:PI X tg iter wi)(O:kT X N k fr scope cl)(hc:X.calm=true)(hg:∀fp C s H,PG (br X N scope cl fp C s H) tg gt)(ht:∀fp C s H,PIf (br X N scope cl fp C s H) ifs tt)(he:∀fp C s H,PE (br X N scope cl fp C s H) elt te)
  (hs:∀v,foldedSetIterable iter X.env v=pure v:=by intro _;rfl):PE X (.ListComp elt [⟨tg,iter,ifs,0⟩] scope pos) (vk wi gt k fr tt te):=by
 intro pins s σ H Q I h;rw[eval_ListComp];refine wpAny_comprehension_free (use:=none) U hs O.clos O.kind O.names (thn (hi pins s σ H _ I h) λv s1 h1=>thn h1 λitv s2 h2=>?_);obtain⟨it,fp,tn,J,H2,e,I2,T,st2,f2,hW⟩:=h2;subst e;refine kU (RR:=λacc C=>compPost (model X.prog X.w) X.A X.xe none (EP X pins σ Q) acc C) O hc I2 T st2 f2 ht he hg hW λD C s' H' hC hn ⟨m,hm⟩ I' q=>?_
 exact⟨m,hm,λh' hs'=>⟨.ref D,H',I2.left I' hC hn hs',U,q⟩⟩
theorem fG{K:W.Frag}{a:Addr}{xs:List V}{σ:St}{H1:Hp}{Q:VK}(Pv:Addr->Nat->List V->Hp->Prop)(h0:∀D,H1 D=none->Pv D 0 [] (upd H1 D (.lst [])))
  (hk:∀D i ys H,H1 D=none->i<=xs.length->Pv D i ys H->SqL K H a xs)
  (hs:∀D i x ys H,H1 D=none->xs[i]?=some x->Pv D i ys H->∀ts:St,ts.length=k->gt x (cK σ fr ts) H λσ2 H2=>(∃ts2:St,ts2.length=k/\σ2=cK σ fr ts2)/\tt σ2 H2 λb H3=>if b=true then te σ2 H3 (cF Pv D i xs.length)else dC Pv D i xs.length H3)
  (hd:∀D ys H,H1 D=none->Pv D xs.length ys H->Q (.ref D) H):gN (Itl K a) gt k fr tt te σ Q H1:=by
 intro D hD;refine⟨λi m H=>m=xs.length-i/\i<=xs.length/\∃ys,Pv D i ys H,⟨_,U,zero_le _,[],h0 D hD⟩,?_⟩;rintro i m H ⟨rfl,hi,ys,p⟩;have q:=hk D i ys H hD hi p;by_cases hlt:i<xs.length
 ·refine .inr ⟨⟨xs,xs[i],q,by simp[hlt]⟩,λx H' y=>?_⟩;obtain⟨e,y⟩:=y;subst e;exact hs D i x ys _ hD (y xs q) p
 ·have e:i=xs.length:=by lia
  subst e;exact .inl ⟨⟨xs,q,le_refl _⟩,hd D ys H hD p⟩
end
theorem kW{X:Cx}{K:W.Frag}{es:List Expr}{k:Nat}{t:TGs}{n:Nat}{pos:Pos}(hK:X.K=K)(hc:X.calm=true)(h:PGs X es t)(hn:(assignEach es X.env).length=n:=by rfl)(hst:(assignEach es X.env).findIdx? (·.1)=none:=by rfl):PG X (.Tuple es k pos) (Ax K n t):=hK ▸ eQ hc h hn hst
end L2
namespace Srt
open PySem PySem.W PyProof.Rows
def Ok(n:Nat)(lt:Nat->Nat->Bool){α:Type}:KasT α->(α->Prop)->Prop
 | .ret a,Q=>Q a
 | .ask i j k,Q=>i<n/\j<n/\Ok n lt (k (lt i j)) Q
section
variable{n:Nat}{lt:Nat->Nat->Bool}
abbrev g(p:Array Nat)(i:Nat):Nat:=p.getD i 0
structure Ord(lt:Nat->Nat->Bool):Prop where
 tr:∀a b c,lt b a=false->lt c b=false->lt c a=false
 as:∀a b,lt a b=true->lt b a=false
end
end Srt
namespace L2
open PySem PySem.Spec PySem.W PyProof.Rows
variable{prog:Program}{w:World}{A:Around}{E:Value->Shared->Prop}{s:Shared}
variable{X:Cx}
theorem sE{n:Int}{p:Pr}:inR n p=true↔p.1<=n/\n<=p.2:=by
 unfold inR;simp only[and_eq_true,decide_eq_true_eq]
theorem sF{n:Int}{R:List Pr}:inP R n=true↔∃p∈R,p.1<=n/\n<=p.2:=by
 unfold inP;rw[any_eq_true];exact⟨λ⟨p,h,e⟩=>⟨p,h,sE.mp e⟩,λ⟨p,h,e⟩=>⟨p,h,sE.mpr e⟩⟩
structure EN(S A B A0 B0:List Pr):Prop where
 ap:Apart S
 aA:Apart A
 aB:Apart B
 mem:∀n,(inP A0 n && inP B0 n)=(inP S n || (inP A n && inP B n))
 gap:∀s∈S,(∀p∈A,s.2+2<=p.1)\/(∀p∈B,s.2+2<=p.1)
structure E2(F T:List Pr)(lo hi st:Int):Prop where
 ap:Apart F
 lt:∀s∈F,s.2+2<=st
 rng:∀s∈F,lo<=s.1/\s.2<=hi
 tk:∀p∈T,p.2<st
 fr:st=lo\/∃p∈T,st=p.2+1
 ge:lo<=st
 mem:∀n,lo<=n->n<=hi->n<st->inP F n = !inP T n
structure Walk(ts:List (Int×Int×Int)):Prop where
 le:∀t∈ts,t.1<=t.2.1
 nx:∀(i:Nat) a b,ts[i]?=some a->ts[i+1]?=some b->b.1=a.2.1+1
def pcs(msk:Int->Bool)(ts:List (Int×Int×Int))(n:Int):Bool:=ts.any λt=>inR n (t.1,t.2.1) && msk t.2.2
structure E3(R:List Pr)(ts:List (Int×Int×Int))(msk:Int->Bool)(i:Nat)(at_:Int):Prop where
 ap:Apart R
 mem:∀n,inP R n=pcs msk (ts.take i) n
 lt:∀r∈R,r.2<at_
 few:2*R.length<=i\/(2*R.length<=i+1/\∃R' l,R=R'++[l]/\l.2=at_-1)
variable{i:Nat}
section
variable{R:List Pr}{ts:List (Int×Int×Int)}{msk:Int->Bool}{at_:Int}{t:Int×Int×Int}
end
def ends(R:List Pr):List Int:=R.flatMap λp=>[p.1,p.2+1]
theorem ni(R:List Pr)(p:Pr):ends (R++[p])=ends R++[p.1,p.2+1]:=by
 unfold ends;rw[List.flatMap_append];simp
theorem tN(R:List Pr)(p:Pr):ends (p :: R)=p.1 :: (p.2+1) :: ends R:=rfl
theorem kX{R:List Pr}{e:Int}:e∈ends R↔∃p∈R,e=p.1\/e=p.2+1:=by
 unfold ends;rw[mem_flatMap];simp
theorem vm{l:List Int}(h:l.Pairwise (· < ·)){i j:Nat}{x y:Int}(hi:l[i]?=some x)(hj:l[j]?=some y)(hij:i<j):x<y:=by
 obtain⟨h1,rfl⟩:=Fo.mp hi;obtain⟨h2,rfl⟩:=Fo.mp hj;exact pairwise_iff_getElem.mp h i j h1 h2 hij
def b2(b:Bool):Int:=if b=true then 1 else 0
theorem ki(ns:List Int):∀k,k<=ns.length->preSum (λi=>ns.getD i 0) k=(ns.take k).sum
 |0,_=>rfl
 |k+1,h=>by
  have ih:=ki ns k (by lia);show preSum (λi=>ns.getD i 0) k+ns.getD k 0=_;have e:ns[k]?=some ns[k]:=Fn (by lia);rw[ih,take_add_one,e,List.sum_append,getD_eq_getElem?_getD,e];simp
theorem cQ(hc:X.calm=true):de X (.builtin "sum") (λus H Q=>∃(a:Addr)(ns:List Int),us=[.ref a]/\SqL X.K H a (ns.map V.int)/\Q (.int ns.sum) H):=by
 intro pins s σ H us vs Q I r h;obtain⟨a,ns,rfl,hq,q⟩:=h;obtain⟨u,rfl,rx⟩:=r.one;cases (show u=Value.ref a from rx);obtain⟨its,rv,pl,hz⟩:=I.list hq;have l1:=rv.length;rw[length_map]at l1;obtain⟨oa,ea,_⟩:=id pl.isList;have hax:a<s.heap.objs.size:=Heap.lt_size ea;refine call_sum_walkG (wpAny_pyIter_list pl.isList ?_);refine⟨s.heap.objs.size,[s.heap.objs.size,a],[s.heap.objs.size],_,_,_,λi=>ns.getD i 0,U,Walks.list (A:=X.A.in1) (I.ok.hd hc) _ a (ne_of_lt hax) its.toArray,⟨⟨_,Heap.get?_push_size _ U,U,U⟩,pl.isList.at λo e=>Heap.get?_push_of_some _ e⟩,λb hb=>?_,λi v e=>?_,λh' tk t' hk=>?_⟩
 ·show b<(s.heap.push _).objs.size;rw[Heap.size_push];rcases mem_cons.mp hb with z|z
  ·rw[z];exact lt_succ_self _
  ·have z2:b=a:=by simpa using z
   rw[z2];exact lt_succ_of_lt hax
 ·have e':its[i]?=some v:=by simpa using e
  have hi:i<ns.length:=by rw[l1];exact(Fo.mp e').1
  have ex:(ns.map V.int)[i]?=some (.int ns[i]):=by rw[getElem?_map,Fn hi];rfl
  obtain⟨u,q1,ru⟩:=rv.get ex;rw[e']at q1;cases q1;obtain⟨t,rfl⟩:=ru;exact⟨t,by show Value.int ns[i] t=Value.int (ns.getD i 0) t;rw[getD_eq_getElem?_getD,Fn hi];rfl⟩
 ·refine⟨.int ns.sum,H,I.kept (t':=tk) λb o e=>hk b o (λz=>?_) (Heap.get?_push_of_some _ e),⟨t',?_⟩,q⟩
  ·have z2:b=s.heap.objs.size:=by simpa using z
   exact absurd (Heap.lt_size e) (by rw[z2];exact lt_irrefl _)
  ·rw[size_toArray,←l1,ki ns _ (le_refl _),take_length]
theorem kj:∀{A B:List Int},A.Pairwise (· < ·)->B.Pairwise (· < ·)->(∀c,c∈A↔c∈B)->A=B
 | [],[],_,_,_=>rfl
 | [],b :: B,_,_,h=>by have:=(h b).mpr (.head _);cases this
 |a :: A,[],_,_,h=>by have:=(h a).mp (.head _);cases this
 |a :: A,b :: B,hA,hB,h=>by
  obtain⟨a1,a2⟩:=pairwise_cons.mp hA;obtain⟨b1,b2⟩:=pairwise_cons.mp hB;have e:a=b:=by
   rcases mem_cons.mp ((h a).mp (.head _))with e|e
   ·exact e
   ·rcases mem_cons.mp ((h b).mpr (.head _))with e' | e'
    ·exact e'.symm
    ·have:=a1 b e';have:=b1 a e;lia
  subst e
  congr 1
  refine kj a2 b2 λc=>⟨λhc=>?_,λhc=>?_⟩
  ·rcases mem_cons.mp ((h c).mp (.tail _ hc))with e|e
   ·have:=a1 c hc;lia
   ·exact e
  ·rcases mem_cons.mp ((h c).mpr (.tail _ hc))with e|e
   ·have:=b1 c hc;lia
   ·exact e
def NeS(W:List (Int×Int×Int)):Prop:=∀(j:Nat) a b,W[j]?=some a->W[j+1]?=some b->a.2.2≠b.2.2
structure EO(G ts:List (Int×Int×Int))(i:Nat):Prop where
 walk:Walk G
 ne:NeS G
 pcs:∀msk n,pcs msk G n=L2.pcs msk (ts.take i) n
 hd:∀t,ts[0]?=some t->0<i->∃g,G[0]?=some g/\g.1=t.1
 lst:∀t,ts[i-1]?=some t->0<i->∃G' g,G=G'++[g]/\g.2.1=t.2.1/\g.2.2=t.2.2
 len:G.length<=i
 stt:∀g∈G,∃t∈ts,g.2.2=t.2.2
section
variable{G ts:List (Int×Int×Int)}{t:Int×Int×Int}
end
def Its(z:Str):It:=⟨λi _=>i<z.cps.size,λi H x H'=>H'=H/\∃c,z.cps[i]?=some c/\x=.str ⟨#[c]⟩,λi _=>z.cps.size<=i⟩
theorem qW{P:Program}{w:World}{K:W.Frag}{tg:Expr}(z:Str)(t:Tok)(it:Addr):Turn P w K tg (Its z) [it] it (λi h=>h.IsStrIter it "str_ascii_iterator" z t i) where
 mem:=by simp
 obj:=λi h st b hb=>by
  obtain⟨o,e,c,d⟩:=st;rw[show b=it by simpa using hb];exact⟨o,e,λv q=>by rw[d]at q;cases q⟩
 keep:=λi h h' ⟨o,e,r⟩ k=>⟨o,k it (by simp) o e,r⟩
 item:=by
  intro X hP hw hK hc i pins s σ H E I hf st hg;subst hP hw hK;have hlt:i<z.cps.size:=hg;have hi:z.cps[i]?=some z.cps[i]:=getElem?_eq_getElem hlt;obtain⟨f0,f1,f2,f3,f4,f5⟩:=hf it (by simp);refine wpAny_pyNext_ascii_item st hi λh' st' sb=>?_
  have I1:Inv X pins σ H { s with heap:=h',toks:=s.toks+1 }:=I.turned (t':=s.toks+1) (λb o hb e=>(sb.2 b hb).trans e) f0 f1 f3 f4 f5;obtain⟨o,e,c,d⟩:=id st';exact⟨_,U,o8 (s:={ s with heap:=h',toks:=s.toks+1 }) e c d (by decide) ⟨.str ⟨#[z.cps[i]]⟩,H,I1,⟨_,U⟩,⟨U,_,hi,U⟩,st',λb hb=>(hf b hb).1⟩⟩
 done:=by
  intro X hP hw hK hc i pins s σ H E I hf st hg;subst hP hw hK;obtain⟨f0,f1,f2,f3,f4,f5⟩:=hf it (by simp);exact wpAny_pyNext_ascii_end (I.ok.hd hc) st (by simpa using(show z.cps.size<=i from hg)) λh' eb=>⟨U,I.turned (t':=s.toks) (λb o hb e=>eb b o hb e) f0 f1 f3 f4 f5⟩
 self:=λ_ _ _ _ _ st h=>wpAny_pyIter_striter_ascii st h
theorem tO{P:Program}{w:World}{K:W.Frag}{tg:Expr}(z:Str)(t:Tok)(it:Addr):Turn P w K tg (Its z) [it] it (λi h=>h.IsStrIter it "str_iterator" z t i) where
 mem:=by simp
 obj:=λi h st b hb=>by
  obtain⟨o,e,c,d⟩:=st;rw[show b=it by simpa using hb];exact⟨o,e,λv q=>by rw[d]at q;cases q⟩
 keep:=λi h h' ⟨o,e,r⟩ k=>⟨o,k it (by simp) o e,r⟩
 item:=by
  intro X hP hw hK hc i pins s σ H E I hf st hg;subst hP hw hK;have hlt:i<z.cps.size:=hg;have hi:z.cps[i]?=some z.cps[i]:=getElem?_eq_getElem hlt;obtain⟨f0,f1,f2,f3,f4,f5⟩:=hf it (by simp);refine wpAny_pyNext_wide_item st hi λh' st' sb=>?_
  have I1:Inv X pins σ H { s with heap:=h',toks:=s.toks+1 }:=I.turned (t':=s.toks+1) (λb o hb e=>(sb.2 b hb).trans e) f0 f1 f3 f4 f5;obtain⟨o,e,c,d⟩:=id st';exact⟨_,U,o8 (s:={ s with heap:=h',toks:=s.toks+1 }) e c d (by decide) ⟨.str ⟨#[z.cps[i]]⟩,H,I1,⟨_,U⟩,⟨U,_,hi,U⟩,st',λb hb=>(hf b hb).1⟩⟩
 done:=by
  intro X hP hw hK hc i pins s σ H E I hf st hg;subst hP hw hK;obtain⟨f0,f1,f2,f3,f4,f5⟩:=hf it (by simp);exact wpAny_pyNext_wide_end (I.ok.hd hc) st (by simpa using(show z.cps.size<=i from hg)) λh' eb=>⟨U,I.turned (t':=s.toks) (λb o hb e=>eb b o hb e) f0 f1 f3 f4 f5⟩
 self:=λ_ _ _ _ _ st h=>wpAny_pyIter_striter_wide st h
section
variable{tg:Expr}
inductive yz  (R:(It->Hp->Prop))(x:V)(H1:Hp):Prop
 |mk (z:_)(_:x=.str z)(_:R (Its z) H1):yz R x H1
def Ct(tl:TE):W.Frag->St->Hp->(It->Hp->Prop)->Prop:=λ_ σ H R=>tl σ H λx H1=>yz R x H1
theorem zo{l:Expr}{tl:TE}(hl:PE X l tl):PI X tg l (Ct tl X.K):=by
 intro pins s σ H R I h;refine thn (hl pins s σ H _ I h) λv s1 ⟨x,H1,I1,r1,q1⟩=>?_
 obtain⟨z,e,q⟩:=q1;subst e;obtain⟨t,rfl⟩:=r1;have fpo:∀b∈[s1.heap.objs.size],jP X pins H1 b:=λb hb=>by
  rw[show b=s1.heap.objs.size by simpa using hb];exact I1.fpOk (le_refl _) (I1.hok.fresh (le_refl _))
 cases ha:z.cps.all (· < 128) with
 |true=>exact wpAny_pyIter_ascii ha ⟨s1.heap.objs.size,[s1.heap.objs.size],_,_,H1,U,I1.kept (t':=s1.toks) λb o e=>Heap.get?_push_of_some _ e,qW z t _,⟨_,Heap.get?_push_size _ U,U,U⟩,fpo,q⟩
 |false=>exact wpAny_pyIter_wide ha ⟨s1.heap.objs.size,[s1.heap.objs.size],_,_,H1,U,I1.kept (t':=s1.toks) λb o e=>Heap.get?_push_of_some _ e,tO z t _,⟨_,Heap.get?_push_size _ U,U,U⟩,fpo,q⟩
end
theorem xv{z:Str}{g:TG}{tb:TS}{D:Ends}{σ:St}{H:Hp}(Pv:Nat->St->Hp->Prop)(h0:Pv 0 σ H)
  (hs:∀i c σ H,z.cps.toList[i]?=some c->Pv i σ H->g (.str ⟨#[c]⟩) σ H λσ2 H2=>tb { D with nx:=Pv (i+1),ct:=Pv (i+1),bk:=D.nx } σ2 H2)(hd:∀σ H,Pv z.cps.size σ H->D.nx σ H) :
  ∃W:Nat->Nat->St->Hp->Prop,(∃m,W 0 m σ H)/\∀i m σ H,W i m σ H ->
   ((Its z).stop i H/\D.nx σ H)\/((Its z).go i H/\∃N:St->Hp->Prop,(∀σ' H',N σ' H'->∃m',m'<m/\W (i+1) m' σ' H')/\∀x H',(Its z).yld i H x H'->g x σ H' λσ2 H2=>tb { D with nx:=N,ct:=N,bk:=D.nx } σ2 H2):=by
 refine⟨λi m σ H=>m=z.cps.size-i/\i<=z.cps.size/\Pv i σ H,⟨_,U,zero_le _,h0⟩,?_⟩;rintro i m σ H ⟨rfl,hi,p⟩;by_cases hlt:i<z.cps.size
 ·refine .inr ⟨hlt,Pv (i+1),λσ' H' p'=>⟨z.cps.size-(i+1),by lia,U,hlt,p'⟩,λx H' y=>?_⟩;obtain⟨e,c,y1,y2⟩:=y;subst e;subst y2;exact hs i c σ _ (by simpa using y1) p
 ·have e:i=z.cps.size:=by lia
  subst e;exact .inl ⟨le_refl _,hd σ H p⟩
theorem km{x:Str}{v:V}{pos:Pos}(hg:Gl X x)(h:∃u,X.mg x=some u/\RelV v u)(hd:(x == ("__debug__" : Str))=false:=by decide):PE X (.Name x pos) (tC v):=by
 obtain⟨_,m,r⟩:=h;exact dc hg m r hd
def sg(g:Str)(c:Nat):Bool:=!(Builtin.Str.occurrences g ⟨#[c]⟩ 0 g.length 1).isEmpty
def kY(z g:Str):Bool:=z.cps.toList.all (sg g)
open PySem.NumText
theorem nj{v:Value}{o:Option Int}(h:IsPart v o):∃p:Option (Int×Tok),v=partValue p/\p.map (·.1)=o:=by
 cases h with
 |none=>exact⟨none,U,U⟩
 |int i t=>exact⟨some (i,t),U,U⟩
inductive AO  (x:V)(lo:Option Int)(hi:Option Int)(H:Hp)(Q:VK):Prop
 |mk (z:_)(_:x=.str z)(_:z.length<=sizeLine)(_:Q (.str (Txt.slice z lo hi)) H):AO x lo hi H Q
theorem vn:SlR X AO:=by
 intro pins s σ H x v vl vu lo hi sl Q I rx hs pl pu h;obtain⟨z,rfl,hz,q⟩:=h;obtain⟨t,rfl⟩:=rx;obtain⟨l,rfl,el⟩:=nj pl;obtain⟨u,rfl,eu⟩:=nj pu;refine⟨"str",_,slot_str_getitem.lookup,typeIs_str s z t,?_⟩;refine wpAny_getItem_str_slice (l:=l) (u:=u) (st:=none) hs U ?_;unfold sliceMade slicePicked;rw[el,eu];unfold Txt.slice at q;show Made.post (if ((1:Int) == 1 && (Builtin.Str.strSliceIndices lo hi 1 z.length).length == z.length)=true then _ else _) _ _;by_cases c:((1:Int) == 1 && (Builtin.Str.strSliceIndices lo hi 1 z.length).length == z.length)=true
 ·rw[if_pos c]at q⊢;exact⟨.str z,H,I,⟨_,U⟩,q⟩
 ·have hle:=Txt.slice_le z lo hi;unfold Txt.slice at hle;rw[if_neg c]at q hle⊢;exact⟨le_trans hle hz,.str _,H,I.tok _,⟨_,U⟩,q⟩
structure E4(cs:List Nat):Prop where
 all:AllDigits cs
 one:cs.length=1\/∃c r,cs=c :: r/\49<=c
theorem xw{X:Cx}:OpR X (binaryOp .Mult) (rI IntMulOk λi j=>.int (i*j)):=opI λ_ _ _ _ _ _ _ hc q=>mul_int q hc
def Cu(h:Heap)(e T:Addr)(cls a0:Value):Prop :=
 ∃oe vs oT ts,h.get? e=some oe/\(oe.cls=cls/\vs[0]?=some a0)/\oe.data=.fields vs/\vs[1]?=some (.ref T)/\T≠e/\h.get? T=some oT/\oT.data=.fields ts/\ts[3]?=some .none
structure Stp(F X:List Addr)(h h':Heap):Prop where
 keep:∀b o,b ∉ F->b ∉ X->h.get? b=some o->h'.get? b=some o
 slot:∀b o,b∈F->h.get? b=some o->∃sl,h'.get? b=some { o with slots:=sl }
variable{base:Heap}{e:Addr}{oe:Obj}
section
variable{M:Model}{env:Env}{outer:List Env}{L T:Addr}{vs:Array Value}{a0 cls:Value}{Q:Unit->Shared->Prop}
end
variable{P:Program}{H:Hp}
section
variable{H':Hp}{h h':Heap}{a:Addr}{o:HO}{F Y fs:List Addr}
end
structure yA(X:Cx)(pins:List (Addr×Obj))(H:Hp)(b:Addr):Prop where
 ent:X.s₀.heap.get? b=none
 unt:H b=none
 loc:b≠X.env.locals
 cel:∀x c,X.env.cells.lookup x=some c->c≠b
 pin:∀p∈X.pn++pins,p.1≠b
variable{pins:List (Addr×Obj)}{σ:St}
section
variable{h':Heap}{T:Addr}
end
structure Cv(K:W.Frag)(C:Addr):Prop where
 ex:∃(bmB bmN:List Value)(newId B Bn nid zp inN:String),W.excIn K C bmB newId=true/\ExcBaseFacts Bn newId inN bmN/\bmB.contains (Value.type Bn)=true/\ExcBaseFacts B nid zp bmB
variable{K:W.Frag}
section
variable{mg:Str->Option Value}{N:List Str}{qual:Str}{scope:Scope}{f:Addr}{cd:Value}{outer:List Env}{s0:Shared}{H0:Hp}{E:XK}
end
def XP(X:Cx)(pins:List (Addr×Obj))(σ:St)(EX:Addr->Hp->Prop)(ev:Value)(s':Shared):Prop :=
 ∃(e T C:Addr)(a0:Value)(H':Hp),ev=.ref e/\Inv X pins σ H' s'/\Cu s'.heap e T (.ref C) a0/\yA X pins H' e/\yA X pins H' T/\EX C H'
section
variable{s':Shared}
end
variable{k:Nat}{x:Str}{ps:List Str}{sp:Sp}{pos:Pos}
section
variable{e:Expr}{es:List Expr}{t:TA}{p:Pos}
abbrev TSX:=Ends->St->Hp->(Addr->Hp->Prop)->Prop
end
section
variable{s':Shared}
end
section
variable{st b₀:Stmt}{su:List Stmt}{tb:TSX}{ts:Addr->Addr->TS}{Tn n:Str}{B:Addr}{np Cw:Pos}
end
structure B1(K:W.Frag)(C:Addr):Prop where
 ga:W.findIn K (.ref C) "__getattribute__" = some (some (.builtin "BaseException.__getattribute__"))
 hk:W.findIn K (.ref C) "__getattr__" = some none
 cl:W.findIn K (.ref C) "__class__" = some (some (.builtin "object.__class__"))
 gt:W.specialIn K (.builtin "object.__class__") "__get__" = some (some (.builtin "getset_descriptor.__get__"))
 tk:W.takesIn K (.builtin "object.__class__")=some true
 ob:W.mroIn K C (.type "object")=some true
 be:W.mroIn K C (.type "BaseException")=some true
 me:W.kitCls K (.ref C) (.ref C)=some true
variable{C:Addr}
theorem len_app(x y:Str):(x++y).length=x.length+y.length:=by
 show(Str.append x y).cps.size=x.cps.size+y.cps.size;unfold Str.append;simp
def bf(CX:CXT)(P:Program)(w:World)(K:W.Frag)(mg:Str->Option Value)(base:Heap)(k:Nat)(C:Addr)(m:Str)(ps:List Str)(sp:Sp):Prop :=
 ∃f fd,Meth K C m f/\aH P w K mg base CX k f fd ps sp/\Binds K fd ps []
def bc(CX:CXT)(P:Program)(w:World)(K:W.Frag)(mg:Str->Option Value)(base:Heap)(k:Nat)(x:Str)(C:Addr)(ps:List Str)(sp:Sp):Prop :=
 ∃f fd,Mk K C f/\aH P w K mg base CX k f fd ps sp/\Binds K fd ps []/\mg x=some (.ref C)
structure AQ(K:W.Frag)(B:Addr)(m:Str)(f:Addr):Prop where
 sp:W.specialIn K (.ref B) "__getattribute__" = some (some (.builtin "type.__getattribute__"))
 rd:W.readsIn K B (.type "type")=true
 at_:W.findCls K (.ref B) (.type "type") m=some (.val (.ref f))
 kp:W.keepIn K (.ref f)=true
def bX(CX:CXT)(P:Program)(w:World)(K:W.Frag)(mg:Str->Option Value)(base:Heap)(k:Nat)(x:Str)(m:Str)(ps:List Str)(sp:Sp):Prop :=
 ∃f fd B,AQ K B m f/\aH P w K mg base CX k f fd ps sp/\Binds K fd ps []/\mg x=some (.ref B)
section
variable{CX:CXT}{mg:Str->Option Value}{j:Nat}{m:Str}
theorem bf.mono(c:bf CX P w K mg base j C m ps sp)(h:j<=k):bf CX P w K mg base k C m ps sp:=by
 obtain⟨f,fd,M,F,b⟩:=c;exact⟨f,fd,M,F.mono h,b⟩
theorem bc.mono(c:bc CX P w K mg base j x C ps sp)(h:j<=k):bc CX P w K mg base k x C ps sp:=by
 obtain⟨f,fd,M,F,b⟩:=c;exact⟨f,fd,M,F.mono h,b⟩
theorem bX.mono(c:bX CX P w K mg base j x m ps sp)(h:j<=k):bX CX P w K mg base k x m ps sp:=by
 obtain⟨f,fd,B,M,F,b⟩:=c;exact⟨f,fd,B,M,F.mono h,b⟩
end
inductive AR(C:Addr)(m:Str)(sp:Sp)(t:TA)(σ:St)(Q:VK)(x:V)(H1:Hp):Prop
 |mk (a dx fs:_)(_:x=.ref a)(_:H1 a=some (.ins C dx fs))(_:fs.lookup m=none)(_:t σ H1 λvs H2=>sp (x :: vs) H2 Q E0):AR C m sp t σ Q x H1
def tMt(C:Addr)(m:Str)(sp:Sp)(ta:TE)(t:TA):TE:=λσ H Q=>ta σ H λx H1=>AR C m sp t σ Q x H1
def tMk(C:Addr)(sp:Sp)(t:TA):TE:=λσ H Q=>t σ H λvs H1=>∀x dx,H1 x=none->H1 dx=none->dx≠x ->
 sp (.ref x :: vs) (upd (upd H1 dx (.own x)) x (.ins C dx [])) (λv H2=>v=.non/\Q (.ref x) H2) E0
section
variable{CX:CXT}{f:Addr}{fd:FuncData}{m:Str}{p np apos:Pos}{e o:Expr}{es:List Expr}{ta:TE}{t:TA}
theorem zq{pins:List (Addr×Obj)}{σ:St}{H:Hp}{s:Shared}{Q:VK}{us:List Value}{vs:List V}{E:XK}(F:aH X.prog X.w X.K X.mg X.base CX k f fd ps sp)(hr:bZ k X.A)(hb:Binds X.K fd ps [])(hx:Passes CX X E)
  (I:Inv X pins σ H s)(r:Vals vs us)(h:sp vs H Q E):wpAny (model X.prog X.w) X.A (call (.ref f) us) (EP X pins σ Q) X.xe s :=
 qR (dvs:=[]) (ds:=[]) F hr hb .nil hx I r (by rw[append_nil];exact h)
theorem nt{pl:Sem Bool}(M:bf CX X.prog X.w X.K X.mg X.base k C m ps sp)(hx:Passes CX X E0)(c:Cls X.K C)(hr:bZ k X.A)(he:PE X o ta)(ha:PA X (e :: es) t)
  (hst:starEach (e :: es) X.env=(false,eval e X.env) :: starEach es X.env:=by rfl)(hpl:(backTo pos (starEach es X.env)).any (·.1)=false:=by rfl)
  (ht:eval (.Call (.Attribute o m apos) (e :: es) [] pos) X.env=(do
   let ov ←eval o X.env
   standAt apos.atName
   let (f,first) ←holding [ov] (getMethod ov m pl)
   callWith pos f first (backTo pos (starEach (e :: es) X.env)) (backToKw pos (keywordEach [] X.env))):=by rfl) :
  PE X (.Call (.Attribute o m apos) (e :: es) [] pos) (tMt C m sp ta t):=by
 obtain⟨f,fd,hm,F,hb⟩:=M;intro pins s σ H Q I h;refine W.methodCall_KW (pl:=pl) (thn (he pins s σ H _ I h) λu s1 ⟨x,H1,I1,rx,a,dx,fs,ex,ea,l,q⟩=>?_) ht;subst ex;obtain rfl:u=Value.ref a:=rx;refine kN I1 ea c hm l ?_;refine W.callWith_K (first:=[.ref a]) (h₀:=X.base) I.ok.mod.kin hm.kp (thn (ha pos pins s1 σ H1 _ I1 q) λus s2 ⟨vs,H2,I2,r,q2⟩=>⟨I2.kIn,?_⟩) hst hpl;exact zq (us:=.ref a :: us) (vs:=.ref a :: vs) F hr hb hx I2 (.cons U r) q2
theorem eH{pl:Sem Bool}(M:bX CX X.prog X.w X.K X.mg X.base k x m ps sp)(hx:Passes CX X E0)(hr:bZ k X.A)(hg:Gl X x)(ha:PA X (e :: es) t)(hdb:(x == ("__debug__" : Str))=false:=by decide)
  (hst:starEach (e :: es) X.env=(false,eval e X.env) :: starEach es X.env:=by rfl)(hpl:(backTo pos (starEach es X.env)).any (·.1)=false:=by rfl)
  (ht:eval (.Call (.Attribute (.Name x np) m apos) (e :: es) [] pos) X.env=(do
   let ov ←eval (.Name x np) X.env
   standAt apos.atName
   let (f,first) ←holding [ov] (getMethod ov m pl)
   callWith pos f first (backTo pos (starEach (e :: es) X.env)) (backToKw pos (keywordEach [] X.env))):=by rfl) :
  PE X (.Call (.Attribute (.Name x np) m apos) (e :: es) [] pos) (tFn sp t):=by
 obtain⟨f,fd,B,hB,F,hb,hm⟩:=M;intro pins s σ H Q I h;refine W.methodCall_KW (pl:=pl) (gJ I hg hm ?_ hdb) ht;refine W.method_cls I.kIn hB.sp (W.cls_value (mc:=.type "type") I.kIn hB.rd hB.at_ (m3 (v:=.ref f) U) ?_);refine W.callWith_K (first:=[]) (h₀:=X.base) I.ok.mod.kin hB.kp (thn (ha pos pins _ σ H _ (I.tok _) h) λus s2 ⟨vs,H2,I2,r,q2⟩=>⟨I2.kIn,?_⟩) hst hpl;exact zq (us:=us) (vs:=vs) F hr hb hx I2 r q2
theorem pA(M:bc CX X.prog X.w X.K X.mg X.base k x C ps sp)(hx:Passes CX X E0)(hr:bZ (k+1) X.A)(hg:Gl X x)(ha:PA X (e :: es) t)(hdb:(x == ("__debug__" : Str))=false:=by decide)
  (he:starEach (e :: es) X.env=(false,eval e X.env) :: starEach es X.env:=by rfl)(hpl:(backTo pos (starEach es X.env)).any (·.1)=false:=by rfl) :
  PE X (.Call (.Name x p) (e :: es) [] pos) (tMk C sp t):=by
 obtain⟨f,fd,M,F,hb,hm⟩:=M;have h:=xp (E:=E0) (dvs:=[]) (ds:=[]) (p:=p) M F hr hg hm hb .nil hx ha hdb he hpl;intro pins s σ H Q I q;refine h pins s σ H Q I ?_;have q':t σ H λvs H1=>∀x dx,H1 x=none->H1 dx=none->dx≠x->sp (.ref x :: vs) (upd (upd H1 dx (.own x)) x (.ins C dx [])) (λv H2=>v=.non/\Q (.ref x) H2) E0:=q
 show t σ H λvs H1=>∀x dx,H1 x=none->H1 dx=none->dx≠x->sp (.ref x :: (vs++[])) (upd (upd H1 dx (.own x)) x (.ins C dx [])) (λv H2=>v=.non/\Q (.ref x) H2) E0
 have e1:(λ(vs:List V)(H1:Hp)=>∀x dx,H1 x=none->H1 dx=none->dx≠x->sp (.ref x :: (vs++[])) (upd (upd H1 dx (.own x)) x (.ins C dx [])) (λv H2=>v=.non/\Q (.ref x) H2) E0)=λvs H1=>∀x dx,H1 x=none->H1 dx=none->dx≠x->sp (.ref x :: vs) (upd (upd H1 dx (.own x)) x (.ins C dx [])) (λv H2=>v=.non/\Q (.ref x) H2) E0:=by
  funext vs H1
  rw[append_nil]
 rw[e1];exact q'
end
inductive zr(K:W.Frag)(neg:Bool)(x:V)(y:V)(H:Hp)(Q:VK):Prop
 |mk (a b xs ys:_)(_:x=.ref a)(_:y=.ref b)(_:SqT K H a xs)(_:SqT K H b ys)(f:Nat->Bool)(_:(∀j x y,xs[j]?=some x->ys[j]?=some y->EqI K H x y (f j)))(_:Q (.bl (if neg then !((List.range (min xs.length ys.length)).all f && xs.length == ys.length) else(List.range (min xs.length ys.length)).all f && xs.length == ys.length)) H):zr K neg x y H Q
theorem zt{k:Nat}(hr:bZ k X.A):OpR X (compareOp .Eq) (zr X.K false):=by
 intro pins s σ H x y v u Q I rx ry h;obtain⟨a,b,xs,ys,rfl,rfl,ha,hb,f,hf,q⟩:=h;cases (show v=Value.ref a from rx);cases (show u=Value.ref b from ry);obtain⟨its,r,p,_⟩:=I.tuple ha;obtain⟨its',r',p',_⟩:=I.tuple hb;have l1:=r.length;have l2:=r'.length;have hu:=hr.units;refine SeqAt.eq_tupleAt (e:=f) (show s.heap.IsTuple a its.toArray from p) (show s.heap.IsTuple b its'.toArray from p') (by lia) (zm I (by show X.A.units+1+1<cLine;lia) r r' hf) ⟨.bl _,H,I,U,?_⟩;simp only[size_toArray];rw[←l1,←l2];exact q
theorem aH.no{P:Program}{w:World}{K:W.Frag}{mg:Str->Option Value}{base:Heap}{CX:CXT}{k:Nat}{f:Addr}{fd:FuncData}{ps:List Str}{sp:Sp}(h:∀vs H Q E,¬ sp vs H Q E):aH P w K mg base CX k f fd ps sp :=
 ⟨λvs H Q E q=>(h vs H Q E q).elim,λ_ _ _ H _ _ vs Q E _ _ _ _ q=>(h vs H Q E q).elim⟩
theorem kE{X:Cx}{K:W.Frag}{e:Expr}{f:Str}{pos:Pos}{ta:TE}(h:X.K=K)(he:PE X e ta)(hb:attributeBase e f X.env (eval e X.env)=eval e X.env):PE X (.Attribute e f pos) (AF K ta f):=h ▸ bJ he hb
set_option maxRecDepth 100000
inductive DEq(K:W.Frag)(H:Hp):Nat->V->V->Bool->Prop where
 |flat {n:Nat}{x y:V}(fx:fU x=true)(fy:fU y=true):DEq K H n x y (eqV x y)
 |same {n:Nat}(a:Addr):DEq K H n (.ref a) (.ref a) true
 |lst {n:Nat}{a b:Addr}{xs ys:List V}{f:Nat->Bool}(ne:a≠b)(ha:SqL K H a xs)(hb:SqL K H b ys)(hl:xs.length=ys.length)(h:∀(j:Nat)(x y:V),xs[j]?=some x->ys[j]?=some y->DEq K H n x y (f j)):DEq K H (n+1) (.ref a) (.ref b) ((List.range xs.length).all f)
 |lst_ne {n:Nat}{a b:Addr}{xs ys:List V}(ne:a≠b)(ha:SqL K H a xs)(hb:SqL K H b ys)(hl:xs.length≠ys.length):DEq K H (n+1) (.ref a) (.ref b) false
 |tup {n:Nat}{a b:Addr}{xs ys:List V}{f:Nat->Bool}(ne:a≠b)(ha:SqT K H a xs)(hb:SqT K H b ys)(h:∀(j:Nat)(x y:V),xs[j]?=some x->ys[j]?=some y->DEq K H n x y (f j)):DEq K H (n+1) (.ref a) (.ref b) ((List.range (min xs.length ys.length)).all f && xs.length == ys.length)
theorem DEq.mono{K:W.Frag}{H:Hp}{n m:Nat}{x y:V}{b:Bool}(e:DEq K H n x y b)(h:n<=m):DEq K H m x y b:=by
 induction e generalizing m with
 |flat fx fy=>exact .flat fx fy
 |same a=>exact .same a
 |lst ne ha hb hl _ ih =>
  obtain⟨m,rfl⟩:∃k,m=k+1:=⟨m-1,by lia⟩;exact .lst ne ha hb hl λj x y e1 e2=>ih j x y e1 e2 (by lia)
 |lst_ne ne ha hb hl =>
  obtain⟨m,rfl⟩:∃k,m=k+1:=⟨m-1,by lia⟩;exact .lst_ne ne ha hb hl
 |tup ne ha hb _ ih =>
  obtain⟨m,rfl⟩:∃k,m=k+1:=⟨m-1,by lia⟩;exact .tup ne ha hb λj x y e1 e2=>ih j x y e1 e2 (by lia)
theorem gh{xs:List V}{its:List Value}(r:Vals xs its){j:Nat}(h:j<its.toArray.size):∃x,xs[j]?=some x/\RelV x its.toArray[j]:=by
 have j1:j<its.length:=by simpa using h
 have l1:=r.length;have x1:xs[j]?=some xs[j]:=Fn (by lia);obtain⟨u1,q1,r1⟩:=r.get x1;have eu:its.toArray[j]=u1:=by
  have:=Fn j1;rw[this]at q1;simpa using Option.some.inj q1
 exact⟨xs[j],x1,eu ▸ r1⟩
theorem DEq.at{n:Nat}{x y:V}{b:Bool}(e:DEq X.K H n x y b)(I:Inv X pins σ H s):∀{A:Around}{u v:Value},A.units+n<cLine->RelV x u->RelV y v->SeqAt.EqAt A s u v b:=by
 induction e with
 |flat fx fy=>intro A u v hu rx ry;exact qU rx ry fx fy
 |same a =>
  intro A u v hu rx ry;cases (show u=Value.ref a from rx);cases (show v=Value.ref a from ry);exact SeqAt.EqAt.same _
 | @lst n a b xs ys f ne ha hb hl h ih =>
  intro A u v hu rx ry;cases (show u=Value.ref a from rx);cases (show v=Value.ref b from ry);obtain⟨its,r,p,_⟩:=I.list ha;obtain⟨its',r',p',_⟩:=I.list hb;have l1:=r.length;have l2:=r'.length;have h0:=SeqAt.RcAt.lists (A:=A) (e:=f) p.isList p'.isList (by simp only[size_toArray];lia) (by lia) (λj h1 h2=>by
   obtain⟨x,e1,q1⟩:=gh r h1;obtain⟨y,e2,q2⟩:=gh r' h2;exact ih j x y e1 e2 (by show A.units+1+n<cLine;lia) q1 q2)
  rw[show its.toArray.size=xs.length by simp only[size_toArray];lia]at h0;exact SeqAt.EqAt.of_refs ne h0
 | @lst_ne n a b xs ys ne ha hb hl =>
  intro A u v hu rx ry;cases (show u=Value.ref a from rx);cases (show v=Value.ref b from ry);obtain⟨its,r,p,_⟩:=I.list ha;obtain⟨its',r',p',_⟩:=I.list hb;have l1:=r.length;have l2:=r'.length;exact SeqAt.EqAt.of_refs ne (SeqAt.RcAt.lists_lengths p.isList p'.isList (by simp only[size_toArray,bne_iff_ne,ne_eq];lia) (by lia))
 | @tup n a b xs ys f ne ha hb h ih =>
  intro A u v hu rx ry;cases (show u=Value.ref a from rx);cases (show v=Value.ref b from ry);obtain⟨its,r,p,_⟩:=I.tuple ha;obtain⟨its',r',p',_⟩:=I.tuple hb;have l1:=r.length;have l2:=r'.length;have h0:=SeqAt.RcAt.tuples (A:=A) (e:=f) (show s.heap.IsTuple a its.toArray from p) (show s.heap.IsTuple b its'.toArray from p') (by lia) (λj h1 h2=>by
   obtain⟨x,e1,q1⟩:=gh r h1;obtain⟨y,e2,q2⟩:=gh r' h2;exact ih j x y e1 e2 (by show A.units+1+n<cLine;lia) q1 q2)
  rw[show its.toArray.size=xs.length by simp only[size_toArray];lia,show its'.toArray.size=ys.length by simp only[size_toArray];lia]at h0;exact SeqAt.EqAt.of_refs ne h0
inductive vo(K:W.Frag)(neg:Bool)(x:V)(y:V)(H:Hp)(Q:VK):Prop
 |mk (a b xs ys:_)(_:x=.ref a)(_:y=.ref b)(_:SqL K H a xs)(_:SqL K H b ys)(_:((xs.length≠ys.length/\Q (.bl neg) H)\/(xs.length=ys.length/\∃f:Nat->Bool,(∀(j:Nat)(x y:V),xs[j]?=some x->ys[j]?=some y->DEq K H 60 x y (f j))/\Q (.bl (if neg then !(List.range xs.length).all f else(List.range xs.length).all f)) H))):vo K neg x y H Q
inductive sG(K:W.Frag)(neg:Bool)(x:V)(y:V)(H:Hp)(Q:VK):Prop
 |mk (a b xs ys:_)(_:x=.ref a)(_:y=.ref b)(_:SqT K H a xs)(_:SqT K H b ys)(f:Nat->Bool)(_:(∀(j:Nat)(x y:V),xs[j]?=some x->ys[j]?=some y->DEq K H 60 x y (f j)))(_:Q (.bl (if neg then !((List.range (min xs.length ys.length)).all f && xs.length == ys.length) else(List.range (min xs.length ys.length)).all f && xs.length == ys.length)) H):sG K neg x y H Q
theorem sH{pins:List (Addr×Obj)}{σ:St}{H:Hp}{s:Shared}{A:Around}{xs ys:List V}{its its':List Value}{f:Nat->Bool}(I:Inv X pins σ H s)(hu:A.units+60<cLine)(r:Vals xs its)(r':Vals ys its')
  (hf:∀(j:Nat)(x y:V),xs[j]?=some x->ys[j]?=some y->DEq X.K H 60 x y (f j)):∀j (h1:j<its.toArray.size)(h2:j<its'.toArray.size),SeqAt.EqAt A s its.toArray[j] its'.toArray[j] (f j):=λj h1 h2=>by
 obtain⟨x,e1,q1⟩:=gh r h1;obtain⟨y,e2,q2⟩:=gh r' h2;exact(hf j x y e1 e2).at I hu q1 q2
theorem xx{k:Nat}(hr:bZ k X.A):OpR X (compareOp .Eq) (vo X.K false):=by
 intro pins s σ H x y v u Q I rx ry h;obtain⟨a,b,xs,ys,rfl,rfl,ha,hb,h⟩:=h;cases (show v=Value.ref a from rx);cases (show u=Value.ref b from ry);obtain⟨its,r,p,_⟩:=I.list ha;obtain⟨its',r',p',_⟩:=I.list hb;have l1:=r.length;have l2:=r'.length;have hu:=hr.units;rcases h with⟨hn,q⟩|⟨hl,f,hf,q⟩
 ·refine SeqAt.eq_list_lengthsAt p.isList p'.isList (by simp only[size_toArray,bne_iff_ne,ne_eq];lia) (by lia) ⟨.bl false,H,I,U,q⟩
 ·refine SeqAt.eq_listAt (e:=f) p.isList p'.isList (by simp only[size_toArray];lia) (by lia) (sH I (by show X.A.units+1+60<cLine;lia) r r' hf) ⟨.bl _,H,I,U,?_⟩;rw[show its.toArray.size=xs.length by simp only[size_toArray];lia];exact q
theorem xy{k:Nat}(hr:bZ k X.A):OpR X (compareOp .Eq) (sG X.K false):=by
 intro pins s σ H x y v u Q I rx ry h;obtain⟨a,b,xs,ys,rfl,rfl,ha,hb,f,hf,q⟩:=h;cases (show v=Value.ref a from rx);cases (show u=Value.ref b from ry);obtain⟨its,r,p,_⟩:=I.tuple ha;obtain⟨its',r',p',_⟩:=I.tuple hb;have l1:=r.length;have l2:=r'.length;have hu:=hr.units;refine SeqAt.eq_tupleAt (e:=f) (show s.heap.IsTuple a its.toArray from p) (show s.heap.IsTuple b its'.toArray from p') (by lia) (sH I (by show X.A.units+1+60<cLine;lia) r r' hf) ⟨.bl _,H,I,U,?_⟩;simp only[size_toArray];rw[←l1,←l2];exact q
set_option maxRecDepth 100000
section
variable{tg:Expr}
inductive qX(K:W.Frag)(x:V)(y:V)(H:Hp)(Q:VK):Prop
 |mk (a b xs ys:_)(_:x=.ref a)(_:y=.ref b)(_:SqT K H a xs)(_:SqT K H b ys)(_:xs.length+ys.length<=sizeLine)(_:(xs=[]->Q (.ref b) H))(_:(xs≠[]->ys=[]->Q (.ref a) H))(_:(xs≠[]->ys≠[]->∀p,H p=none->Q (.ref p) (upd H p (.tup (xs++ys))))):qX K x y H Q
theorem vp:OpR X (binaryOp .Add) (qX X.K):=by
 intro pins s σ H x y v u Q I rx ry h;obtain⟨a,b,xs,ys,rfl,rfl,ha,hb,hz,q0,q1,q2⟩:=h;by_cases hx:xs=[]
 ·cases rx;cases ry;obtain⟨its,r1,p1,_⟩:=I.tuple ha;obtain⟨jU,r2,p2,_⟩:=I.tuple hb;have hv:its=[]:=r1.nil_iff.mpr hx;obtain⟨⟨cls,dd,data,sl⟩,ho,hc,n,hd⟩:=id p1;obtain⟨⟨zf,dd2,data2,sl2⟩,ho2,hc2,n2,hd2⟩:=id p2;simp only at hc hd hc2 hd2;subst hc hd hc2 hd2
  exact concat_meets ⟨_,ho,U⟩ ⟨_,ho2,U⟩ noFill_tuple_add seq_tuple_add PySem.F.slot_tuple_add PySem.F.entry_tuple_add (PySem.F.args_tuple_add_2 _ _)
   (tuple_addW0 a b its.toArray jU.toArray n n2 dd dd2 sl sl2 (by simp[hv])) ⟨ho,ho2,⟨.ref b,H,I,U,q0 hx⟩⟩
 ·exact xr pins s σ H (.ref a) (.ref b) v u Q I rx ry ⟨a,b,xs,ys,U,U,ha,hb,hx,hz,q1 hx,q2 hx⟩
end
end L2
namespace HT
open PySem PyProof.Rows
section
open PySem.SeqAt
open PySem.AutoSeq1 (wpAny_loadPart')
open PySem.MeetsSeq PySem.MeetsSeq2 PySem.MeetsSeq3
end
end HT
namespace L2
open PySem PySem.Spec PyProof.Rows
section
variable{X:Cx}
end
end L2
namespace HT
open PySem PyProof.Rows
section
open PySem.SeqAt
open PySem.AutoSeq1 (wpAny_loadPart')
open PySem.MeetsSeq PySem.MeetsSeq2 PySem.MeetsSeq3
end
end HT
namespace L2
open PySem PySem.Spec PyProof.Rows
section
variable{X:Cx}
end
end L2
namespace HT
open PySem PyProof.Rows
section
open PySem.SeqAt
open PySem.AutoSeq1 (wpAny_loadPart')
open PySem.MeetsSeq PySem.MeetsSeq2 PySem.MeetsSeq3
theorem tuple_ge_at(l b:Addr)(items dG:Array Value)(n n2:Nat)(dd dd2:Option Addr)(sl sl2:Array (Option Value))(j:Nat)(x0 y0:Value)(r:Bool)(hx0:items.toList[j]?=some x0)(hy0:dG.toList[j]?=some y0) :
  Meets (Builtin.«tuple.__ge__» ⟨[.ref l,.ref b],[]⟩)
   (λA R s=>s.heap.get? l=some { cls:=.type "tuple",dict:=dd,data:=.seq items n,slots:=sl }/\s.heap.get? b=some { cls:=.type "tuple",dict:=dd2,data:=.seq dG n2,slots:=sl2 } /\
    (∀i x y,i<j->items.toList[i]?=some x->dG.toList[i]?=some y->EqAt A.in1 s x y true)/\EqAt A.in1 s x0 y0 false/\(∀(prog:Program)(w:World)(Q E:Value->Shared->Prop),Q (.bool r) s->wpAny (model prog w) A.in1 (richCompare .GtE x0 y0) Q E s) /\
    R (.ok (.ret (.bool r))) s) :=
 .of_wp λprog w A R s h=>by
  obtain⟨hp,g,d,tk,os⟩:=s;obtain⟨hl,hb,heq,hne,hrc,h⟩:=h;have f2:=AutoSeq1.sub_tuple_tuple
  wp_walk using wpAny_loadPart' hl,wpAny_loadPart' hb,wpAny_forIn_list _ (λrest b s'=>b.1=none/\s'=⟨hp,g,d,tk,os⟩/\∃k,k<=j/\rest=(items.toList.zip dG.toList).drop k) _
  case turn =>
   rintro⟨x,y⟩ rest b s' ⟨hb',rfl,k,hk,hz⟩;have ek:(items.toList.zip dG.toList)[k]?=some (x,y):=by
    have:=congrArg (λl=>l[0]?) hz;simp only[List.getElem?_cons_zero,List.getElem?_drop,Nat.add_zero]at this;exact this.symm
   have vq:rest=(items.toList.zip dG.toList).drop (k+1):=by
    have:=congrArg List.tail hz;rw[List.tail_cons,List.tail_drop]at this;exact this
   rw[getElem?_zip_eq_some]at ek;by_cases hkj:k=j
   ·subst hkj;rw[hx0,hy0]at ek;obtain⟨e1,e2⟩:=ek;cases e1;cases e2;refine wpAny_bind (hne prog w _ _ ?_);have hri:=hrc prog w
    wp_walk using hri
    exact⟨_,rfl,by simpa using h⟩
   ·refine wpAny_bind (heq k x y (by lia) ek.1 ek.2 prog w _ _ ?_)
    wp_walk
    exact⟨rfl,rfl,k+1,by lia,vq⟩
  case fin =>
   rintro⟨b1,b2⟩ s' ⟨hb',rfl,k,hk,hz⟩;have h1:=(Fo.mp hx0).1;have h2:=(Fo.mp hy0).1;have h3:=congrArg List.length hz;rw[length_drop,List.length_zip,length_nil]at h3;lia
  case h =>
   exact⟨rfl,rfl,0,zero_le _,rfl⟩
end
section
variable{prog:Program}{w:World}{A:Around}{E:Value->Shared->Prop}{s:Shared}
theorem ge_tupInts{l b:Addr}{items dG:Array Value}{n m:Int}{ns ms:List Int}{Q:Value->Shared->Prop}(hl:IsTup s.heap l items)(hb:IsTup s.heap b dG)(hi:IntsAre items.toList (n :: ns))(hj:IntsAre dG.toList (m :: ms))(hn:n≠m)
  (hu:A.units<cLine)(h:Q (.bool (decide (m<=n))) s):wpAny (model prog w) A (compareOp .GtE (.ref l) (.ref b)) Q E s:=by
 obtain⟨⟨cls,dd,data,sl⟩,ho,hc,k,hd⟩:=id hl;obtain⟨⟨zf,dd2,data2,sl2⟩,ho2,hc2,k2,hd2⟩:=id hb;simp only at hc hd hc2 hd2;subst hc hd hc2 hd2;obtain⟨t,g1⟩:∃t,items.toList[0]?=some (.int n t):=by
  generalize items.toList=L at hi;cases hi with
  |cons a t _=>exact⟨t,rfl⟩
 obtain⟨u,g2⟩:∃u,dG.toList[0]?=some (.int m u):=by
  generalize dG.toList=L at hj;cases hj with
  |cons a t _=>exact⟨t,rfl⟩
 refine richCompare_meets_room (op:=.GtE) ⟨_,ho,rfl⟩ ⟨_,ho2,rfl⟩ PySem.F.slot_tuple_ge PySem.F.entry_tuple_ge (PySem.F.args_tuple_ge_2 _ _) (tuple_ge_at l b items dG k k2 dd dd2 sl sl2 0 _ _ (decide (m<=n)) g1 g2)
  ⟨ho,ho2,(λi x' y' hi=>absurd hi (not_lt_zero _)),?_,λprog w Q E hQ=>(PyProof.Rows.ge_int hQ:wpAny (model prog w) _ (compareOp .GtE (.int n t) (.int m u)) Q E s),show Value.bool (decide (m<=n))≠Value.notImplemented/\_ from⟨(λx=>nomatch x),h⟩⟩ hu
 obtain⟨e,he,Cy⟩:=uZ A.in1 s n t m u;cases e with
 |true=>exact absurd (Cy.mp rfl) hn
 |false=>exact he
end
end HT
namespace L2
open PySem PySem.Spec PyProof.Rows
variable{X:Cx}
inductive zw(K:W.Frag)(x:V)(y:V)(H:Hp)(Q:VK):Prop
 |mk (a b:Addr)(xs ys:List V)(j:Nat)(t u:Addr)(n m:Int)(ns ms:List Int)(_:x=.ref a)(_:y=.ref b)(_:SqT K H a xs)(_:SqT K H b ys)(_:(∀i x y,i<j->xs[i]?=some x->ys[i]?=some y->DEq K H 60 x y true))(_:xs[j]?=some (.ref t))(_:ys[j]?=some (.ref u))(_:DEq K H 60 (.ref t) (.ref u) false)(_:SqT K H t ((n :: ns).map V.int))(_:SqT K H u ((m :: ms).map V.int))(_:n≠m)(_:Q (.bl (decide (m<=n))) H):zw K x y H Q
theorem zx{k:Nat}(hr:bZ k X.A):OpR X (compareOp .GtE) (zw X.K):=by
 intro pins s σ H x y v u Q I rx ry h;obtain⟨a,b,xs,ys,j,t,t',n0,m0,ns,ms,rfl,rfl,ha,hb,heq,ex,ey,hne,ht,ht',hnm,q⟩:=h;cases rx;cases ry;obtain⟨its,r1,p1,_⟩:=I.tuple ha;obtain⟨jU,r2,p2,_⟩:=I.tuple hb;obtain⟨jts,r3,p3,_⟩:=I.tuple ht;obtain⟨Cz,r4,p4,_⟩:=I.tuple ht';have hu:=hr.units;have i3:IntsAre jts.toArray.toList (n0 :: ns):=intsAre_of r3;have i4:IntsAre Cz.toArray.toList (m0 :: ms):=intsAre_of r4;obtain⟨⟨cls,dd,data,sl⟩,ho,hc,n,hd⟩:=id p1;obtain⟨⟨zf,dd2,data2,sl2⟩,ho2,hc2,n2,hd2⟩:=id p2;simp only at hc hd hc2 hd2;subst hc hd hc2 hd2;obtain⟨u0,g1,w1⟩:=r1.get ex;obtain⟨u1,g2,w2⟩:=r2.get ey;cases (show u0=Value.ref t from w1);cases (show u1=Value.ref t' from w2)
 refine richCompare_meets_room (op:=.GtE) ⟨_,ho,U⟩ ⟨_,ho2,U⟩ PySem.F.slot_tuple_ge PySem.F.entry_tuple_ge (PySem.F.args_tuple_ge_2 _ _) (HT.tuple_ge_at a b its.toArray jU.toArray n n2 dd dd2 sl sl2 j (.ref t) (.ref t') (decide (m0<=n0)) (by simpa using g1) (by simpa using g2))
  ⟨ho,ho2,λi x' y' hi e1 e2=>?_,hne.at I ?_ U U,λprog w Q E hQ=>HT.ge_tupInts p3 p4 i3 i4 hnm ?_ hQ,show Value.bool (decide (m0<=n0))≠Value.notImplemented/\_ from⟨(λx=>nomatch x),⟨.bl (decide (m0<=n0)),H,I,U,q⟩⟩⟩ (by lia)
 ·have h1:=(Fo.mp e1).1;have h2:=(Fo.mp e2).1;obtain⟨z1,q1,q2⟩:=gh r1 (j:=i) (by simpa using h1);obtain⟨z2,q3,q4⟩:=gh r2 (j:=i) (by simpa using h2);have h3:its.toArray[i]'(by simpa using h1)=x':=by
   have:=(Fo.mp e1).2;simpa using this
  have h4:jU.toArray[i]'(by simpa using h2)=y':=by
   have:=(Fo.mp e2).2;simpa using this
  rw[h3]at q2;rw[h4]at q4;refine(heq i z1 z2 hi q1 q3).at I ?_ q2 q4;show _+60<cLine;simp only[Around.in1_units];first|lia|(show X.A.units+1+1+60<cLine;lia)|skip
 ·show _+60<cLine;simp only[Around.in1_units];first|lia|(show X.A.units+1+1+60<cLine;lia)|skip
 ·simp only[Around.in1_units];first|lia|(show X.A.units+1+1<cLine;lia)|skip
variable{prog:Program}{w:World}{A:Around}{E:Value->Shared->Prop}{s:Shared}
section
variable{κ:Type} [DecidableEq κ]
def cntK(ks:List κ):Nat->Nat
 |0=>0
 |i+1=>match ks[i]? with
  |some k=>if k∈ks.take i then cntK ks i else cntK ks i+1
  |none=>cntK ks i
theorem jw(ks:List κ):∀i,cntK ks i<=i
 |0=>le_refl _
 |i+1=>by
  have ih:=jw ks i;unfold cntK;split
  ·split <;> lia
  ·lia
theorem jW(ks:List κ):∀i,i<=ks.length->(cntK ks i=i↔(ks.take i).Nodup)
 |0,_=>by simp[cntK]
 |i+1,h=>by
  have ih:=jW ks i (by lia);have le:=jw ks i;have e:ks[i]?=some ks[i]:=Fn (by lia);have et:ks.take (i+1)=ks.take i++[ks[i]]:=by rw[take_add_one,e];rfl
  unfold cntK;rw[e,et,nodup_append];dsimp only;by_cases m:ks[i]∈ks.take i
  ·rw[if_pos m];exact⟨λz=>absurd z (by lia),λz=>absurd U (z.2.2 _ m _ (by simp))⟩
  ·rw[if_neg m];refine⟨λz=>⟨ih.mp (by lia),by simp,λa ha b hb=>?_⟩,λz=>by rw[ih.mpr z.1]⟩;rw[show b=ks[i] by simpa using hb];exact λq=>m (q ▸ ha)
variable{knd:KeyKind prog w κ}
theorem fH{h h':Heap}{a:Addr}{S:κ->Bool}{n:Nat}(x:h.SetOf knd a S n)(k:∀o,h.get? a=some o->h'.get? a=some o):h'.SetOf knd a S n:=by
 obtain⟨o,es,ep,t,ho,r⟩:=x;exact⟨o,es,ep,t,k o ho,r⟩
theorem kZ{h:Heap}{a:Addr}{S S':κ->Bool}{n n':Nat}(x:h.SetOf knd a S n)(e1:S=S')(e2:n=n'):h.SetOf knd a S' n':=e1 ▸ e2 ▸ x
theorem tQ{R:Result->Shared->Prop}{I:Addr}{fp wr:List Addr}{G:Array GenState->Array GenState->Prop}{n:Nat}{P:Nat->Value->Prop}{St:Nat->Shared->Prop}(W:WalksS prog w A.in1 I fp wr G n P St){a:Addr}(ha:a ∉ fp){ks:List κ}
  (hv:∀i v,P i v->∃k,ks[i]?=some k/\knd.is k v=true/\v.scannable=true)(hb:n+1<scanBound):∀(d i:Nat)(s:Shared),n=i+d->St i s->s.heap.SetOf knd a (λk=>decide (k∈ks.take i)) (cntK ks i) ->
   (∀s',Moved (a :: wr) G s s'->s'.heap.SetOf knd a (λk=>decide (k∈ks.take n)) (cntK ks n)->R (.ok (.ret .none)) s')->codeAny (model prog w) A (.builtin "set.update.loop" ⟨[.ref a,.ref I],[]⟩) R s:=by
 have hw:a ∉ wr:=λz=>ha (W.sub a z)
 intro d;induction d with
 |zero =>
  intro i s e st x fin;rw[show n=i by lia]at W fin;refine codeAny_builtin (R:=R) (A:=A) F.entry_set_update_loop ?_;rw[Around.under_plainId (A:=A) F.plain_set_update_loop _];show wpAny (model prog w) A.in1 (pyNext (.ref I) >>= _) _ _ s;exact wpAny_bind (W.done s _ _ st λs' m=>wpAny_pure (fin s' (m.mono λb hb=>mem_cons_of_mem a hb) (fH x λo q=>m.heap a o hw q)))
 |succ d ih =>
  intro i s e st x fin;refine codeAny_builtin (R:=R) (A:=A) F.entry_set_update_loop ?_;rw[Around.under_plainId (A:=A) F.plain_set_update_loop _];show wpAny (model prog w) A.in1 (pyNext (.ref I) >>= _) _ _ s;refine wpAny_bind (W.item i s _ _ (by lia) st λv s1 p st1 m=>?_);obtain⟨k,ek,ik,sc⟩:=hv i v p;have x1:=fH x λo q=>m.heap a o hw q
  show wpAny (model prog w) A.in1 (holding [v] (setAdd a v) >>= _) _ _ s1;refine wpAny_bind (wpAny_holding (show wpAny (model prog w) A.in1 (setAdd a v) _ _ s1 from ?_));unfold setAdd;refine wpAny_holding (wpAny_bind (knd.pyHash ik ?_));have le:=jw ks i;refine wpAny_setAddHashed_of (knd:=knd) (s:={ s1 with toks:=s1.toks+1 }) ik sc x1 (by lia) λh' sb x2=>?_
  have et:ks.take (i+1)=ks.take i++[k]:=by rw[take_add_one,ek];rfl
  have x3:h'.SetOf knd a (λq=>decide (q∈ks.take (i+1))) (cntK ks (i+1)):=by
   refine kZ x2 (funext λq=>?_) ?_
   ·rw[et];by_cases z:q∈ks.take i <;> by_cases y:q=k <;> simp[z,y]
   ·show(if decide (k∈ks.take i)=true then cntK ks i else cntK ks i+1)=match ks[i]? with|some k=>if k∈ks.take i then cntK ks i else cntK ks i+1|none=>cntK ks i
    rw[ek];by_cases z:k∈ks.take i <;> simp[z]
  refine wpAny_pure ⟨plainId_quiet F.plain_set_update_loop _,ih (i+1) { s1 with heap:=h',toks:=s1.toks+1 } (by lia) (W.frame (i+1) s1 h' (s1.toks+1) st1 (le_succ _) λb hbf o q=>(sb.2 b λz=>ha (z ▸ hbf)).trans q) x3 λs2 m2 x4=>?_⟩;refine fin s2 (Moved.trans W.gtrans ((m.mono λb hb=>mem_cons_of_mem a hb).then_heap (le_succ _) λb o hbn q=>?_) m2) x4;exact(sb.2 b λz=>hbn (z ▸ mem_cons_self)).trans q
abbrev cS(led:Bool):Obj:={ cls:=.type "set",dict:=none,data:=.set #[] 0 (.fresh 0 0 led) }
def Filled(knd:KeyKind prog w κ)(s:Shared)(ks:List κ)(h':Heap):Prop :=
 h'.SetOf knd s.heap.objs.size (λk=>decide (k∈ks)) (cntK ks ks.length)/\∀b o,b<s.heap.objs.size->s.heap.get? b=some o->h'.get? b=some o
theorem vt{l:Addr}{items:Array Value}{ks:List κ}{led:Bool}(hh:A.handled=none)(hl:s.heap.IsList l items)(hk:∀(i:Nat)(v:Value),items[i]?=some v->∃k,ks[i]?=some k/\knd.is k v=true/\v.scannable=true)(hn:ks.length=items.size)(hb:items.size+1<scanBound) :
  codeAny (model prog w) A (.call (.builtin "set.__init__") ⟨[.ref s.heap.objs.size,.ref l],[]⟩) (wants (λr s2=>r=.none/\∃h' tk,s2={ s with heap:=h',toks:=tk }/\Filled knd s ks h') E) { s with heap:=s.heap.push (cS led) }:=by
 have g0:(s.heap.push (cS led)).get? s.heap.objs.size=some (cS led):=Heap.get?_push_size s.heap U;have ty:Shared.TypeIs { s with heap:=s.heap.push (cS led) } (.ref s.heap.objs.size) "set" := ⟨cS led,g0,U⟩;refine codeAny_call_builtin F.called_set.init.plain F.entry_set_init (check_set_init_1 ty ?_);obtain⟨⟨c1,c2,c3,c4⟩,ho,hc,m,hd⟩:=hl;dsimp only at hc hd;subst hc hd;have g1:(s.heap.push (cS led)).get? l=some { cls:=.type "list",dict:=c2,data:=.seq items m,slots:=c4 }:=Heap.get?_push_of_some _ ho;have y1:=F.sub_list_set;have y2:=F.sub_list_frozenset;have y3:(Value.type "list" == Value.type "dict")=false:=by decide
 have l1:(s.heap.push (cS led)).IsList l items:=⟨_,g1,U,m,U⟩;have lt:l<s.heap.objs.size:=Heap.lt_size ho;unfold Builtin.«set.__init__» Builtin.Frozenset.updateFrom noKeywords;generalize hI:pyIter=it
 wp_walk
 subst hI;refine wpAny_pyIter_list l1 (wpAny_bind (wpAny_runValue ?_));have nl:l≠(s.heap.push (cS led)).objs.size:=by rw[Heap.size_push];exact ne_of_lt (lt_succ_of_lt lt)
 have nf:s.heap.objs.size ∉ [(s.heap.push (cS led)).objs.size,l]:=by
  rw[Heap.size_push];intro z;rcases mem_cons.mp z with z|z
  ·exact absurd z (ne_of_lt (lt_succ_self _))
  ·exact absurd (by simpa using z) (ne_of_gt lt)
 refine tQ (knd:=knd) ((Walks.list (by simp[hh]) _ l nl items).toS) nf (ks:=ks) hk hb items.size 0 _ (Nat.zero_add _).symm ⟨⟨_,Heap.get?_push_size _ U,U,U⟩,l1.push _⟩ (kZ ((setObjOf_fresh (knd:=knd) led).setOf (Heap.get?_push_of_some _ g0) (by unfold scanBound;lia)) (funext λk=>by simp) U) λs' mv x=>?_
 obtain⟨h',g',d',t',o'⟩:=s';obtain rfl:g'=s.gens:=mv.gens;obtain rfl:d'=s.drawn:=mv.drawn;obtain rfl:o'=s.os:=mv.os;refine wpAny_pure (show wpAny (model prog w) _ (ret Value.none) _ _ _ from wpAny_pure ⟨U,h',t',U,?_,λb o hb' q=>?_⟩)
 ·rw[←hn]at x;exact kZ x (funext λk=>by rw[take_length]) U
 ·refine mv.heap b o (λz=>?_) (Heap.get?_push_of_some _ (Heap.get?_push_of_some _ q));rcases mem_cons.mp z with z|z
  ·exact absurd z (ne_of_lt hb')
  ·have z2:b=(s.heap.push (cS led)).objs.size:=by simpa using z
   rw[Heap.size_push]at z2;exact absurd z2 (ne_of_lt (lt_succ_of_lt hb'))
set_option maxRecDepth 100000 in
theorem nu{l:Addr}{items:Array Value}{ks:List κ}{Q:Value->Shared->Prop}(hh:A.handled=none)(hl:s.heap.IsList l items)(hk:∀(i:Nat)(v:Value),items[i]?=some v->∃k,ks[i]?=some k/\knd.is k v=true/\v.scannable=true)(hn:ks.length=items.size)(hb:items.size+1<scanBound)
  (h:∀h' tk,Filled knd s ks h'->Q (.ref s.heap.objs.size) { s with heap:=h',toks:=tk }):wpAny (model prog w) A (call (.type "set") [.ref l]) Q E s:=by
 obtain⟨c,tl,mro⟩:=F.called_set.mro;have a1:=F.called_set.made;have a2:=F.called_set.sub;have a3:=F.called_set.notType;have a4:=F.called_set.canCreate;have a5:=F.typeCall_set_1 (.ref l);refine wpAny_call (codeAny_of_tree (show wpAny (model prog w) _ (callAny (.type "set") _) _ _ _ from wpAny_pure ⟨Code.quiet_builtin _ (by decide+kernel),codeAny_builtin F.entry_type_call ?_⟩));rw[Around.under_plain (A:=A) (weight_type_call_type "set" [.ref l] []) U]
 repeat (any_goals (first|assumption|wp_step))
 refine codeAny_mono (code_set_new_1 (.ref l) (E:=E) (Q₁:=λob s1=>∃led,ob=.ref s.heap.objs.size/\s1={ s with heap:=s.heap.push (cS led) }) λled=>⟨led,U,U⟩) λr s1 hr=>?_
 cases r with
 |error e=>exact hr
 |ok fl =>
  cases fl with
  |ret ob =>
   obtain⟨led,rfl,rfl⟩:=hr;have g0:(s.heap.push (cS led)).get? s.heap.objs.size=some (cS led):=Heap.get?_push_size s.heap U;have ty:Shared.TypeIs { s with heap:=s.heap.push (cS led) } (.ref s.heap.objs.size) "set" := ⟨cS led,g0,U⟩;have b1:=F.called_set.init.lookup;have b2:=F.called_set.init.bind (.ref s.heap.objs.size)
   repeat (any_goals (first|assumption|wp_step))
   refine codeAny_mono (vt (E:=E) (knd:=knd) (by simp[hh]) hl hk hn hb) λr2 s2 hr2=>?_
   cases r2 with
   |error e=>exact hr2
   |ok f2 =>
    cases f2 with
    |ret r =>
     obtain⟨rfl,h',tk,rfl,x⟩:=hr2
     repeat (any_goals (first|assumption|wp_step))
     exact h h' tk x
    |_=>exact hr2.elim
  |_=>exact hr.elim
end
def mD(P:Program)(w:World)(a:Addr)(zs:List Str):HO:=.ext λh=>h.SetOf (strKind P w) a (λz=>decide (z∈zs)) (cntK zs zs.length)
theorem nv:∀{zs:List Str}{us:List Value},Vals (zs.map V.str) us->∀(i:Nat)(v:Value),us[i]?=some v->∃z t,zs[i]?=some z/\v=.str z t
 | [],_,.nil,i,v,h=>by simp at h
 |z :: zs,_,.cons ⟨t,e⟩ r,0,v,h=>by simp at h;exact⟨z,t,U,by rw[←h,e]⟩
 |z :: zs,_,.cons _ r,i+1,v,h=>by
  obtain⟨z',t,e1,e2⟩:=nv r i v (by simpa using h);exact⟨z',t,by simpa using e1,e2⟩
theorem iA(hc:X.calm=true):de X (.type "set") (λxs H Q=>∃(p:Addr)(zs:List Str),xs=[.ref p]/\SqL X.K H p (zs.map V.str)/\zs.length<=1000/\∀l,H l=none->Q (.ref l) (upd H l (mD X.prog X.w l zs))):=by
 intro pins s σ H xs us Q I r h;obtain⟨p,zs,rfl,hS,hz,q⟩:=h;obtain⟨u,rfl,ru⟩:=r.one;obtain rfl:u=Value.ref p:=ru;obtain⟨its,rv,pl,_⟩:=I.list hS;have hl:=rv.length;rw[length_map]at hl;refine nu (knd:=strKind X.prog X.w) (ks:=zs) (I.ok.hd hc) pl.isList (λi v e=>?_) (by simpa using hl) (by unfold scanBound;simp;lia) λh' tk x=>?_
 ·obtain⟨z,t,e1,rfl⟩:=nv rv i v (by simpa using e);exact⟨z,e1,by show Value.isStrOf z (.str z t)=true;simp[Value.isStrOf],U⟩
 ·obtain⟨x1,x2⟩:=x;refine⟨.ref s.heap.objs.size,_,I.laid (a:=s.heap.objs.size) (o:=mD X.prog X.w s.heap.objs.size zs) (h':=h') (t':=tk) (λb o q=>x2 b o (Heap.lt_size q) q) (le_refl _) ?_,U,q _ I.fresh⟩;refine⟨x1,?_,λh1 h2 y k=>fH y k⟩;obtain⟨o,_,_,_,g,_⟩:=x1;exact⟨o,g⟩
def Asc(xs:Array Nat):Prop:=xs.toList.Pairwise (· < ·)
theorem Asc.lt{xs:Array Nat}(h:Asc xs){i j:Nat}(hij:i<j)(hj:j<xs.size):xs[i]<xs[j]:=by
 have:=pairwise_iff_getElem.mp h i j (by simp;lia) (by simpa using hj) hij;simpa using this
theorem vw{xs:Array Nat}(h:Asc xs)(j:Nat):∀(fuel lo hi:Nat),lo<=hi->hi<=xs.size->hi-lo<=fuel ->
  (∀(i:Nat)(hi':i<xs.size),i<lo->xs[i]<j)->(∀(i:Nat)(hi':i<xs.size),hi<=i->j<=xs[i]) ->
  SetTable.below.go xs j fuel lo hi<=xs.size/\(∀(i:Nat)(hi':i<xs.size),i<SetTable.below.go xs j fuel lo hi->xs[i]<j)/\(∀(i:Nat)(hi':i<xs.size),SetTable.below.go xs j fuel lo hi<=i->j<=xs[i]):=by
 intro fuel;induction fuel with
 |zero =>
  intro lo hi h1 h2 h3 h4 h5;have e:lo=hi:=by lia
  subst e;exact⟨by unfold SetTable.below.go;exact h2,by unfold SetTable.below.go;exact h4,by unfold SetTable.below.go;exact h5⟩
 |succ fuel ih =>
  intro lo hi h1 h2 h3 h4 h5;unfold SetTable.below.go;by_cases c:lo<hi
  ·rw[if_pos c];have hm:(lo+hi) / 2<xs.size:=by lia
   have eg:xs.getD ((lo+hi) / 2) j=xs[(lo+hi) / 2]:=by simp[Array.getD,hm]
   dsimp only;rw[eg];by_cases c2:xs[(lo+hi) / 2]<j
   ·rw[if_pos c2];refine ih _ _ (by lia) h2 (by lia) (λi hi' hlt=>?_) h5;by_cases e:i=(lo+hi) / 2
    ·subst e;exact c2
    ·exact Nat.lt_trans (h.lt (by lia) hm) c2
   ·rw[if_neg c2];refine ih _ _ (by lia) (by lia) (by lia) h4 λi hi' hle=>?_
    by_cases e:i=(lo+hi) / 2
    ·subst e;lia
    ·exact le_trans (Nat.le_of_not_lt c2) (le_of_lt (h.lt (by lia) hi'))
  ·rw[if_neg c];have e:lo=hi:=by lia
   subst e;exact⟨h2,h4,h5⟩
theorem iJ{xs:Array Nat}(h:Asc xs)(j:Nat):SetTable.below xs j<=xs.size/\(∀(i:Nat)(hi:i<xs.size),i<SetTable.below xs j->xs[i]<j)/\(∀(i:Nat)(hi:i<xs.size),SetTable.below xs j<=i->j<=xs[i]) :=
 vw h j xs.size 0 xs.size (zero_le _) (le_refl _) (by lia) (λ_ _ z=>absurd z (by lia)) (λi hi z=>absurd z (by lia))
theorem qY{xs:Array Nat}(h:Asc xs){i:Nat}(hi:i<xs.size):SetTable.below xs (xs[i]+1)=i+1:=by
 obtain⟨b1,b2,b3⟩:=iJ h (xs[i]+1);have c1:¬ SetTable.below xs (xs[i]+1)<=i:=λz=>absurd (b3 i hi z) (by lia)
 have c2:¬ i+1<SetTable.below xs (xs[i]+1):=λz=>by
  have:=b2 (i+1) (by lia) z;have:=h.lt (show i<i+1 by lia) (show i+1<xs.size by lia);lia
 lia
theorem pB{xs:Array Nat}(h:Asc xs):SetTable.below xs 0=0:=by
 obtain⟨b1,b2,b3⟩:=iJ h 0;by_cases z:SetTable.below xs 0=0
 ·exact z
 ·exact absurd (b2 0 (by lia) (by lia)) (by lia)
theorem qZ{xs:Array Nat}(h:Asc xs){j:Nat}(hn:xs[SetTable.below xs j]?≠some j):Asc (SetTable.insertAt xs (SetTable.below xs j) j):=by
 obtain⟨b1,b2,b3⟩:=iJ h j;unfold Asc;rw[SetTable.toList_insertAt,pairwise_append];refine⟨h.sublist (List.take_sublist _ _),pairwise_cons.mpr ⟨λb hb=>?_,h.sublist (List.drop_sublist _ _)⟩,λa ha b hb=>?_⟩
 ·obtain⟨k,hk,rfl⟩:=List.mem_iff_getElem.mp hb;have hk':SetTable.below xs j+k<xs.size:=by simp at hk;lia
  have z:=b3 _ hk' (by lia);have e:(xs.toList.drop (SetTable.below xs j))[k]=xs[SetTable.below xs j+k]:=by simp
  rw[e];by_cases q:j=xs[SetTable.below xs j+k]
  ·exfalso;by_cases k0:k=0
   ·subst k0;refine hn ?_;rw[getElem?_eq_getElem (by lia)];simpa using q.symm
   ·have l1:=b3 _ (show SetTable.below xs j<xs.size by lia) (le_refl _);have l2:=h.lt (show SetTable.below xs j<SetTable.below xs j+k by lia) hk';lia
  ·lia
 ·have la:a<j:=by
   obtain⟨k,hk,rfl⟩:=List.mem_iff_getElem.mp ha;have hk':k<SetTable.below xs j/\k<xs.size:=by simp at hk;lia
   have:=b2 k hk'.2 hk'.1;simpa using this
  rcases mem_cons.mp hb with rfl|hb
  ·exact la
  ·obtain⟨k,hk,rfl⟩:=List.mem_iff_getElem.mp hb;have hk':SetTable.below xs j+k<xs.size:=by simp at hk;lia
   have z:=b3 _ hk' (by lia);have e:(xs.toList.drop (SetTable.below xs j))[k]=xs[SetTable.below xs j+k]:=by simp
   rw[e];lia
def pC(t:SetTable)(j:Nat):Prop:=t.place[SetTable.below t.place j]?≠some j
theorem lh{t:SetTable}{j:Nat}(h:t.slot j=.empty\/t.slot j=.dummy):pC t j:=by
 intro e;have:t.slot j=.live (SetTable.below t.place j):=by
  unfold SetTable.slot;simp[e]
 rw[this]at h;rcases h with h|h <;> cases h
theorem q8(t:SetTable)(f:Nat->Int)(h:Int):∀(fuel:Nat)(p:SetTable.Probe),(∀d,p.dummy=some d->pC t d)->∀j dm,SetTable.probe.go t f h fuel p=some (.empty j dm)->pC t j/\∀d,dm=some d->pC t d:=by
 intro fuel;induction fuel with
 |zero=>intro p _ j dm e;unfold SetTable.probe.go at e;cases e
 |succ fuel ih =>
  intro p hp j dm e;unfold SetTable.probe.go at e;have adv:∀q:SetTable.Probe,(t.advance q).dummy=q.dummy:=λq=>by
   unfold SetTable.advance;split <;> rfl
  split at e
  ·rename_i he
   injection e with e;injection e with e1 e2;subst e1 e2;exact⟨lh (.inl he),hp⟩
  ·rename_i he
   refine ih _ (λd hd=>?_) j dm e;rw[adv]at hd;injection hd with hd;subst hd;exact lh (.inr he)
  ·split at e
   ·injection e with e;cases e
   ·refine ih _ (λd hd=>hp d ?_) j dm e;rw[adv]at hd;exact hd
theorem mE{t:SetTable}{h:Int}{j:Nat}{b:Bool}(e:t.freeSlot h=some (j,b)):pC t j:=by
 unfold SetTable.freeSlot at e;split at e
 ·rename_i j' dm he
  obtain⟨a1,a2⟩:=q8 t _ h _ _ (λd hd=>by simp[SetTable.probeStart]at hd) _ _ he;injection e with e;injection e with e1 e2;subst e1;cases dm with
  |none=>exact a1
  |some d=>exact a2 d U
 ·cases e
theorem tR(n:Nat):Asc (Array.range n):=by
 unfold Asc;rw[Array.toList_range];exact List.pairwise_lt_range
theorem eI(t:SetTable)(n:Nat):Asc (t.standIn n).place:=tR n
theorem q9{t:SetTable}(ha:Asc t.place)(es:Array (Int×Value))(h:Int)(x:Value):Asc (layNew t es h x).2.1.place/\(layNew t es h x).2.1.led=t.led:=by
 unfold layNew;split
 ·rename_i slot wd e
  have hp:Asc (t.put slot).1.place:=qZ ha (mE e);dsimp only;unfold SetTable.orStandIn;split
  ·exact⟨hp,U⟩
  ·exact⟨eI _ _,U⟩
 ·exact⟨eI _ _,U⟩
theorem pD(f:Nat->Option Nat):∀l:List Nat,((l.filterMap λj=>(f j).map (j,·)).map (·.1)).Sublist l
 | []=>by simp
 |j :: l=>by
  have ih:=pD f l;rw[filterMap_cons];cases e:f j with
  |none=>exact ih.trans (List.sublist_cons_self _ _)
  |some v=>exact ih.cons_cons j
theorem rb{t t':SetTable}{hs:Array Int}{n:Nat}{o:Array Nat}(e:t.relaid hs n=some (t',o)):Asc t'.place/\t'.led=t.led:=by
 unfold SetTable.relaid SetTable.laid at e;cases hc:SetTable.layClean (SetTable.sizeAbove n-1) hs with
 |none=>rw[hc]at e;cases e
 |some owner =>
  rw[hc]at e;injection e with e;injection e with e1 e2;subst e1;exact⟨List.pairwise_lt_range.sublist (pD _ _),U⟩
theorem oy{t:SetTable}(ha:Asc t.place)(es:Array (Int×Value))(n:Nat):Asc (relayAll t es n).2.1.place/\(relayAll t es n).2.1.led=t.led:=by
 unfold relayAll;split
 ·rename_i t' o e
  dsimp only;split
  ·exact rb e
  ·exact⟨eI _ _,U⟩
 ·exact⟨eI _ _,U⟩
theorem eS{α:Type}:∀{l:List α}{i:Nat}{x:α},l[i]?=some x->(x :: l.eraseIdx i).Perm l
 | [],i,x,h=>by simp at h
 |a :: l,0,x,h=>by simp at h;subst h;exact .refl _
 |a :: l,i+1,x,h=>by
  have ih:=eS (l:=l) (i:=i) (x:=x) (by simpa using h);rw[List.eraseIdx_cons_succ];exact(List.Perm.swap _ _ _).trans (ih.cons a)
theorem xA{α:Type}(next:Nat->Nat):∀(fuel k:Nat)(left:List α)(out:Array α),fuel=left.length->∃l:List α,l.Perm left/\(pickOrder.go next fuel k left out).toList=out.toList++l:=by
 intro fuel;induction fuel with
 |zero =>
  intro k left out e;exact⟨left,.refl _,by unfold pickOrder.go;rw[List.length_eq_zero_iff.mp e.symm];simp⟩
 |succ fuel ih =>
  intro k left out e;have hlt:next k%left.length<left.length:=mod_lt _ (by lia);have eg:left[next k%left.length]?=some left[next k%left.length]:=Fn hlt;unfold pickOrder.go;rw[eg];dsimp only;obtain⟨l,p,el⟩:=ih (k+1) (left.eraseIdx (next k%left.length)) (out.push left[next k%left.length]) (by rw[List.length_eraseIdx_of_lt hlt];lia);exact⟨left[next k%left.length] :: l,(p.cons _).trans (eS eg),by rw[el];simp⟩
theorem tS{α:Type}(next:Nat->Nat)(xs:Array α):(pickOrder next xs).toList.Perm xs.toList:=by
 obtain⟨l,p,e⟩:=xA next xs.size 0 xs.toList #[] (by simp);have:(pickOrder next xs).toList=l:=by unfold pickOrder;rw[e];simp
 rw[this];exact p
def du(w:World):Bool:=w.params.followText "set-order"
def jX:Value->Int
 | .int k _=>k
 |_=>0
structure gi(es:Array (Int×Value))(ks:List Int):Prop where
 ent:∀e∈es.toList,e.1=hashInt (jX e.2)/\∃u,e.2=.int (jX e.2) u
 nd:(es.toList.map λe=>jX e.2).Nodup
 mem:∀k,k∈ks↔k∈es.toList.map λe=>jX e.2
theorem gi.perm{es es':Array (Int×Value)}{ks:List Int}(h:gi es ks)(p:es'.toList.Perm es.toList):gi es' ks :=
 ⟨λe he=>h.ent e (p.mem_iff.mp he),(p.map _).nodup_iff.mpr h.nd,λk=>(h.mem k).trans (p.map _).mem_iff.symm⟩
theorem gi.push{es:Array (Int×Value)}{ks:List Int}{k:Int}{u:Tok}(h:gi es ks)(hk:k ∉ ks):gi (es.push (hashInt k,.int k u)) (ks++[k]):=by
 refine⟨λe he=>?_,?_,λq=>?_⟩
 ·rw[toList_push]at he;rcases mem_append.mp he with he|he
  ·exact h.ent e he
  ·rw[mem_singleton]at he;subst he;exact⟨U,u,U⟩
 ·rw[toList_push,map_append,nodup_append];refine⟨h.nd,by simp,λa ha b hb=>?_⟩;have eb:b=k:=by simpa[jX]using hb
  subst eb;exact λe=>hk ((h.mem b).mpr (e ▸ ha))
 ·rw[toList_push,map_append,mem_append,mem_append,h.mem q];simp[jX]
theorem gi.again{es:Array (Int×Value)}{ks:List Int}{k:Int}(h:gi es ks)(hk:k∈ks):gi es (ks++[k]) :=
 ⟨h.ent,h.nd,λq=>by
  rw[←h.mem q,mem_append,mem_singleton];exact⟨λz=>z.elim id λz=>z ▸ hk,.inl⟩⟩
theorem gi.elems{es:Array (Int×Value)}{ks:List Int}(h:gi es ks):ElemsOf (intKind prog w) es.toList:=λe he=>by
 obtain⟨h1,u,h2⟩:=h.ent e he;refine⟨⟨jX e.2,?_,h1⟩,?_⟩
 ·rw[h2];exact intKind_is _ _ _ _
 ·rw[h2];rfl
theorem gi.found{es:Array (Int×Value)}{ks:List Int}(h:gi es ks){k:Int}{e:Int×Value}(he:e∈es.toList)(hk:(intKind prog w).is k e.2=true):k∈ks:=by
 obtain⟨_,u,h2⟩:=h.ent e he;refine(h.mem k).mpr (mem_map.mpr ⟨e,he,?_⟩);exact(intKind prog w).inj e.2 _ _ (by rw[h2];exact intKind_is _ _ _ _) hk
def dq(h:Heap)(a:Addr)(led:Bool)(ks:List Int)(n:Nat):Prop :=
 ∃o es ep t,h.get? a=some o/\o.ExactSet/\o.data=.set es ep t/\gi es ks/\es.size<scanBound/\t.fits es.size=true/\Asc t.place/\t.led=led/\es.size=n
theorem dq.stay{h h':Heap}{a:Addr}{led:Bool}{ks:List Int}{n:Nat}(x:dq h a led ks n)(k:∀o,h.get? a=some o->h'.get? a=some o):dq h' a led ks n:=by
 obtain⟨o,es,ep,t,ho,r⟩:=x;exact⟨o,es,ep,t,k o ho,r⟩
theorem dq.store{h:Heap}{a:Addr}{o:Obj}{es:Array (Int×Value)}{ep:Nat}{t:SetTable}(ho:h.get? a=some o)(hex:o.ExactSet)(hd:o.data=.set es ep t)
  {es':Array (Int×Value)}{t':SetTable}{ks:List Int}(he:gi es' ks)(hb:es'.size<scanBound)(hf:t'.fits es'.size=true)(ha:Asc t'.place) :
  (h.update a (Obj.putSet es' t')).get? a=some { o with data:=.set es' (ep+1) t' }/\dq (h.update a (Obj.putSet es' t')) a t'.led ks es'.size:=by
 have hg:(h.update a (Obj.putSet es' t')).get? a=some { o with data:=.set es' (ep+1) t' }:=by
  have:=Heap.get?_update_self (Obj.putSet es' t') ho (by rw[putSet_of es' t' hd];rfl);rw[putSet_of es' t' hd]at this;exact this
 exact⟨hg,_,es',ep+1,t',hg,hex,U,he,hb,hf,ha,U,U⟩
theorem pE{g:Bool->Sem Unit}(hg:∀(b:Bool)(s₁:Shared)(Q':Unit->Shared->Prop),Q' () s₁->wpAny (model prog w) A (g b) Q' E s₁)
  {a:Addr}{o:Obj}{es:Array (Int×Value)}{ep:Nat}{t:SetTable}(ho:s.heap.get? a=some o)(hex:o.ExactSet)(hd:o.data=.set es ep t)
  {es1:Array (Int×Value)}{t2:SetTable}{ks:List Int}{led:Bool}(he1:gi es1 ks)
  (hb1:es1.size<scanBound)(hf2:t2.fits es1.size=true)(ha2:Asc t2.place)(hl2:t2.led=led){pF:Bool}{R:Option Bool->Shared->Prop}
  (h:∀h',Heap.SameBut a s.heap h'->dq h' a led ks es1.size->R (some true) { s with heap:=h' }) :
  wpAny (model prog w) A (do
    storeSet a es1 t2
    if (!pF && t2.tooFull)=true then do
      g (relayAll t2 es1 (SetTable.grown es1.size)).2.2
      storeSet a (relayAll t2 es1 (SetTable.grown es1.size)).1 (relayAll t2 es1 (SetTable.grown es1.size)).2.1
      pure (some true)
     else pure (some true)) R E s:=by
 refine wpAny_bind (wpAny_storeSet_of ho hd ?_ (fits_of_scanBound hb1));obtain⟨ho1,hS1⟩:=dq.store ho hex hd he1 hb1 hf2 ha2;rw[hl2]at hS1;have AS:=Heap.SameBut.update s.heap a (Obj.putSet es1 t2);split
 ·have hp:=relayAll_perm t2 es1 (SetTable.grown es1.size);have hfr:=relayAll_fits t2 es1 (SetTable.grown es1.size);obtain⟨har,hlr⟩:=oy ha2 es1 (SetTable.grown es1.size);generalize hRl:relayAll t2 es1 (SetTable.grown es1.size)=Rl at hp hfr har hlr⊢;obtain⟨es2,t3,ER⟩:=Rl;dsimp only at hp hfr har hlr⊢;have hsz:es2.size=es1.size:=by rw[←length_toList,hp.length_eq,length_toList]
  have hb2:es2.size<scanBound:=by rw[hsz];exact hb1
  refine wpAny_bind (hg _ _ _ ?_);refine wpAny_bind (wpAny_storeSet_of ho1 U ?_ (fits_of_scanBound hb2));obtain⟨_,hS2⟩:=dq.store ho1 hex U (he1.perm hp) hb2 hfr har;rw[hsz,hlr,hl2]at hS2;exact wpAny_pure (h _ (AS.trans (Heap.SameBut.update _ a _)) hS2)
 ·exact wpAny_pure (h _ AS hS1)
theorem addW{a:Addr}{led:Bool}{ks:List Int}{n:Nat}{k:Int}{u:Tok}{Q:Bool->Shared->Prop}(hS:dq s.heap a led ks n)(yB:n+1<scanBound)
  (h:∀h' n' b,Heap.SameBut a s.heap h'->n'<=n+1->dq h' a led (ks++[k]) n'->Q b { s with heap:=h' }) :
  wpAny (model prog w) A (setAddHashed a (.int k u) ((intKind prog w).hash k)) Q E s:=by
 obtain⟨o,es,ep,t,ho,hex,hd,hE,hb,hf,hA,xB,hn⟩:=hS;have zd:(intKind prog w).is k (.int k u)=true:=intKind_is _ _ _ _;have hsc:(Value.int k u).scannable=true:=rfl;have hel:=hE.elems (prog:=prog) (w:=w);have hb1:es.size+1<scanBound:=by rw[hn];exact yB
 unfold setAddHashed setAddHashedIn;refine wpAny_holding (wpAny_bind (wpAny_setState_of ho hd hf ?_));dsimp only;rw[byScan_of hsc hb hel];simp only[↓reduceIte];unfold setAddByScan;refine wpAny_bind ?_;refine wpAny_bind (wpAny_rule ?_);refine wpAny_bind (wpAny_setScan_of zd ho hd hf hel ?_);cases hr:List.findIdx? (λe=>(intKind prog w).is k e.2) es.toList with
 |some j =>
  dsimp only;obtain⟨hj,hpj,_⟩:=List.findIdx?_eq_some_iff_getElem.mp hr;have hk:k∈ks:=hE.found (getElem_mem hj) hpj;refine wpAny_pure (wpAny_pure ?_);have e:s={ s with heap:=s.heap }:=by cases s;rfl
  rw[e];exact h s.heap n false (Heap.SameBut.refl a s.heap) (le_succ _) ⟨o,es,ep,t,ho,hex,hd,hE.again hk,hb,hf,hA,xB,hn⟩
 |none =>
  dsimp only;have hk:k ∉ ks:=λz=>by
   obtain⟨e,he,q⟩:=mem_map.mp ((hE.mem k).mp z);have:=List.findIdx?_eq_none_iff.mp hr e he;obtain⟨_,v,h2⟩:=hE.ent e he;rw[h2]at this;rw[←q]at this;rw[intKind_is]at this;exact Bool.noConfusion this
  have hgw:∀(b:Bool){s₁:Shared}{Q':Unit->Shared->Prop},Q' () s₁->wpAny (model prog w) A (match b with|true=>rule "set.scan.the-table-gave-way" | false=>pure ()) Q' E s₁ :=
   λb s₁ Q' hq=>by cases b <;> first|exact wpAny_pure hq|exact wpAny_rule hq
  have ny:=layNew_perm t es ((intKind prog w).hash k) (.int k u);have pG:=layNew_fits t es ((intKind prog w).hash k) (.int k u);obtain⟨hA1,hl1⟩:=q9 hA es ((intKind prog w).hash k) (.int k u);generalize hL:layNew t es ((intKind prog w).hash k) (.int k u)=L at ny pG hA1 hl1⊢;obtain⟨es1,t1,pF,E5⟩:=L;dsimp only at ny pG hA1 hl1⊢;have hE1:gi es1 (ks++[k]):=(hE.push (u:=u) hk).perm ny;have CA:es1.size=n+1:=by rw[←length_toList,ny.length_eq,length_toList,Array.size_push,hn]
  have AU:es1.size<scanBound:=by rw[CA];exact yB
  refine wpAny_bind (hgw _ ?_);have rf:∀h',Heap.SameBut a s.heap h'->dq h' a led (ks++[k]) es1.size->Q true { s with heap:=h' }:=λh' hsb hS'=>h h' _ true hsb (by lia) hS'
  split
  ·refine wpAny_bind ?_;rw[hashByValue_scannable 8 hsc];refine wpAny_pure ?_;refine pE ?_ ho hex hd hE1 AU ?_ ?_ (led:=led) ?_ ?_
   ·intro b s₁ Q' hq;cases b <;> first|exact wpAny_pure hq|exact wpAny_rule hq
   ·split
    ·exact pG
    ·exact SetTable.fits_plain_off pG
   ·split
    ·exact hA1
    ·exact hA1
   ·split
    ·exact hl1.trans xB
    ·exact hl1.trans xB
   ·intro h' hsb hS';dsimp only;exact wpAny_pure (rf h' hsb hS')
  ·refine wpAny_bind (wpAny_pure ?_);simp only[↓reduceIte];refine pE ?_ ho hex hd hE1 AU pG hA1 (hl1.trans xB) ?_
   ·intro b s₁ Q' hq;cases b <;> first|exact wpAny_pure hq|exact wpAny_rule hq
   ·intro h' hsb hS';dsimp only;exact wpAny_pure (rf h' hsb hS')
theorem rg(a:Value){Q₁:Value->Shared->Prop}
  (h:Q₁ (.ref s.heap.objs.size) { s with heap:=s.heap.push { cls:=.type "set",dict:=none,data:=.set #[] 0 (.fresh 0 0 (!du w)) } }) :
  codeAny (model prog w) A (.call (.builtin "set.__new__") ⟨[.type "set",a],[]⟩) (wants Q₁ E) s:=by
 refine codeAny_of_tree ?_;show wpAny _ A.in1 (do checkBuiltinCall "set.__new__" ⟨[.type "set",a],[]⟩;again (.builtin "set.__new__" ⟨[.type "set",a],[]⟩)) _ _ s;refine wpAny_bind (wpAny_of_eq (F.newCall_set_1 a) (wpAny_pure ⟨plainId_quiet F.plain_set_new _,codeAny_builtin F.entry_set_new ?_⟩));rw[Around.under_plainId F.plain_set_new _];unfold Builtin.«set.__new__» Builtin.Frozenset.newClass;have pH:=sub_set_self;obtain⟨hp,g,d,tk,os⟩:=s;dsimp only
 wp_walk
 refine wpAny_askSetting (wpAny_pure ?_);dsimp only;simp only[newObj];refine wpAny_bind (wpAny_alloc (wpAny_pure ?_));exact wpAny_pure h
theorem zy{R:Result->Shared->Prop}{I:Addr}{fp wr:List Addr}{G:Array GenState->Array GenState->Prop}{n:Nat}{P:Nat->Value->Prop}{St:Nat->Shared->Prop}(W:WalksS prog w A.in1 I fp wr G n P St){a:Addr}(ha:a ∉ fp){ks:List Int}{led:Bool}
  (hv:∀i v,P i v->∃k u,ks[i]?=some k/\v=.int k u)(hb:n+1<scanBound):∀(d i:Nat)(s:Shared)(m:Nat),n=i+d->m<=i->St i s->dq s.heap a led (ks.take i) m ->
   (∀s' m',Moved (a :: wr) G s s'->dq s'.heap a led (ks.take n) m'->m'<=n->R (.ok (.ret .none)) s')->codeAny (model prog w) A (.builtin "set.update.loop" ⟨[.ref a,.ref I],[]⟩) R s:=by
 have hw:a ∉ wr:=λz=>ha (W.sub a z)
 intro d;induction d with
 |zero =>
  intro i s m e hm st x fin;rw[show n=i by lia]at W fin;refine codeAny_builtin (R:=R) (A:=A) F.entry_set_update_loop ?_;rw[Around.under_plainId (A:=A) F.plain_set_update_loop _];show wpAny (model prog w) A.in1 (pyNext (.ref I) >>= _) _ _ s;exact wpAny_bind (W.done s _ _ st λs' mv=>wpAny_pure (fin s' m (mv.mono λb hb=>mem_cons_of_mem a hb) (x.stay λo q=>mv.heap a o hw q) hm))
 |succ d ih =>
  intro i s m e hm st x fin;refine codeAny_builtin (R:=R) (A:=A) F.entry_set_update_loop ?_;rw[Around.under_plainId (A:=A) F.plain_set_update_loop _];show wpAny (model prog w) A.in1 (pyNext (.ref I) >>= _) _ _ s;refine wpAny_bind (W.item i s _ _ (by lia) st λv s1 p st1 mv=>?_);obtain⟨k,u,ek,rfl⟩:=hv i v p;have x1:=x.stay λo q=>mv.heap a o hw q
  show wpAny (model prog w) A.in1 (holding [.int k u] (setAdd a (.int k u)) >>= _) _ _ s1;refine wpAny_bind (wpAny_holding (show wpAny (model prog w) A.in1 (setAdd a (.int k u)) _ _ s1 from ?_));unfold setAdd;refine wpAny_holding (wpAny_bind ((intKind prog w).pyHash (k:=k) (intKind_is _ _ _ _) ?_));refine addW (s:={ s1 with toks:=s1.toks+1 }) x1 (by lia) λh' n' _ sb hn' x2=>?_
  have et:ks.take (i+1)=ks.take i++[k]:=by rw[take_add_one,ek];rfl
  rw[←et]at x2;refine wpAny_pure ⟨plainId_quiet F.plain_set_update_loop _,ih (i+1) { s1 with heap:=h',toks:=s1.toks+1 } n' (by lia) (by lia) (W.frame (i+1) s1 h' (s1.toks+1) st1 (le_succ _) λb hbf o q=>(sb.2 b λz=>ha (z ▸ hbf)).trans q) x2 λs2 m2 mv2 x4 hm2=>?_⟩;refine fin s2 m2 (Moved.trans W.gtrans ((mv.mono λb hb=>mem_cons_of_mem a hb).then_heap (le_succ _) λb o hbn q=>?_) mv2) x4 hm2;exact(sb.2 b λz=>hbn (z ▸ mem_cons_self)).trans q
theorem zA{l:Addr}{items:Array Value}{ks:List Int}(hh:A.handled=none)(hl:s.heap.IsList l items)(hk:∀(i:Nat)(v:Value),items[i]?=some v->∃k u,ks[i]?=some k/\v=.int k u)(hn:ks.length=items.size)(hb:items.size+1<scanBound) :
  codeAny (model prog w) A (.call (.builtin "set.__init__") ⟨[.ref s.heap.objs.size,.ref l],[]⟩) (wants (λr s2=>r=.none/\∃h' tk m,s2={ s with heap:=h',toks:=tk }/\dq h' s.heap.objs.size (!du w) ks m/\m<=ks.length/\∀b o,b<s.heap.objs.size->s.heap.get? b=some o->h'.get? b=some o) E) { s with heap:=s.heap.push (cS (!du w)) }:=by
 have g0:(s.heap.push (cS (!du w))).get? s.heap.objs.size=some (cS (!du w)):=Heap.get?_push_size s.heap U;have ty:Shared.TypeIs { s with heap:=s.heap.push (cS (!du w)) } (.ref s.heap.objs.size) "set" := ⟨cS (!du w),g0,U⟩;refine codeAny_call_builtin F.called_set.init.plain F.entry_set_init (check_set_init_1 ty ?_);obtain⟨⟨c1,c2,c3,c4⟩,ho,hc,m,hd⟩:=hl;dsimp only at hc hd;subst hc hd;have g1:(s.heap.push (cS (!du w))).get? l=some { cls:=.type "list",dict:=c2,data:=.seq items m,slots:=c4 }:=Heap.get?_push_of_some _ ho;have y1:=F.sub_list_set;have y2:=F.sub_list_frozenset;have y3:(Value.type "list" == Value.type "dict")=false:=by decide
 have l1:(s.heap.push (cS (!du w))).IsList l items:=⟨_,g1,U,m,U⟩;have lt:l<s.heap.objs.size:=Heap.lt_size ho;have s0:dq (s.heap.push (cS (!du w))) s.heap.objs.size (!du w) [] 0:=⟨_,#[],0,_,g0,⟨U,U,U⟩,U,⟨by simp,by simp,by simp⟩,by unfold scanBound;decide,U,List.Pairwise.nil,U,U⟩;unfold Builtin.«set.__init__» Builtin.Frozenset.updateFrom noKeywords;generalize hI:pyIter=it;generalize hB:du w=bt at *
 wp_walk
 subst hI;refine wpAny_pyIter_list l1 (wpAny_bind (wpAny_runValue ?_));have nl:l≠(s.heap.push (cS (!bt))).objs.size:=by rw[Heap.size_push];exact ne_of_lt (lt_succ_of_lt lt)
 have nf:s.heap.objs.size ∉ [(s.heap.push (cS (!bt))).objs.size,l]:=by
  rw[Heap.size_push];intro z;rcases mem_cons.mp z with z|z
  ·exact absurd z (ne_of_lt (lt_succ_self _))
  ·exact absurd (by simpa using z) (ne_of_gt lt)
 refine zy ((Walks.list (by simp[hh]) _ l nl items).toS) nf (ks:=ks) (led:=!bt) hk hb items.size 0 _ 0 (Nat.zero_add _).symm (le_refl _) ⟨⟨_,Heap.get?_push_size _ U,U,U⟩,l1.push _⟩ (s0.stay λo q=>Heap.get?_push_of_some _ q) λs' m' mv x hm'=>?_
 obtain⟨h',g',d',t',o'⟩:=s';obtain rfl:g'=s.gens:=mv.gens;obtain rfl:d'=s.drawn:=mv.drawn;obtain rfl:o'=s.os:=mv.os;refine wpAny_pure (show wpAny (model prog w) _ (ret Value.none) _ _ _ from wpAny_pure ⟨U,h',t',m',U,?_,by lia,λb o hb' q=>?_⟩)
 ·rw[←hn,take_length]at x;exact x
 ·refine mv.heap b o (λz=>?_) (Heap.get?_push_of_some _ (Heap.get?_push_of_some _ q));rcases mem_cons.mp z with z|z
  ·exact absurd z (ne_of_lt hb')
  ·have z2:b=(s.heap.push (cS (!bt))).objs.size:=by simpa using z
   rw[Heap.size_push]at z2;exact absurd z2 (ne_of_lt (lt_succ_of_lt hb'))
set_option maxRecDepth 100000 in
theorem tT{l:Addr}{items:Array Value}{ks:List Int}{Q:Value->Shared->Prop}(hh:A.handled=none)(hl:s.heap.IsList l items)(hk:∀(i:Nat)(v:Value),items[i]?=some v->∃k u,ks[i]?=some k/\v=.int k u)(hn:ks.length=items.size)(hb:items.size+1<scanBound)
  (h:∀h' tk m,dq h' s.heap.objs.size (!du w) ks m->m<=ks.length->(∀b o,b<s.heap.objs.size->s.heap.get? b=some o->h'.get? b=some o)->Q (.ref s.heap.objs.size) { s with heap:=h',toks:=tk }):wpAny (model prog w) A (call (.type "set") [.ref l]) Q E s:=by
 obtain⟨c,tl,mro⟩:=F.called_set.mro;have a1:=F.called_set.made;have a2:=F.called_set.sub;have a3:=F.called_set.notType;have a4:=F.called_set.canCreate;have a5:=F.typeCall_set_1 (.ref l);refine wpAny_call (codeAny_of_tree (show wpAny (model prog w) _ (callAny (.type "set") _) _ _ _ from wpAny_pure ⟨Code.quiet_builtin _ (by decide+kernel),codeAny_builtin F.entry_type_call ?_⟩));rw[Around.under_plain (A:=A) (weight_type_call_type "set" [.ref l] []) U]
 repeat (any_goals (first|assumption|wp_step))
 refine codeAny_mono (rg (.ref l) (E:=E) (Q₁:=λob s1=>ob=.ref s.heap.objs.size/\s1={ s with heap:=s.heap.push (cS (!du w)) }) ⟨U,U⟩) λr s1 hr=>?_
 cases r with
 |error e=>exact hr
 |ok fl =>
  cases fl with
  |ret ob =>
   obtain⟨rfl,rfl⟩:=hr;have g0:(s.heap.push (cS (!du w))).get? s.heap.objs.size=some (cS (!du w)):=Heap.get?_push_size s.heap U;have ty:Shared.TypeIs { s with heap:=s.heap.push (cS (!du w)) } (.ref s.heap.objs.size) "set" := ⟨cS (!du w),g0,U⟩;have b1:=F.called_set.init.lookup;have b2:=F.called_set.init.bind (.ref s.heap.objs.size)
   repeat (any_goals (first|assumption|wp_step))
   refine codeAny_mono (zA (E:=E) (by simp[hh]) hl hk hn hb) λr2 s2 hr2=>?_
   cases r2 with
   |error e=>exact hr2
   |ok f2 =>
    cases f2 with
    |ret r =>
     obtain⟨rfl,h',tk,m,rfl,x,hm,kp⟩:=hr2
     repeat (any_goals (first|assumption|wp_step))
     exact h h' tk m x hm kp
    |_=>exact hr2.elim
  |_=>exact hr.elim
set_option maxRecDepth 100000
theorem aS:Slot "set_iterator" "__next__" "set_iterator.__next__" :=
 .of (owner := "set_iterator") (n := "__next__") (by rw[typeLookup_type,builtinLookup_eq_fast];kernel_rfl) (by decide+kernel) (by decide+kernel) (by decide+kernel)
  (by first|exact .inl (by decide+kernel)|exact .inr (by decide+kernel)) (by rw[isSubtype_type];kernel_rfl)
theorem fV:Slot "set_iterator" "__iter__" "set_iterator.__iter__" :=
 .of (owner := "set_iterator") (n := "__iter__") (by rw[typeLookup_type,builtinLookup_eq_fast];kernel_rfl) (by decide+kernel) (by decide+kernel) (by decide+kernel)
  (by first|exact .inl (by decide+kernel)|exact .inr (by decide+kernel)) (by rw[isSubtype_type];kernel_rfl)
theorem cG:entryFor table "set_iterator.__next__" = some Builtin.«set_iterator.__next__»:=entryFor_of_fast (by kernel_rfl)
theorem jY:entryFor table "set_iterator.__iter__" = some Builtin.«dict_keyiterator.__iter__» :=
 entryFor_alias (id' := "dict_keyiterator.__iter__") (by kernel_rfl) U (by decide+kernel) (by kernel_rfl)
theorem lj:entryFor table "set.__iter__" = some Builtin.«frozenset.__iter__» :=
 entryFor_alias (id' := "frozenset.__iter__") (by kernel_rfl) U (by decide+kernel) (by kernel_rfl)
theorem cR(a:Value):argsOk "set_iterator.__next__" ⟨[a],[]⟩:=by unfold argsOk;kernel_rfl
theorem kv(a:Value):argsOk "set_iterator.__iter__" ⟨[a],[]⟩:=by unfold argsOk;kernel_rfl
abbrev dQ(first:Value)(i:Int)(s:Value)(n ep:Nat):Obj:={ cls:=.type "set_iterator",data:=.fields #[first,.int i 0,s,.int n 0,.int ep 0] }
theorem oz{src:Source}{n:Nat}{Q:Nat->Shared->Prop}(hn:n≠0)(h:Q (w.draws src (s.drawn.get src)%n) { s with drawn:=s.drawn.bump src }) :
  wpAny (model prog w) A (choose src n) Q E s:=λ_ _ _=>⟨hn,h⟩
theorem ll{α:Type}:∀(n:Nat)(xs:List α)(s:Shared){Q:List α->Shared->Prop},n=xs.length->(∀ys d,ys.Perm xs->Q ys { s with drawn:=d })->wpAny (model prog w) A (drawOrder n xs) Q E s:=by
 intro n;induction n with
 |zero =>
  intro xs s Q e h;have:xs=[]:=List.length_eq_zero_iff.mp e.symm;subst this;unfold drawOrder;exact wpAny_pure (h [] s.drawn (.refl _))
 |succ n ih =>
  intro xs s Q e h;cases xs with
  |nil=>simp at e
  |cons x r =>
   unfold drawOrder;refine wpAny_bind (oz (by simp) ?_);generalize hi:w.draws Source.order (s.drawn.get Source.order)%(x :: r).length=i;have hlt:i<(x :: r).length:=by rw[←hi];exact mod_lt _ (by simp)
   have eg:(x :: r)[i]?=some (x :: r)[i]:=Fn hlt;rw[eg]
   try dsimp only
   refine wpAny_bind (ih _ _ (by rw[List.length_eraseIdx_of_lt hlt];lia) λys d p=>wpAny_pure ?_);exact h _ d ((p.cons _).trans (eS eg))
theorem tU{I a:Addr}{slot i:Nat}{o:Obj}{es:Array (Int×Value)}{ep:Nat}{t:SetTable}{Q:Option Value->Shared->Prop}
  (hI:s.heap.get? I=some (dQ (.int slot 0) i (.ref a) es.size ep))(ho:s.heap.get? a=some o)(hd:o.data=.set es ep t)(hf:t.fits es.size=true)
  {x:Value}{nx:Nat}(hN:∀(Q':Option (Value×Nat)->Shared->Prop) E',Q' (some (x,nx)) s->wpAny (model prog w) A.in1 (setNext a slot i ep) Q' E' s)
  (hQ:∀h',h'.get? I=some (dQ (.int nx 0) ((i+1:Nat):Int) (.ref a) es.size ep)->Heap.SameBut I s.heap h'->Q (some x) { s with heap:=h' }) :
  wpAny (model prog w) A (pyNext (.ref I)) Q E s:=by
 have hT:s.TypeIs (.ref I) "set_iterator" := ⟨_,hI,U⟩;unfold pyNext;refine wpAny_bind (wpAny_attempt (wpAny_callSpecial?_slot (name:=Str.ofString "__next__") hT aS (wpAny_call_entry aS hT cG ?_ (cR _))));unfold Builtin.«set_iterator.__next__»;refine wpAny_bind (m:=slotArgs "__next__" 0 _) (wpAny_pure ?_);refine wpAny_bind (wpAny_fieldsOf hI U ?_)
 try dsimp only
 refine wpAny_bind (wpAny_setEntries_of ho hd hf ?_);rw[if_neg (by simp)]
 try dsimp only
 simp only[toNat_natCast];refine wpAny_bind (hN _ _ ?_)
 try dsimp only
 refine wpAny_bind (wpAny_setField_rec hI (by simp) λh1 g1 sb1=>?_);refine wpAny_bind (wpAny_setField_rec (s:={ s with heap:=h1 }) g1 (by simp) λh2 g2 sb2=>?_);refine wpAny_pure ⟨x,U,wpAny_pure (hQ h2 ?_ (sb1.trans sb2))⟩;rw[g2];simp[dQ,rawInt]
theorem tV{I a:Addr}{slot i:Nat}{o:Obj}{es:Array (Int×Value)}{ep:Nat}{t:SetTable}{Q:Option Value->Shared->Prop}(hh:A.handled=none)
  (hI:s.heap.get? I=some (dQ (.int slot 0) i (.ref a) es.size ep))(ho:s.heap.get? a=some o)(hd:o.data=.set es ep t)(hf:t.fits es.size=true)
  (hN:∀(Q':Option (Value×Nat)->Shared->Prop) E',Q' none s->wpAny (model prog w) A.in1 (setNext a slot i ep) Q' E' s)
  (hQ:∀h',Heap.ExtBut I s.heap h'->Q none { s with heap:=h' }) :
  wpAny (model prog w) A (pyNext (.ref I)) Q E s:=by
 have hT:s.TypeIs (.ref I) "set_iterator" := ⟨_,hI,U⟩;unfold pyNext;refine wpAny_bind (wpAny_attempt (wpAny_callSpecial?_slot (name:=Str.ofString "__next__") hT aS (wpAny_call_entry aS hT cG ?_ (cR _))));unfold Builtin.«set_iterator.__next__»;refine wpAny_bind (m:=slotArgs "__next__" 0 _) (wpAny_pure ?_);refine wpAny_bind (wpAny_fieldsOf hI U ?_)
 try dsimp only
 refine wpAny_bind (wpAny_setEntries_of ho hd hf ?_);rw[if_neg (by simp)]
 try dsimp only
 simp only[toNat_natCast];refine wpAny_bind (hN _ _ ?_)
 try dsimp only
 refine wpAny_bind (wpAny_setField hI U (by simp) ?_);show wpAny _ _ (newExc (.type "StopIteration") [] >>= _) _ _ _;refine wpAny_bind ?_;simp only[newExc,newTuple];refine wpAny_bind (wpAny_newObj_type ?_ (by size_fits));refine wpAny_bind (m:=firstArgMember _ _) (wpAny_of_eq (a:=Value.none) (by first|rfl|(simp only[firstArgMember];rfl)) ?_);refine wpAny_newObj_type ?_ (by size_fits);simp only[raiseNew];refine wpAny_bind (wpAny_handled ?_);rw[show A.in1.handled=none from hh];refine wpAny_bind (wpAny_pure (wpAny_throw ?_));refine wpAny_bind (wpAny_isInstance (T := "StopIteration") (b:=true) ⟨_,Heap.get?_push_size _ U,U⟩ isSubtype_stop ?_);exact wpAny_pure (hQ _ (((Heap.SameBut.update ..).extBut.push _).push _))
theorem rh{I a tp:Addr}{i:Nat}{o:Obj}{es:Array (Int×Value)}{ep:Nat}{t:SetTable}{places:List Nat}{m:Nat}{to:Obj}{Q:Option Value->Shared->Prop}
  (hI:s.heap.get? I=some (dQ (.ref tp) i (.ref a) es.size ep))(ht:s.heap.get? tp=some to)(htd:to.data=.seq (places.map λ(p:Nat)=>rawInt p).toArray m)(ho:s.heap.get? a=some o)(hd:o.data=.set es ep t)(hf:t.fits es.size=true)
  {p:Nat}(hp:places[i]?=some p){e:Int×Value}(he:es[p]?=some e)
  (hQ:∀h',h'.get? I=some (dQ (.ref tp) ((i+1:Nat):Int) (.ref a) es.size ep)->Heap.SameBut I s.heap h'->Q (some e.2) { s with heap:=h' }) :
  wpAny (model prog w) A (pyNext (.ref I)) Q E s:=by
 have hT:s.TypeIs (.ref I) "set_iterator" := ⟨_,hI,U⟩;unfold pyNext;refine wpAny_bind (wpAny_attempt (wpAny_callSpecial?_slot (name:=Str.ofString "__next__") hT aS (wpAny_call_entry aS hT cG ?_ (cR _))));unfold Builtin.«set_iterator.__next__»;refine wpAny_bind (m:=slotArgs "__next__" 0 _) (wpAny_pure ?_);refine wpAny_bind (wpAny_fieldsOf hI U ?_)
 try dsimp only
 refine wpAny_bind (wpAny_setEntries_of ho hd hf ?_);rw[if_neg (by simp)]
 try dsimp only
 refine wpAny_bind (wpAny_seqItems ht htd ?_)
 try dsimp only
 have eg:(places.map λ(p:Nat)=>rawInt p).toArray[(i:Int).toNat]?=some (.int p 0):=by simp[hp,rawInt]
 rw[eg]
 try dsimp only
 unfold setNextDrawn;refine wpAny_bind (wpAny_bind (wpAny_setState_of ho hd hf ?_))
 try dsimp only
 rw[if_neg (by simp)];refine wpAny_bind (wpAny_pure ?_);simp only[toNat_natCast,he];refine wpAny_pure ?_;refine wpAny_bind (wpAny_setField_rec hI (by simp) λh1 g1 sb1=>?_);refine wpAny_pure ⟨e.2,U,wpAny_pure (hQ h1 ?_ sb1)⟩;rw[g1];simp[dQ,rawInt]
theorem lr{I a tp:Addr}{i:Nat}{o:Obj}{es:Array (Int×Value)}{ep:Nat}{t:SetTable}{places:List Nat}{m:Nat}{to:Obj}{Q:Option Value->Shared->Prop}(hh:A.handled=none)
  (hI:s.heap.get? I=some (dQ (.ref tp) i (.ref a) es.size ep))(ht:s.heap.get? tp=some to)(htd:to.data=.seq (places.map λ(p:Nat)=>rawInt p).toArray m)(ho:s.heap.get? a=some o)(hd:o.data=.set es ep t)(hf:t.fits es.size=true)
  (hp:places[i]?=none)(hQ:∀h',Heap.ExtBut I s.heap h'->Q none { s with heap:=h' }) :
  wpAny (model prog w) A (pyNext (.ref I)) Q E s:=by
 have hT:s.TypeIs (.ref I) "set_iterator" := ⟨_,hI,U⟩;unfold pyNext;refine wpAny_bind (wpAny_attempt (wpAny_callSpecial?_slot (name:=Str.ofString "__next__") hT aS (wpAny_call_entry aS hT cG ?_ (cR _))));unfold Builtin.«set_iterator.__next__»;refine wpAny_bind (m:=slotArgs "__next__" 0 _) (wpAny_pure ?_);refine wpAny_bind (wpAny_fieldsOf hI U ?_)
 try dsimp only
 refine wpAny_bind (wpAny_setEntries_of ho hd hf ?_);rw[if_neg (by simp)]
 try dsimp only
 refine wpAny_bind (wpAny_seqItems ht htd ?_)
 try dsimp only
 have eg:(places.map λ(p:Nat)=>rawInt p).toArray[(i:Int).toNat]?=none:=by simp at hp⊢;exact hp
 rw[eg]
 try dsimp only
 refine wpAny_bind (wpAny_setField_rec hI (by simp) λh1 g1 sb1=>?_);refine wpAny_bind (wpAny_setField (s:={ s with heap:=h1 }) g1 U (by simp) ?_);show wpAny _ _ (newExc (.type "StopIteration") [] >>= _) _ _ _;refine wpAny_bind ?_;simp only[newExc,newTuple];refine wpAny_bind (wpAny_newObj_type ?_ (by size_fits));refine wpAny_bind (m:=firstArgMember _ _) (wpAny_of_eq (a:=Value.none) (by first|rfl|(simp only[firstArgMember];rfl)) ?_);refine wpAny_newObj_type ?_ (by size_fits);simp only[raiseNew];refine wpAny_bind (wpAny_handled ?_);rw[show A.in1.handled=none from hh];refine wpAny_bind (wpAny_pure (wpAny_throw ?_));refine wpAny_bind (wpAny_isInstance (T := "StopIteration") (b:=true) ⟨_,Heap.get?_push_size _ U,U⟩ isSubtype_stop ?_);exact wpAny_pure (hQ _ (((sb1.trans (Heap.SameBut.update ..)).extBut.push _).push _))
theorem lu{I:Addr}{first:Value}{i:Int}{v:Value}{n ep:Nat}{Q:Value->Shared->Prop}(hI:s.heap.get? I=some (dQ first i v n ep))(h:Q (.ref I) s):wpAny (model prog w) A (pyIter (.ref I)) Q E s:=by
 have hT:s.TypeIs (.ref I) "set_iterator" := ⟨_,hI,U⟩;refine wpAny_pyIter_slot hT fV (wpAny_call_entry fV hT jY ?_ (kv _));show wpAny _ _ (ret (.ref I)) _ _ s;exact wpAny_pure ⟨_,U,"set_iterator",_,hT,aS.lookup,h⟩
theorem jx{a:Addr}{o:Obj}{es:Array (Int×Value)}{ep:Nat}{t:SetTable}{slot i:Nat}(hb:du w=true)(ho:s.heap.get? a=some o)(hd:o.data=.set es ep t)(hf:t.fits es.size=true)
  {Q:Option (Value×Nat)->Shared->Prop}(h:Q (((pickOrder (w.params.setOrder a ep) es)[i]?).map λe=>(e.2,slot)) s):wpAny (model prog w) A (setNext a slot i ep) Q E s:=by
 have hb':((Setting.mk prog w.params).params.followText "set-order")=true:=hb;unfold setNext;refine wpAny_bind (wpAny_setState_of ho hd hf ?_)
 try dsimp only
 unfold setsByText;refine wpAny_bind (wpAny_bind (wpAny_askSetting (wpAny_pure ?_)));show wpAny _ _ (if (Setting.mk prog w.params).params.followText "set-order" = true then _ else _) _ _ _;rw[if_pos hb',if_neg (by simp)];unfold setWalk;refine wpAny_bind (wpAny_bind (wpAny_setState_of ho hd hf ?_))
 try dsimp only
 unfold setsByText;refine wpAny_bind (wpAny_bind (wpAny_askSetting (wpAny_pure ?_)));show wpAny _ _ (if (Setting.mk prog w.params).params.followText "set-order" = true then _ else _) _ _ _;rw[if_pos hb'];refine wpAny_bind (wpAny_askSetting (wpAny_pure (wpAny_pure h)))
theorem iB{a:Addr}{o:Obj}{es:Array (Int×Value)}{ep:Nat}{t:SetTable}{slot i:Nat}(hb:du w=false)(ho:s.heap.get? a=some o)(hd:o.data=.set es ep t)(hf:t.fits es.size=true)(hl:t.led=true)(hp:(!t.plain && decide (es.size>1))=false)
  {Q:Option (Value×Nat)->Shared->Prop}(h:Q (match es[SetTable.below t.place slot]?,t.place[SetTable.below t.place slot]? with|some (_,x),some j=>some (x,j+1)|_,_=>none) s):wpAny (model prog w) A (setNext a slot i ep) Q E s:=by
 have hb':((Setting.mk prog w.params).params.followText "set-order")=false:=hb;unfold setNext;refine wpAny_bind (wpAny_setState_of ho hd hf ?_)
 try dsimp only
 unfold setsByText;refine wpAny_bind (wpAny_bind (wpAny_askSetting (wpAny_pure ?_)));show wpAny _ _ (if (Setting.mk prog w.params).params.followText "set-order" = true then _ else _) _ _ _;rw[if_neg (by rw[hb'];exact Bool.false_ne_true)];show wpAny _ _ (if (!t.plain && decide (es.size>1))=true then _ else _) _ _ _;rw[if_neg (by rw[hp];exact Bool.false_ne_true)];show wpAny _ _ ((if (!t.led && !es.isEmpty)=true then unsupported "set:maker-not-led" else pure ()) >>= _) _ _ _;rw[hl,if_neg (by simp)];exact wpAny_bind (wpAny_pure (wpAny_pure h))
set_option maxRecDepth 100000
abbrev pI:Array GenState->Array GenState->Prop:=λg g'=>g'=g
theorem nA{I:Addr}{h':Heap}(sb:Heap.SameBut I s.heap h'):Moved [I] pI s { s with heap:=h' } :=
 ⟨λb o hb e=>(sb.2 b λz=>hb (z ▸ mem_cons_self)).trans e,U,U,U,le_refl _⟩
theorem nB{I:Addr}{h':Heap}(sb:Heap.ExtBut I s.heap h'):Moved [I] pI s { s with heap:=h' } :=
 ⟨λb o hb e=>sb b o (λz=>hb (z ▸ mem_cons_self)) e,U,U,U,le_refl _⟩
theorem ly(hh:A.handled=none){I a:Addr}(hne:a≠I){o:Obj}{es:Array (Int×Value)}{ep:Nat}{t:SetTable}(hd:o.data=.set es ep t)(hf:t.fits es.size=true){ord:List Value}(hlen:ord.length=es.size)(sl:Nat->Nat)
  (hN:∀(i:Nat)(x:Value)(s:Shared)(Q':Option (Value×Nat)->Shared->Prop) E',s.heap.get? a=some o->ord[i]?=some x->Q' (some (x,sl (i+1))) s->wpAny (model prog w) A.in1 (setNext a (sl i) i ep) Q' E' s)
  (hE:∀(s:Shared)(Q':Option (Value×Nat)->Shared->Prop) E',s.heap.get? a=some o->Q' none s->wpAny (model prog w) A.in1 (setNext a (sl es.size) es.size ep) Q' E' s) :
  WalksS prog w A I [I,a] [I] pI es.size (λi v=>ord[i]?=some v) (λi s=>s.heap.get? I=some (dQ (.int (sl i) 0) i (.ref a) es.size ep)/\s.heap.get? a=some o) where
 sub:=λb hb=>by simp at hb;simp[hb]
 grefl:=λ_=>U
 gtrans:=λ_ _ _ h1 h2=>h2.trans h1
 frame:=λi s h' tk st _ k=>⟨k I (by simp) _ st.1,k a (by simp) _ st.2⟩
 item:=λi s Q E hi st hQ=>by
  have ex:ord[i]?=some ord[i]:=Fn (by lia);refine tU st.1 st.2 hd hf (x:=ord[i]) (nx:=sl (i+1)) (λQ' E' q=>hN i _ s Q' E' st.2 ex q) λh' g sb=>?_
  exact hQ _ _ ex ⟨g,(sb.2 a hne).trans st.2⟩ (nA sb)
 done:=λs Q E st hQ=>tV hh st.1 st.2 hd hf (λQ' E' q=>hE s Q' E' st.2 q) λh' eb=>hQ _ (nB eb)
 self:=λi s Q E st hQ=>lu st.1 hQ
theorem pJ(hh:A.handled=none){I a tp:Addr}(hne:a≠I)(hnt:tp≠I){o to:Obj}{es:Array (Int×Value)}{ep m:Nat}{t:SetTable}(hd:o.data=.set es ep t)(hf:t.fits es.size=true){places:List Nat}(htd:to.data=.seq (places.map λ(p:Nat)=>rawInt p).toArray m)
  (hpl:places.length=es.size){ord:List Value}(CB:∀(i:Nat),i<es.size->∃p e,places[i]?=some p/\es[p]?=some e/\ord[i]?=some e.2) :
  WalksS prog w A I [I,a,tp] [I] pI es.size (λi v=>ord[i]?=some v) (λi s=>s.heap.get? I=some (dQ (.ref tp) i (.ref a) es.size ep)/\s.heap.get? a=some o/\s.heap.get? tp=some to) where
 sub:=λb hb=>by simp at hb;simp[hb]
 grefl:=λ_=>U
 gtrans:=λ_ _ _ h1 h2=>h2.trans h1
 frame:=λi s h' tk st _ k=>⟨k I (by simp) _ st.1,k a (by simp) _ st.2.1,k tp (by simp) _ st.2.2⟩
 item:=λi s Q E hi st hQ=>by
  obtain⟨p,e,h1,h2,h3⟩:=CB i hi;refine rh st.1 st.2.2 htd st.2.1 hd hf h1 h2 λh' g sb=>?_
  exact hQ _ _ h3 ⟨g,(sb.2 a hne).trans st.2.1,(sb.2 tp hnt).trans st.2.2⟩ (nA sb)
 done:=λs Q E st hQ=>lr hh st.1 st.2.2 htd st.2.1 hd hf (getElem?_eq_none (by lia)) λh' eb=>hQ _ (nB eb)
 self:=λi s Q E st hQ=>lu st.1 hQ
theorem vx{a:Addr}{o:Obj}{es:Array (Int×Value)}{ep:Nat}{t:SetTable}{Q:Value->Shared->Prop}(ho:s.heap.get? a=some o)(hex:o.ExactSet)(hd:o.data=.set es ep t)(hb:es.size<scanBound)(hf:t.fits es.size=true)(ha:Asc t.place)(hl:t.led = !du w)
  (h:∀(I:Addr)(h':Heap)(d:Drawn)(ord:List Value)(fp:List Addr)(St:Nat->Shared->Prop),(∀b u,s.heap.get? b=some u->h'.get? b=some u)->ord.Perm (es.toList.map (·.2)) ->
   (∀A':Around,A'.handled=none->WalksS prog w A' I fp [I] pI es.size (λi v=>ord[i]?=some v) St)->St 0 { s with heap:=h',drawn:=d }->s.heap.objs.size<=I->(∀b∈fp,b=a\/s.heap.objs.size<=b)->Q (.ref I) { s with heap:=h',drawn:=d }) :
  wpAny (model prog w) A (pyIter (.ref a)) Q E s:=by
 have hT:s.TypeIs (.ref a) "set" := ⟨o,ho,hex.1⟩;have la:a<s.heap.objs.size:=Heap.lt_size ho;refine wpAny_pyIter_slot hT F.slot_set_iter (wpAny_call_entry F.slot_set_iter hT lj ?_ (F.args_set_iter_1 _));unfold Builtin.«frozenset.__iter__» Builtin.Frozenset.slot0;refine wpAny_bind (wpAny_bind (m:=slotArgs "__iter__" 0 _) (wpAny_pure ?_));unfold Builtin.Frozenset.addrOf;refine wpAny_pure ?_;unfold Builtin.Frozenset.sizeOf;refine wpAny_bind (wpAny_bind (wpAny_setEntries_of ho hd hf (wpAny_pure ?_)));unfold setDrawn;refine wpAny_bind (wpAny_bind (wpAny_setState_of ho hd hf ?_))
 try dsimp only
 unfold setsByText;refine wpAny_bind (wpAny_bind (wpAny_askSetting (wpAny_pure ?_)));refine wpAny_pure ?_;show wpAny _ _ (if (!du w && (!t.plain && decide (es.size>1)))=true then _ else _) _ _ _;have hsz:es.toList.length=es.size:=length_toList;by_cases c:(!du w && (!t.plain && decide (es.size>1)))=true
 ·rw[if_pos c];refine wpAny_bind (ll es.size (List.range es.size) s (by simp) λys d p=>?_);refine wpAny_bind (wpAny_newTuple ?_ ?_)
  rotate_left
  ·rw[length_map,p.length_eq,length_range];unfold scanBound at hb;unfold sizeLine;lia
  generalize hto:({ cls:=.type "tuple",data:=.seq (ys.map λ(i:Nat)=>rawInt i).toArray }:Obj)=to;have gt:(s.heap.push to).get? s.heap.objs.size=some to:=by rw[←hto];exact Heap.get?_push_size _ U
  have ga:(s.heap.push to).get? a=some o:=Heap.get?_push_of_some _ ho;refine wpAny_bind (m:=setEpoch a) (wpAny_setEpoch_of (s:={ s with heap:=s.heap.push to,drawn:=d }) ga hd hf ?_);refine wpAny_bind (wpAny_newObj_type ?_ (by size_fits));have hI:((s.heap.push to).push (dQ (.ref s.heap.objs.size) (0:Nat) (.ref a) es.size ep)).get? (s.heap.push to).objs.size=some (dQ (.ref s.heap.objs.size) (0:Nat) (.ref a) es.size ep):=Heap.get?_push_size _ U;refine wpAny_pure ⟨_,U,"set_iterator",_,⟨_,hI,U⟩,aS.lookup,?_⟩;have hp:∀i,i<es.size->∃p e,ys[i]?=some p/\es[p]?=some e/\(ys.map λp=>(es[p]?.map (·.2)).getD .none)[i]?=some e.2:=λi hi=>by
   have hi':i<ys.length:=by rw[p.length_eq,length_range];exact hi
   have e1:ys[i]?=some ys[i]:=Fn hi';have lt:ys[i]<es.size:=mem_range.mp (p.mem_iff.mp (getElem_mem hi'));have e2:es[ys[i]]?=some es[ys[i]]:=getElem?_eq_getElem lt;exact⟨ys[i],es[ys[i]],e1,e2,by rw[getElem?_map,e1];simp[e2]⟩
  have ny:(ys.map λp=>(es[p]?.map (·.2)).getD Value.none).Perm (es.toList.map (·.2)):=by
   refine(p.map _).trans (List.Perm.of_eq ?_);apply List.ext_getElem
   ·simp
   ·intro i h1 h2;simp at h1;simp[h1]
  refine h _ _ d _ [(s.heap.push to).objs.size,a,s.heap.objs.size] _ (λb u e=>Heap.get?_push_of_some _ (Heap.get?_push_of_some _ e)) ny
   (λA' hA=>pJ hA (places:=ys) (to:=to) (m:=0) (by rw[Heap.size_push];exact ne_of_lt (lt_succ_of_lt la)) (by rw[Heap.size_push];exact ne_of_lt (lt_succ_self _)) hd hf (by rw[←hto]) (by rw[p.length_eq,length_range]) hp)
   ⟨hI,Heap.get?_push_of_some _ ga,Heap.get?_push_of_some _ gt⟩ (by rw[Heap.size_push];exact le_succ _) λb hb=>?_
  rcases mem_cons.mp hb with rfl|hb
  ·exact .inr (by rw[Heap.size_push];exact le_succ _)
  ·rcases mem_cons.mp hb with rfl|hb
   ·exact .inl U
   ·have:b=s.heap.objs.size:=by simpa using hb
    exact .inr (by rw[this];exact le_refl _)
 ·rw[if_neg c];refine wpAny_bind (wpAny_pure ?_);refine wpAny_bind (m:=setEpoch a) (wpAny_setEpoch_of ho hd hf ?_);refine wpAny_bind (wpAny_newObj_type ?_ (by size_fits));have hI:(s.heap.push (dQ (.int (0:Nat) 0) (0:Nat) (.ref a) es.size ep)).get? s.heap.objs.size=some (dQ (.int (0:Nat) 0) (0:Nat) (.ref a) es.size ep):=Heap.get?_push_size _ U;refine wpAny_pure ⟨_,U,"set_iterator",_,⟨_,hI,U⟩,aS.lookup,?_⟩;have ne:a≠s.heap.objs.size:=ne_of_lt la;have fpa:∀b∈[s.heap.objs.size,a],b=a\/s.heap.objs.size<=b:=λb hb=>by
   rcases mem_cons.mp hb with rfl|hb
   ·exact .inr (le_refl _)
   ·exact .inl (by simpa using hb)
  cases hbt:du w with
  |true =>
   have pp:=tS (w.params.setOrder a ep) es;have hlen:((pickOrder (w.params.setOrder a ep) es).toList.map (·.2)).length=es.size:=by rw[length_map,pp.length_eq,hsz]
   refine h _ _ s.drawn ((pickOrder (w.params.setOrder a ep) es).toList.map (·.2)) [s.heap.objs.size,a] _ (λb u e=>Heap.get?_push_of_some _ e) (pp.map _)
    (λA' hA=>ly hA ne hd hf hlen (λ_=>0) (λi x s' Q' E' g ex q=>jx hbt g hd hf ?_) λs' Q' E' g q=>jx hbt g hd hf ?_) ⟨hI,Heap.get?_push_of_some _ ho⟩ (le_refl _) fpa
   ·rw[getElem?_map,Array.getElem?_toList]at ex;cases e:(pickOrder (w.params.setOrder a ep) es)[i]? with
    |none=>rw[e]at ex;cases ex
    |some z=>rw[e]at ex;injection ex with ex;subst ex;exact q
   ·have e:(pickOrder (w.params.setOrder a ep) es)[es.size]?=none:=by
     rw[←Array.getElem?_toList];exact getElem?_eq_none (by rw[length_map]at hlen;lia)
    rw[e];exact q
  |false =>
   have hl':t.led=true:=by rw[hl,hbt];rfl
   have hp:(!t.plain && decide (es.size>1))=false:=by
    rw[hbt]at c;simpa using c
   have hps:t.place.size=es.size:=by
    have:=hf;simp only[SetTable.fits,and_eq_true,beq_iff_eq]at this;exact this.1
   have bel:∀i,i<=es.size->SetTable.below t.place (match i with|0=>0|k+1=>t.place.getD k 0+1)=i:=λi hi=>by
    cases i with
    |zero=>exact pB ha
    |succ k =>
     have hk:k<t.place.size:=by lia
     have eg:t.place.getD k 0=t.place[k]:=by simp[Array.getD,hk]
     show SetTable.below t.place (t.place.getD k 0+1)=k+1;rw[eg];exact qY ha hk
   refine h _ _ s.drawn (es.toList.map (·.2)) [s.heap.objs.size,a] _ (λb u e=>Heap.get?_push_of_some _ e) (.refl _)
    (λA' hA=>ly hA ne hd hf (by rw[length_map,hsz]) (λi=>match i with|0=>0|k+1=>t.place.getD k 0+1) (λi x s' Q' E' g ex q=>iB hbt g hd hf hl' hp ?_) λs' Q' E' g q=>iB hbt g hd hf hl' hp ?_) ⟨hI,Heap.get?_push_of_some _ ho⟩ (le_refl _) fpa
   ·have hi:i<es.size:=by
     obtain⟨z,_⟩:=Fo.mp ex;rw[length_map,hsz]at z;exact z
    rw[bel i (le_of_lt hi)];have e1:es[i]?=some es[i]:=getElem?_eq_getElem hi;have e2:t.place[i]?=some t.place[i]:=getElem?_eq_getElem (by lia);have e3:x=es[i].2:=by
     rw[getElem?_map,Array.getElem?_toList,e1]at ex;injection ex with ex;exact ex.symm
    rw[e1,e2];have e4:t.place.getD i 0=t.place[i]:=by simp[Array.getD,show i<t.place.size by lia]
    subst e3;have q2:Q' (some (es[i].2,t.place.getD i 0+1)) s':=q;rw[e4]at q2;exact q2
   ·rw[bel es.size (le_refl _)];have e1:es[es.size]?=none:=Array.getElem?_eq_none (le_refl _);rw[e1];exact q
set_option maxRecDepth 100000
theorem tW{ord:List Value}{acc:Array Value}{n:Nat}(h:ItemsOf (λi v=>ord[i]?=some v) acc n)(hn:ord.length=n):acc.toList=ord:=by
 apply List.ext_getElem
 ·rw[length_toList,h.1,hn]
 ·intro i h1 h2;have e:ord[i]?=some acc[i]:=h.2 i acc[i] (getElem?_eq_getElem (by simpa using h1));rw[Fn h2]at e;injection e with e;simpa using e.symm
theorem pK{a:Addr}{o:Obj}{es:Array (Int×Value)}{ep:Nat}{t:SetTable}{Q:List Value->Shared->Prop}(hh:A.handled=none)(ho:s.heap.get? a=some o)(hex:o.ExactSet)(hd:o.data=.set es ep t)(hb:es.size<scanBound)(hf:t.fits es.size=true)(ha:Asc t.place)(hl:t.led = !du w)
  (h:∀(ord:List Value)(s':Shared),ord.Perm (es.toList.map (·.2))->(∀b u,s.heap.get? b=some u->s'.heap.get? b=some u)->s'.gens=s.gens->s'.os=s.os->s.heap.objs.size<s'.heap.objs.size->Q ord s') :
  wpAny (model prog w) A (collect (.ref a)) Q E s:=by
 have la:a<s.heap.objs.size:=Heap.lt_size ho;unfold collect;refine wpAny_bind (wpAny_runValue (codeAny_builtin F.entry_proto_collect ?_));rw[Around.under_plainId F.plain_proto_collect _];show wpAny _ A.in1 (newList [] >>= λl=>again (.builtin "list.__iadd__" ⟨[l,.ref a],[]⟩)) _ _ s;refine wpAny_bind (wpAny_newObj_type ?_);refine wpAny_pure ⟨plainId_quiet F.plain_list_iadd _,codeAny_builtin F.entry_list_iadd ?_⟩;rw[Around.under_plainId F.plain_list_iadd _];generalize hlo:({ cls:=.type "list",data:=.seq ([]:List Value).toArray }:Obj)=lo;have g1:(s.heap.push lo).get? a=some o:=Heap.get?_push_of_some _ ho;have gS:(s.heap.push lo).get? s.heap.objs.size=some lo:=by rw[←hlo];exact Heap.get?_push_size _ U
 have hT1:Shared.TypeIs { s with heap:=s.heap.push lo } (.ref a) "set" := ⟨o,g1,hex.1⟩;show wpAny _ A.in1 (Builtin.List.listExtendWith (.ref s.heap.objs.size) (.ref a) (.ref s.heap.objs.size)) _ _ _;unfold Builtin.List.listExtendWith;refine wpAny_bind (wpAny_typeOf hT1 ?_);have h1:Builtin.List.listSameRef (.ref s.heap.objs.size) (.ref a)=false:=by simp[Builtin.List.listSameRef];exact ne_of_gt la
 have h2:(Value.type "set" == Value.type "list")=false:=by decide
 have h3:(Value.type "set" == Value.type "tuple")=false:=by decide
 simp only[h1,h2,h3,Bool.or_false,false_eq_true,if_false];refine wpAny_bind (vx (s:={ s with heap:=s.heap.push lo }) g1 hex hd hb hf ha hl λI h' d ord fp St kp pm W st hI hfp=>?_);have g2:h'.get? a=some o:=kp a o g1;have hT2:Shared.TypeIs { s with heap:=h',drawn:=d } (.ref a) "set" := ⟨o,g2,hex.1⟩;refine wpAny_bind (wpAny_holding ?_);unfold Builtin.List.listLengthHint;refine wpAny_bind (wpAny_specialOf hT2 F.slot_set_len.lookup ?_)
 (generalize hid:("set.__len__" : String)=id0;(fail_if_success (clear hid id0));wp_delta;rw[show splitId id0=some ("set","__len__")from by subst hid;decide+kernel];subst hid)
 refine wpAny_bind (wpAny_isInstance (b:=true) hT2 sub_set_self ?_);refine wpAny_bind (wpAny_typeOf hT2 ?_);refine wpAny_pure ?_;show wpAny _ A.in1 (rule "list.extend.makes-room" >>= λ_=>Builtin.List.listTouch (.ref s.heap.objs.size) >>= λ_ =>
  again (.builtin "list.extend.loop" ⟨[.ref s.heap.objs.size,.ref I,.ref s.heap.objs.size],[]⟩)) _ _ _
 refine wpAny_bind (wpAny_rule ?_);have hS₁:h'.get? s.heap.objs.size=some lo:=kp _ _ gS;rw[←hlo]at hS₁;refine wpAny_bind ?_;show wpAny _ A.in1 (updateSeq s.heap.objs.size (·.push .none) >>= λ_=>updateSeq s.heap.objs.size (·.pop)) _ _ _;refine wpAny_bind (wpAny_updateSeq hS₁ U ?_);have hS₂:=Heap.get?_update_self (Obj.mapSeq (·.push Value.none)) hS₁ U;refine wpAny_updateSeq hS₂ U ?_;have hS₃:=Heap.get?_update_self (Obj.mapSeq (·.pop)) hS₂ U
 have oth:∀b u,b≠s.heap.objs.size->h'.get? b=some u ->
   ((h'.update s.heap.objs.size (Obj.mapSeq (·.push Value.none))).update s.heap.objs.size (Obj.mapSeq (·.pop))).get? b=some u :=
  λb u hb e=>(Heap.get?_update_other _ _ (Ne.symm hb)).trans ((Heap.get?_update_other _ _ (Ne.symm hb)).trans e)
 have sz1:(s.heap.push lo).objs.size=s.heap.objs.size+1:=Heap.size_push ..;have hSf:s.heap.objs.size ∉ fp:=λhm=>by
  rcases hfp _ hm with z|z
  ·exact ne_of_gt la z
  ·have z':(s.heap.push lo).objs.size<=s.heap.objs.size:=z;rw[sz1]at z';exact Nat.not_succ_le_self _ z'
 have hW:=W A.in1 (by simp[hh]);have hlen:ord.length=es.size:=by rw[pm.length_eq,length_map,length_toList]
 have st':=hW.frame 0 ({ s with heap:=h',drawn:=d }:Shared) ((h'.update s.heap.objs.size (Obj.mapSeq (·.push Value.none))).update s.heap.objs.size (Obj.mapSeq (·.pop))) s.toks st (le_refl _) λb hb' o' e=>oth b o' (λz=>hSf (z ▸ hb')) e
 refine wpAny_pure ⟨plainId_quiet F.plain_extend_loop _,codeAny_extend_loopS hW (by unfold scanBound at hb;unfold sizeLine;lia) _ hSf _ es.size 0 _ _ _ U (zero_le _)
  st' hS₃ (ItemsOf.nil _) λs' vy c' hm hS' vi=>?_⟩
 show wpAny _ A (load s.heap.objs.size >>= _) _ _ s';refine wpAny_bind (wpAny_load hS' ?_);refine wpAny_pure ?_;rw[tW vi hlen];refine h ord s' pm (λb u e=>?_) hm.gens hm.os (Heap.lt_size hS');have hb':b<s.heap.objs.size:=Heap.lt_size e;refine hm.heap b u (λz=>?_) (oth b u (ne_of_lt hb') (kp b u (Heap.get?_push_of_some _ e)));rcases mem_cons.mp z with z|z
 ·exact ne_of_lt hb' z
 ·have z2:b=I:=by simpa using z
  have z3:(s.heap.push lo).objs.size<=I:=hI;rw[sz1,←z2]at z3;exact lt_irrefl _ (lt_of_lt_of_le hb' (Nat.le_of_succ_le z3))
variable{base:Heap}
section
variable{M:Model}{env:Env}{outer:List Env}{L e T:Addr}{a0 cls fl:Value}{Q:Unit->Shared->Prop}{Ts:List Addr}
end
variable{pins:List (Addr×Obj)}{σ:St}{H:Hp}{h':Heap}
section
variable{Y:List Addr}
end
variable{P:Program}{K:W.Frag}{mg:Str->Option Value}{N:List Str}{scope:Scope}{f:Addr}
section
variable{qual:Str}{cd:Value}{outer:List Env}{s0:Shared}{H0:Hp}{E:XK}
end
theorem iC:de X (.builtin "len") (λxs H Q=>∃(l:Addr)(zs:List Str),xs=[.ref l]/\H l=some (mD X.prog X.w l zs)/\zs.length<=1000/\Q (.int ((cntK zs zs.length:Nat):Int)) H):=by
 intro pins s σ H xs us Q I r h;obtain⟨l,zs,rfl,e,hz,q⟩:=h;obtain⟨u,rfl,ru⟩:=r.one;obtain rfl:u=Value.ref l:=ru;obtain⟨⟨o,es,ep,t,g1,g2,g3,_,_,_,g4,g5⟩,_,_⟩:=I.hok l _ e;have le:=jw zs zs.length;refine call_len_set g1 g2 g3 g4 (by rw[g5];lia) ⟨.int _,H,I.tok _,⟨_,U⟩,?_⟩;rw[g5];exact q
variable{k:Nat}{C:Addr}{fd:FuncData}{ps:List Str}{sp:Sp}{x m:Str}{p np pos:Pos}{e:Expr}{es:List Expr}{t:TA}
section
variable{apos:Pos}{o:Expr}{ta:TE}{E:XK}
end
theorem iK:∀{ns:List Int}{us:List Value},Vals (ns.map V.int) us->∃xs:List (Int×Tok),us.toArray=intItems xs.toArray/\ns=xs.map (·.1)
 | [],_,.nil=>⟨[],by simp[intItems],U⟩
 |n :: ns,_,.cons ⟨t,e⟩ r=>by
  obtain⟨xs,e1,e2⟩:=iK r;refine⟨(n,t) :: xs,?_,by rw[e2];rfl⟩;subst e;have e1':=congrArg Array.toList e1;simp[intItems]at e1'⊢;exact e1'
theorem nC{xs:Array (Int×Tok)}{i:Nat}(h:i<xs.size):numAt xs i∈xs.toList.map (·.1):=by
 rw[numAt_eq];exact getD_mem (by rw[length_map,length_toList];lia)
theorem eU(hc:X.calm=true):de X (.builtin "min") (λus H Q=>∃(a:Addr)(ns:List Int),us=[.ref a]/\SqL X.K H a (ns.map V.int)/\0<ns.length/\∀m,m∈ns->(∀b∈ns,m<=b)->Q (.int m) H):=by
 intro pins s σ H us vs Q I r h;obtain⟨a,ns,rfl,hq,hne,q⟩:=h;obtain⟨u,rfl,rx⟩:=r.one;cases (show u=Value.ref a from rx);obtain⟨its,rv,pl,hz⟩:=I.list hq;obtain⟨xs,e1,e2⟩:=iK rv;have hl:=pl.isList;rw[e1]at hl;have hsz:0<xs.toArray.size:=by
  rw[e2,length_map]at hne;simpa using hne
 refine min_intList (I.ok.hd hc) hl hsz λv h' tk hv hk=>?_
 obtain⟨t,rfl⟩:=intItems_at hv;obtain⟨h1,h2⟩:=argBest_lt (numAt xs.toArray) (xs.toArray.size-1);refine⟨.int _,H,I.kept (t':=tk) λb o e=>hk b o e,⟨t,U⟩,q _ ?_ λb hb=>?_⟩
 ·rw[e2];exact nC (xs:=xs.toArray) (by lia)
 ·rw[e2]at hb;obtain⟨j,hj,rfl⟩:=mem_getD hb;rw[length_map]at hj;have z:=h2 j (by simp;lia);rw[numAt_eq]at z⊢;rw[numAt_eq]at z;simpa using z
theorem eV(hc:X.calm=true):de X (.builtin "max") (λus H Q=>∃(a:Addr)(ns:List Int),us=[.ref a]/\SqL X.K H a (ns.map V.int)/\0<ns.length/\∀m,m∈ns->(∀b∈ns,b<=m)->Q (.int m) H):=by
 intro pins s σ H us vs Q I r h;obtain⟨a,ns,rfl,hq,hne,q⟩:=h;obtain⟨u,rfl,rx⟩:=r.one;cases (show u=Value.ref a from rx);obtain⟨its,rv,pl,hz⟩:=I.list hq;obtain⟨xs,e1,e2⟩:=iK rv;have hl:=pl.isList;rw[e1]at hl;have hsz:0<xs.toArray.size:=by
  rw[e2,length_map]at hne;simpa using hne
 refine max_intList (I.ok.hd hc) hl hsz λv h' tk hv hk=>?_
 obtain⟨t,rfl⟩:=intItems_at hv;obtain⟨h1,h2⟩:=argBest_gt (numAt xs.toArray) (xs.toArray.size-1);refine⟨.int _,H,I.kept (t':=tk) λb o e=>hk b o e,⟨t,U⟩,q _ ?_ λb hb=>?_⟩
 ·rw[e2];exact nC (xs:=xs.toArray) (by lia)
 ·rw[e2]at hb;obtain⟨j,hj,rfl⟩:=mem_getD hb;rw[length_map]at hj;have z:=h2 j (by simp;lia);rw[numAt_eq]at z⊢;rw[numAt_eq]at z;simpa using z
def xC(P:Program)(w:World)(a:Addr)(ns:List Int):HO:=.ext λh=>h.SetOf (intKind P w) a (λz=>decide (z∈ns)) (cntK ns ns.length)
theorem lA:∀{zs:List Int}{us:List Value},Vals (zs.map V.int) us->∀(i:Nat)(v:Value),us[i]?=some v->∃z t,zs[i]?=some z/\v=.int z t
 | [],_,.nil,i,v,h=>by simp at h
 |z :: zs,_,.cons ⟨t,e⟩ r,0,v,h=>by simp at h;exact⟨z,t,U,by rw[←h,e]⟩
 |z :: zs,_,.cons _ r,i+1,v,h=>by
  obtain⟨z',t,e1,e2⟩:=lA r i v (by simpa using h);exact⟨z',t,by simpa using e1,e2⟩
theorem mF(hc:X.calm=true):de X (.type "set") (λxs H Q=>∃(p:Addr)(zs:List Int),xs=[.ref p]/\SqL X.K H p (zs.map V.int)/\zs.length<=1000/\∀l,H l=none->Q (.ref l) (upd H l (xC X.prog X.w l zs))):=by
 intro pins s σ H xs us Q I r h;obtain⟨p,zs,rfl,hS,hz,q⟩:=h;obtain⟨u,rfl,ru⟩:=r.one;obtain rfl:u=Value.ref p:=ru;obtain⟨its,rv,pl,_⟩:=I.list hS;have hl:=rv.length;rw[length_map]at hl;refine nu (knd:=intKind X.prog X.w) (ks:=zs) (I.ok.hd hc) pl.isList (λi v e=>?_) (by simpa using hl) (by unfold scanBound;simp;lia) λh' tk x=>?_
 ·obtain⟨z,t,e1,rfl⟩:=lA rv i v (by simpa using e);exact⟨z,e1,by show Value.isInt z (.int z t)=true;simp[Value.isInt],U⟩
 ·obtain⟨x1,x2⟩:=x;refine⟨.ref s.heap.objs.size,_,I.laid (a:=s.heap.objs.size) (o:=xC X.prog X.w s.heap.objs.size zs) (h':=h') (t':=tk) (λb o q=>x2 b o (Heap.lt_size q) q) (le_refl _) ?_,U,q _ I.fresh⟩;refine⟨x1,?_,λh1 h2 y k=>fH y k⟩;obtain⟨o,_,_,_,g,_⟩:=x1;exact⟨o,g⟩
theorem mG:de X (.builtin "len") (λxs H Q=>∃(l:Addr)(zs:List Int),xs=[.ref l]/\H l=some (xC X.prog X.w l zs)/\zs.length<=1000/\Q (.int ((cntK zs zs.length:Nat):Int)) H):=by
 intro pins s σ H xs us Q I r h;obtain⟨l,zs,rfl,e,hz,q⟩:=h;obtain⟨u,rfl,ru⟩:=r.one;obtain rfl:u=Value.ref l:=ru;obtain⟨⟨o,es,ep,t,g1,g2,g3,_,_,_,g4,g5⟩,_,_⟩:=I.hok l _ e;have le:=jw zs zs.length;refine call_len_set g1 g2 g3 g4 (by rw[g5];lia) ⟨.int _,H,I.tok _,⟨_,U⟩,?_⟩;rw[g5];exact q
theorem pL{κ:Type} [DecidableEq κ] {k:κ}{ks:List κ}:∀i,i<=ks.length->1<=cntK (k :: ks) (i+1)/\(cntK (k :: ks) (i+1)=1↔∀x∈ks.take i,x=k)
 |0,_=>by simp[cntK]
 |i+1,h=>by
  obtain⟨h1,h2⟩:=pL (k:=k) (ks:=ks) i (by lia);have e:(k :: ks)[i+1]?=some ks[i]:=by simp
  have e':ks[i]?=some ks[i]:=Fn (by lia);have et:ks.take (i+1)=ks.take i++[ks[i]]:=by rw[take_add_one,e'];rfl
  have e2:(k :: ks).take (i+1)=k :: ks.take i:=rfl;rw[show cntK (k :: ks) (i+1+1)=match (k :: ks)[i+1]? with
   |some x=>if x∈(k :: ks).take (i+1)then cntK (k :: ks) (i+1)else cntK (k :: ks) (i+1)+1
   |none=>cntK (k :: ks) (i+1)from U,e,et,e2]
  dsimp only;by_cases m:ks[i]∈k :: ks.take i
  ·rw[if_pos m];refine⟨h1,h2.trans ⟨λz x hx=>?_,λz x hx=>z x (mem_append_left _ hx)⟩⟩;rcases mem_append.mp hx with hx|hx
   ·exact z x hx
   ·have:x=ks[i]:=by simpa using hx
    rw[this];rcases mem_cons.mp m with m|m
    ·exact m
    ·exact z _ m
  ·rw[if_neg m];refine⟨by lia,⟨λz=>absurd z (by lia),λz=>?_⟩⟩;exact absurd (z ks[i] (mem_append_right _ (by simp))) λq=>m (by rw[q];exact mem_cons_self)
theorem nE{κ:Type} [DecidableEq κ] {k:κ}{ks:List κ}:cntK (k :: ks) (k :: ks).length=1↔∀x∈ks,x=k:=by
 have:=(pL (k:=k) (ks:=ks) ks.length (le_refl _)).2;rw[take_length]at this;exact this
def TyG(K:W.Frag)(H:Hp)(x:V)(t:Value):Prop:=jT K H x t\/∃a ys,x=.ref a/\SqT K H a ys/\t=.type "tuple"
inductive ClV:V->Value->Prop where
 |ty (T:String):ClV (.ty T) (.type T)
 |ref (C:Addr):ClV (.ref C) (.ref C)
theorem cH:de X (.builtin "isinstance") (λxs H Q=>∃x c cv t b,xs=[x,c]/\ClV c cv/\TyG X.K H x t/\W.kitOne X.K t cv=some b/\Q (.bl b) H):=by
 intro pins s σ H xs us Q I r h;obtain⟨x,c,cv,t,b,rfl,rc,ty,e,q⟩:=h;cases r with
 |cons rx r2 =>
  cases r2 with
  | @cons _ cu _ _ ry r3 =>
   cases r3;have ec:cu=cv:=by cases rc <;> exact ry
   subst ec;rcases ty with ty|⟨a,ys,rfl,hS,rfl⟩
   ·exact tI I rx ty e λtk=>⟨.bl b,H,I.tok tk,U,q⟩
   ·cases (show _=Value.ref a from rx);obtain⟨its,r,⟨o,h1,h2,_⟩,_⟩:=I.tuple hS;exact W.kia_one W.kitx_tuple I.kIn ⟨o,h1,h2⟩ e (λz=>nomatch z) λtk=>⟨.bl b,H,I.tok tk,U,q⟩
structure lB(K:W.Frag)(C:Addr):Prop where
 cl:Cls K C
 ha:W.findIn K (.ref C) "__class__" = some (some (.builtin "object.__class__"))
 hn:W.specialIn K (.builtin "object.__class__") "__get__" = some (some (.builtin "getset_descriptor.__get__"))
 tk:W.takesIn K (.builtin "object.__class__")=some true
 hm:W.mroIn K C (.type "object")=some true
theorem lB.ty{K:W.Frag}{C:Addr}(h:lB K C){H:Hp}{a dx:Addr}{fs:List (Str×V)}(e:H a=some (.ins C dx fs)):TyG K H (.ref a) (.ref C):=.inl (.ins e h.cl h.ha h.hn h.tk h.hm)
def xD(CX:CXT)(P:Program)(w:World)(K:W.Frag)(mg:Str->Option Value)(base:Heap)(k:Nat)(m:Str)(ps:List Str)(cs:List (Addr×Sp)):Prop :=
 ∀p∈cs,bf CX P w K mg base k p.1 m ps p.2/\Cls K p.1
variable{CX:CXT}
section
variable{cs:List (Addr×Sp)}
theorem AV:xD CX P w K mg base k m ps []:=λ_ h=>nomatch h
theorem pM(M:bf CX P w K mg base k C m ps sp)(c:Cls K C)(r:xD CX P w K mg base k m ps cs):xD CX P w K mg base k m ps ((C,sp) :: cs):=λp h=>by
 rcases mem_cons.mp h with rfl|h
 ·exact⟨M,c⟩
 ·exact r p h
end
inductive yC(cs:List (Addr×Sp))(m:Str)(t:TA)(σ:St)(Q:VK)(x:V)(H1:Hp):Prop
 |mk (a p dx fs:_)(_:x=.ref a)(_:p∈cs)(_:H1 a=some (.ins p.1 dx fs))(_:fs.lookup m=none)(_:t σ H1 λvs H2=>p.2 (x :: vs) H2 Q E0):yC cs m t σ Q x H1
def CC(cs:List (Addr×Sp))(m:Str)(ta:TE)(t:TA):TE:=λσ H Q=>ta σ H λx H1=>yC cs m t σ Q x H1
section
variable{apos:Pos}{o:Expr}{ta:TE}{cs:List (Addr×Sp)}
theorem vz{pl:Sem Bool}(M:xD CX X.prog X.w X.K X.mg X.base k m ps cs)(hx:Passes CX X E0)(hr:bZ k X.A)(he:PE X o ta)(ha:PA X (e :: es) t)
  (hst:starEach (e :: es) X.env=(false,eval e X.env) :: starEach es X.env:=by rfl)(hpl:(backTo pos (starEach es X.env)).any (·.1)=false:=by rfl)
  (ht:eval (.Call (.Attribute o m apos) (e :: es) [] pos) X.env=(do
   let ov ←eval o X.env
   standAt apos.atName
   let (f,first) ←holding [ov] (getMethod ov m pl)
   callWith pos f first (backTo pos (starEach (e :: es) X.env)) (backToKw pos (keywordEach [] X.env))):=by rfl) :
  PE X (.Call (.Attribute o m apos) (e :: es) [] pos) (CC cs m ta t):=by
 intro pins s σ H Q I h;refine W.methodCall_KW (pl:=pl) (thn (he pins s σ H _ I h) λu s1 ⟨x,H1,I1,rx,a,p,dx,fs,ex,hp,ea,l,q⟩=>?_) ht;obtain⟨⟨f,fd,hm,F,hb⟩,c⟩:=M p hp;subst ex;obtain rfl:u=Value.ref a:=rx;refine kN I1 ea c hm l ?_;refine W.callWith_K (first:=[.ref a]) (h₀:=X.base) I.ok.mod.kin hm.kp (thn (ha pos pins s1 σ H1 _ I1 q) λus s2 ⟨vs,H2,I2,r,q2⟩=>⟨I2.kIn,?_⟩) hst hpl;exact zq (us:=.ref a :: us) (vs:=.ref a :: vs) F hr hb hx I2 (.cons U r) q2
theorem jZ(M:bc CX X.prog X.w X.K X.mg X.base k x C ps sp)(hx:Passes CX X E0)(hr:bZ (k+1) X.A)(hg:Gl X x)(hdb:(x == ("__debug__" : Str))=false:=by decide) :
  PE X (.Call (.Name x p) [] [] pos) (tMk C sp ze):=by
 obtain⟨f,fd,M,F,hb,hm⟩:=M;have h:=uY (E:=E0) (dvs:=[]) (ds:=[]) (p:=p) (pos:=pos) M F hr hg hm hb .nil hx hdb;intro pins s σ H Q I q;exact h pins s σ H Q I q
end
def ModT(K:W.Frag)(a:Addr)(xs:List V):Prop:=∃(o:Obj)(its:Array Value)(n:Nat),K.lookup a=some o/\o.cls=.type "tuple" /\ o.data=.seq its n/\its.size<=sizeLine/\Vals xs its.toList
theorem ModT.sq{K:W.Frag}{a:Addr}{xs:List V}(h:ModT K a xs)(H:Hp):SqT K H a xs:=.inr h
theorem ModT.mk{K:W.Frag}{a:Addr}{xs:List V}{od:Option Addr}{its:Array Value}{n:Nat}{sl:Array (Option Value)}(h:K.lookup a=some ⟨.type "tuple",od,.seq its n,sl⟩) (hs:its.size<=sizeLine)(hv:Vals xs its.toList):ModT K a xs :=
 ⟨_,its,n,h,U,U,hs,hv⟩
theorem fW{c A B:Prop} [Decidable c] (hc:c)(h:A):if decide c=true then A else B:=by rw[if_pos (decide_eq_true hc)];exact h
theorem ck{c A B:Prop} [Decidable c] (hc:¬ c)(h:B):if decide c=true then A else B:=by rw[if_neg (by rw[decide_eq_false hc];decide)];exact h
theorem ls0{P:List Value->Prop}(h:P []):∀us:List Value,us.length=0->P us:=λus e=>by
 cases us
 ·exact h
 ·cases e
theorem lsS{P:List Value->Prop}{n:Nat}(h:∀a us,us.length=n->P (a :: us)):∀us:List Value,us.length=n+1->P us:=λus e=>by
 cases us
 ·cases e
 ·exact h _ _ (Nat.succ.inj e)
theorem ls1{P:List Value->Prop}(h:∀a,P [a]):∀us:List Value,us.length=1->P us:=lsS λa=>ls0 (P:=λv=>P (a :: v)) (h a)
theorem ls2{P:List Value->Prop}(h:∀a b,P [a,b]):∀us:List Value,us.length=2->P us:=lsS λa=>ls1 (P:=λv=>P (a :: v)) (h a)
theorem ls3{P:List Value->Prop}(h:∀a b c,P [a,b,c]):∀us:List Value,us.length=3->P us:=lsS λa=>ls2 (P:=λv=>P (a :: v)) (h a)
theorem ls4{P:List Value->Prop}(h:∀a b c d,P [a,b,c,d]):∀us:List Value,us.length=4->P us:=lsS λa=>ls3 (P:=λv=>P (a :: v)) (h a)
theorem ls5{P:List Value->Prop}(h:∀a b c d e,P [a,b,c,d,e]):∀us:List Value,us.length=5->P us:=lsS λa=>ls4 (P:=λv=>P (a :: v)) (h a)
theorem ls6{P:List Value->Prop}(h:∀a b c d e f,P [a,b,c,d,e,f]):∀us:List Value,us.length=6->P us:=lsS λa=>ls5 (P:=λv=>P (a :: v)) (h a)
theorem ls7{P:List Value->Prop}(h:∀a b c d e f g,P [a,b,c,d,e,f,g]):∀us:List Value,us.length=7->P us:=lsS λa=>ls6 (P:=λv=>P (a :: v)) (h a)
theorem lb1{fd:FuncData}{ps:List Str}(h:∀a,bindArgs fd ⟨[a],[]⟩=pure (ps.zip [a])):∀us:List Value,us.length=1->bindArgs fd ⟨us,[]⟩=pure (ps.zip us):=ls1 (P:=λus=>bindArgs fd ⟨us,[]⟩=pure (ps.zip us)) h
theorem lb2{fd:FuncData}{ps:List Str}(h:∀a b,bindArgs fd ⟨[a,b],[]⟩=pure (ps.zip [a,b])):∀us:List Value,us.length=2->bindArgs fd ⟨us,[]⟩=pure (ps.zip us):=ls2 (P:=λus=>bindArgs fd ⟨us,[]⟩=pure (ps.zip us)) h
theorem lb3{fd:FuncData}{ps:List Str}(h:∀a b c,bindArgs fd ⟨[a,b,c],[]⟩=pure (ps.zip [a,b,c])):∀us:List Value,us.length=3->bindArgs fd ⟨us,[]⟩=pure (ps.zip us):=ls3 (P:=λus=>bindArgs fd ⟨us,[]⟩=pure (ps.zip us)) h
theorem lb4{fd:FuncData}{ps:List Str}(h:∀a b c d,bindArgs fd ⟨[a,b,c,d],[]⟩=pure (ps.zip [a,b,c,d])):∀us:List Value,us.length=4->bindArgs fd ⟨us,[]⟩=pure (ps.zip us):=ls4 (P:=λus=>bindArgs fd ⟨us,[]⟩=pure (ps.zip us)) h
theorem lb7{fd:FuncData}{ps:List Str}(h:∀a b c d e f g,bindArgs fd ⟨[a,b,c,d,e,f,g],[]⟩=pure (ps.zip [a,b,c,d,e,f,g])):∀us:List Value,us.length=7->bindArgs fd ⟨us,[]⟩=pure (ps.zip us):=ls7 (P:=λus=>bindArgs fd ⟨us,[]⟩=pure (ps.zip us)) h
section
variable{j:Nat}{q:Str}{st:Stmt}
theorem fsc{P:List Str}{sc:Scope}(a:sc.kind=.function:=by rfl)(b:sc.isCoroutine=false:=by rfl)(c:sc.isGenerator=false:=by rfl)(d:N.Nodup:=by decide+kernel)(e:N.take P.length=P:=by rfl)(g:∀x∈P,sc.names.lookup x=some .local\/sc.names.lookup x=some .cell:=by decide+kernel)(h:∀y∈sc.names,y.2≠.free:=by decide+kernel):ao N P sc:=⟨a,b,c,d,e,g,h⟩
theorem Fun.okA(F:Fun K x q st f fd)(S:ao N ps (aj st))(gf:∀(cdv:Value)(A:Around)(outer:List Env)(s:Shared)(H:Hp)(vs:List V)(Q:VK)(E:XK),bZ k (A.deeper (envOfC q (aj st) s.heap.objs.size f cdv))->sp vs H Q E->∃t,PSs (pd CX0 P w K mg base N q (aj st) f cdv A outer s H E).nox (dh st) t/\t { nx:=λ_ H'=>Q .non H',rt:=Q } (start N vs) H)(len:∀vs H Q E,sp vs H Q E->vs.length=ps.length:=by intro vs H Q E h;cases h;subst_vars;rfl):aH P w K mg base CX0 (k+1) f fd ps sp:=F.ok S len gf
theorem Callee.up(c:Callee P w K mg base j x ps sp)(h:j<=k:=by decide):Callee P w K mg base k x ps sp:=c.mono h
theorem bf.up(c:bf CX P w K mg base j C m ps sp)(h:j<=k:=by decide):bf CX P w K mg base k C m ps sp:=c.mono h
theorem bc.up(c:bc CX P w K mg base j x C ps sp)(h:j<=k:=by decide):bc CX P w K mg base k x C ps sp:=c.mono h
theorem bX.up(c:bX CX P w K mg base j x m ps sp)(h:j<=k:=by decide):bX CX P w K mg base k x m ps sp:=c.mono h
inductive GF(K:W.Frag)(x q:Str)(st:Stmt):Prop
 |mk {f:Addr}{fd:FuncData}(a:W.nsIn K mainGlobals x=some (some (.ref f)))(F:Fun K q q st f fd):GF K x q st
inductive MF(K:W.Frag)(C:Addr)(x q:Str)(st:Stmt):Prop
 |mk {f:Addr}{fd:FuncData}(a:W.findIn K (.ref C) x=some (some (.ref f)))(i:W.isFn K (.ref f)=true)(F:Fun K x q st f fd):MF K C x q st
inductive KF(K:W.Frag)(C:Addr)(x q:Str)(st:Stmt):Prop
 |mk {f:Addr}{fd:FuncData}(a:W.findIn K (.ref C) "__init__" = some (some (.ref f))) (i:W.isFn K (.ref f)=true)(m:W.makesIn K C=true)(k:W.keepIn K (.ref C)=true)(n:W.nsIn K mainGlobals x=some (some (.ref C)))(F:Fun K "__init__" q st f fd):KF K C x q st
inductive BF(K:W.Frag)(C:Addr)(x m q:Str)(st:Stmt):Prop
 |mk {f:Addr}{fd:FuncData}(s:W.specialIn K (.ref C) "__getattribute__" = some (some (.builtin "type.__getattribute__"))) (r:W.readsIn K C (.type "type")=true) (a:W.findCls K (.ref C) (.type "type") m=some (.val (.ref f))) (n:W.nsIn K mainGlobals x=some (some (.ref C)))(F:Fun K m q st f fd):BF K C x m q st
inductive Zb(P:Program)(w:World)(K:W.Frag)(mg:Str->Option Value)(base:Heap):Prop
 |mk {h:Heap}(X:K.In h)(G:h.Ns mainGlobals mg):Zb P w K mg base
theorem Zb.g(Z:Zb P w K mg base){v:Value}(e:W.nsIn K mainGlobals x=some (some v)):mg x=some v:=by cases Z with|mk X G=>exact W.mg_of X G e
theorem mkC(Z:Zb P w K mg base)(h:GF K x q st)(O:∀{f:Addr}{fd:FuncData},Fun K q q st f fd->aH P w K mg base CX0 k f fd ps sp)(b:∀{f:Addr}{fd:FuncData},Fun K q q st f fd->Binds K fd ps []:=by exact λF=>F.binds λ_ _ _ _ _ _=>by first|exact L2.lb0 rfl|exact L2.lb1 λ_=>U|exact L2.lb2 λ_ _=>U|exact L2.lb3 λ_ _ _=>U|exact L2.lb4 λ_ _ _ _=>U|exact L2.lb5 λ_ _ _ _ _=>U|exact L2.lb6 λ_ _ _ _ _ _=>U|exact L2.lb7 λ_ _ _ _ _ _ _=>U|exact L2.lb8 λ_ _ _ _ _ _ _ _=>U|exact L2.lb9 λ_ _ _ _ _ _ _ _ _=>U):Callee P w K mg base k x ps sp:=by
 cases h with|mk a F=>exact⟨_,_,O F,b F,F.kp,Z.g a⟩
theorem mkM(_:Zb P w K mg base)(h:MF K C m q st)(O:∀{f:Addr}{fd:FuncData},Fun K m q st f fd->aH P w K mg base CX k f fd ps sp)(b:∀{f:Addr}{fd:FuncData},Fun K m q st f fd->Binds K fd ps []:=by exact λF=>F.binds λ_ _ _ _ _ _=>by first|exact L2.lb0 rfl|exact L2.lb1 λ_=>U|exact L2.lb2 λ_ _=>U|exact L2.lb3 λ_ _ _=>U|exact L2.lb4 λ_ _ _ _=>U|exact L2.lb5 λ_ _ _ _ _=>U|exact L2.lb6 λ_ _ _ _ _ _=>U|exact L2.lb7 λ_ _ _ _ _ _ _=>U|exact L2.lb8 λ_ _ _ _ _ _ _ _=>U|exact L2.lb9 λ_ _ _ _ _ _ _ _ _=>U):bf CX P w K mg base k C m ps sp:=by
 cases h with|mk a i F=>exact⟨_,_,⟨a,i,F.kp⟩,O F,b F⟩
theorem mkK(Z:Zb P w K mg base)(h:KF K C x q st)(O:∀{f:Addr}{fd:FuncData},Fun K "__init__" q st f fd->aH P w K mg base CX k f fd ps sp) (b:∀{f:Addr}{fd:FuncData},Fun K "__init__" q st f fd->Binds K fd ps []:=by exact λF=>F.binds λ_ _ _ _ _ _=>by first|exact L2.lb0 rfl|exact L2.lb1 λ_=>U|exact L2.lb2 λ_ _=>U|exact L2.lb3 λ_ _ _=>U|exact L2.lb4 λ_ _ _ _=>U|exact L2.lb5 λ_ _ _ _ _=>U|exact L2.lb6 λ_ _ _ _ _ _=>U|exact L2.lb7 λ_ _ _ _ _ _ _=>U|exact L2.lb8 λ_ _ _ _ _ _ _ _=>U|exact L2.lb9 λ_ _ _ _ _ _ _ _ _=>U):bc CX P w K mg base k x C ps sp:=by
 cases h with|mk a i m k n F=>exact⟨_,_,⟨m,a,i,k⟩,O F,b F,Z.g n⟩
theorem mkB(Z:Zb P w K mg base)(h:BF K C x m q st)(O:∀{f:Addr}{fd:FuncData},Fun K m q st f fd->aH P w K mg base CX k f fd ps sp)(b:∀{f:Addr}{fd:FuncData},Fun K m q st f fd->Binds K fd ps []:=by exact λF=>F.binds λ_ _ _ _ _ _=>by first|exact L2.lb0 rfl|exact L2.lb1 λ_=>U|exact L2.lb2 λ_ _=>U|exact L2.lb3 λ_ _ _=>U|exact L2.lb4 λ_ _ _ _=>U|exact L2.lb5 λ_ _ _ _ _=>U|exact L2.lb6 λ_ _ _ _ _ _=>U|exact L2.lb7 λ_ _ _ _ _ _ _=>U|exact L2.lb8 λ_ _ _ _ _ _ _ _=>U|exact L2.lb9 λ_ _ _ _ _ _ _ _ _=>U):bX CX P w K mg base k x m ps sp:=by
 cases h with|mk s r a n F=>exact⟨_,_,_,⟨s,r,a,F.kp⟩,O F,b F,Z.g n⟩
theorem mkR{sp:Nat->Sp}(Z:Zb P w K mg base)(h:GF K x q st)(k n:Nat)(z:∀{vs:List V}{H:Hp}{Q:VK}{E:XK},¬ sp 0 vs H Q E)(O:∀{f:Addr}{fd:FuncData}(n:Nat),Fun K q q st f fd->Callee P w K mg base (k+n) x ps (sp n)->aH P w K mg base CX0 (k+n+1) f fd ps (sp (n+1)))(b:∀{f:Addr}{fd:FuncData},Fun K q q st f fd->Binds K fd ps []:=by exact λF=>F.binds λ_ _ _ _ _ _=>by first|exact L2.lb0 rfl|exact L2.lb1 λ_=>U|exact L2.lb2 λ_ _=>U|exact L2.lb3 λ_ _ _=>U|exact L2.lb4 λ_ _ _ _=>U|exact L2.lb5 λ_ _ _ _ _=>U|exact L2.lb6 λ_ _ _ _ _ _=>U|exact L2.lb7 λ_ _ _ _ _ _ _=>U|exact L2.lb8 λ_ _ _ _ _ _ _ _=>U|exact L2.lb9 λ_ _ _ _ _ _ _ _ _=>U):Callee P w K mg base (k+n) x ps (sp n):=by
 cases h with|mk a F =>
 refine⟨_,_,?_,b F,F.kp,Z.g a⟩;induction n with
 |zero=>exact aH.no λ_ _ _ _ h=>z h
 |succ n ih=>exact O n F ⟨_,_,ih,b F,F.kp,Z.g a⟩
theorem gv_mk{v:V}{u:Value}(a:W.nsIn K mainGlobals x=some (some u))(r:RelV v u):∃u,W.nsIn K mainGlobals x=some (some u)/\RelV v u:=⟨u,a,r⟩
end
theorem Inv.turnedPair{ch:List Addr}{T:Addr}{x y:V}{u v:Value}(I:Inv X pins σ H s)(hf:∀b∈ch,jP X pins H b)(k:∀b o,b ∉ ch->s.heap.get? b=some o->h'.get? b=some o)
  (nT:s.heap.get? T=none)(hT:H T=none)(gT:IsPair h' T u v)(rx:RelV x u)(ry:RelV y v):Inv X pins σ (upd H T (.tup [x,y])) { s with heap:=h' }:=by
 have out:∀b u,H b=some u->b ∉ ch:=λb u e z=>by
  have f:=(hf b z).1;rw[f]at e;cases e
 have neT:∀{b o},s.heap.get? b=some o->b≠T:=λe z=>by rw[z,nT]at e;cases e
 have neH:∀{b u},H b=some u->b≠T:=λe z=>by rw[z,hT]at e;cases e
 have J:=Inv.step (H':=upd H T (.tup [x,y])) (h':=h') (g':=s.gens) (d':=s.drawn) (t':=s.toks) (ch:=ch) I
  (λb hb=>by obtain⟨_,f1,_,f3,f4,f5⟩:=hf b hb;exact⟨f3,f1,f4,f5⟩)
  (λb o _ _ hc e _=>k b o hc e)
  (λb o _ _ hc e _=>⟨o.slots,k b o hc e⟩)
  (λb o _ e n=>by rw[aw (neT e)];exact n)
  (λb o hc e=>⟨o,k b o hc e⟩)
  (λb xs e=>by rw[aw (neH e)];exact e)
  (λb o w e=>by rw[aw (neH e)];exact e)
  (λb ps e=>⟨#[],by rw[aw (neH e),e];simp⟩)
  (λm hm=>by
   obtain⟨o,es,ep,ho,r⟩:=hm;refine⟨o,es,ep,k _ o (λz=>?_) ho,r⟩;obtain⟨_,f1,_⟩:=hf _ z;exact f1 U)
  (λb w e=>by
   by_cases hb:b=T
   ·subst hb;rw[ab]at e;cases e;exact⟨by show 2<=sizeLine;decide,[u,v],.cons rx (.cons ry .nil),_,gT,U,_,U⟩
   ·rw[aw hb]at e;refine(I.hok b w e).stay (λc z hc q=>k c z ?_ q) (λc q=>?_) λc xs q=>?_
    ·rcases hc with z|z
     ·rw[z];exact out b w e
     ·exact out c _ z
    ·rw[aw (neH q)];exact q
    ·rw[aw (neH q)];exact q)
  I.bare
 exact J
theorem Inv.turnedL{ch:List Addr}(I:Inv X pins σ H s)(hf:∀b∈ch,jP X pins H b)(k:∀b o,b ∉ ch->s.heap.get? b=some o->h'.get? b=some o):Inv X pins σ H { s with heap:=h' }:=by
 have out:∀b u,H b=some u->b ∉ ch:=λb u e z=>by
  have f:=(hf b z).1;rw[f]at e;cases e
 have J:=Inv.step (H':=H) (h':=h') (g':=s.gens) (d':=s.drawn) (t':=s.toks) (ch:=ch) I
  (λb hb=>by obtain⟨_,f1,_,f3,f4,f5⟩:=hf b hb;exact⟨f3,f1,f4,f5⟩)
  (λb o _ _ hc e _=>k b o hc e)
  (λb o _ _ hc e _=>⟨o.slots,k b o hc e⟩)
  (λb o _ _ n=>n)
  (λb o hc e=>⟨o,k b o hc e⟩)
  (λb xs e=>e) (λb o w e=>e) (λb ps e=>⟨#[],by rw[e];simp⟩)
  (λm hm=>by
   obtain⟨o,es,ep,ho,r⟩:=hm;refine⟨o,es,ep,k _ o (λz=>?_) ho,r⟩;obtain⟨_,f1,_⟩:=hf _ z;exact f1 U)
  (λb w e=>by
   refine(I.hok b w e).stay (λc z hc q=>k c z ?_ q) (λc q=>q) λc xs q=>q
   rcases hc with z|z
   ·rw[z];exact out b w e
   ·exact out c _ z)
  I.bare
 exact J
def Itz(K:W.Frag)(a b:Addr):It :=
 ⟨λi H=>∃xs ys x y,SqL K H a xs/\SqL K H b ys/\xs[i]?=some x/\ys[i]?=some y,
 λi H v H'=>∃T,H T=none/\v=.ref T/\∀xs ys x y,SqL K H a xs->SqL K H b ys->xs[i]?=some x->ys[i]?=some y->H'=upd H T (.tup [x,y]),
 λi H=>∃xs ys,SqL K H a xs/\SqL K H b ys/\(xs.length<=i\/ys.length<=i)⟩
def yD(z TI TO i1 i2 a b:Addr)(i:Nat)(h:Heap):Prop:=IsZip h z TI TO .none/\IsPair h TI (.ref i1) (.ref i2)/\(∃p q,IsPair h TO p q)/\h.IsListIter i1 a i/\h.IsListIter i2 b i
theorem vA{P:Program}{w:World}{K:W.Frag}{elts:List Expr} {x1} {tp:Pos}{z TI TO i1 i2 a b:Addr}(D:ZipApart z TI TO i1 i2 a b) :
  Turn P w K (.Tuple elts x1 tp) (Itz K a b) [z,TI,TO,i1,i2] z (yD z TI TO i1 i2 a b) where
 mem:=by simp
 obj:=λi h st c hc=>by
  obtain⟨g1,g2,⟨p,q,g3⟩,⟨o4,g4,_,d4⟩,⟨o5,g5,_,d5⟩⟩:=st;simp only[mem_cons,not_mem_nil,or_false]at hc;rcases hc with rfl|rfl|rfl|rfl|rfl
  ·exact⟨_,g1,λv q=>nomatch q⟩
  ·exact⟨_,g2,λv q=>nomatch q⟩
  ·exact⟨_,g3,λv q=>nomatch q⟩
  ·exact⟨_,g4,λv q=>by rw[d4]at q;cases q⟩
  ·exact⟨_,g5,λv q=>by rw[d5]at q;cases q⟩
 keep:=λi h h' st k=>by
  obtain⟨g1,g2,⟨p,q,g3⟩,g4,g5⟩:=st;exact⟨k z (by simp) _ g1,k TI (by simp) _ g2,⟨p,q,k TO (by simp) _ g3⟩,g4.at λo e=>k i1 (by simp) o e,g5.at λo e=>k i2 (by simp) o e⟩
 item:=by
  intro X hP hw hK hc i pins s σ H E I hf st hg;subst hP hw hK;obtain⟨xs,ys,x,y,qa,qb,ex,ey⟩:=hg;obtain⟨g1,g2,⟨p,q,g3⟩,g4,g5⟩:=st;obtain⟨us,ru,pu,_⟩:=I.list qa;obtain⟨vs,rv,pv,_⟩:=I.list qb;obtain⟨u,eu,r1⟩:=ru.get ex;obtain⟨v,ev,r2⟩:=rv.get ey;refine wpAny_pyNext_zip_item D g1 g2 g3 g4 g5 pu.isList pv.isList (x:=u) (y:=v) (by simpa using eu) (by simpa using ev) λh1 a1 a2 a3 a4 a5 a6 a7=>?_
  refine⟨_,U,wpAny_letOwnedTupleGo_zip (s:={ s with heap:=h1 }) a1 λh2 b1 b2=>?_⟩;have nT:s.heap.get? s.heap.objs.size=none:=by
   cases q:s.heap.get? s.heap.objs.size with
   |none=>rfl
   |some o=>exact absurd (Heap.lt_size q) (lt_irrefl _)
  have hT:H s.heap.objs.size=none:=I.hok.fresh (le_refl _);have nz:s.heap.objs.size≠z:=ne_of_gt (Heap.lt_size g1);have kk:∀c o,c ∉ [z,TO,i1,i2]->s.heap.get? c=some o->h2.get? c=some o:=λc o hc e=>by
   simp only[mem_cons,not_mem_nil,or_false,not_or]at hc;exact b2.extBut _ _ hc.1 (a7 c o hc.1 hc.2.1 hc.2.2.1 hc.2.2.2 e)
  have J:=I.turnedPair (h':=h2) (ch:=[z,TO,i1,i2]) (T:=s.heap.objs.size) (x:=x) (y:=y) (u:=u) (v:=v) (λc hc=>hf c (by simp at hc⊢;rcases hc with e|e|e|e <;> simp[e])) kk nT hT (b2.extBut _ _ nz a5) r1 r2;refine⟨.ref s.heap.objs.size,upd H s.heap.objs.size (.tup [x,y]),J,U,⟨_,hT,U,λxs' ys' x' y' q1 q2 e1 e2=>?_⟩,⟨b1,b2.extBut _ _ D.TIz (a7 TI _ D.TIz D.TITO D.TIi1 D.TIi2 g2),⟨_,_,b2.extBut _ _ D.TOz a2⟩,a3.extBut b2.extBut D.i1z,a4.extBut b2.extBut D.i2z⟩,λc hc=>?_⟩
  ·rw[I.list_inj q1 qa]at e1;rw[I.list_inj q2 qb]at e2;rw[ex]at e1;rw[ey]at e2;cases e1;cases e2;rfl
  ·have h0:=(hf c hc).1;have:c≠s.heap.objs.size:=by
    obtain⟨o4,g4',_⟩:=g4;obtain⟨o5,g5',_⟩:=g5;simp only[mem_cons,not_mem_nil,or_false]at hc;rcases hc with rfl|rfl|rfl|rfl|rfl
    ·exact nz.symm
    ·exact ne_of_lt (Heap.lt_size g2)
    ·exact ne_of_lt (Heap.lt_size g3)
    ·exact ne_of_lt (Heap.lt_size g4')
    ·exact ne_of_lt (Heap.lt_size g5')
   rw[aw this];exact h0
 done:=by
  intro X hP hw hK hc i pins s σ H E I hf st hg;subst hP hw hK;obtain⟨xs,ys,qa,qb,hl⟩:=hg;obtain⟨g1,g2,⟨p,q,g3⟩,g4,g5⟩:=st;obtain⟨us,ru,pu,_⟩:=I.list qa;obtain⟨vs,rv,pv,_⟩:=I.list qb;have l1:=ru.length;have l2:=rv.length;refine wpAny_pyNext_zip_end (I.ok.hd hc) D g1 g2 g3 g4 g5 pu.isList pv.isList ?_ λh2 k=>⟨U,I.turnedL (ch:=[z,TO,i1,i2]) (λc hc=>hf c (by simp at hc⊢;rcases hc with e|e|e|e <;> simp[e])) λc o hc e=>?_⟩
  ·rcases hl with hl|hl
   ·exact .inl (by simp;lia)
   ·exact .inr (by simp;lia)
  ·simp only[mem_cons,not_mem_nil,or_false,not_or]at hc;exact k c o hc.1 hc.2.1 hc.2.2.1 hc.2.2.2 e
 self:=λ_ _ _ _ _ st h=>wpAny_pyIter_zip st.1 h
inductive yE(K:W.Frag)(R:It->Hp->Prop)(vs:List V)(H1:Hp):Prop
 |mk (a b:_)(_:vs=[.ref a,.ref b])(_:(∃xs,SqL K H1 a xs))(_:(∃ys,SqL K H1 b ys))(_:R (Itz K a b) H1):yE K R vs H1
def CD(K:W.Frag)(ta:TA):TI:=λσ H R=>ta σ H λvs H1=>yE K R vs H1
theorem rj{e1 e2:Expr}{ta:TA}{p pos:Pos}{elts:List Expr} {x1} {tp:Pos}(hg:Gl X "zip") (hm:X.mg "zip" = none) (ha:PA X [e1,e2] ta)
  (hs:starEach [e1,e2] X.env=[(false,eval e1 X.env),(false,eval e2 X.env)]:=by rfl)(hs2:starEach [e2] X.env=[(false,eval e2 X.env)]:=by rfl) :
  PI X (.Tuple elts x1 tp) (.Call (.Name "zip" p) [e1,e2] [] pos) (CD X.K ta):=by
 intro pins s σ H R I h;refine Call_ (f7 I hg hm PyProof.Rows.boot_zip (PyProof.Rows.callWith_type1 (thn (ha pos pins s σ H _ I h) λus s1 ⟨vs,H1,I1,r1,q1⟩=>?_) (by rw[hs,hs2]) (by rw[hs2];rfl)));obtain⟨a,b,rfl,⟨xs,qa⟩,⟨ys,qb⟩,q⟩:=q1;obtain⟨u,v,rfl,ru,rv⟩:=r1.two;cases (show u=Value.ref a from ru);cases (show v=Value.ref b from rv);obtain⟨us,_,pu,_⟩:=I1.list qa;obtain⟨vs,_,pv,_⟩:=I1.list qb;obtain⟨oa,ea,_⟩:=id pu.isList;obtain⟨ob,eb,_⟩:=id pv.isList;have la:a<s1.heap.objs.size:=Heap.lt_size ea;have lb:b<s1.heap.objs.size:=Heap.lt_size eb;refine call_zip_2 pu.isList pv.isList λh' z1 z2 z3 z4 z5 z6 z7=>?_
 refine wpAny_pyIter_zip (s:={ s1 with heap:=h' }) z1 ?_;refine⟨s1.heap.objs.size+4,[s1.heap.objs.size+4,s1.heap.objs.size+2,s1.heap.objs.size+3,s1.heap.objs.size,s1.heap.objs.size+1],yD (s1.heap.objs.size+4) (s1.heap.objs.size+2) (s1.heap.objs.size+3) s1.heap.objs.size (s1.heap.objs.size+1) a b,Itz X.K a b,H1,U,I1.kept (t':=s1.toks) z7,vA ?_,⟨z1,z2,⟨_,_,z3⟩,z4,z5⟩,λc hc=>?_,q⟩
 ·refine⟨?_,?_,?_,?_,?_,?_,?_,?_,?_,?_,?_,?_,?_,?_,?_,?_,?_,?_⟩ <;> first|exact ne_of_lt (by lia)|exact ne_of_gt (by lia)|exact ne_of_lt la|exact ne_of_lt lb|exact ne_of_lt (lt_of_lt_of_le la (le_add_right _ _))|exact ne_of_lt (lt_of_lt_of_le lb (le_add_right _ _))
 ·have hc':s1.heap.objs.size<=c:=by
   simp only[mem_cons,not_mem_nil,or_false]at hc;rcases hc with rfl|rfl|rfl|rfl|rfl <;> lia
  exact I1.fpOk hc' (I1.hok.fresh hc')
theorem sI{K:W.Frag}{a b:Addr}{xs ys:List V}{g:TG}{tb:TS}{D:Ends}{σ:St}{H:Hp}(Pv:Nat->St->Hp->Prop)(h0:Pv 0 σ H)(hl:∀i σ H,Pv i σ H->SqL K H a xs/\SqL K H b ys)
  (hs:∀i x y σ H T,xs[i]?=some x->ys[i]?=some y->Pv i σ H->H T=none->g (.ref T) σ (upd H T (.tup [x,y])) λσ2 H2=>tb { D with nx:=Pv (i+1),ct:=Pv (i+1),bk:=D.nx } σ2 H2)
  (hd:∀σ H,Pv (min xs.length ys.length) σ H->D.nx σ H) :
  ∃W:Nat->Nat->St->Hp->Prop,(∃m,W 0 m σ H)/\∀i m σ H,W i m σ H ->
   ((Itz K a b).stop i H/\D.nx σ H)\/((Itz K a b).go i H/\∃N:St->Hp->Prop,(∀σ' H',N σ' H'->∃m',m'<m/\W (i+1) m' σ' H')/\∀x H',(Itz K a b).yld i H x H'->g x σ H' λσ2 H2=>tb { D with nx:=N,ct:=N,bk:=D.nx } σ2 H2):=by
 refine⟨λi m σ H=>m=min xs.length ys.length-i/\i<=min xs.length ys.length/\Pv i σ H,⟨min xs.length ys.length,by simp,zero_le _,h0⟩,?_⟩;rintro i m σ H ⟨rfl,hi,p⟩;obtain⟨q1,q2⟩:=hl i σ H p;by_cases lt:i<min xs.length ys.length
 ·have e1:xs[i]?=some xs[i]:=Fn (by lia);have e2:ys[i]?=some ys[i]:=Fn (by lia);refine .inr ⟨⟨xs,ys,_,_,q1,q2,e1,e2⟩,Pv (i+1),λσ' H' p'=>⟨_,?_,U,lt,p'⟩,λv H' yl=>?_⟩
  ·lia
  ·obtain⟨T,hT,rfl,e⟩:=yl;rw[e xs ys _ _ q1 q2 e1 e2];exact hs i _ _ σ H T e1 e2 p hT
 ·have e:i=min xs.length ys.length:=by lia
  subst e;exact .inl ⟨⟨xs,ys,q1,q2,by lia⟩,hd σ H p⟩
theorem vB{a b:Int}{m n:Nat}(ha:a.natAbs<2^m)(hb:b.natAbs<2^n)(hm:m<=2^20)(hn:n<=2^20):IntMulOk a b :=
 .of_bits (le_trans (PyProof.Rows.intBits_le ha) hm) (le_trans (PyProof.Rows.intBits_le hb) hn)
theorem mH{X:Cx}{K:W.Frag}(h:X.K=K):de X (.type "list") (λxs H Q=>∃p ys,xs=[.ref p]/\(SqL K H p ys\/SqT K H p ys)/\∀l,H l=none->Q (.ref l) (upd H l (.lst ys))):=h ▸ dg
set_option maxRecDepth 100000
abbrev iN(h:Heap)(z TI TO T0:Addr)(b:Bool):Prop :=
 h.get? z=some { cls:=.type "zip",dict:=none,data:=.fields #[rawInt T0,.bool b,.bool false,.ref TI,.ref TO],slots:=#[] }
theorem jy{a:Addr}{Q:Option Obj->Shared->Prop}(h:Q (s.heap.get? a) s):wpAny (model prog w) A (loadIfAlive a) Q E s:=λ_ _ _=>h
theorem nF{z TI TO T0:Addr}{b:Bool}{o:Obj}{Q:Bool->Shared->Prop}(hz:iN s.heap z TI TO T0 b)(hT:s.heap.get? T0=some o)
  (h:∀h',iN h' z TI TO T0 true->Heap.SameBut z s.heap h'->Q false { s with heap:=h' }):wpAny (model prog w) A (Builtin.SmallTypes.ownedTupleIsFree (.ref z)) Q E s:=by
 unfold Builtin.SmallTypes.ownedTupleIsFree;refine wpAny_bind (wpAny_field hz U (x:=rawInt T0) U ?_);show wpAny _ _ (loadIfAlive ((T0:Int).toNat) >>= _) _ _ _;refine wpAny_bind (jy ?_);rw[toNat_natCast,hT];simp only[Option.isNone_some,false_eq_true,if_false];refine wpAny_bind (wpAny_field hz U (x:=.bool b) U ?_);cases b with
 |true =>
  rw[if_neg (by simp)];refine wpAny_pure ?_;have e:s={ s with heap:=s.heap }:=by cases s;rfl
  rw[e];exact h s.heap hz (Heap.SameBut.refl z s.heap)
 |false =>
  rw[if_pos (by decide)];refine wpAny_bind (wpAny_setField_rec hz (by simp) λh1 g1 sb1=>?_);exact wpAny_pure (h h1 g1 sb1)
theorem tX{z TI TO T0 i1 i2 l1 l2:Addr}{bb:Bool}{k1 k2:Nat}{xs ys:Array Value}{x y a b:Value}{o:Obj}{Q:Option Value->Shared->Prop}(D:ZipApart z TI TO i1 i2 l1 l2)
  (hz:iN s.heap z TI TO T0 bb)(hT0:s.heap.get? T0=some o)(hTI:IsPair s.heap TI (.ref i1) (.ref i2))(hTO:IsPair s.heap TO a b)
  (h1:s.heap.IsListIter i1 l1 k1)(h2:s.heap.IsListIter i2 l2 k2)(hl1:s.heap.IsList l1 xs)(hl2:s.heap.IsList l2 ys)(hx:xs[k1]?=some x)(hy:ys[k2]?=some y)
  (hQ:∀h',iN h' z TI TO T0 true->h'.IsListIter i1 l1 (k1+1)->h'.IsListIter i2 l2 (k2+1)->IsPair h' s.heap.objs.size x y->h'.objs.size=s.heap.objs.size+1 ->
   (∀c o,c≠z->c≠i1->c≠i2->s.heap.get? c=some o->h'.get? c=some o)->Q (some (.ref s.heap.objs.size)) { s with heap:=h' }) :
  wpAny (model prog w) A (pyNext (.ref z)) Q E s:=by
 have hT:s.TypeIs (.ref z) "zip" := ⟨_,hz,U⟩;unfold pyNext;refine wpAny_bind (wpAny_attempt (wpAny_callSpecial?_slot (name:=Str.ofString "__next__") hT F.slot_zip_next (wpAny_call_entry F.slot_zip_next hT F.entry_zip_next ?_ (F.args_zip_next_1 _))));show wpAny _ _ (field (.ref z) 2 >>= _) _ _ _;refine wpAny_bind (wpAny_field hz U (x:=.bool false) U ?_);show wpAny _ _ (field (.ref z) 3 >>= _) _ _ _;refine wpAny_bind (wpAny_field hz U (x:=.ref TI) U ?_);refine wpAny_bind (wpAny_seqItems hTI U ?_);show wpAny _ _ (Builtin.SmallTypes.ownedTupleIsFree (.ref z) >>= _) _ _ _;refine wpAny_bind (nF hz hT0 λh₁ hz₁ hs₁=>?_);simp only[false_eq_true,if_false];refine wpAny_bind ?_;rw[←Array.forIn_toList];simp only[List.forIn_cons,List.forIn_nil];refine wpAny_bind (wpAny_bind (wpAny_holding ?_));show wpAny _ _ (Builtin.SmallTypes.nextOf (.ref i1) >>= _) _ _ _;refine wpAny_bind (wpAny_nextOf_list_item (h1.extBut hs₁.extBut D.i1z) (hl1.extBut hs₁.extBut D.l1z) hx λh₂ h1₂ hs₂=>wpAny_pure ?_);refine wpAny_pure ?_;dsimp only;refine wpAny_bind (wpAny_bind (wpAny_holding ?_));show wpAny _ _ (Builtin.SmallTypes.nextOf (.ref i2) >>= _) _ _ _;refine wpAny_bind (wpAny_nextOf_list_item ((h2.extBut hs₁.extBut D.i2z).extBut hs₂.extBut D.i12.symm) ((hl2.extBut hs₁.extBut D.l2z).extBut hs₂.extBut D.l2i1) hy λh₃ h2₃ hs₃=>wpAny_pure ?_);refine wpAny_pure ?_;dsimp only;refine wpAny_pure ?_;refine wpAny_bind (wpAny_newTuple ?_ (by show 2<=sizeLine;decide));have hsz:h₃.objs.size=s.heap.objs.size:=by rw[hs₃.1,hs₂.1,hs₁.1]
 refine wpAny_pure ⟨_,U,wpAny_pure ?_⟩;show Q (some (.ref h₃.objs.size)) _;have hz₃:iN h₃ z TI TO T0 true:=hs₃.extBut _ _ D.i2z.symm (hs₂.extBut _ _ D.i1z.symm hz₁);have h1₃:h₃.IsListIter i1 l1 (k1+1):=h1₂.extBut hs₃.extBut D.i12;have gp:(h₃.push { cls:=.type "tuple",data:=.seq #[x,y] }).get? h₃.objs.size=some { cls:=.type "tuple",data:=.seq #[x,y] }:=Heap.get?_push_size _ U;have zz:(h₃.push { cls:=.type "tuple",data:=.seq #[x,y] }).objs.size=s.heap.objs.size+1:=by rw[Heap.size_push,hsz]
 rw[hsz]at gp⊢;exact hQ _ (Heap.get?_push_of_some _ hz₃) (h1₃.at λo e=>Heap.get?_push_of_some _ e) (h2₃.at λo e=>Heap.get?_push_of_some _ e) gp zz λc o c1 c2 c3 e=>Heap.get?_push_of_some _ (hs₃.extBut _ _ c3 (hs₂.extBut _ _ c2 (hs₁.extBut _ _ c1 e)))
theorem vC{z TI TO T0 i1 i2 l1 l2:Addr}{bb:Bool}{k1 k2:Nat}{xs ys:Array Value}{a b:Value}{o:Obj}{Q:Option Value->Shared->Prop}(hh:A.handled=none)(D:ZipApart z TI TO i1 i2 l1 l2)
  (hz:iN s.heap z TI TO T0 bb)(hT0:s.heap.get? T0=some o)(hTI:IsPair s.heap TI (.ref i1) (.ref i2))(hTO:IsPair s.heap TO a b)
  (h1:s.heap.IsListIter i1 l1 k1)(h2:s.heap.IsListIter i2 l2 k2)(hl1:s.heap.IsList l1 xs)(hl2:s.heap.IsList l2 ys)(rf:xs[k1]?=none\/ys[k2]?=none)
  (hQ:∀h',(∀c o,c≠z->c≠i1->c≠i2->s.heap.get? c=some o->h'.get? c=some o)->Q none { s with heap:=h' }) :
  wpAny (model prog w) A (pyNext (.ref z)) Q E s:=by
 have hT:s.TypeIs (.ref z) "zip" := ⟨_,hz,U⟩;unfold pyNext;refine wpAny_bind (wpAny_attempt (wpAny_callSpecial?_slot (name:=Str.ofString "__next__") hT F.slot_zip_next (wpAny_call_entry F.slot_zip_next hT F.entry_zip_next ?_ (F.args_zip_next_1 _))));show wpAny _ _ (field (.ref z) 2 >>= _) _ _ _;refine wpAny_bind (wpAny_field hz U (x:=.bool false) U ?_);show wpAny _ _ (field (.ref z) 3 >>= _) _ _ _;refine wpAny_bind (wpAny_field hz U (x:=.ref TI) U ?_);refine wpAny_bind (wpAny_seqItems hTI U ?_);show wpAny _ _ (Builtin.SmallTypes.ownedTupleIsFree (.ref z) >>= _) _ _ _;refine wpAny_bind (nF hz hT0 λh₁ hz₁ hs₁=>?_);simp only[false_eq_true,if_false];refine wpAny_bind ?_;rw[←Array.forIn_toList];simp only[List.forIn_cons,List.forIn_nil];refine wpAny_bind (wpAny_bind (wpAny_holding ?_));show wpAny _ _ (Builtin.SmallTypes.nextOf (.ref i1) >>= _) _ _ _
 have fin:∀h' e,(∀c o,c≠z->c≠i1->c≠i2->s.heap.get? c=some o->h'.get? c=some o)->(∃o,h'.get? e=some o/\o.cls=.type "StopIteration") ->
   wpAny (model prog w) A (do if ←isInstance (.ref e) (.type "StopIteration")then pure none else throw (.ref e)) Q E { s with heap:=h' }:=λh' e k ⟨oe,hoe,hce⟩=>by
  refine wpAny_bind (wpAny_isInstance (T := "StopIteration") (b:=true) ⟨oe,hoe,hce⟩ isSubtype_stop ?_);exact wpAny_pure (hQ _ k)
 cases hx:xs[k1]? with
 |none =>
  refine wpAny_bind (wpAny_nextOf_list_end hh (h1.extBut hs₁.extBut D.i1z) (hl1.extBut hs₁.extBut D.l1z) hx λh₂ e hs₂ he=>?_);exact fin _ _ (λc o c1 c2 c3 q=>hs₂ _ _ c2 (hs₁.extBut _ _ c1 q)) he
 |some x =>
  have hy:ys[k2]?=none:=by rcases rf with h|h;rw[hx]at h;cases h;exact h
  refine wpAny_bind (wpAny_nextOf_list_item (h1.extBut hs₁.extBut D.i1z) (hl1.extBut hs₁.extBut D.l1z) hx λh₂ h1₂ hs₂=>wpAny_pure ?_);refine wpAny_pure ?_;dsimp only;refine wpAny_bind (wpAny_bind (wpAny_holding ?_));show wpAny _ _ (Builtin.SmallTypes.nextOf (.ref i2) >>= _) _ _ _;refine wpAny_bind (wpAny_nextOf_list_end hh ((h2.extBut hs₁.extBut D.i2z).extBut hs₂.extBut D.i12.symm) ((hl2.extBut hs₁.extBut D.l2z).extBut hs₂.extBut D.l2i1) hy λh₄ e hs₄ he=>?_);exact fin _ _ (λc o c1 c2 c3 q=>hs₄ _ _ c3 (hs₂.extBut _ _ c2 (hs₁.extBut _ _ c1 q))) he
section
variable{R:Result->Shared->Prop}
theorem neA{a T:Addr}{N:Nat}(h:a<N)(h':N<=T):T≠a:=ne_of_gt (lt_of_lt_of_le h h')
def yF(h:Heap)(z TI TO:Addr)(N:Nat)(i:Nat):Prop:=(i=0/\IsZip h z TI TO .none)\/∃T0 bb o,N<=T0/\T0≠z/\iN h z TI TO T0 bb/\h.get? T0=some o/\o.cls=.type "tuple"
theorem rk{z TI TO i1 i2 l1 l2 S:Addr}{xs ys:Array Value}{res:Value}(hh:A.handled=none)(D:ZipApart z TI TO i1 i2 l1 l2)(N:Nat)(hz:z<N)(hTI:TI<N)(hTO:TO<N)(hi1:i1<N)(hi2:i2<N)(hl1:l1<N)(hl2:l2<N)(hS:S<N)
  (nS:S≠z/\S≠TI/\S≠TO/\S≠i1/\S≠i2/\S≠l1/\S≠l2)(hn:min xs.size ys.size<=sizeLine) :
  ∀(d i:Nat)(s:Shared)(acc:Array Value)(c:Nat)(ts:List Addr),min xs.size ys.size=i+d->N<=s.heap.objs.size->yF s.heap z TI TO N i->IsPair s.heap TI (.ref i1) (.ref i2)->(∃a b,IsPair s.heap TO a b) ->
   s.heap.IsListIter i1 l1 i->s.heap.IsListIter i2 l2 i->s.heap.IsList l1 xs->s.heap.IsList l2 ys->s.heap.get? S=some { cls:=.type "list",dict:=none,data:=.seq acc c,slots:=#[] } ->
   acc.toList=ts.map Value.ref->ts.length=i->ts.Nodup->(∀(j:Nat)(T:Addr),ts[j]?=some T->N<=T/\∃x y,xs[j]?=some x/\ys[j]?=some y/\IsPair s.heap T x y) ->
   (∀(h':Heap)(vy:Array Value)(c':Nat)(ts':List Addr),(∀b o,b<N->b≠S->b≠z->b≠TO->b≠i1->b≠i2->s.heap.get? b=some o->h'.get? b=some o)->h'.get? S=some { cls:=.type "list",dict:=none,data:=.seq vy c',slots:=#[] } ->
    vy.toList=ts'.map Value.ref->ts'.length=min xs.size ys.size->ts'.Nodup->(∀(j:Nat)(T:Addr),ts'[j]?=some T->N<=T/\∃x y,xs[j]?=some x/\ys[j]?=some y/\IsPair h' T x y)->R (.ok (.ret res)) { s with heap:=h' }) ->
   codeAny (model prog w) A (.builtin "list.extend.loop" ⟨[.ref S,.ref z,res],[]⟩) R s:=by
 intro d;induction d with
 |zero =>
  intro i s acc c ts e hN hZ p1 ⟨a,b,p2⟩ t1 t2 q1 q2 g ea el nd hts fin;refine codeAny_builtin F.entry_extend_loop ?_;rw[Around.under_plainId F.plain_extend_loop _];show wpAny _ A.in1 (pyNext (.ref z) >>= _) _ _ s;have rf:xs[i]?=none\/ys[i]?=none:=by
   by_cases hx:xs.size<=i
   ·exact .inl (Array.getElem?_eq_none hx)
   ·exact .inr (Array.getElem?_eq_none (by lia))
  have end_:∀h',(∀b o,b≠z->b≠TO->b≠i1->b≠i2->s.heap.get? b=some o->h'.get? b=some o)->R (.ok (.ret res)) { s with heap:=h' }:=λh' k=>by
   refine fin h' acc c ts (λb o _ _ b1 b2 b3 b4 q=>k b o b1 b2 b3 b4 q) (k S _ nS.1 nS.2.2.1 nS.2.2.2.1 nS.2.2.2.2.1 g) ea (by lia) nd λj T hj=>?_
   obtain⟨a1,x,y,a2,a3,a4⟩:=hts j T hj;exact⟨a1,x,y,a2,a3,k T _ (neA hz a1) (neA hTO a1) (neA hi1 a1) (neA hi2 a1) a4⟩
  rcases hZ with⟨_,hZ⟩|⟨T0,bb,o,hT0,_,hZ,gT,_⟩
  ·exact wpAny_bind (wpAny_pyNext_zip_end (by simp[hh]) D hZ p1 p2 t1 t2 q1 q2 rf λh' k=>wpAny_pure (end_ h' k))
  ·exact wpAny_bind (vC (by simp[hh]) D hZ gT p1 p2 t1 t2 q1 q2 rf λh' k=>wpAny_pure (end_ h' λb o b1 _ b3 b4 q=>k b o b1 b3 b4 q))
 |succ d ih =>
  intro i s acc c ts e hN hZ p1 ⟨a,b,p2⟩ t1 t2 q1 q2 g ea el nd hts fin;have ix:i<xs.size:=by lia
  have iy:i<ys.size:=by lia
  refine codeAny_builtin F.entry_extend_loop ?_;rw[Around.under_plainId F.plain_extend_loop _];show wpAny _ A.in1 (pyNext (.ref z) >>= _) _ _ s;have hsz:acc.size=i:=by rw[←length_toList,ea,length_map,el]
  have go:∀h',yF h' z TI TO N (i+1)->(∃a b,IsPair h' TO a b)->h'.IsListIter i1 l1 (i+1)->h'.IsListIter i2 l2 (i+1)->IsPair h' s.heap.objs.size xs[i] ys[i]->h'.objs.size=s.heap.objs.size+1 ->
    (∀b o,b≠z->b≠TO->b≠i1->b≠i2->s.heap.get? b=some o->h'.get? b=some o) ->
    wpAny (model prog w) A.in1 (updateSeq S (·.push (.ref s.heap.objs.size)) >>= λ_=>again (.builtin "list.extend.loop" ⟨[.ref S,.ref z,res],[]⟩))
     (λfin s'=>match fin with | .done f=>R (.ok f) s' | .again c'=>c'.quiet=true/\codeAny (model prog w) A c' R s') (λe s'=>R (.error e) s') { s with heap:=h' }:=λh' z1 z2 z3 z4 z5 z6 k=>by
   have gS:h'.get? S=some { cls:=.type "list",dict:=none,data:=.seq acc c,slots:=#[] }:=k S _ nS.1 nS.2.2.1 nS.2.2.2.1 nS.2.2.2.2.1 g;refine wpAny_bind (wpAny_updateSeq gS U ?_ (by rw[hsz];lia) (by show(acc.push _).size<=sizeLine+1;rw[Array.size_push,hsz];lia));have gU:=Heap.get?_update_self (Obj.mapSeq (·.push (Value.ref s.heap.objs.size))) gS U;generalize hH:h'.update S (Obj.mapSeq (·.push (Value.ref s.heap.objs.size)))=h2 at gU⊢;have sb:Heap.SameBut S h' h2:=hH ▸ Heap.SameBut.update ..;have k2:∀b o,b≠S->h'.get? b=some o->h2.get? b=some o:=λb o hb q=>(sb.2 b hb).trans q
   have sz2:h2.objs.size=s.heap.objs.size+1:=by rw[sb.1,z6]
   refine wpAny_pure ⟨plainId_quiet F.plain_extend_loop _,ih (i+1) { s with heap:=h2 } (acc.push (.ref s.heap.objs.size)) _ (ts++[s.heap.objs.size]) (by lia) (by rw[sz2];lia) ?_ (k2 TI _ nS.2.1.symm (k TI _ D.TIz D.TITO D.TIi1 D.TIi2 p1)) ?_ (z3.at λo q=>k2 i1 o nS.2.2.2.1.symm q) (z4.at λo q=>k2 i2 o nS.2.2.2.2.1.symm q)
    ((q1.at λo q=>k l1 o D.l1z D.l1TO D.l1i1 D.l1i2 q).at λo q=>k2 l1 o nS.2.2.2.2.2.1.symm q) ((q2.at λo q=>k l2 o D.l2z D.l2TO D.l2i1 D.l2i2 q).at λo q=>k2 l2 o nS.2.2.2.2.2.2.symm q) gU (by rw[toList_push,ea,map_append];rfl) (by simp[el]) ?_ (λj T hj=>?_) λh3 vy c' ts' k3 g3 e3 l3 n3 f3=>?_⟩
   ·rcases z1 with⟨z',_⟩|⟨T0,bb,o,a1,a2,a3,a4,a5⟩
    ·exact absurd z' (by lia)
    ·exact .inr ⟨T0,bb,o,a1,a2,k2 z _ nS.1.symm a3,k2 T0 _ (neA hS a1) a4,a5⟩
   ·obtain⟨a',b',q⟩:=z2;exact⟨a',b',k2 TO _ nS.2.2.1.symm q⟩
   ·rw[nodup_append];refine⟨nd,by simp,λt ht u hu=>?_⟩;have eu:u=s.heap.objs.size:=by simpa using hu
    obtain⟨j,hj⟩:=List.mem_iff_getElem?.mp ht;obtain⟨_,x,y,_,_,gp⟩:=hts j t hj;have:=Heap.lt_size gp;exact λq=>lt_irrefl _ (by rw[q,eu]at this;exact this)
   ·rw[List.getElem?_append]at hj;split at hj
    ·obtain⟨a1,x,y,a2,a3,a4⟩:=hts j T hj;exact⟨a1,x,y,a2,a3,k2 T _ (neA hS a1) (k T _ (neA hz a1) (neA hTO a1) (neA hi1 a1) (neA hi2 a1) a4)⟩
    ·rename_i hlt
     have hj0:j=i:=by
      obtain⟨q,_⟩:=Fo.mp hj;simp at q;lia
     subst hj0;rw[el,sub_self]at hj;have eT:s.heap.objs.size=T:=by simpa using hj
     subst eT;exact⟨hN,xs[j],ys[j],getElem?_eq_getElem ix,getElem?_eq_getElem iy,k2 _ _ (neA hS hN) z5⟩
   ·exact fin h3 vy c' ts' (λb o b0 bS b1 b2 b3 b4 q=>k3 b o b0 bS b1 b2 b3 b4 (k2 b o bS (k b o b1 b2 b3 b4 q))) g3 e3 l3 n3 f3
  rcases hZ with⟨_,hZ⟩|⟨T0,bb,o,hT0,AW,hZ,gT,cT⟩
  ·refine wpAny_bind (wpAny_pyNext_zip_item D hZ p1 p2 t1 t2 q1 q2 (x:=xs[i]) (y:=ys[i]) (getElem?_eq_getElem ix) (getElem?_eq_getElem iy) λh' a1 a2 a3 a4 a5 a6 a7=>?_);exact go h' (.inr ⟨s.heap.objs.size,false,_,hN,ne_of_gt (lt_of_lt_of_le hz hN),a1,a5,U⟩) ⟨_,_,a2⟩ a3 a4 a5 a6 a7
  ·refine wpAny_bind (tX D hZ gT p1 p2 t1 t2 q1 q2 (x:=xs[i]) (y:=ys[i]) (getElem?_eq_getElem ix) (getElem?_eq_getElem iy) λh' a1 a3 a4 a5 a6 a7=>?_);exact go h' (.inr ⟨T0,true,o,hT0,AW,a1,a7 T0 o AW (neA hi1 hT0) (neA hi2 hT0) gT,cT⟩) ⟨_,_,a7 TO _ D.TOz D.TOi1 D.TOi2 p2⟩ a3 a4 a5 a6 λb o b1 _ b3 b4 q=>a7 b o b1 b3 b4 q
end
set_option maxRecDepth 100000
theorem rm:typeLookup (.type "zip") "__len__" = pure none:=by rw[typeLookup_type,builtinLookup_eq_fast];kernel_rfl
theorem pN:typeLookup (.type "zip") "__length_hint__" = pure none:=by rw[typeLookup_type,builtinLookup_eq_fast];kernel_rfl
theorem mI{z TI TO i1 i2 l1 l2:Addr}{xs ys:Array Value}{Q:Value->Shared->Prop}(hh:A.handled=none)(D:ZipApart z TI TO i1 i2 l1 l2)(p0:IsZip s.heap z TI TO .none)(p1:IsPair s.heap TI (.ref i1) (.ref i2))(p2:IsPair s.heap TO .none .none)
  (t1:s.heap.IsListIter i1 l1 0)(t2:s.heap.IsListIter i2 l2 0)(q1:s.heap.IsList l1 xs)(q2:s.heap.IsList l2 ys)(hn:min xs.size ys.size<=sizeLine)
  (h:∀(h':Heap)(acc:Array Value)(c:Nat)(ts:List Addr),(∀b o,b≠z->b≠TO->b≠i1->b≠i2->s.heap.get? b=some o->h'.get? b=some o)->h'.get? s.heap.objs.size=some { cls:=.type "list",dict:=none,data:=.seq acc c,slots:=#[] } ->
   acc.toList=ts.map Value.ref->ts.length=min xs.size ys.size->ts.Nodup->(∀(j:Nat)(T:Addr),ts[j]?=some T->s.heap.objs.size+1<=T/\∃x y,xs[j]?=some x/\ys[j]?=some y/\IsPair h' T x y)->Q (.ref s.heap.objs.size) { s with heap:=h' }) :
  wpAny (model prog w) A (call (.type "list") [.ref z]) Q E s:=by
 have lz:z<s.heap.objs.size:=Heap.lt_size p0;have lTI:TI<s.heap.objs.size:=Heap.lt_size p1;have lTO:TO<s.heap.objs.size:=Heap.lt_size p2;have li1:i1<s.heap.objs.size:=let ⟨_,e,_⟩:=t1;Heap.lt_size e;have li2:i2<s.heap.objs.size:=let ⟨_,e,_⟩:=t2;Heap.lt_size e;have ll1:l1<s.heap.objs.size:=let ⟨_,e,_⟩:=q1;Heap.lt_size e;have ll2:l2<s.heap.objs.size:=let ⟨_,e,_⟩:=q2;Heap.lt_size e
 refine callType_codes (Q₁:=λobj s₁=>obj=.ref s.heap.objs.size/\s₁={ s with heap:=s.heap.push { cls:=.type "list",data:=.seq #[] } }) F.called_list (F.typeCall_list_1 _) F.entry_list_init
  (code_list_new _ ⟨U,U⟩) λobj s₁ h₁=>?_
 obtain⟨rfl,rfl⟩:=h₁;have hS:(s.heap.push { cls:=.type "list",data:=.seq #[] }).get? s.heap.objs.size=some { cls:=.type "list",data:=.seq #[] }:=Heap.get?_push_size _ U;refine⟨⟨_,hS,U⟩,F.args_list_init_2 _ _,?_⟩;show wpAny _ _ (do let old ←Builtin.List.listItems (.ref s.heap.objs.size);Builtin.List.listUpdate (.ref s.heap.objs.size) (λ_=>#[]);letGo old.toList.reverse;Builtin.List.listExtendWith (.ref s.heap.objs.size) (.ref z) .none) _ _ _;refine wpAny_bind ?_;unfold Builtin.List.listItems;refine wpAny_bind (wpAny_seqItems hS U (wpAny_pure ?_));show wpAny _ _ (updateSeq s.heap.objs.size (λ_=>#[]) >>= λ_=>letGo (#[]:Array Value).toList.reverse >>= λ_=>Builtin.List.listExtendWith (.ref s.heap.objs.size) (.ref z) .none) _ _ _;refine wpAny_bind (wpAny_updateSeq hS U ?_);have hS₂:=Heap.get?_update_self (Obj.mapSeq (λ_=>(#[]:Array Value))) hS U;refine wpAny_bind (wpAny_letGo ?_);have k1:∀b o,s.heap.get? b=some o->((s.heap.push { cls:=.type "list",data:=.seq #[] }).update s.heap.objs.size (Obj.mapSeq (λ_=>(#[]:Array Value)))).get? b=some o:=λb o e =>
  (Heap.get?_update_other _ _ (ne_of_gt (Heap.lt_size e))).trans (Heap.get?_push_of_some _ e)
 have sz1:((s.heap.push { cls:=.type "list",data:=.seq #[] }).update s.heap.objs.size (Obj.mapSeq (λ_=>(#[]:Array Value)))).objs.size=s.heap.objs.size+1:=by rw[Heap.size_update,Heap.size_push]
 generalize (s.heap.push { cls:=.type "list",data:=.seq #[] }).update s.heap.objs.size (Obj.mapSeq (λ_=>(#[]:Array Value)))=hA at hS₂ k1 sz1⊢;have hT:Shared.TypeIs { s with heap:=hA } (.ref z) "zip" := ⟨_,k1 _ _ p0,U⟩;unfold Builtin.List.listExtendWith;refine wpAny_bind (wpAny_typeOf hT ?_);have h1:Builtin.List.listSameRef (.ref s.heap.objs.size) (.ref z)=false:=by simp[Builtin.List.listSameRef];exact ne_of_gt lz
 have h2:(Value.type "zip" == Value.type "list")=false:=by decide
 have h3:(Value.type "zip" == Value.type "tuple")=false:=by decide
 simp only[h1,h2,h3,Bool.or_false,false_eq_true,if_false];refine wpAny_bind (wpAny_pyIter_zip (s:={ s with heap:=hA }) (k1 _ _ p0) ?_);refine wpAny_bind (wpAny_holding ?_);unfold Builtin.List.listLengthHint;refine wpAny_bind (wpAny_specialOf hT rm ?_);show wpAny _ _ (specialOf (Value.ref z) (Str.ofString "__length_hint__") >>= _) _ _ _;refine wpAny_bind (wpAny_specialOf hT pN ?_);refine wpAny_pure ?_;show wpAny _ _ (rule "list.extend.makes-room" >>= λ_=>Builtin.List.listTouch (.ref s.heap.objs.size) >>= λ_ =>
  again (.builtin "list.extend.loop" ⟨[.ref s.heap.objs.size,.ref z,.none],[]⟩)) _ _ _
 refine wpAny_bind (wpAny_rule ?_);refine wpAny_bind ?_;show wpAny _ _ (updateSeq s.heap.objs.size (·.push .none) >>= λ_=>updateSeq s.heap.objs.size (·.pop)) _ _ _;refine wpAny_bind (wpAny_updateSeq (s:={ s with heap:=hA }) hS₂ U ?_);have hS₃:=Heap.get?_update_self (Obj.mapSeq (·.push Value.none)) hS₂ U;refine wpAny_updateSeq (hz:=by seq_fits) hS₃ U ?_;have hS₄:=Heap.get?_update_self (Obj.mapSeq (·.pop)) hS₃ U;have k2:∀b o,s.heap.get? b=some o->((hA.update s.heap.objs.size (Obj.mapSeq (·.push Value.none))).update s.heap.objs.size (Obj.mapSeq (·.pop))).get? b=some o :=
  λb o e=>(Heap.get?_update_other _ _ (ne_of_gt (Heap.lt_size e))).trans ((Heap.get?_update_other _ _ (ne_of_gt (Heap.lt_size e))).trans (k1 b o e))
 have sz2:((hA.update s.heap.objs.size (Obj.mapSeq (·.push Value.none))).update s.heap.objs.size (Obj.mapSeq (·.pop))).objs.size=s.heap.objs.size+1:=by rw[Heap.size_update,Heap.size_update,sz1]
 generalize (hA.update s.heap.objs.size (Obj.mapSeq (·.push Value.none))).update s.heap.objs.size (Obj.mapSeq (·.pop))=hB at hS₄ k2 sz2⊢
 refine wpAny_pure ⟨plainId_quiet F.plain_extend_loop _,rk (by simp[hh]) D (s.heap.objs.size+1) (lt_succ_of_lt lz) (lt_succ_of_lt lTI) (lt_succ_of_lt lTO) (lt_succ_of_lt li1) (lt_succ_of_lt li2) (lt_succ_of_lt ll1) (lt_succ_of_lt ll2) (lt_succ_self _)
  ⟨ne_of_gt lz,ne_of_gt lTI,ne_of_gt lTO,ne_of_gt li1,ne_of_gt li2,ne_of_gt ll1,ne_of_gt ll2⟩ hn (min xs.size ys.size) 0 { s with heap:=hB } #[] _ [] (Nat.zero_add _).symm (by rw[sz2];exact le_refl _)
  (.inl ⟨U,k2 _ _ p0⟩) (k2 _ _ p1) ⟨_,_,k2 _ _ p2⟩ (t1.at λo e=>k2 _ _ e) (t2.at λo e=>k2 _ _ e) (q1.at λo e=>k2 _ _ e) (q2.at λo e=>k2 _ _ e) hS₄ U U nodup_nil (λj T hj=>by simp at hj) λh' acc c ts k3 g3 e3 l3 n3 f3=>?_⟩
 exact⟨U,h h' acc c ts (λb o b1 b2 b3 b4 e=>k3 b o (lt_succ_of_lt (Heap.lt_size e)) (ne_of_lt (Heap.lt_size e)) b1 b2 b3 b4 (k2 b o e)) g3 e3 l3 n3 f3⟩
set_option maxRecDepth 100000
theorem bC:∀{l L:List Int},l.Nodup->(∀x∈l,x∈L)->l.length<=L.length
 | [],_,_,_=>zero_le _
 |x :: l,L,hn,hs=>by
  obtain⟨h1,h2⟩:=nodup_cons.mp hn;have hx:=hs x mem_cons_self;have ih:=bC (L:=L.erase x) h2 λy hy=>(List.mem_erase_of_ne (λ(e:y=x)=>h1 (e ▸ hy))).mpr (hs y (mem_cons_of_mem _ hy))
  rw[List.length_erase_of_mem hx]at ih;have:0<L.length:=List.length_pos_of_mem hx;rw[length_cons];lia
theorem sJ:∀{vs:List Value},(∀v∈vs,∃u,v=.int (jX v) u)->IntsAre vs (vs.map jX)
 | [],_=>.nil
 |v :: vs,h=>by
  obtain⟨u,e⟩:=h v mem_cons_self;rw[e];exact .cons _ u (sJ λx hx=>h x (mem_cons_of_mem _ hx))
theorem nG:∀{vs:List Value}{ns:List Int},IntsAre vs ns->Vals (ns.map V.int) vs
 |_,_,.nil=>.nil
 |_,_,.cons n t r=>.cons ⟨t,U⟩ (nG r)
theorem gj:∀{ns:List Int},ns.Pairwise (· <= ·)->ns.Nodup->ns.Pairwise (· < ·)
 | [],_,_=>.nil
 |n :: ns,h1,h2=>by
  obtain⟨a1,a2⟩:=pairwise_cons.mp h1;obtain⟨b1,b2⟩:=nodup_cons.mp h2;refine .cons (λm hm=>?_) (gj a2 b2);have:=a1 m hm;have:n≠m:=λe=>b1 (e ▸ hm)
  lia
theorem rn{a:Addr}{ks:List Int}{m:Nat}{Q:Value->Shared->Prop}(hh:A.handled=none)(hW:dq s.heap a (!du w) ks m)(hm:m<64)
  (h:∀(ns:List Int)(vs:List Value)(s':Shared)(D:Addr)(c:Nat),Vals (ns.map V.int) vs->ns.Pairwise (· < ·)->(∀k,k∈ns↔k∈ks)->s.heap.objs.size<=D->(∀b u,s.heap.get? b=some u->s'.heap.get? b=some u)->s'.heap.get? D=some (seqObj "list" vs.toArray c)->s'.gens=s.gens->s'.os=s.os->ns.length=m->Q (.ref D) s') :
  wpAny (model prog w) A (call (.builtin "sorted") [.ref a]) Q E s:=by
 obtain⟨o,es,ep,t,ho,hex,hd,hE,hb,hf,ha,hl,hn⟩:=hW;refine Calls.call_function_entry kind_sorted plain_sorted entry_sorted (args_sorted1 _) ?_;unfold Builtin.«sorted»;refine wpAny_bind (m:=checkCount "sorted" 1 1 _) (wpAny_pure ?_);refine wpAny_bind (pK (by simp[hh]) ho hex hd hb hf ha hl λord s1 pm kp hg hos hss=>?_);have hlen:ord.length=m:=by rw[pm.length_eq,length_map,length_toList,hn]
 have hint:∀v∈ord,∃u,v=.int (jX v) u:=λv hv=>by
  obtain⟨e,he,rfl⟩:=mem_map.mp (pm.mem_iff.mp hv);exact(hE.ent e he).2
 have hI:=sJ hint;have pk:(ord.map jX).Perm (es.toList.map λe=>jX e.2):=by
  have:=pm.map jX;rw[List.map_map]at this;exact this
 refine wpAny_bind (wpAny_newList ?_ (by rw[sizeLine_eq];lia));have hoL:(s1.heap.push (seqObj "list" ord.toArray 0)).get? s1.heap.objs.size=some (seqObj "list" ord.toArray 0):=Heap.get?_push_size _ U;have keep:∀b u,s.heap.get? b=some u->(s1.heap.push (seqObj "list" ord.toArray 0)).get? b=some u:=λb u q=>Heap.get?_push_of_some _ (kp b u q)
 show wpAny _ _ _ _ _ { s1 with heap:=s1.heap.push (seqObj "list" ord.toArray 0) };refine wpAny_bind (wpAny_holding (wpAny_call_entry slot_list_sort ⟨_,hoL,U⟩ entry_list_sort ?body (args_list_sort _)))
 case body =>
  refine list_sort_tree (s:={ s1 with heap:=s1.heap.push (seqObj "list" ord.toArray 0) }) hoL hI (by lia) λout ns' a1 a2 a3=>⟨_,U,wpAny_pure ⟨_,U,?_⟩⟩
  have nd:ns'.Nodup:=a2.nodup_iff.mpr (pk.nodup_iff.mpr hE.nd);have hlt:s1.heap.objs.size<(s1.heap.push (seqObj "list" ord.toArray 0)).objs.size:=Heap.lt_size hoL;obtain⟨e1,ho1⟩:∃e1,((s1.heap.push (seqObj "list" ord.toArray 0)).update s1.heap.objs.size (Obj.mapSeq λ_=>#[])).get? s1.heap.objs.size=some (seqObj "list" #[] e1):=⟨_,get?_update_seq hoL (λ_=>#[])⟩;have h3:∀b,b<(s1.heap.push (seqObj "list" ord.toArray 0)).objs.size->((((s1.heap.push (seqObj "list" ord.toArray 0)).update s1.heap.objs.size (Obj.mapSeq λ_=>#[])).push (seqObj "tuple" ord.toArray 0)).push (seqObj "list" #[] 0)).get? b=((s1.heap.push (seqObj "list" ord.toArray 0)).update s1.heap.objs.size (Obj.mapSeq λ_=>#[])).get? b:=λb hb=>by
   rw[Heap.get?_push_ne _ _ _ (by rw[size_push',Heap.size_update];exact ne_of_lt (lt_succ_of_lt hb)),Heap.get?_push_ne _ _ _ (by rw[Heap.size_update];exact ne_of_lt hb)]
  have e6:((((s1.heap.push (seqObj "list" ord.toArray 0)).update s1.heap.objs.size (Obj.mapSeq λ_=>#[])).push (seqObj "tuple" ord.toArray 0)).push (seqObj "list" #[] 0)).get? s1.heap.objs.size=some (seqObj "list" #[] e1):=by rw[h3 _ hlt];exact ho1
  have sz:s.heap.objs.size<=s1.heap.objs.size:=le_of_lt hss;refine h ns' out.toList { s1 with heap:=sortedHeap (s1.heap.push (seqObj "list" ord.toArray 0)) s1.heap.objs.size ord out } s1.heap.objs.size _ (nG a1) (gj a3 nd) (λk=>(a2.mem_iff).trans ((pk.mem_iff).trans (hE.mem k).symm)) sz (λb u q=>?_) (get?_update_seq e6 (λ_=>out)) hg hos ?_
  ·have hb1:b<s1.heap.objs.size:=Heap.lt_size (kp b u q);show(Heap.update _ _ _).get? b=some u;rw[Heap.get?_update_ne _ _ _ _ (ne_of_lt hb1),h3 _ (Nat.lt_trans hb1 hlt),Heap.get?_update_ne _ _ _ _ (ne_of_lt hb1)];exact keep b u q
  ·rw[a2.length_eq,length_map,hlen]
variable{H':Hp}
theorem Inv.grow{s':Shared}(I:Inv X pins σ H s)(k:∀b o,s.heap.get? b=some o->s'.heap.get? b=some o)(hg:s'.gens=s.gens)(hos:s'.os=s.os)(hold:∀b,b<s.heap.objs.size->H' b=H b)
  (CF:∀b u,s.heap.objs.size<=b->H' b=some u->cI X.prog X.w H' s'.heap b u):Inv X pins σ H' s':=by
 obtain⟨h',g',d',t',o'⟩:=s';obtain rfl:g'=s.gens:=hg;obtain rfl:o'=s.os:=hos;have lt:∀{b u},H b=some u->b<s.heap.objs.size:=λ{b u} e=>by
  rcases lt_or_ge b s.heap.objs.size with z|z
  ·exact z
  ·rw[I.hok.fresh z]at e;cases e
 have same:∀{b u},H b=some u->H' b=some u:=λe=>by rw[hold _ (lt e)];exact e
 exact I.step (h':=h') (g':=s.gens) (d':=d') (t':=t') (ch:=[]) (λ_ z=>nomatch z) (λb o _ _ _ e _=>k b o e) (λb o _ _ _ e _=>⟨o.slots,k b o e⟩)
  (λb o _ e n=>by rw[hold _ (Heap.lt_size e)];exact n) (λb o _ e=>⟨o,k b o e⟩) (λb xs e=>same e) (λb o u e=>same e) (λb ps e=>⟨#[],by rw[same e];simp⟩)
  (λm hm=>by
   obtain⟨o,es,ep,ho,r⟩:=hm;exact⟨o,es,ep,k _ o ho,r⟩)
  (λb u e=>by
   rcases lt_or_ge b s.heap.objs.size with z|z
   ·rw[hold _ z]at e;exact(I.hok b u e).stay (λc u' _ q=>k c u' q) (λc q=>same q) λc xs q=>same q
   ·exact CF b u z e)
  I.bare
def rq(w:World)(a:Addr)(zs:List Int):HO:=.ext λh=>∃m,dq h a (!du w) zs m
theorem lC:∀{zs:List Int}{us:List Value},Vals (zs.map V.int) us->∀(i:Nat)(v:Value),us[i]?=some v->∃z t,zs[i]?=some z/\v=.int z t
 | [],_,.nil,i,v,h=>by simp at h
 |z :: zs,_,.cons ⟨t,e⟩ r,0,v,h=>by simp at h;exact⟨z,t,U,by rw[←h,e]⟩
 |z :: zs,_,.cons _ r,i+1,v,h=>by
  obtain⟨z',t,e1,e2⟩:=lC r i v (by simpa using h);exact⟨z',t,by simpa using e1,e2⟩
theorem nH{w:World}(hw:X.w=w)(hc:X.calm=true):de X (.type "set") (λxs H Q=>∃(p:Addr)(zs:List Int),xs=[.ref p]/\SqL X.K H p (zs.map V.int)/\zs.length<=1000/\∀l,H l=none->Q (.ref l) (upd H l (rq w l zs))):=by
 subst hw;intro pins s σ H xs us Q I r h;obtain⟨p,zs,rfl,hS,hz,q⟩:=h;obtain⟨u,rfl,ru⟩:=r.one;obtain rfl:u=Value.ref p:=ru;obtain⟨its,rv,pl,_⟩:=I.list hS;have hl:=rv.length;rw[length_map]at hl;refine tT (ks:=zs) (I.ok.hd hc) pl.isList (λi v e=>?_) (by simpa using hl) (by unfold scanBound;simp;lia) λh' tk m x hm kp=>?_
 ·exact lC rv i v (by simpa using e)
 ·refine⟨.ref s.heap.objs.size,_,I.laid (a:=s.heap.objs.size) (o:=rq X.w s.heap.objs.size zs) (h':=h') (t':=tk) (λb o q=>kp b o (Heap.lt_size q) q) (le_refl _) ?_,U,q _ I.fresh⟩;refine⟨⟨m,x⟩,?_,λh1 h2 ⟨m',y⟩ k=>⟨m',y.stay k⟩⟩;obtain⟨o,_,_,_,g,_⟩:=x;exact⟨o,g⟩
theorem fh{w:World}(hw:X.w=w)(hc:X.calm=true):de X (.builtin "sorted") (λus H Q=>∃(a:Addr)(zs L:List Int),us=[.ref a]/\H a=some (rq w a zs)/\L.length<64/\(∀k∈zs,k∈L) /\
  ∀(D:Addr)(ns:List Int),H D=none->ns.Pairwise (· < ·)->(∀k,k∈ns↔k∈zs)->Q (.ref D) (upd H D (.lst (ns.map V.int)))):=by
 subst hw;intro pins s σ H us vs Q I r h;obtain⟨a,zs,L,rfl,e,hL,hs,q⟩:=h;obtain⟨u,rfl,ru⟩:=r.one;obtain rfl:u=Value.ref a:=ru;obtain⟨⟨m,x⟩,_,_⟩:=I.hok a _ e;have hm:m<64:=by
  obtain⟨o,es,ep,t,_,_,_,hE,_,_,_,_,hn⟩:=id x;have:=bC (L:=L) hE.nd λk hk=>hs k ((hE.mem k).mpr hk)
  rw[length_map,length_toList,hn]at this;lia
 refine rn (I.ok.hd hc) x hm λns us s' D c a1 a2 a3 a4 a5 a6 a7 a8 a9=>?_
 have hD:H D=none:=I.hok.fresh a4;refine⟨.ref D,upd H D (.lst (ns.map V.int)),I.grow a5 a7 a8 (λb hb=>by rw[aw (ne_of_lt (lt_of_lt_of_le hb a4))]) (λb u hb eu=>?_),U,q D ns hD a2 a3⟩;by_cases z:b=D
 ·subst z;rw[ab]at eu;cases eu;exact⟨by rw[length_map,sizeLine_eq];lia,us,c,a1,a6⟩
 ·rw[aw z,I.hok.fresh hb]at eu;cases eu
inductive AX(K:W.Frag)(Q:VK)(vs:List V)(H1:Hp):Prop
 |mk (a b xs ys:_)(_:vs=[.ref a,.ref b])(_:SqL K H1 a xs)(_:SqL K H1 b ys)(_:∀(D:Addr)(ts:List Addr)(H2:Hp),ts.length=min xs.length ys.length->(∀c o,H1 c=some o->H2 c=some o)->H1 D=none->H2 D=some (.lst (ts.map V.ref)) ->
  (∀(j:Nat)(x y:V),xs[j]?=some x->ys[j]?=some y->∃T,ts[j]?=some T/\H1 T=none/\H2 T=some (.tup [x,y]))->Q (.ref D) H2):AX K Q vs H1
def tLZ(K:W.Frag)(ta:TA):TE:=λσ H Q=>ta σ H λvs H1=>AX K Q vs H1
theorem ltA{c n:Nat}(h:c<n)(k:Nat):c≠n+k:=ne_of_lt (lt_of_lt_of_le h (le_add_right _ _))
def gk(xs ys:List V)(ts:List Addr)(b:Addr):Option HO :=
 match ts.idxOf? b with
 |some j=>match xs[j]?,ys[j]? with
  |some x,some y=>some (.tup [x,y])
  |_,_=>none
 |none=>none
theorem rz{e1 e2:Expr}{ta:TA}{p1 p2 AY zB:Pos}(hcm:X.calm=true)(hg:Gl X "list") (hm:X.mg "list" = none) (hgz:Gl X "zip") (hmz:X.mg "zip" = none) (ha:PA X [e1,e2] ta)
  (hs:starEach [e1,e2] X.env=[(false,eval e1 X.env),(false,eval e2 X.env)]:=by rfl)(hs2:starEach [e2] X.env=[(false,eval e2 X.env)]:=by rfl) :
  PE X (.Call (.Name "list" p1) [.Call (.Name "zip" p2) [e1,e2] [] zB] [] AY) (tLZ X.K ta):=by
 intro pins s σ H Q I h;refine wpAny_Call_Name_kw (f7 I hg hm PyProof.Rows.boot_list ?_);refine PyProof.Rows.callWith_type1 ?_ U U;show wpAny _ _ (spliced ((false,eval (.Call (.Name "zip" p2) [e1,e2] [] zB) X.env) :: backTo AY (starEach [] X.env))) _ _ s;refine Calls.spliced_cons ?_;refine wpAny_Call_Name_kw (f7 I hgz hmz PyProof.Rows.boot_zip ?_);refine PyProof.Rows.callWith_type1 (thn (ha zB pins s σ H _ I h) λus s1 ⟨vs,H1,I1,r1,q1⟩=>?_) (by rw[hs,hs2]) (by rw[hs2];rfl);obtain⟨a,b,xs,ys,rfl,qa,qb,q⟩:=q1;obtain⟨u,v,rfl,ru,rv⟩:=r1.two;cases (show u=Value.ref a from ru);cases (show v=Value.ref b from rv);obtain⟨us,vu,pu,zu⟩:=I1.list qa;obtain⟨vs,vv,pv,zv⟩:=I1.list qb;obtain⟨oa,ea,_⟩:=id pu.isList;obtain⟨ob,eb,_⟩:=id pv.isList;have la:a<s1.heap.objs.size:=Heap.lt_size ea;have lb:b<s1.heap.objs.size:=Heap.lt_size eb;have l1:=vu.length;have l2:=vv.length;refine call_zip_2 pu.isList pv.isList λh' z1 z2 z3 z4 z5 z6 z7=>?_
 refine Calls.spliced_nil ?_;have D:ZipApart (s1.heap.objs.size+4) (s1.heap.objs.size+2) (s1.heap.objs.size+3) s1.heap.objs.size (s1.heap.objs.size+1) a b:=by
  refine⟨?_,?_,?_,?_,?_,?_,?_,?_,?_,?_,?_,?_,?_,?_,?_,?_,?_,?_⟩ <;> first|exact ne_of_lt (by lia)|exact ne_of_gt (by lia)|exact ne_of_lt la|exact ne_of_lt lb|exact ne_of_lt (lt_of_lt_of_le la (le_add_right _ _))|exact ne_of_lt (lt_of_lt_of_le lb (le_add_right _ _))
 refine mI (s:={ s1 with heap:=h' }) (I1.ok.hd hcm) D z1 z2 z3 z4 z5 (pu.isList.at λo e=>z7 _ _ e) (pv.isList.at λo e=>z7 _ _ e) (by simp;lia) λh2 acc c ts k3 g3 e3 n3 nd f3=>?_
 have hz2:Shared.heap { s1 with heap:=h' }=h':=rfl;rw[hz2]at g3 f3 k3;rw[z6]at g3 f3;have kp:∀c o,s1.heap.get? c=some o->h2.get? c=some o:=λc o e=>by
  have:=Heap.lt_size e;exact k3 c o (ltA this _) (ltA this _) (ne_of_lt this) (ltA this _) (z7 c o e)
 have hn3:ts.length=min xs.length ys.length:=by rw[n3];simp;lia
 have idx:∀(j:Nat)(T:Addr),ts[j]?=some T->ts.idxOf? T=some j:=λj T hj=>by
  obtain⟨hlt,ej⟩:=Fo.mp hj;rw[List.idxOf?,List.findIdx?_eq_some_iff_getElem];refine⟨hlt,by simp[ej],λi hi=>?_⟩;have:ts[i]≠ts[j]:=λq=>by
   have:=(getElem_inj nd).mp q;lia
  simpa[←ej]using this
 have jdx:∀(T:Addr)(j:Nat),ts.idxOf? T=some j->ts[j]?=some T:=λT j hj=>by
  rw[List.idxOf?,List.findIdx?_eq_some_iff_getElem]at hj;obtain⟨hlt,e,_⟩:=hj;rw[Fn hlt];simpa using e
 have tge:∀(T:Addr)(j:Nat),ts.idxOf? T=some j->s1.heap.objs.size+6<=T:=λT j hj=>by
  obtain⟨a1,_⟩:=f3 j T (jdx T j hj);lia
 show EP X pins σ Q _ _;rw[show(Shared.heap { s1 with heap:=h' }).objs.size=s1.heap.objs.size+5 from z6];generalize hH2:(λ(b:Addr)=>if b=s1.heap.objs.size+5 then some (HO.lst (ts.map V.ref))else match gk xs ys ts b with|some o=>some o|none=>H1 b)=H2;have hD:H2 (s1.heap.objs.size+5)=some (.lst (ts.map V.ref)):=by rw[←hH2];exact if_pos U
 have hO:∀c,c<s1.heap.objs.size->H2 c=H1 c:=λc hc=>by
  rw[←hH2];show(if c=s1.heap.objs.size+5 then _ else _)=_;rw[if_neg (ltA hc 5)];have:gk xs ys ts c=none:=by
   unfold gk;cases e:ts.idxOf? c with
   |none=>rfl
   |some j=>exact absurd (lt_of_lt_of_le hc (le_trans (le_add_right _ 6) (tge c j e))) (lt_irrefl _)
  rw[this]
 have hT:∀(j:Nat)(x y:V)(T:Addr),xs[j]?=some x->ys[j]?=some y->ts[j]?=some T->H2 T=some (.tup [x,y]):=λj x y T ex ey et=>by
  have:=tge T j (idx j T et);rw[←hH2];show(if T=s1.heap.objs.size+5 then _ else _)=_;rw[if_neg (ne_of_gt (lt_of_lt_of_le (lt_succ_self _) this))];have:gk xs ys ts T=some (.tup [x,y]):=by unfold gk;rw[idx j T et];dsimp only;rw[ex,ey]
  rw[this]
 refine⟨.ref (s1.heap.objs.size+5),H2,I1.grow (s':={ s1 with heap:=h2 }) kp U U hO (λb u hb eu=>?_),U,q _ ts H2 hn3 (λc o e=>?_) (I1.hok.fresh (le_add_right _ _)) hD λj x y ex ey=>?_⟩
 ·rw[←hH2]at eu;replace eu:(if b=s1.heap.objs.size+5 then some (HO.lst (ts.map V.ref))else match gk xs ys ts b with|some o=>some o|none=>H1 b)=some u:=eu
  by_cases zb:b=s1.heap.objs.size+5
  ·rw[if_pos zb]at eu;cases eu;subst zb;have rv:∀ts:List Addr,Vals (ts.map V.ref) (ts.map Value.ref):=λts=>by
    induction ts with
    |nil=>exact .nil
    |cons t r ih=>exact .cons U ih
   refine⟨by rw[length_map,hn3];lia,ts.map Value.ref,c,rv ts,?_⟩;rw[←e3];exact g3
  ·rw[if_neg zb]at eu;cases et:gk xs ys ts b with
   |none=>rw[et]at eu;replace eu:H1 b=some u:=eu;rw[I1.hok.fresh hb]at eu;cases eu
   |some o =>
    rw[et]at eu;cases eu;unfold gk at et;cases ei:ts.idxOf? b with
    |none=>rw[ei]at et;cases et
    |some j =>
     rw[ei]at et;dsimp only at et;cases ex:xs[j]? with
     |none=>rw[ex]at et;cases et
     |some x =>
      cases ey:ys[j]? with
      |none=>rw[ex,ey]at et;cases et
      |some y =>
       rw[ex,ey]at et;cases et;obtain⟨_,x',y',fx,fy,gp⟩:=f3 j b (jdx b j ei);obtain⟨u1,eu1,ru1⟩:=vu.get ex;obtain⟨v1,ev1,rv1⟩:=vv.get ey;have fx':us[j]?=some x':=by simpa using fx
       have fy':vs[j]?=some y':=by simpa using fy
       rw[eu1]at fx';rw[ev1]at fy';cases fx';cases fy';exact⟨by show 2<=sizeLine;decide,[x',y'],.cons ru1 (.cons rv1 .nil),_,gp,U,_,U⟩
 ·have:c<s1.heap.objs.size:=by
   rcases lt_or_ge c s1.heap.objs.size with z|z
   ·exact z
   ·rw[I1.hok.fresh z]at e;cases e
  rw[hO c this];exact e
 ·have hj:j<ts.length:=by
   obtain⟨h1,_⟩:=Fo.mp ex;obtain⟨h2',_⟩:=Fo.mp ey;lia
  have et:ts[j]?=some ts[j]:=Fn hj;exact⟨ts[j],et,I1.hok.fresh (le_trans (le_add_right _ 6) (tge _ j (idx j _ et))),hT j x y _ ex ey et⟩
def Ite(K:W.Frag)(a:Addr):It :=
 ⟨λi H=>∃xs x,SqL K H a xs/\xs[i]?=some x,
 λi H v H'=>∃T,H T=none/\v=.ref T/\∀xs x,SqL K H a xs->xs[i]?=some x->H'=upd H T (.tup [.int i,x]),
 λi H=>∃xs,SqL K H a xs/\xs.length<=i⟩
def vD(e it a:Addr)(i:Nat)(h:Heap):Prop:=(∃old,IsEnum h e it i old)/\h.IsListIter it a i
theorem tY{P:Program}{w:World}{K:W.Frag}{elts:List Expr} {x1} {tp:Pos}{e it a:Addr}(hne:e≠it) :
  Turn P w K (.Tuple elts x1 tp) (Ite K a) [e,it] e (vD e it a) where
 mem:=by simp
 obj:=λi h st c hc=>by
  obtain⟨⟨old,g1⟩,⟨o2,g2,_,d2⟩⟩:=st;simp only[mem_cons,not_mem_nil,or_false]at hc;rcases hc with rfl|rfl
  ·exact⟨_,g1,λv q=>nomatch q⟩
  ·exact⟨_,g2,λv q=>by rw[d2]at q;cases q⟩
 keep:=λi h h' st k=>by
  obtain⟨⟨old,g1⟩,g2⟩:=st;exact⟨⟨old,k e (by simp) _ g1⟩,g2.at λo q=>k it (by simp) o q⟩
 item:=by
  intro X hP hw hK hc i pins s σ H E I hf st hg;subst hP hw hK;obtain⟨xs,x,qa,ex⟩:=hg;obtain⟨⟨old,g1⟩,g2⟩:=st;obtain⟨us,ru,pu,_⟩:=I.list qa;obtain⟨u,eu,r1⟩:=ru.get ex;refine wpAny_pyNext_enum_item g1 g2 pu.isList (x:=u) (by simpa using eu) hne λh1 a1 a2 a3 a4 a5=>?_
  refine⟨_,U,wpAny_letOwnedTupleGo_enum (s:={ s with heap:=h1,toks:=s.toks+1 }) a1 λh2 b1 b2=>?_⟩;have nT:s.heap.get? s.heap.objs.size=none:=by
   cases q:s.heap.get? s.heap.objs.size with
   |none=>rfl
   |some o=>exact absurd (Heap.lt_size q) (lt_irrefl _)
  have hT:H s.heap.objs.size=none:=I.hok.fresh (le_refl _);have nz:s.heap.objs.size≠e:=ne_of_gt (Heap.lt_size g1);have kk:∀c o,c ∉ [e,it]->s.heap.get? c=some o->h2.get? c=some o:=λc o hc q=>by
   simp only[mem_cons,not_mem_nil,or_false,not_or]at hc;exact b2.extBut _ _ hc.1 (a5 c o hc.1 hc.2 q)
  have J:=I.turnedPair (h':=h2) (ch:=[e,it]) (T:=s.heap.objs.size) (x:=.int i) (y:=x) (u:=.int i s.toks) (v:=u) (λc hc=>hf c (by simp at hc⊢;rcases hc with q|q <;> simp[q])) kk nT hT (b2.extBut _ _ nz a3) ⟨_,U⟩ r1;refine⟨.ref s.heap.objs.size,upd H s.heap.objs.size (.tup [.int i,x]),J.tok _,U,⟨_,hT,U,λxs' x' q1 e1=>?_⟩,⟨⟨_,b1⟩,a2.extBut b2.extBut hne.symm⟩,λc hc=>?_⟩
  ·rw[I.list_inj q1 qa,ex]at e1;cases e1;rfl
  ·have h0:=(hf c hc).1;have:c≠s.heap.objs.size:=by
    obtain⟨o2,g2',_⟩:=g2;simp only[mem_cons,not_mem_nil,or_false]at hc;rcases hc with rfl|rfl
    ·exact nz.symm
    ·exact ne_of_lt (Heap.lt_size g2')
   rw[aw this];exact h0
 done:=by
  intro X hP hw hK hc i pins s σ H E I hf st hg;subst hP hw hK;obtain⟨xs,qa,hl⟩:=hg;obtain⟨⟨old,g1⟩,g2⟩:=st;obtain⟨us,ru,pu,_⟩:=I.list qa;have l1:=ru.length;refine wpAny_pyNext_enum_end (I.ok.hd hc) g1 g2 pu.isList (by simp;lia) λh2 k=>⟨U,I.turnedL (ch:=[e,it]) (λc hc=>hf c (by simp at hc⊢;rcases hc with q|q <;> simp[q])) λc o hc q=>?_⟩
  simp only[mem_cons,not_mem_nil,or_false,not_or]at hc;exact k c o hc.2 q
 self:=λ_ _ _ _ _ st h=>let ⟨⟨_,g⟩,_⟩:=st;wpAny_pyIter_enum g h
inductive vE(K:W.Frag)(R:It->Hp->Prop)(vs:List V)(H1:Hp):Prop
 |mk (a:_)(_:vs=[.ref a])(_:(∃xs,SqL K H1 a xs))(_:R (Ite K a) H1):vE K R vs H1
def AZ(K:W.Frag)(ta:TA):TI:=λσ H R=>ta σ H λvs H1=>vE K R vs H1
theorem xE{e1:Expr}{ta:TA}{p pos:Pos}{elts:List Expr} {x1} {tp:Pos}(hg:Gl X "enumerate") (hm:X.mg "enumerate" = none) (ha:PA X [e1] ta)
  (hs:starEach [e1] X.env=[(false,eval e1 X.env)]:=by rfl) :
  PI X (.Tuple elts x1 tp) (.Call (.Name "enumerate" p) [e1] [] pos) (AZ X.K ta):=by
 intro pins s σ H R I h;refine Call_ (f7 I hg hm PyProof.Rows.boot_enumerate (PyProof.Rows.callWith_type1 (thn (ha pos pins s σ H _ I h) λus s1 ⟨vs,H1,I1,r1,q1⟩=>?_) (by rw[hs];rfl) U));obtain⟨a,rfl,⟨xs,qa⟩,q⟩:=q1;obtain⟨u,rfl,ru⟩:=r1.one;cases (show u=Value.ref a from ru);obtain⟨us,_,pu,_⟩:=I1.list qa;refine call_enumerate_list pu.isList λh' z1 z2 z3 z4=>?_
 refine wpAny_pyIter_enum (s:={ s1 with heap:=h' }) z1 ?_;refine⟨s1.heap.objs.size+1,[s1.heap.objs.size+1,s1.heap.objs.size],vD (s1.heap.objs.size+1) s1.heap.objs.size a,Ite X.K a,H1,U,I1.kept (t':=s1.toks) z4,tY (ne_of_gt (lt_succ_self _)),⟨⟨_,z1⟩,z2⟩,λc hc=>?_,q⟩;have hc':s1.heap.objs.size<=c:=by
  simp only[mem_cons,not_mem_nil,or_false]at hc;rcases hc with rfl|rfl
  ·exact le_succ _
  ·exact le_refl _
 exact I1.fpOk hc' (I1.hok.fresh hc')
variable{gt:TG}{fr:List Nat}{tt:TT}{te:TE}
theorem rA{K:W.Frag}{a:Addr}{xs:List V}{σ:St}{H1:Hp}{Q:VK}(Pv:Addr->Nat->List V->Hp->Prop)(h0:∀D,H1 D=none->Pv D 0 [] (upd H1 D (.lst [])))
  (hk:∀D i ys H,H1 D=none->i<=xs.length->Pv D i ys H->SqL K H a xs)
  (hs:∀D i x ys H T,H1 D=none->xs[i]?=some x->Pv D i ys H->H T=none->∀ts:St,ts.length=k->gt (.ref T) (cK σ fr ts) (upd H T (.tup [.int i,x])) λσ2 H2=>(∃ts2:St,ts2.length=k/\σ2=cK σ fr ts2)/\tt σ2 H2 λb H3=>if b=true then te σ2 H3 (cF Pv D i xs.length)else dC Pv D i xs.length H3)
  (hd:∀D ys H,H1 D=none->Pv D xs.length ys H->Q (.ref D) H):gN (Ite K a) gt k fr tt te σ Q H1:=by
 intro D hD;refine⟨λi m H=>m=xs.length-i/\i<=xs.length/\∃ys,Pv D i ys H,⟨_,U,zero_le _,[],h0 D hD⟩,?_⟩;rintro i m H ⟨rfl,hi,ys,p⟩;have q:=hk D i ys H hD hi p;by_cases hlt:i<xs.length
 ·have ex:xs[i]?=some xs[i]:=Fn hlt;refine .inr ⟨⟨xs,xs[i],q,ex⟩,λx H' y=>?_⟩;obtain⟨T,hT,rfl,e⟩:=y;rw[e xs _ q ex];exact hs D i _ ys _ T hD ex p hT
 ·have e:i=xs.length:=by lia
  subst e;exact .inl ⟨⟨xs,q,le_refl _⟩,hd D ys H hD p⟩
theorem t9{K:W.Frag}{a b:Addr}{xs ys:List V}{σ:St}{H1:Hp}{Q:VK}(Pv:Addr->Nat->List V->Hp->Prop)(h0:∀D,H1 D=none->Pv D 0 [] (upd H1 D (.lst [])))
  (hk:∀D i zs H,H1 D=none->i<=min xs.length ys.length->Pv D i zs H->SqL K H a xs/\SqL K H b ys)
  (hs:∀D i x y zs H T,H1 D=none->xs[i]?=some x->ys[i]?=some y->Pv D i zs H->H T=none->∀ts:St,ts.length=k->gt (.ref T) (cK σ fr ts) (upd H T (.tup [x,y])) λσ2 H2=>(∃ts2:St,ts2.length=k/\σ2=cK σ fr ts2)/\tt σ2 H2 λb H3=>if b=true then te σ2 H3 (cF Pv D i (min xs.length ys.length))else dC Pv D i (min xs.length ys.length) H3)
  (hd:∀D zs H,H1 D=none->Pv D (min xs.length ys.length) zs H->Q (.ref D) H):gN (Itz K a b) gt k fr tt te σ Q H1:=by
 intro D hD;refine⟨λi m H=>m=min xs.length ys.length-i/\i<=min xs.length ys.length/\∃zs,Pv D i zs H,⟨_,U,zero_le _,[],h0 D hD⟩,?_⟩;rintro i m H ⟨rfl,hi,zs,p⟩;obtain⟨q1,q2⟩:=hk D i zs H hD hi p;by_cases hlt:i<min xs.length ys.length
 ·have ex:xs[i]?=some xs[i]:=Fn (by lia);have ey:ys[i]?=some ys[i]:=Fn (by lia);refine .inr ⟨⟨xs,ys,xs[i],ys[i],q1,q2,ex,ey⟩,λx H' y=>?_⟩;obtain⟨T,hT,rfl,e⟩:=y;rw[e xs ys _ _ q1 q2 ex ey];exact hs D i _ _ zs _ T hD ex ey p hT
 ·have e:i=min xs.length ys.length:=by lia
  subst e;exact .inl ⟨⟨xs,ys,q1,q2,by lia⟩,hd D zs H hD p⟩
theorem eJ{X:Cx}{N:List Str}{k:Nat}{fr:List Nat}{scope:Scope}{cl:List (Str×Addr)}(clos:closureFor scope X.env=pure cl)(kind:scope.kind=.function)(nocell:∀y∈scope.names,y.2≠.cell)
  (names:∀y∈scope.names,y.2=.local->scope.names.lookup y.1=some .local)(len:N.length=k+fr.length)
  (sub:((List.range fr.length).all λi=>match N[k+i]?,fr[i]? with|some y,some j=>(X.N[j]? == some y) && ((X.env.kindOf y == some .cell) && ((relabel scope X.env).names.lookup y == some .cell))|_,_=>false)=true)
  (cells:∀p∈cl,X.env.cells.lookup p.1=some p.2)(has:((relabel scope X.env).names.all λp=>(p.2 != .cell && p.2 != .free) || (cl.lookup p.1).isSome)=true):kT X N k fr scope cl:=by
 refine⟨clos,kind,nocell,names,len,λi y e=>?_,λy c e=>cells _ (mem_of_lookup e),λy h=>?_⟩
 ·have hi:i<fr.length:=by have:=(Fo.mp e).1;lia
  have z:=all_eq_true.mp sub i (mem_range.mpr hi);rw[e,Fn hi]at z;simp only[and_eq_true,beq_iff_eq]at z;exact⟨_,Fn hi,z.1,.inl z.2.1,.inl z.2.2⟩
 ·have look:∀k,(relabel scope X.env).names.lookup y=some k->(k=.cell\/k=.free)->∃c,cl.lookup y=some c:=λk e hk=>by
   have z:=all_eq_true.mp has _ (mem_of_lookup e);rcases hk with rfl|rfl
   ·exact isSome_iff_exists.mp (by simpa using z)
   ·exact isSome_iff_exists.mp (by simpa using z)
  rcases h with h|h
  ·exact look _ h (.inl U)
  ·exact look _ h (.inr U)
theorem ua{K:W.Frag}(hK:X.K=K){a:Expr}{ta:TE}(ha:PE X a ta)(he:∀whole,isTrue a X.env whole=(do let v ←whole;standAt a.pos;holding [v] (truthy v)):=by intro _;rfl) :
  PT X a (λσ H Q=>ta σ H λx H'=>∃k,y9 K x H' k/\Q k H'):=hK ▸ df ha he
section
variable{elt iter tg:Expr}{ifs:List Expr}{cl:List (Str×Addr)}
theorem vF{wi:TI}{i:Nat}{y:Str}{py vj:Pos}(hN:X.N.Nodup)(hy:X.N[i]?=some y)(hl:Loc X.env.scope y)(hi:PI X tg iter wi)(O:kT X N k fr scope cl)(hc:X.calm=true)(hg:∀fp C s H,PG (br X N scope cl fp C s H) tg gt)
  (ht:∀fp C s H,PIf (br X N scope cl fp C s H) ifs tt)(he:∀fp C s H,PE (br X N scope cl fp C s H) elt te)(hs:∀v,foldedSetIterable iter X.env v=pure v:=by intro _;rfl)
  (hsw:swapsWith (.ListComp elt [⟨tg,iter,ifs,0⟩] scope pos) (some (.Name y py)) vj.line X.env=pure true:=by rfl)(hf:X.fn y=true\/X.env.scope.names.lookup y=some .local:=by first|exact .inl U|exact .inr U|assumption) :
  PS X (.Assign [.Name y py] (.ListComp elt [⟨tg,iter,ifs,0⟩] scope pos) vj) (xi (vk wi gt k fr tt te) (mX i)):=by
 intro pins s σ H D0 I h;rw[exec_Assign_Name_used _ _ _ _ hsw];refine wpAny_bind (wpAny_standAt (wpAny_bind ?_));show wpAny _ X.A (do let _ ←comprehension (.ListComp elt [⟨tg,iter,ifs,0⟩] scope pos) scope X.env _ (newList []) false (eval iter X.env) (some (assign (.Name y py) X.env))) _ _ s;refine wpAny_bind (wpAny_mono (wpAny_comprehension_free (use:=some (assign (.Name y py) X.env)) (Q:=λ_ s'=>SP X pins D0 .next s') U hs O.clos O.kind O.names (thn (hi pins s σ H _ I h) λv s1 h1=>thn h1 λitv s2 h2=>?_)) (λ_ s' hq=>wpAny_pure (wpAny_pure hq)) λ_ _ z=>z);obtain⟨it,fp,tn,J,H2,e,I2,T,st2,f2,hW⟩:=h2;subst e;refine kU (Q:=λv H1=>mX i v σ H1 D0.nx) (RR:=λacc C=>compPost (model X.prog X.w) X.A X.xe (some (assign (.Name y py) X.env)) (λ_ s'=>SP X pins D0 .next s') acc C) O hc I2 T st2 f2 ht he hg hW λD C s' H' hC hn ⟨m,hm⟩ I' q=>?_
 show wpAny _ X.A (assign (.Name y py) X.env (.ref D)) _ _ s';refine wpAny_assign_Name (jN I' hN hy hl (v:=.ref D) U (λs3 I3 ⟨a,hsa,ha⟩=>?_) hf);have hCa:C≠a:=by
  rcases ha with z|z
  ·rw[z];exact ne_of_gt (lt_of_lt_of_le I2.lt hC)
  ·obtain⟨v,o,ho,_⟩:=I2.cell y a z;exact ne_of_gt (lt_of_lt_of_le (Heap.lt_size ho) hC)
 exact⟨m,hm.sameBut hsa hCa,λh' hs'=>⟨_,H',I2.left I3 hC hn hs',q⟩⟩
end
set_option maxRecDepth 100000
theorem zC:PIp X .Mult (λx y H Q=>∃i j,x=.int i/\y=.int j/\IntMulOk i j/\Q (.int (i*j)) H):=by
 intro pins s σ H x y v u Q I r1 r2 h;obtain⟨i,j,e1,e2,hm,q⟩:=h;subst e1;subst e2;obtain⟨t,rfl⟩:=r1;obtain⟨t',rfl⟩:=r2;exact PyProof.Rows.imul_int ⟨.int _,H,I.tok _,⟨_,U⟩,q⟩ hm
set_option maxRecDepth 100000
theorem vG{X:Cx}{K:W.Frag}(h:X.K=K):SlR X (zi K):=h ▸ oq
structure CG(X:Cx)(N:List Str)(k:Nat)(fr:List Nat)(scope:Scope)(cl:List (Str×Addr)):Prop where
 clos:closureFor scope X.env=pure cl
 kind:scope.kind=.function
 names:∀y∈scope.names,y.2=.local->scope.names.lookup y.1=some .local
 len:N.length=k+fr.length
 sub:∀(i:Nat)(y:Str),N[k+i]?=some y->∃j,fr[i]?=some j/\X.N[j]?=some y/\(X.env.kindOf y=some .cell\/X.env.kindOf y=some .free)/\((relabel scope X.env).names.lookup y=some .cell\/(relabel scope X.env).names.lookup y=some .free)/\∃c,cl.lookup y=some c/\∀C:Addr,(cellsFrom (C+1) scope.names cl).lookup y=some c
 cells:∀y c,cl.lookup y=some c->X.env.cells.lookup y=some c
 has:∀(C:Addr)(y:Str),((relabel scope X.env).names.lookup y=some .cell\/(relabel scope X.env).names.lookup y=some .free)->∃c,(cellsFrom (C+1) scope.names cl).lookup y=some c
section
variable{elt iter tg:Expr}{ifs:List Expr}{cl:List (Str×Addr)}
end
section
variable{st b₀:Stmt}{su:List Stmt}{tb:TSX}{ts:Addr->Addr->TS}{Tn:Str}{B:Addr}{Cw:Pos}
end
theorem ub{K:W.Frag}{a:Addr}{xs:List V}{σ:St}{H1:Hp}{Q:VK}(Pv:Addr->Nat->List V->Hp->Prop)(h0:∀D,H1 D=none->Pv D 0 [] (upd H1 D (.lst [])))
  (hk:∀D i ys H,H1 D=none->i<=xs.length->Pv D i ys H->SqT K H a xs)
  (hs:∀D i x ys H,H1 D=none->xs[i]?=some x->Pv D i ys H->∀ts:St,ts.length=k->gt x (cK σ fr ts) H λσ2 H2=>(∃ts2:St,ts2.length=k/\σ2=cK σ fr ts2)/\tt σ2 H2 λb H3=>if b=true then te σ2 H3 (cF Pv D i xs.length)else dC Pv D i xs.length H3)
  (hd:∀D ys H,H1 D=none->Pv D xs.length ys H->Q (.ref D) H):gN (Itt K a) gt k fr tt te σ Q H1:=by
 intro D hD;refine⟨λi m H=>m=xs.length-i/\i<=xs.length/\∃ys,Pv D i ys H,⟨_,U,zero_le _,[],h0 D hD⟩,?_⟩;rintro i m H ⟨rfl,hi,ys,p⟩;have q:=hk D i ys H hD hi p;by_cases hlt:i<xs.length
 ·refine .inr ⟨⟨xs,xs[i],q,by simp[hlt]⟩,λx H' y=>?_⟩;obtain⟨e,y⟩:=y;subst e;exact hs D i x ys _ hD (y xs q) p
 ·have e:i=xs.length:=by lia
  subst e;exact .inl ⟨⟨xs,q,le_refl _⟩,hd D ys H hD p⟩
abbrev TTh:HO:=.ext λ_=>True
theorem pO{P:Program}{w:World}{H:Hp}{h:Heap}{a:Addr}{o:Obj}(e:h.get? a=some o):cI P w H h a (.frz o TTh):=⟨e,trivial,⟨o,e⟩,λ_ _ _ _=>trivial⟩
def hideL(H:Hp)(cs:List Addr):Hp:=λb=>if b∈cs then none else H b
def gm(H:Hp)(fz:List (Addr×Obj)):Hp:=λb=>match fz.lookup b with
 |some o=>some (.frz o TTh)
 |none=>H b
def backL(H H':Hp)(cs:List Addr):Hp:=λb=>if b∈cs then H b else H' b
theorem jz{H:Hp}{cs:List Addr}{b:Addr}(h:b∈cs):hideL H cs b=none:=if_pos h
theorem bM{H:Hp}{cs:List Addr}{b:Addr}(h:b ∉ cs):hideL H cs b=H b:=if_neg h
theorem lD{H H':Hp}{cs:List Addr}{b:Addr}(h:b∈cs):backL H H' cs b=H b:=if_pos h
theorem cZ{H H':Hp}{cs:List Addr}{b:Addr}(h:b ∉ cs):backL H H' cs b=H' b:=if_neg h
theorem fI{H:Hp}{cs:List Addr}{b:Addr}(h:H b=none):hideL H cs b=none:=by
 unfold hideL;split
 ·rfl
 ·exact h
theorem rB{H:Hp}{cs:List Addr}{b:Addr}{o:HO}(h:hideL H cs b=some o):b ∉ cs/\H b=some o:=by
 unfold hideL at h;split at h
 ·cases h
 ·rename_i n
  exact⟨n,h⟩
def Fzs(H:Hp)(cs:List Addr):Prop:=∀c∈cs,∃o,H c=some (.frz o TTh)
theorem Fzs.out{H:Hp}{cs:List Addr}(h:Fzs H cs){b:Addr}{u:HO}(e:H b=some u)(n:∀o,u≠.frz o TTh):b ∉ cs:=λz=>by
 obtain⟨o,q⟩:=h b z;rw[e]at q;exact n o (Option.some.inj q)
section
variable{h:Heap}{cs:List Addr}
theorem HOk.hideL(x:HOk P w H h)(f:Fzs H cs):HOk P w (hideL H cs) h:=λb o e=>by
 obtain⟨n,e⟩:=rB e;refine(x b o e).stay (λ_ _ _ q=>q) (λc q=>?_) λc xs q=>?_
 ·rw[bM (f.out q λ_ z=>by cases z)];exact q
 ·rw[bM (f.out q λ_ z=>by cases z)];exact q
theorem HOk.backL(x:HOk P w H' h')(f:Fzs H cs)(n:∀c∈cs,H' c=none)(k:∀c∈cs,∀o,H c=some (.frz o TTh)->h'.get? c=some o):HOk P w (backL H H' cs) h':=λb o e=>by
 by_cases hb:b∈cs
 ·rw[lD hb]at e;obtain⟨ob,q⟩:=f b hb;rw[q]at e;cases e;exact pO (k b hb ob q)
 ·rw[cZ hb]at e;have out:∀{c:Addr}{u:HO},H' c=some u->c ∉ cs:=λ{c u} q z=>by rw[n c z]at q;cases q
  refine(x b o e).stay (λ_ _ _ q=>q) (λc q=>?_) λc xs q=>?_
  ·rw[cZ (out q)];exact q
  ·rw[cZ (out q)];exact q
theorem lE(s:ar (hideL H cs) H'):ar H (backL H H' cs):=λb o e=>by
 by_cases hb:b∈cs
 ·rw[lD hb];exact e
 ·rw[cZ hb];exact s b o (by rw[bM hb];exact e)
end
section
variable{fs:List Addr}{h:Heap}{cs:List Addr}
theorem Un.backL(u:Un fs [] (hideL H cs) H' h h')(f:Fzs H cs):Un fs [] H (backL H H' cs) h h' where
 keep:=λb o e n hb hx=>u.keep b o e (fI n) hb hx
 slot:=λb o e n hb hx=>u.slot b o e (fI n) hb hx
 free:=λb o e n hx=>by
  have:b ∉ cs:=λz=>by obtain⟨ob,q⟩:=f b z;rw[n]at q;cases q
  rw[cZ this];exact u.free b o e (fI n) hx
 there:=u.there
 tups:=λb xs e=>by
  have hb:=f.out e λ_ z=>by cases z
  rw[cZ hb];exact u.tups b xs (by rw[bM hb];exact e)
 frzs:=λb o v e=>by
  by_cases hb:b∈cs
  ·rw[lD hb];exact e
  ·rw[cZ hb];exact u.frzs b o v (by rw[bM hb];exact e)
 tbls:=λb ps e=>by
  have hb:=f.out e λ_ z=>by cases z
  rw[cZ hb];exact u.tbls b ps (by rw[bM hb];exact e)
end
def pP(oc:Obj)(qual:Str):Prop:=∃vs t,oc.data=.fields vs/\vs[1]?=some (.str qual t)
structure oA(N ps:List Str)(sc:Scope)(cl:List (Str×Addr)):Prop where
 kind:sc.kind=.function
 co:sc.isCoroutine=false
 gen:sc.isGenerator=false
 nd:N.Nodup
 pre:N.take ps.length=ps
 par:∀x∈ps,sc.names.lookup x=some .local
 nocell:∀y∈sc.names,y.2≠.cell
 has:∀y∈sc.names,y.2=.free->∃c,cl.lookup y.1=some c
def cxC(CX:CXT)(P:Program)(w:World)(K:W.Frag)(mg:Str->Option Value)(base:Heap)(N:List Str)(qual:Str)(scope:Scope)(f:Addr)(cd:Value)(cl:List (Str×Addr))(A:Around)(outer:List Env)(s:Shared)(H:Hp)(E:XK):Cx where
 prog:=P
 w:=w
 K:=K
 mg:=mg
 base:=base
 A:=A.deeper (W.envX qual scope s.heap.objs.size f cd cl)
 N:=N
 s₀:=s
 H₀:=hideL H (cl.map (·.2))
 env:=W.envX qual scope s.heap.objs.size f cd cl
 outer:=outer
 stack:=W.envX qual scope s.heap.objs.size f cd cl :: outer
 ex:=[]
 calm:=true
 fn:=λ_=>false
 pn:=[]
 xe:=λe s'=>wpAny (model P w) (A.deeper (W.envX qual scope s.heap.objs.size f cd cl)) (leaving (W.envX qual scope s.heap.objs.size f cd cl) e) (λ_ s''=>CX outer H s E e s'') (λe' s''=>CX outer H s E e' s'') s'
def eK(H:Hp)(cl:List (Str×Addr))(ws:List (Str×V)):Prop :=
 (∀c∈cl.map (·.2),∃o v,H c=some (.frz o TTh)/\o.data=.cell v)/\∀(x:Str)(v:V),ws.lookup x=some v->∃c o u,cl.lookup x=some c/\H c=some (.frz o TTh)/\o.data=.cell (some u)/\RelV v u
theorem eK.fzs{H:Hp}{cl:List (Str×Addr)}{ws:List (Str×V)}(h:eK H cl ws):Fzs H (cl.map (·.2)):=λc hc=>let ⟨o,_,e,_⟩:=h.1 c hc;⟨o,e⟩
theorem eK.same{H H':Hp}{cl:List (Str×Addr)}{ws:List (Str×V)}(h:eK H cl ws)(s:ar H H'):eK H' cl ws :=
 ⟨λc hc=>let ⟨o,v,e,d⟩:=h.1 c hc;⟨o,v,s _ _ e,d⟩,λx v e=>let ⟨c,o,u,a,b,d,r⟩:=h.2 x v e;⟨c,o,u,a,s _ _ b,d,r⟩⟩
def j0(N ps:List Str)(vs:List V)(ws:List (Str×V)):St:=vs.map some++(N.drop ps.length).map λx=>ws.lookup x
theorem lF{cl:List (Str×Addr)}{x:Str}{c:Addr}(h:cl.lookup x=some c):c∈cl.map (·.2):=mem_map.mpr ⟨(x,c),mem_of_lookup h,U⟩
theorem rC{ps:List Str}{us:List Value}{i:Nat}{y:Str}{u:Value}(nd:ps.Nodup)(h1:ps[i]?=some y)(h2:us[i]?=some u)(hl:us.length=ps.length):(ps.zip us).reverse.lookup y=some u:=by
 have hnd:((ps.zip us).map (·.1)).Nodup:=by rw[map_fst_zip (by lia)];exact nd
 rw[PySem.lookup_reverse_of_nodup _ hnd];have hm:(y,u)∈ps.zip us:=by
  have:(ps.zip us)[i]?=some (y,u):=by rw[getElem?_zip_eq_some];exact⟨h1,h2⟩
  exact Fp this
 cases e:(ps.zip us).lookup y with
 |none =>
  exact absurd hm (by
   intro hm;have:=List.lookup_eq_none_iff.mp e (y,u) hm;simp at this)
 |some v =>
  have:=mem_of_lookup e;obtain⟨j,ej⟩:=getElem?_of_mem this;rw[getElem?_zip_eq_some]at ej;have:=jr nd ej.1 h1;subst this;rw[h2]at ej;rw[Option.some.inj ej.2]
def HFn(P:Program)(w:World)(K:W.Frag)(mg:Str->Option Value)(base:Heap)(k:Nat)(f:Addr)(sp:Sp):Prop:=∃fd ps,aH P w K mg base CX0 k f fd ps sp/\Binds K fd ps []
def FnO(H:Hp)(f:Addr):Prop:=∃o fd,H f=some (.frz o TTh)/\o.data=.func fd
section
variable{i:Nat}
inductive yG(X:Cx)(k i:Nat)(t:TA)(σ:St)(H:Hp)(Q:VK):Prop
 |mk (f:Addr)(sp:Sp)(_:σ[i]?=some (some (.ref f)))(_:FnO H f)(_:HFn X.prog X.w X.K X.mg X.base k f sp)(_:t σ H λvs H1=>FnO H1 f/\sp vs H1 Q E0):yG X k i t σ H Q
theorem sL(hr:bZ k X.A)(hN:X.N[i]?=some x)(hv:Vis X.env.scope x)(ha:PA X (e :: es) t)(hd:(x == ("__debug__" : Str))=false:=by decide) (hcd:(x == ("__classdict__" : Str))=false:=by decide)
  (he:starEach (e :: es) X.env=(false,eval e X.env) :: starEach es X.env:=by rfl)(hpl:(backTo pos (starEach es X.env)).any (·.1)=false:=by rfl):PE X (.Call (.Name x p) (e :: es) [] pos) (yG X k i t):=by
 intro pins s σ H Q I h;obtain⟨f,sp,ef,fo,⟨fd,pn,F,hb⟩,h⟩:=h;have at_:∀{H:Hp}{s:Shared}{σ:St},Inv X pins σ H s->FnO H f->W.FnAt f s.heap:=λI' ⟨o,fd,e,d⟩=>by
  have:=(I'.hok f _ e).1;obtain⟨oc,od,dt,sl⟩:=o;simp only at d;subst d;exact⟨oc,od,fd,sl,this⟩
 refine wpAny_Call_Name_kw (thn (uL hN hv hd hcd pins s σ H (λv H'=>v=.ref f/\H'=H) I ⟨_,ef,U,U⟩) λu s1 ⟨v,H1,I1,r1,q1⟩=>?_);obtain⟨rfl,rfl⟩:=q1;cases (show u=Value.ref f from r1);refine W.callWith_F (at_ I1 fo) (thn (ha pos pins s1 σ H1 _ I1 h) λus s2 ⟨vs,H2,I2,r2,fo2,q2⟩=>⟨at_ I2 fo2,?_⟩) he hpl;exact qR (E:=E0) (dvs:=[]) (ds:=[]) F hr hb .nil bG I2 r2 (by rw[append_nil];exact q2)
end
theorem cy{H:Hp}{fz:List (Addr×Obj)}{b:Addr}(h:b ∉ fz.map (·.1)):gm H fz b=H b:=by
 unfold gm;cases e:fz.lookup b with
 |none=>rfl
 |some o=>exact absurd (mem_map.mpr ⟨(b,o),W.mem_of_lookupK e,U⟩) h
theorem fJ{H:Hp}{fz:List (Addr×Obj)}{b:Addr}(h:b∈fz.map (·.1)):∃o,(b,o)∈fz/\gm H fz b=some (.frz o TTh):=by
 unfold gm;cases e:fz.lookup b with
 |none =>
  obtain⟨⟨b',o⟩,hm,rfl⟩:=mem_map.mp h;have:=List.lookup_eq_none_iff.mp e _ hm;simp at this
 |some o=>exact⟨o,W.mem_of_lookupK e,U⟩
structure oB(X:Cx)(s:Shared)(fz:List (Addr×Obj)):Prop where
 cell:∀p∈fz,∃x,X.env.cells.lookup x=some p.1
 nb:∀p∈fz,X.base.get? p.1=none
 nf:∀p∈fz,p.1 ∉ X.fs
 at_:∀p∈fz,s.heap.get? p.1=some p.2
theorem oB.free{fz:List (Addr×Obj)}(z:oB X s fz)(I:Inv X pins σ H s):∀b∈fz.map (·.1),H b=none:=λb hb=>by
 obtain⟨p,hp,rfl⟩:=mem_map.mp hb;obtain⟨x,e⟩:=z.cell p hp;exact I.freeC x _ e
theorem oB.hok{fz:List (Addr×Obj)}(z:oB X s fz)(I:Inv X pins σ H s):HOk X.prog X.w (gm H fz) s.heap:=λb u e=>by
 by_cases hb:b∈fz.map (·.1)
 ·obtain⟨o,hm,q⟩:=fJ (H:=H) hb;rw[q]at e;cases e;exact pO (z.at_ _ hm)
 ·rw[cy hb]at e;have out:∀{d:Addr}{u:HO},H d=some u->gm H fz d=some u:=λ{d u} q=>by
   rw[cy λm=>by rw[z.free I d m]at q;cases q];exact q
  exact(I.hok b u e).stay (λ_ _ _ q=>q) (λd q=>out q) λd xs q=>out q
theorem oB.env0{fz:List (Addr×Obj)}(z:oB X s fz)(I:Inv X pins σ H s):o9 X.prog X.w X.K X.mg X.base X.A X.stack s (gm H fz):=by
 have e:=I.env0;refine⟨e.frames,e.mod,λb o q=>⟨(e.bs b o q).1,?_⟩,e.bsz,e.funs,λb hb=>?_,z.hok I,e.bare⟩
 ·rw[cy λm=>?_]
  ·exact(e.bs b o q).2
  ·obtain⟨p,hp,rfl⟩:=mem_map.mp m;rw[z.nb p hp]at q;cases q
 ·rw[cy λm=>?_]
  ·exact e.frf b hb
  ·obtain⟨p,hp,rfl⟩:=mem_map.mp m;rcases mem_cons.mp (I.stkSub _ hb)with q|q
   ·obtain⟨x,ex⟩:=z.cell p hp;exact I.cne x _ ex q
   ·exact z.nf p hp q
theorem Inv.cellNew(I:Inv X pins σ H s){x:Str}{c:Addr}(e:X.env.cells.lookup x=some c)(hf:X.fn x=true):X.base.get? c=none/\c ∉ X.fs:=by
 have old:=I.ok.cab x c hf e;refine⟨Heap.get?_none_of_le (le_trans I.ok.bsz old),λq=>?_⟩;obtain⟨_,o,ho,_⟩:=I.ok.funs.mem q;exact absurd (Heap.lt_size ho) (not_lt.mpr old)
theorem oB.after{fz:List (Addr×Obj)}{Q:VK}{u:Value}{s':Shared}(z:oB X s fz)(I:Inv X pins σ H s)(h:CE X.stack X.prog X.w (gm H fz) s (λv H2=>Q v (hideL H2 (fz.map (·.1)))) u s'):EP X pins σ Q u s':=by
 obtain⟨v,H2,os,bare,un,hok,r,q⟩:=h;have fzs:Fzs H2 (fz.map (·.1)):=λc hc=>by
  obtain⟨o,_,e⟩:=fJ (H:=H) hc;exact⟨o,un.frzs c o _ e⟩
 have out:∀{d:Addr}{u:HO},H d=some u->d ∉ fz.map (·.1):=λ{d u} q m=>by rw[z.free I d m]at q;cases q
 refine⟨v,hideL H2 (fz.map (·.1)),I.call' (ch:=[]) os ⟨λb o e n hb hx=>?_,λb o e n hb hx=>?_,λb o e n hx=>?_,un.there,λb xs e=>?_,λb o w' e=>?_,λb ps e=>?_⟩ (hok.hideL fzs) bare (λb hb=>absurd hb (by simp)),r,q⟩
 ·by_cases hm:b∈fz.map (·.1)
  ·obtain⟨ob,lG,q2⟩:=fJ (H:=H) hm;have:=(hok b _ (un.frzs b ob _ q2)).1;have e':=z.at_ _ lG;rw[e]at e';cases e';exact this
  ·exact un.keep b o e (by rw[cy hm];exact n) hb hx
 ·by_cases hm:b∈fz.map (·.1)
  ·obtain⟨ob,lG,q2⟩:=fJ (H:=H) hm;have:=(hok b _ (un.frzs b ob _ q2)).1;have e':=z.at_ _ lG;rw[e]at e';cases e';exact⟨_,this⟩
  ·exact un.slot b o e (by rw[cy hm];exact n) hb hx
 ·by_cases hm:b∈fz.map (·.1)
  ·exact jz hm
  ·rw[bM hm];exact un.free b o e (by rw[cy hm];exact n) hx
 ·have hm:=out e;rw[bM hm];exact un.tups b xs (by rw[cy hm];exact e)
 ·have hm:=out e;rw[bM hm];exact un.frzs b o w' (by rw[cy hm];exact e)
 ·have hm:=out e;rw[bM hm];exact un.tbls b ps (by rw[cy hm];exact e)
def tZ(zs:List (Str×Nat×Addr))(sp:Sp)(t:TA):TE:=λσ H Q=>t σ H λvs H1=>∀os:List Obj,os.length=zs.length->(∀z∈zs,H1 z.2.2=none) ->
 (∀(j:Nat)(z:Str×Nat×Addr),zs[j]?=some z->∃o w,os[j]?=some o/\o.data=.cell w/\∀v,σ[z.2.1]?=some (some v)->∃u,w=some u/\RelV v u) ->
 sp vs (gm H1 ((zs.map (·.2.2)).zip os)) (λv H2=>Q v (hideL H2 (zs.map (·.2.2)))) E0
theorem nI{pins:List (Addr×Obj)}{σ:St}{H:Hp}{s:Shared}(I:Inv X pins σ H s):∀(zs:List (Str×Nat×Addr)),(∀z∈zs,X.N[z.2.1]?=some z.1/\(X.env.scope.names.lookup z.1=some .cell\/X.env.scope.names.lookup z.1=some .free)/\X.env.cells.lookup z.1=some z.2.2/\(X.fn z.1=true\/(X.base.get? z.2.2=none/\z.2.2 ∉ X.fs))) ->
  ∃os:List Obj,os.length=zs.length/\(∀(j:Nat)(z:Str×Nat×Addr),zs[j]?=some z->∃o w,os[j]?=some o/\s.heap.get? z.2.2=some o/\o.data=.cell w/\∀v,σ[z.2.1]?=some (some v)->∃u,w=some u/\RelV v u)
 | [],_=>⟨[],U,λj z e=>by simp at e⟩
 |z :: zs,h=>by
  obtain⟨os,hl,ho⟩:=nI I zs λq hq=>h q (mem_cons_of_mem _ hq)
  obtain⟨h1,h2,h3,h4⟩:=h z mem_cons_self;obtain⟨w,o,e,d⟩:=I.cell _ _ h3;refine⟨o :: os,by rw[length_cons,length_cons,hl],λj q hq=>?_⟩
  match j,hq with
  |0,hq =>
   cases hq;refine⟨o,w,U,e,d,λv hv=>?_⟩;obtain⟨m,hn,CH⟩:=I.loc;obtain⟨u,r,l⟩:=CH _ _ v h1 hv (.inr h2);rcases l with⟨hk,_⟩|⟨_,c,hc,o',e',d'⟩
   ·have hk:X.env.scope.names.lookup z.1=some .local:=hk;rcases h2 with h2|h2 <;> rw[h2]at hk <;> cases hk
   ·rw[h3]at hc;cases hc;rw[e]at e';cases e';rw[d]at d';injection d' with d';exact⟨u,d',r⟩
  |j+1,hq=>exact ho j q (by simpa using hq)
theorem zD{pins:List (Addr×Obj)}{σ:St}{H:Hp}{s:Shared}{zs:List (Str×Nat×Addr)}{os:List Obj}(I:Inv X pins σ H s)
  (hz:∀z∈zs,X.N[z.2.1]?=some z.1/\(X.env.scope.names.lookup z.1=some .cell\/X.env.scope.names.lookup z.1=some .free)/\X.env.cells.lookup z.1=some z.2.2/\(X.fn z.1=true\/(X.base.get? z.2.2=none/\z.2.2 ∉ X.fs)))(hl:os.length=zs.length)
  (ho:∀(j:Nat)(z:Str×Nat×Addr),zs[j]?=some z->∃o w,os[j]?=some o/\s.heap.get? z.2.2=some o/\o.data=.cell w/\∀v,σ[z.2.1]?=some (some v)->∃u,w=some u/\RelV v u):oB X s ((zs.map (·.2.2)).zip os):=by
 have at_:∀p∈(zs.map (·.2.2)).zip os,∃z∈zs,z.2.2=p.1/\s.heap.get? p.1=some p.2:=λp hp=>by
  obtain⟨j,ej⟩:=getElem?_of_mem hp;rw[getElem?_zip_eq_some,getElem?_map]at ej;cases ez:zs[j]? with
  |none=>rw[ez]at ej;cases ej.1
  |some z =>
   rw[ez]at ej;have e1:z.2.2=p.1:=Option.some.inj ej.1;obtain⟨o,w,e2,e3,_⟩:=ho j z ez;rw[ej.2]at e2;cases e2;exact⟨z,Fp ez,e1,e1 ▸ e3⟩
 have new:∀z∈zs,X.base.get? z.2.2=none/\z.2.2 ∉ X.fs:=λz hm=>by
  obtain⟨_,_,h3,h4⟩:=hz z hm;rcases h4 with h4|h4
  ·exact I.cellNew h3 h4
  ·exact h4
 refine⟨λp hp=>?_,λp hp=>?_,λp hp=>?_,λp hp=>?_⟩
 ·obtain⟨z,hm,e,_⟩:=at_ p hp;exact⟨z.1,e ▸ (hz z hm).2.2.1⟩
 ·obtain⟨z,hm,e,_⟩:=at_ p hp;rw[←e];exact(new z hm).1
 ·obtain⟨z,hm,e,_⟩:=at_ p hp;rw[←e];exact(new z hm).2
 ·obtain⟨z,hm,e,e2⟩:=at_ p hp;exact e2
theorem vH{zs:List (Str×Nat×Addr)}(C:Callee X.prog X.w X.K X.mg X.base k x ps sp)(hr:bZ k X.A)(hg:Gl X x)(ha:PA X (e :: es) t)(hz:∀z∈zs,X.N[z.2.1]?=some z.1/\(X.env.scope.names.lookup z.1=some .cell\/X.env.scope.names.lookup z.1=some .free)/\X.env.cells.lookup z.1=some z.2.2/\(X.fn z.1=true\/(X.base.get? z.2.2=none/\z.2.2 ∉ X.fs)))
  (hdb:(x == ("__debug__" : Str))=false:=by decide) (he:starEach (e :: es) X.env=(false,eval e X.env) :: starEach es X.env:=by rfl)(hpl:(backTo pos (starEach es X.env)).any (·.1)=false:=by rfl):PE X (.Call (.Name x p) (e :: es) [] pos) (tZ zs sp t):=by
 obtain⟨f,fd,F,b,kk,m⟩:=C;intro pins s σ H Q I h;refine wpAny_Call_Name_kw (gJ I hg m ?_ hdb);refine W.callWith_K (h₀:=X.base) I.ok.mod.kin kk (thn (ha pos pins s σ H _ I h) λus s1 ⟨vs,H1,I1,r,q⟩=>⟨I1.kIn,?_⟩) he hpl;obtain⟨os,hl,ho⟩:=nI I1 zs hz;have zE:((zs.map (·.2.2)).zip os).map (·.1)=zs.map (·.2.2):=map_fst_zip (by rw[length_map];lia);have zok:=zD I1 hz hl ho;have hs:=q os hl (λz hm=>I1.freeC z.1 _ (hz z hm).2.2.1) λj z ez=>let ⟨o,w,a1,_,a3,a4⟩:=ho j z ez;⟨o,w,a1,a3,a4⟩
 have hlu:us.length=ps.length:=by rw[←r.length];exact F.len _ _ _ _ hs
 refine wpAny_call (codeAny_mono (F.run X.A X.stack s1 _ ⟨us,[]⟩ us vs _ E0 hr (zok.env0 I1) (by have:=b s1 us I1.kIn (by rw[append_nil];exact hlu);rw[append_nil]at this;exact this) r hs) λr' s' hq=>?_);cases r' with
 |error e=>exact bG pins σ H1 s1 e s' I1 hq
 |ok fl =>
  cases fl with
  |ret u =>
   have hq:CE X.stack X.prog X.w _ s1 _ u s':=hq;refine zok.after I1 ?_;rw[zE];exact hq
  |next=>exact False.elim hq
  |brk=>exact False.elim hq
  |cont=>exact False.elim hq
open PySem.W
def vI(tabs:List (Addr×Addr))(H:Hp):Prop:=∀b,H b=none\/(∃o xs,H b=some (.frz o (.lst xs)))\/(b∈tabs.map (·.2)/\H b=some (.tbl #[]))
theorem uc{P:Program}{w:World}{K:W.Frag}{mg mb:Str->Option Value}{CX:CXT}{k:Nat}{fa a:Addr}{fd:FuncData}{x:Str}{sp:Sp}{s₁:Shared}{vs:List Value}{ns:List Int}{tabs:List (Addr×Addr)}
  (KX:K.In s₁.heap)(hns:s₁.heap.Ns mainGlobals mg)(hb:s₁.heap.Ns builtinsNs mb)(hbb:∀x:Str,x ≠ "__name__" -> mb x=bootBuiltins x) (CI:s₁.heap.NoLimit)(hg:s₁.gens = #[])
  (ha:s₁.heap.get? a=some { cls:=.type "list",data:=.seq vs.toArray }) (hi:IntsAre vs ns)(hl:ns.length<=sizeLine)(hr:bZ k callerA)
  (hT:TabsAt tabs s₁.heap)(hnK:noTabs K=true)(hbm:∃bm ob,mg "__builtins__" = some (.ref bm)/\bm≠builtinsNs/\s₁.heap.get? bm=some ob/\ob.cls=.type "module" /\ ob.dict=some builtinsNs/\ob.data=.plain)
  (F:∀base:Heap,K.In base->base.Ns mainGlobals mg->(∀q∈tabs,CodeHd base q.1 q.2/\base.BuiltinsAt mg q.2)->aH P w K mg base CX k fa fd [x] sp)(A1:∀(s:Shared)(u:Value),BindsTo s fd ⟨[u],[]⟩ [(x,u)])
  (hsp:∀H:Hp,vI tabs H->SqL K H a (ns.map V.int)->(∀q∈tabs,H q.2=some (.tbl #[]))->sp [.ref a] H (λv _=>v=.bl true) λ_ _ _=>False)
  (hCX:∀H e s',CX [] H s₁ (λ_ _ _=>False) e s'->False) :
  codeAny (model P w) callerA (.call (.ref fa) ⟨[.ref a],[]⟩) (λr s'=>r=.ok (.ret (.bool true))/\OldK s₁.heap s'.heap/\s'.os=s₁.os/\AllBare s'.gens) s₁:=by
 have rv:=m8 hi;have CJ:=hi.length;have ud:∀b∈tabs.map (·.2),s₁.heap.get? b=some (tabObj #[]):=λb hb'=>by
  obtain⟨q,hq,rfl⟩:=mem_map.mp hb';exact(hT q hq).2
 have aT:a ∉ tabs.map (·.2):=λz=>by
  have e:=ud a z;rw[ha]at e;cases e
 have core:∀H:Hp,vI tabs H->SqL K H a (ns.map V.int)->HOk P w H s₁.heap->(∀b,H b≠none->b=a\/b∈tabs.map (·.2))->(H a≠none->K.lookup a=none)->(∀q∈tabs,H q.2=some (.tbl #[])) ->
   codeAny (model P w) callerA (.call (.ref fa) ⟨[.ref a],[]⟩) (λr s'=>r=.ok (.ret (.bool true))/\OldK s₁.heap s'.heap/\s'.os=s₁.os/\AllBare s'.gens) s₁:=by
  intro H hO hS hok hA hK hTb;have kF:∀{b:Addr}{o:Obj},s₁.heap.get? b=some o->H b=none->(kH s₁.heap H).get? b=some o:=λe n=>uK e n
  have noO:∀{b:Addr}{o:Obj},s₁.heap.get? b=some o->(b=a->False)->o≠tabObj #[]->H b=none:=λ{b o} e n1 n2=>by
   cases q:H b with
   |none=>rfl
   |some u =>
    rcases hA b (by rw[q];simp)with z|z
    ·exact(n1 z).elim
    ·have:=ud b z;rw[e]at this;exact absurd (Option.some.inj this) n2
  have noA:∀{b:Addr}{o:Obj}{es:Array DictEntry}{ep:Nat},s₁.heap.get? b=some o->o.data=.dict es ep->H b=none:=λ{b o es ep} e d=>noO e (λz=>by
   subst z;rw[ha]at e;cases e;have d':Data.seq vs.toArray _=Data.dict es ep:=d;cases d') (λz=>by rw[z]at d;cases d)
  have noC:∀{b:Addr}{o:Obj}{T:String},s₁.heap.get? b=some o->o.cls=.type T->T ≠ "list" -> H b=none:=λ{b o T} e d hT'=>noO e (λz=>by
   subst z;rw[ha]at e;cases e;have d':Value.type "list" = Value.type T:=d;injection d' with d';exact hT' d'.symm) (λz=>by rw[z]at d;cases d)
  have nsK:∀{b:Addr}{m:Str->Option Value},s₁.heap.Ns b m->(kH s₁.heap H).Ns b m:=λ{b m} ⟨o,es,ep,e,d,r⟩=>⟨o,es,ep,kF e (noA e d),d,r⟩
  have hKb:K.In (kH s₁.heap H):=λb o e=>kF (KX b o e) (by
   cases q:H b with
   |none=>rfl
   |some u =>
    rcases hA b (by rw[q];simp)with z|z
    ·subst z;rw[hK (by rw[q];simp)]at e;cases e
    ·have e2:=ud b z;rw[KX b o e]at e2;cases e2;have h2:=all_eq_true.mp hnK (b,tabObj #[]) (mem_of_lookupK e);exact absurd (show false=true from h2) Bool.false_ne_true)
  have hM:Mod K mg (kH s₁.heap H):=⟨hKb,nsK hns,⟨mb,nsK hb,hbb⟩,let ⟨mc,h1,h2⟩:=CI;⟨mc,nsK h1,h2⟩⟩;have e0:o9 P w K mg (kH s₁.heap H) callerA [] s₁ H:=⟨U,hM,λb o e=>xg e,Nat.le_of_eq (tE _ _),trivial,λb hb=>absurd (show b∈([]:List Addr)from hb) (by simp),hok,.of_eq hg⟩;have hTB:∀q∈tabs,CodeHd (kH s₁.heap H) q.1 q.2/\(kH s₁.heap H).BuiltinsAt mg q.2:=λq hq=>by
   obtain⟨o,vs',file,tf,flags,tg,inF,text,tt,e1,r1,r2⟩:=(hT q hq).1;obtain⟨bm,ob,b1,b2,b3,b4,b5,b6⟩:=hbm;refine⟨⟨o,vs',file,tf,flags,tg,inF,text,tt,kF e1 (noC e1 r1 (by decide)),r1,r2⟩,bm,ob,b1,b2,λz=>?_,λz=>?_,kF b3 (noC b3 b4 (by decide)),b4,b5,b6⟩
   ·obtain⟨o',es,ep,e,d,_⟩:=hns;rw[z,e]at b3;cases b3;rw[d]at b6;cases b6
   ·have e2:=(hT q hq).2;rw[z,e2]at b3;cases b3;cases b4
  refine codeAny_mono ((F _ hKb (nsK hns) hTB).run callerA [] s₁ H ⟨[.ref a],[]⟩ [.ref a] [.ref a] _ _ hr e0 (A1 s₁ (.ref a)) (.cons U .nil) (hsp H hO hS hTb)) λr s' h=>?_
  cases r with
  |error e=>exact(hCX H e s' h).elim
  |ok fl =>
   cases fl with
   |next=>exact False.elim h
   |brk=>exact False.elim h
   |cont=>exact False.elim h
   |ret u =>
    obtain⟨v,H',os,bare,un,A2,r',q⟩:=h;have q':v=.bl true:=q;subst q';obtain rfl:u=Value.bool true:=r';have kept:∀b o,b ∉ tabs.map (·.2)->s₁.heap.get? b=some o->s'.heap.get? b=some o:=λb o hb' e=>by
     cases q:H b with
     |none=>exact un.keep b o e q (by intro z;exact absurd (show b∈([]:List Addr)from z) (by simp)) (by simp)
     |some u =>
      rcases hO b with z|⟨ob,xs,z⟩|⟨z,_⟩
      ·rw[q]at z;cases z
      ·have z2:=un.frzs b ob _ z;obtain⟨e1,_⟩:=hok b _ z;obtain⟨e2,_⟩:=A2 b _ z2;rw[e]at e1;cases e1;exact e2
      ·exact absurd z hb'
    have grown:∀b∈tabs.map (·.2),isCodeTable s₁.heap b/\∃more,s'.heap.get? b=some (tabObj more):=λb hb'=>by
     obtain⟨qq,hq,rfl⟩:=mem_map.mp hb';obtain⟨more,e⟩:=un.tbls _ _ (hTb qq hq);have e2:s'.heap.get? qq.2=some (tabObj (#[]++more)):=A2 _ _ e;exact⟨((hT qq hq).1.tab (hT qq hq).2).isCodeTable,_,e2⟩
    refine⟨U,⟨λb o e=>?_,λb o e=>?_⟩,os,bare⟩
    ·by_cases hb':b∈tabs.map (·.2)
     ·obtain⟨ht,more,e2⟩:=grown b hb';have e3:=ud b hb';rw[e]at e3;cases e3;exact .inr (.inl ⟨ht,U,#[],more,U,by rw[Array.empty_append];exact e2⟩)
     ·exact .inl (kept b o hb' e)
    ·by_cases hb':b∈tabs.map (·.2)
     ·obtain⟨_,more,e2⟩:=grown b hb';exact⟨_,e2⟩
     ·exact⟨o,kept b o hb' e⟩
 cases hk:K.lookup a with
 |some o =>
  have e:=KX a o hk;rw[ha]at e;cases e;refine core (λb=>if b∈tabs.map (·.2)then some (.tbl #[])else none) (λb=>?_) (.inr ⟨_,vs.toArray,_,hk,U,U,U,by rw[size_toArray,CJ];exact hl,by simpa using rv⟩) (λb u z=>?_) (λb z=>?_) (λz=>absurd (if_neg aT) z) λq hq=>if_pos (mem_map.mpr ⟨q,hq,U⟩)
  ·by_cases hb':b∈tabs.map (·.2)
   ·exact .inr (.inr ⟨hb',if_pos hb'⟩)
   ·exact .inl (if_neg hb')
  ·by_cases hb':b∈tabs.map (·.2)
   ·have z':=(if_pos hb').symm.trans z;cases z';exact ud b hb'
   ·have z':=(if_neg hb').symm.trans z;cases z'
  ·by_cases hb':b∈tabs.map (·.2)
   ·exact .inr hb'
   ·exact absurd (if_neg hb') z
 |none =>
  refine core (λb=>if b=a then some (.frz { cls:=.type "list",data:=.seq vs.toArray } (.lst (ns.map V.int)))else if b∈tabs.map (·.2)then some (.tbl #[])else none) (λb=>?_) (.inl (.inr ⟨{ cls:=.type "list",data:=.seq vs.toArray },if_pos U⟩)) (λb u z=>?_) (λb z=>?_) (λ_=>hk) λq hq=>?_
  ·by_cases hb':b=a
   ·exact .inr (.inl ⟨_,_,if_pos hb'⟩)
   ·by_cases hc:b∈tabs.map (·.2)
    ·exact .inr (.inr ⟨hc,(if_neg hb').trans (if_pos hc)⟩)
    ·exact .inl ((if_neg hb').trans (if_neg hc))
  ·by_cases hb':b=a
   ·have z':=(if_pos hb').symm.trans z;cases z';subst hb';exact⟨ha,by rw[length_map];exact hl,vs,_,rv,ha⟩
   ·by_cases hc:b∈tabs.map (·.2)
    ·have z':=((if_neg hb').trans (if_pos hc)).symm.trans z;cases z';exact ud b hc
    ·have z':=((if_neg hb').trans (if_neg hc)).symm.trans z;cases z'
  ·by_cases hb':b=a
   ·exact .inl hb'
   ·by_cases hc:b∈tabs.map (·.2)
    ·exact .inr hc
    ·exact absurd ((if_neg hb').trans (if_neg hc)) z
  ·have hm:q.2∈tabs.map (·.2):=mem_map.mpr ⟨q,hq,U⟩;have hne:q.2≠a:=λz=>aT (z ▸ hm)
   exact(if_neg hne).trans (if_pos hm)
theorem walk_ofT{l:W.OpenLaw}{n k:Nat}{q:Program}{loose:List Str}{XP:(Str->Option Value)->Heap->Prop}{YP:World->Heap->Prop}{d:DefRec}{K:Params->W.Frag}{CX:World->CXT}{sp:World->Sp}{x:Str}{tabs:Params->List (Addr×Addr)}{xs:List Str}
  (hn:l.most=some n)(hn2:n<=sizeLine)(hdf:d.params.defaults=[])(hr:bZ k callerA)
  (hY:∀(w:World)(h:Heap),YP w h->(K w.params).In h)(hnK:∀p:Params,noTabs (K p)=true)
  (hxs:∀y∈xs,∃d',(recsOf q).find? (λe=>e.name == y)=some d')(vJ:∀p:Params,∀t∈tabs p,∃y∈xs,tabIn (K p) y=some t)
  (F:∀(w:World)(mg:Str->Option Value)(fa:Addr)(h:Heap),(K w.params).In h->h.Ns mainGlobals mg->mg d.name=some (.ref fa) ->
   ∃fd:FuncData,(∀(s:Shared)(u:Value),BindsTo s fd ⟨[u],[]⟩ [(x,u)]) /\
    ∀base:Heap,(K w.params).In base->base.Ns mainGlobals mg->(∀q∈tabs w.params,CodeHd base q.1 q.2/\base.BuiltinsAt mg q.2)->aH l.prog w (K w.params) mg base (CX w) k fa fd [x] (sp w))
  (hsp:∀(w:World)(H:Hp)(a:Addr)(ns:List Int),ns.length<=n->vI (tabs w.params) H->SqL (K w.params) H a (ns.map V.int)->(∀q∈tabs w.params,H q.2=some (.tbl #[]))->sp w [.ref a] H (λv _=>v=.bl true) λ_ _ _=>False)
  (hCX:∀(w:World)(H:Hp)(s:Shared)(e:Value)(s':Shared),CX w [] H s (λ_ _ _=>False) e s'->False) :
  W.WalkO q loose XP YP l.row.toRowW d [] (λf vs=>PySem.call f vs):=by
 refine Att.attach_call hn hdf λw s₀ s₁ mg mb fa o pm cd doc a vs ns G Y ho hd hcd hmg zl hints hlen hg=>?_
 have KX:=hY w _ Y;obtain⟨fd,hb,hF⟩:=F w mg fa _ KX G.T.g hmg;refine uc KX G.T.g G.T.b G.T.builtins G.T.nolimit hg zl hints (le_trans hlen hn2) hr (tabs:=tabs w.params) (λt ht=>?_) (hnK w.params) G.T.bmain hF hb (λH hO hS hTb=>hsp w H a ns hlen hO hS hTb) λH e s'=>hCX w H s₁ e s'
 obtain⟨y,hy,e⟩:=vJ w.params t ht;obtain⟨d',hd'⟩:=hxs y hy;exact tab_of G.T KX hd' e
theorem Fun.okT{x qual:Str}{st:Stmt}{f c:Addr}{fd:FuncData}{N ps:List Str}{k:Nat}{sp:Sp}(F:Fun K x qual st f fd)(hc:fd.code=.ref c)(S:ao N ps (aj st))(len:∀vs H Q E,sp vs H Q E->vs.length=ps.length)
  (gf:∀(A:Around)(outer:List Env)(s:Shared)(H:Hp)(vs:List V)(Q:VK)(E:XK),bZ k (A.deeper (envOfC qual (aj st) s.heap.objs.size f (.ref c)))->sp vs H Q E ->
   ∃t,PSs (pd CX0 P w K mg base N qual (aj st) f (.ref c) A outer s H E).nox (dh st) t/\t { nx:=λ_ H'=>Q .non H',rt:=Q } (start N vs) H):aH P w K mg base CX0 (k+1) f fd ps sp:=by
 obtain⟨oc,od,kV,doc,pm,an,cdv,ct,osl,rfl,lk,hcd⟩:=F.ex;have hc:cdv=.ref c:=hc;subst hc;refine yv lk hcd S len λA outer s H vs Q E hr hsp=>?_
 obtain⟨t,h,q⟩:=gf A outer s H vs Q E hr hsp;exact⟨t,h.nox,q⟩
def iD(H:Hp)(f c':Addr)(fo:Obj)(qual:Str)(cl:List (Str×Addr))(ws:List (Str×V)):Prop:=H f=some (.frz fo TTh)/\(∃oc,H c'=some (.frz oc TTh)/\pP oc qual)/\eK H cl ws
theorem iD.same{H H':Hp}{f c':Addr}{fo:Obj}{qual:Str}{cl:List (Str×Addr)}{ws:List (Str×V)}(h:iD H f c' fo qual cl ws)(s:ar H H'):iD H' f c' fo qual cl ws :=
 ⟨s _ _ h.1,let ⟨oc,e,q⟩:=h.2.1;⟨oc,s _ _ e,q⟩,h.2.2.same s⟩
theorem pQ{zs:List (Str×Nat×Addr)}{os:List Obj}{H:Hp}{σ:St}{cl:List (Str×Addr)}{ws:List (Str×V)}(hl:os.length=zs.length)(nd:(zs.map (·.2.2)).Nodup)
  (ho:∀(j:Nat)(z:Str×Nat×Addr),zs[j]?=some z->∃o w,os[j]?=some o/\o.data=.cell w/\∀v,σ[z.2.1]?=some (some v)->∃u,w=some u/\RelV v u)
  (h1:∀c∈cl.map (·.2),∃z∈zs,z.2.2=c)(h2:∀(x:Str)(v:V),ws.lookup x=some v->∃z∈zs,cl.lookup x=some z.2.2/\σ[z.2.1]?=some (some v)):eK (gm H ((zs.map (·.2.2)).zip os)) cl ws:=by
 have at_:∀z∈zs,∃o w,gm H ((zs.map (·.2.2)).zip os) z.2.2=some (.frz o TTh)/\o.data=.cell w/\∀v,σ[z.2.1]?=some (some v)->∃u,w=some u/\RelV v u:=λz hz=>by
  obtain⟨j,ej⟩:=getElem?_of_mem hz;obtain⟨o,w,e1,e2,e3⟩:=ho j z ej;have zE:((zs.map (·.2.2)).zip os).map (·.1)=zs.map (·.2.2):=map_fst_zip (by rw[length_map];lia);obtain⟨o',hm,e4⟩:=fJ (H:=H) (fz:=(zs.map (·.2.2)).zip os) (b:=z.2.2) (by rw[zE];exact mem_map.mpr ⟨z,hz,U⟩);obtain⟨i,ei⟩:=getElem?_of_mem hm;rw[getElem?_zip_eq_some]at ei;have ez:(zs.map (·.2.2))[j]?=some z.2.2:=by rw[getElem?_map,ej];rfl
  obtain⟨a1,b1⟩:=Fo.mp ei.1;obtain⟨a2,b2⟩:=Fo.mp ez;have hij:i=j:=(getElem_inj nd).mp (b1.trans b2.symm);subst hij;have eo:o=o':=Option.some.inj (e1.symm.trans ei.2);subst eo;exact⟨o,w,e4,e2,e3⟩
 refine⟨λc hc=>?_,λx v e=>?_⟩
 ·obtain⟨z,hz,rfl⟩:=h1 c hc;obtain⟨o,w,a,b,_⟩:=at_ z hz;exact⟨o,w,a,b⟩
 ·obtain⟨z,hz,e1,e2⟩:=h2 x v e;obtain⟨o,w,a,b,d⟩:=at_ z hz;obtain⟨u,rfl,r⟩:=d v e2;exact⟨z.2.2,o,u,e1,a,b,r⟩
theorem vK{sc:Scope}{cl:List (Str×Addr)}(h:(sc.names.all λy=>match y.2 with | .free=>(cl.map (·.1)).any (y.1 == ·)|_=>true)=true):∀y∈sc.names,y.2=.free->∃c,cl.lookup y.1=some c:=λy hy e=>by
 have:=all_eq_true.mp h y hy;rw[e]at this;obtain⟨z,hz,ez⟩:=any_eq_true.mp this;obtain⟨p,hp,rfl⟩:=mem_map.mp hz;cases q:cl.lookup y.1 with
 |some c=>exact⟨c,U⟩
 |none =>
  have:=List.lookup_eq_none_iff.mp q p hp;simp[bne,ez]at this
theorem sM{N:List Str}{sc:Scope}{ws:List (Str×V)}(h:((ws.map (·.1)).all λx=>match sc.names.lookup x with|some .free=>true|_=>false)=true):∀y∈N,∀v,ws.lookup y=some v->sc.names.lookup y=some .free:=λy _ v e=>by
 have:=all_eq_true.mp h y (mem_map.mpr ⟨(y,v),mem_of_lookup e,U⟩);split at this
 ·assumption
 ·cases this
theorem tab_mk{K:Frag}{x qual:Str}{st:Stmt}{f c P:Addr}{oc kV doc pm ct:Value}{od an:Option Addr}{osl:Array (Option Value)}{o1:Value}{o2:Option Addr}{vs:Array Value}{o3:Array (Option Value)}(a:nsIn K mainGlobals x=some (some (.ref f)))
  (l:K.lookup f=some ⟨oc,od,.func (fnOf x qual (fE st) (dh st) (aj st) .none kV doc pm an (.ref c) ct),osl⟩)(lc:K.lookup c=some ⟨o1,o2,.fields vs,o3⟩)(e:vs[11]?=some (.ref P)):tabIn K x=some (c,P):=by
 unfold tabIn;rw[a];simp only[l];show(match K.lookup c with|some ⟨_,_,.fields vs,_⟩=>(match (vs[11]?:Option Value)with|some (.ref P)=>some (c,P)|_=>none)|_=>none)=some (c,P);rw[lc];simp only[e]
section
variable{zs:List (Str×Nat×Addr)}{os:List Obj}{H2:Hp}
theorem lH(hl:os.length=zs.length):((zs.map (·.2.2)).zip os).map (·.1)=zs.map (·.2.2):=map_fst_zip (by rw[length_map];lia)
theorem lI(hl:os.length=zs.length)(hf:∀z∈zs,H z.2.2=none):ar H (gm H ((zs.map (·.2.2)).zip os)):=λb u e=>by
 rw[cy λm=>?_]
 ·exact e
 ·rw[lH hl]at m;obtain⟨z,hz,rfl⟩:=mem_map.mp m;rw[hf z hz]at e;cases e
theorem hide_same(hl:os.length=zs.length)(hf:∀z∈zs,H z.2.2=none)(s:ar (gm H ((zs.map (·.2.2)).zip os)) H2):ar H (hideL H2 (zs.map (·.2.2))):=λb u e=>by
 rw[bM λm=>?_]
 ·exact s _ _ (lI hl hf _ _ e)
 ·obtain⟨z,hz,rfl⟩:=mem_map.mp m;rw[hf z hz]at e;cases e
end
abbrev T3a(α:Type):=Int×Int×α
def Fm(L:Type):Nat->Type
 |0=>L
 |n+1=>List (Int×Int×Fm L n)
def Fm.dec{L:Type} [d:DecidableEq L]:(n:Nat)->DecidableEq (Fm L n)
 |0=>d
 |n+1=>have:=Fm.dec (L:=L) n;(inferInstance:DecidableEq (List (Int×Int×Fm L n)))
instance {L:Type} [DecidableEq L] (n:Nat):DecidableEq (Fm L n):=Fm.dec n
section
variable{α:Type}
def cJ [DecidableEq α] (f:List (T3a α))(t:T3a α):List (T3a α):=match f.getLast? with
 |some l=>if l.2.2=t.2.2 then f.dropLast++[(l.1,t.2.1,t.2.2)]else f++[t]
 |none=>f++[t]
def fK [DecidableEq α] (ts:List (T3a α)):List (T3a α):=ts.foldl cJ []
def Ch3:List (T3a α)->Int->Int->Prop
 | [],lo,hi=>lo=hi+1
 |t :: r,lo,hi=>t.1=lo/\lo<=t.2.1/\Ch3 r (t.2.1+1) hi
theorem Ch3.snoc{t:T3a α}:∀{f:List (T3a α)}{lo mid:Int},Ch3 f lo mid->t.1=mid+1->t.1<=t.2.1->Ch3 (f++[t]) lo t.2.1
 | [],lo,mid,h,e,l=>⟨by rw[e];exact h.symm,by have:lo=mid+1:=h;lia,U⟩
 |u :: f,lo,mid,h,e,l=>⟨h.1,h.2.1,Ch3.snoc (f:=f) h.2.2 e l⟩
theorem Ch3.unsnoc{t:T3a α}:∀{f:List (T3a α)}{lo hi:Int},Ch3 (f++[t]) lo hi->t.2.1=hi/\t.1<=t.2.1/\Ch3 f lo (t.1-1)
 | [],lo,hi,h=>⟨by have:t.2.1+1=hi+1:=h.2.2;lia,by have:=h.1;have:=h.2.1;lia,by show lo=t.1-1+1;have:=h.1;lia⟩
 |u :: f,lo,hi,h=>let ⟨a,b,c⟩:=Ch3.unsnoc (f:=f) h.2.2;⟨a,b,h.1,h.2.1,c⟩
def Nbx(ys:List α):Prop:=∀(i:Nat)(a b:α),ys[i]?=some a->ys[i+1]?=some b->a≠b
theorem Nbx.snoc{ys:List α}{y:α}(h:Nbx ys)(hl:∀l,ys.getLast?=some l->l≠y):Nbx (ys++[y]):=λi a b ha hb=>by
 have hi:=(Fo.mp hb).1;simp only[length_append,length_singleton]at hi;by_cases h1:i+1<ys.length
 ·rw[getElem?_append_left (by lia)]at ha;rw[getElem?_append_left h1]at hb;exact h i a b ha hb
 ·have h2:i+1=ys.length:=by lia
  rw[getElem?_append_left (by lia)]at ha;rw[h2]at hb;simp at hb;subst hb;refine hl a ?_;rw[List.getLast?_eq_getElem?];rw[show ys.length-1=i by lia];exact ha
def vAt(f:List (T3a α))(c:Int):Option α:=(f.find? λt=>decide (c<=t.2.1)).map (·.2.2)
theorem gO(f g:List (T3a α))(c:Int):vAt (f++g) c=(vAt f c).or (vAt g c):=by
 unfold vAt;rw[List.find?_append];cases f.find? _ <;> rfl
theorem oC(t:T3a α)(c:Int):vAt [t] c=if c<=t.2.1 then some t.2.2 else none:=by
 unfold vAt;by_cases h:c<=t.2.1 <;> simp[h]
structure ue(ts f:List (T3a α))(lo hi:Int):Prop where
 ch:Ch3 f lo hi
 nb:Nbx (f.map (·.2.2))
 va:∀c,vAt f c=vAt ts c
 mem:∀t∈f,∃t'∈ts,t'.2.2=t.2.2
 ne:ts≠[]->f≠[]
theorem ue.step [DecidableEq α] {ts f:List (T3a α)}{lo mid:Int}{t:T3a α}(h:ue ts f lo mid)(e:t.1=mid+1)(l:t.1<=t.2.1):ue (ts++[t]) (cJ f t) lo t.2.1:=by
 rcases eq_nil_or_concat f with hf|⟨f',u,hf⟩
 ·subst hf;have:cJ [] t=[t]:=rfl;rw[this];refine⟨Ch3.snoc (f:=[]) h.ch e l,λi a b ha hb=>by simp at hb,λc=>?_,λv hv=>⟨t,by simp,by rw[mem_singleton.mp hv]⟩,λ_=>by simp⟩;rw[gO,←h.va c];rfl
 ·rw[concat_eq_append]at hf;subst hf;have hc:=h.ch.unsnoc;have eg:(f'++[u]).getLast?=some u:=by simp
  unfold cJ;rw[eg];simp only;by_cases q:u.2.2=t.2.2
  ·rw[if_pos q];have ed:(f'++[u]).dropLast=f':=by simp
   rw[ed];have em:(f'++[((u.1,t.2.1,t.2.2):T3a α)]).map (·.2.2)=(f'++[u]).map (·.2.2):=by simp[q]
   refine⟨Ch3.snoc (t:=((u.1,t.2.1,t.2.2):T3a α)) hc.2.2 (by show u.1=u.1-1+1;lia) (by show u.1<=t.2.1;lia),by rw[em];exact h.nb,λc=>?_,λv hv=>?_,λ_=>by simp⟩
   ·rw[gO ts,←h.va c,gO,gO,oC,oC,oC];show(vAt f' c).or (if c<=t.2.1 then some t.2.2 else none)=((vAt f' c).or (if c<=u.2.1 then some u.2.2 else none)).or (if c<=t.2.1 then some t.2.2 else none);cases vAt f' c with
    |some x=>rfl
    |none =>
     by_cases h1:c<=u.2.1
     ·rw[if_pos h1,if_pos (by lia),q];rfl
     ·rw[if_neg h1];rfl
   ·rcases mem_append.mp hv with hv|hv
    ·obtain⟨t',a,b⟩:=h.mem v (mem_append_left _ hv);exact⟨t',mem_append_left _ a,b⟩
    ·rw[mem_singleton.mp hv];exact⟨t,by simp,U⟩
  ·rw[if_neg q];refine⟨h.ch.snoc e l,?_,λc=>?_,λv hv=>?_,λ_=>by simp⟩
   ·rw[map_append];refine Nbx.snoc h.nb λz hz=>?_
    rw[map_append]at hz;simp at hz;rw[←hz];exact q
   ·rw[gO,gO ts,h.va c]
   ·rcases mem_append.mp hv with hv|hv
    ·obtain⟨t',a,b⟩:=h.mem v hv;exact⟨t',mem_append_left _ a,b⟩
    ·rw[mem_singleton.mp hv];exact⟨t,by simp,U⟩
theorem pR [DecidableEq α]:∀{r ts f:List (T3a α)}{lo mid hi:Int},ue ts f lo mid->Ch3 r (mid+1) hi->ue (ts++r) (r.foldl cJ f) lo hi
 | [],ts,f,lo,mid,hi,h,c=>by
  have:mid=hi:=by have:mid+1=hi+1:=c;lia
  subst this;rw[append_nil];exact h
 |t :: r,ts,f,lo,mid,hi,h,c=>by
  have:=pR (r:=r) (h.step c.1 (by have:=c.1;have:=c.2.1;lia)) c.2.2;rw[append_assoc]at this;exact this
theorem fi [DecidableEq α] {ts:List (T3a α)}{lo hi:Int}(h:Ch3 ts lo hi):ue ts (fK ts) lo hi :=
 pR (ts:=[]) (f:=[]) (mid:=lo-1) ⟨by show lo=lo-1+1;lia,λi a b ha hb=>by simp at hb,λ_=>U,λt ht=>by simp at ht,λz=>absurd U z⟩ (by rw[show lo-1+1=lo by lia];exact h)
theorem Ch3.at:∀{f:List (T3a α)}{lo hi c:Int},Ch3 f lo hi->lo<=c->c<=hi->∃(j:Nat)(t:T3a α),f[j]?=some t/\t.1<=c/\c<=t.2.1/\(∀(i:Nat)(u:T3a α),i<j->f[i]?=some u->u.2.1<c)/\vAt f c=some t.2.2
 | [],lo,hi,c,h,h1,h2=>by have:lo=hi+1:=h;lia
 |t :: r,lo,hi,c,h,h1,h2=>by
  by_cases q:c<=t.2.1
  ·exact⟨0,t,U,by have:=h.1;lia,q,λi u hi=>absurd hi (not_lt_zero i),by unfold vAt;rw[find?_cons_of_pos (by simpa using q)];rfl⟩
  ·obtain⟨j,u,a,b,d,e,v⟩:=Ch3.at (f:=r) h.2.2 (c:=c) (by lia) h2;refine⟨j+1,u,by simpa using a,b,d,λi w hi ew=>?_,by unfold vAt at v⊢;rw[find?_cons_of_neg (by simpa using q)];exact v⟩
   match i,ew with
   |0,ew=>cases ew;lia
   |i+1,ew=>exact e i w (by lia) (by simpa using ew)
end
def lay{L:Type} [DecidableEq L] (g:List Int->L):(cols:List (List (Int×Int)))->List Int->Fm L cols.length
 | [],ah=>g ah
 |c :: cs,ah=>fK (c.map λp=>((p.1,p.2,lay g cs (ah++[p.1])):T3a (Fm L cs.length)))
def ShS{α:Type}(S:α->List (Int×Int)->Prop)(f:List (T3a α))(ps:List (Int×Int)):Prop:=∃p r,ps=p :: r/\f≠[]/\Ch3 f p.1 p.2/\Nbx (f.map (·.2.2))/\∀t∈f,S t.2.2 r
def dR{L:Type}:(n:Nat)->Fm L n->List (Int×Int)->Prop
 |0,_,ps=>ps=[]
 |n+1,f,ps=>ShS (dR n) f ps
def xF:List (Int×Int)->Int->Int->Prop
 | [],lo,hi=>lo=hi+1
 |p :: r,lo,hi=>p.1=lo/\lo<=p.2/\xF r (p.2+1) hi
theorem vL{α:Type}(F:Int×Int->α):∀{c:List (Int×Int)}{lo hi:Int},xF c lo hi->Ch3 (c.map λp=>((p.1,p.2,F p):T3a α)) lo hi
 | [],lo,hi,h=>h
 |p :: r,lo,hi,h=>⟨h.1,h.2.1,vL F h.2.2⟩
inductive gn:List (List (Int×Int))->List (Int×Int)->Prop
 |nil:gn [] []
 |cons {c:List (Int×Int)}{cs:List (List (Int×Int))}{p:Int×Int}{ps:List (Int×Int)}:c≠[]->xF c p.1 p.2->gn cs ps->gn (c :: cs) (p :: ps)
theorem lJ{L:Type} [DecidableEq L] {g:List Int->L}{cols:List (List (Int×Int))}{ps:List (Int×Int)}(h:gn cols ps):∀ah:List Int,dR cols.length (lay g cols ah) ps:=by
 induction h with
 |nil=>intro ah;exact(rfl:([]:List (Int×Int))=[])
 | @cons c cs p ps hne hc _ ih =>
  intro ah;have k:=fi (vL (λq=>lay g cs (ah++[q.1])) hc);refine⟨p,ps,U,k.ne (by simpa using hne),k.ch,k.nb,λt ht=>?_⟩;obtain⟨t',h1,h2⟩:=k.mem t ht;obtain⟨q,_,rfl⟩:=mem_map.mp h1;rw[←h2];exact ih _
def cw(col:List (Int×Int))(c:Int):Int:=((col.find? λp=>decide (c<=p.2)).map (·.1)).getD 0
theorem sN{α:Type}(F:Int×Int->α)(c:Int):∀col:List (Int×Int),vAt (col.map λp=>((p.1,p.2,F p):T3a α)) c=(col.find? λp=>decide (c<=p.2)).map F
 | []=>rfl
 |p :: r=>by
  unfold vAt;rw[map_cons];by_cases q:c<=p.2
  ·rw[find?_cons_of_pos (by simpa using q),find?_cons_of_pos (by simpa using q)];rfl
  ·rw[find?_cons_of_neg (by simpa using q),find?_cons_of_neg (by simpa using q)];exact sN F c r
inductive Tel{L:Type}:(n:Nat)->Fm L n->List Int->L->Prop
 |nil (x:L):Tel 0 x [] x
 |cons {n:Nat}{f:List (T3a (Fm L n))}{c:Int}{cs:List Int}{x:L}{j:Nat}{t:T3a (Fm L n)}:f[j]?=some t->c<=t.2.1->(∀(i:Nat)(u:T3a (Fm L n)),i<j->f[i]?=some u->u.2.1<c)->Tel n t.2.2 cs x->Tel (n+1) f (c :: cs) x
inductive InB:List Int->List (Int×Int)->Prop
 |nil:InB [] []
 |cons {c:Int}{cs:List Int}{p:Int×Int}{ps:List (Int×Int)}:p.1<=c->c<=p.2->InB cs ps->InB (c :: cs) (p :: ps)
theorem oE{L:Type} [DecidableEq L] {g:List Int->L}{cols:List (List (Int×Int))}{ps:List (Int×Int)}(h:gn cols ps):∀(ah cs:List Int),InB cs ps->Tel cols.length (lay g cols ah) cs (g (ah++List.zipWith cw cols cs)):=by
 induction h with
 |nil=>intro ah cs hb;cases hb;rw[List.zipWith_nil_left,append_nil];exact .nil _
 | @cons c cols p ps hne hc _ ih =>
  intro ah cs hb;cases hb with
  | @cons x cs _ _ h1 h2 hb =>
   have k:=fi (vL (λq=>lay g cols (ah++[q.1])) hc);obtain⟨j,t,e1,e2,e3,e4,e5⟩:=k.ch.at h1 h2;rw[k.va,sN]at e5;cases e6:c.find? (λp=>decide (x<=p.2)) with
   |none=>rw[e6]at e5;cases e5
   |some q =>
    rw[e6]at e5;have e7:lay g cols (ah++[q.1])=t.2.2:=Option.some.inj e5;have e8:cw c x=q.1:=by unfold cw;rw[e6];rfl
    refine .cons e1 e3 e4 ?_;rw[←e7,List.zipWith_cons_cons,e8];have:=ih (ah++[q.1]) cs hb;rw[append_assoc]at this;exact this
def FmL{α:Type}(R:α->V->Prop)(H:Hp)(f:List (T3a α))(xs:List V):Prop:=xs.length=f.length/\∀(i:Nat)(t:T3a α),f[i]?=some t->∃(r:Addr)(u:V),xs[i]?=some (.ref r)/\H r=some (.tup [.int t.1,.int t.2.1,u])/\R t.2.2 u
def rFm(K:W.Frag):R2:=λx y H Q=>rEq x y H Q\/sG K false x y H Q
def CK(K:W.Frag):R2:=λx y H Q=>rNe x y H Q\/sG K true x y H Q
structure Lfp(L:Type) [DecidableEq L] where
 R:Hp->L->V->Prop
 mono:∀{H H':Hp}{x:L}{v:V},cj H H'->R H x v->R H' x v
 inj:∀{H:Hp}{x y:L}{v:V},R H x v->R H y v->x=y
 deq:∀(K:W.Frag){H:Hp}{x y:L}{u v:V},R H x u->R H y v->DEq K H 2 u v (decide (x=y))
 eq:∀(K:W.Frag){H:Hp}{x y:L}{u v:V}{Q:VK},R H x u->R H y v->Q (.bl (decide (x=y))) H->rFm K u v H Q
 ne:∀(K:W.Frag){H:Hp}{x y:L}{u v:V}{Q:VK},R H x u->R H y v->Q (.bl (!decide (x=y))) H->CK K u v H Q
def FmV{L:Type} [DecidableEq L] (A:Lfp L)(H:Hp):(n:Nat)->Fm L n->V->Prop
 |0,x,v=>A.R H x v
 |n+1,f,v=>∃(a:Addr)(xs:List V),v=.ref a/\H a=some (.tup xs)/\FmL (FmV A H n) H f xs
theorem FmL.mono{α:Type}{R R':α->V->Prop}{H H':Hp}{f:List (T3a α)}{xs:List V}(h:FmL R H f xs)(k:∀x u,R x u->R' x u)(s:cj H H'):FmL R' H' f xs:=⟨h.1,λi t e=>by
 obtain⟨r,u,a,b,c⟩:=h.2 i t e;exact⟨r,u,a,s _ _ b,k _ _ c⟩⟩
theorem FmV.mono{L:Type} [DecidableEq L] {A:Lfp L}{H H':Hp}(s:cj H H'):∀{n:Nat}{f:Fm L n}{v:V},FmV A H n f v->FmV A H' n f v
 |0,_,_,h=>A.mono s h
 |n+1,_,_,h=>by
  obtain⟨a,xs,h1,h2,h3⟩:=h;exact⟨a,xs,h1,s _ _ h2,h3.mono (λ_ _ q=>FmV.mono s q) s⟩
theorem FmL.nil{α:Type}{R:α->V->Prop}{H:Hp}:FmL R H [] []:=⟨U,λi t e=>by simp at e⟩
theorem FmL.snoc{α:Type}{R:α->V->Prop}{H:Hp}{f:List (T3a α)}{xs:List V}{t:T3a α}{r:Addr}{u:V}(h:FmL R H f xs)(hr:H r=some (.tup [.int t.1,.int t.2.1,u]))(q:R t.2.2 u):FmL R H (f++[t]) (xs++[.ref r]):=by
 refine⟨by simp[h.1],λi v e=>?_⟩;by_cases hi:i<f.length
 ·rw[getElem?_append_left hi]at e;obtain⟨r',u',a,b,c⟩:=h.2 i v e;exact⟨r',u',by rw[getElem?_append_left (by rw[h.1];exact hi)];exact a,b,c⟩
 ·have hi2:i=f.length:=by
   have:=(Fo.mp e).1;simp at this;lia
  subst hi2;simp at e;subst e;exact⟨r,u,by rw[←h.1];simp,hr,q⟩
theorem FmL.init{α:Type}{R:α->V->Prop}{H:Hp}{f:List (T3a α)}{xs:List V}{t:T3a α}(h:FmL R H (f++[t]) xs):∃(ys:List V)(r:Addr)(u:V),xs=ys++[.ref r]/\FmL R H f ys/\H r=some (.tup [.int t.1,.int t.2.1,u])/\R t.2.2 u:=by
 obtain⟨r,u,a,b,c⟩:=h.2 f.length t (by simp);have hl:=h.1;rw[length_append,length_singleton]at hl;rcases eq_nil_or_concat xs with hx|⟨ys,y,hx⟩
 ·subst hx;simp at hl
 ·rw[concat_eq_append]at hx;subst hx;have hy:ys.length=f.length:=by simpa using hl
  rw[←hy]at a;simp at a;subst a;refine⟨ys,r,u,U,⟨hy,λi v e=>?_⟩,b,c⟩;have hi:=(Fo.mp e).1;obtain⟨r',u',a',b',c'⟩:=h.2 i v (by rw[getElem?_append_left hi];exact e);rw[getElem?_append_left (by lia)]at a';exact⟨r',u',a',b',c'⟩
theorem FmL.inj{α:Type}{R:α->V->Prop}{H:Hp}{f g:List (T3a α)}{xs:List V}(k:∀x y u,R x u->R y u->x=y)(h:FmL R H f xs)(h':FmL R H g xs):f=g:=by
 refine List.ext_getElem? λi=>?_
 cases e:f[i]? with
 |none =>
  have:f.length<=i:=List.getElem?_eq_none_iff.mp e;rw[List.getElem?_eq_none_iff.mpr (by rw[←h'.1,h.1];exact this)]
 |some t =>
  have hi:=(Fo.mp e).1;obtain⟨t',e'⟩:∃t',g[i]?=some t':=⟨_,Fn (l:=g) (i:=i) (by rw[←h'.1,h.1];exact hi)⟩;obtain⟨r,u,a,b,c⟩:=h.2 i t e;obtain⟨r',u',a',b',c'⟩:=h'.2 i _ e';rw[a]at a';cases a';rw[b]at b';obtain⟨t1,t2,t3⟩:=t;obtain⟨q1,q2,q3⟩:=t';simp only at b' c c';injection b' with b';injection b' with b';simp only[List.cons.injEq,V.int.injEq,and_true]at b';obtain⟨r1,r2,rfl⟩:=b';rw[e',r1,r2,k _ _ _ c c']
theorem FmV.inj{L:Type} [DecidableEq L] {A:Lfp L}{H:Hp}:∀{n:Nat}{f g:Fm L n}{v:V},FmV A H n f v->FmV A H n g v->f=g
 |0,_,_,_,h,h'=>A.inj h h'
 |n+1,_,_,_,h,h'=>by
  obtain⟨a,xs,h1,h2,h3⟩:=h;obtain⟨a',xs',h1',h2',h3'⟩:=h';rw[h1]at h1';cases h1';rw[h2]at h2';cases h2';exact FmL.inj (R:=FmV A H n) (λx y u q q'=>FmV.inj q q') h3 h3'
theorem FmL.deq{α:Type} [DecidableEq α] {R:α->V->Prop}{K:W.Frag}{H:Hp}{m:Nat}{f g:List (T3a α)}{xs ys:List V}(inj:∀x y u,R x u->R y u->x=y)(k:∀x y u v,R x u->R y v->DEq K H m u v (decide (x=y)))
  (h:FmL R H f xs)(h':FmL R H g ys):(∀(j:Nat)(x y:V),xs[j]?=some x->ys[j]?=some y->DEq K H (m+1) x y (decide (f[j]?=g[j]?)))/\((List.range (min xs.length ys.length)).all (λj=>decide (f[j]?=g[j]?)) && xs.length == ys.length)=decide (f=g):=by
 refine⟨λj x y ex ey=>?_,?_⟩
 ·have hj:j<f.length:=by rw[←h.1];exact(Fo.mp ex).1
  have hj':j<g.length:=by rw[←h'.1];exact(Fo.mp ey).1
  have e1:=Fn hj;have e2:=Fn hj';obtain⟨r,u,a,b,c⟩:=h.2 j _ e1;obtain⟨r',u',a',b',c'⟩:=h'.2 j _ e2;rw[ex]at a;cases a;rw[ey]at a';cases a';rw[e1,e2];generalize f[j]=t at *
  generalize g[j]=t' at *
  obtain⟨t1,t2,t3⟩:=t;obtain⟨q1,q2,q3⟩:=t';simp only at b b' c c';by_cases hr:r=r'
  ·subst hr;rw[b]at b';injection b' with b';injection b' with b';simp only[List.cons.injEq,V.int.injEq,and_true]at b';obtain⟨z1,z2,rfl⟩:=b';have:decide (some (t1,t2,t3)=some (q1,q2,q3))=true:=by rw[z1,z2,inj _ _ _ c c'];simp
   rw[this];exact .same r
  ·have d:=DEq.tup (K:=K) (H:=H) (n:=m) (f:=λi=>match i with|0=>decide (t1=q1)|1=>decide (t2=q2)|_=>decide (t3=q3)) hr (SqT.of b) (SqT.of b') λi x y ex ey=>?_
   ·have e:((List.range (min [V.int t1,V.int t2,u].length [V.int q1,V.int q2,u'].length)).all (λi=>match i with|0=>decide (t1=q1)|1=>decide (t2=q2)|_=>decide (t3=q3)) && [V.int t1,V.int t2,u].length == [V.int q1,V.int q2,u'].length)=decide (some (t1,t2,t3)=some (q1,q2,q3)):=by
     show((List.range 3).all (λi=>match i with|0=>decide (t1=q1)|1=>decide (t2=q2)|_=>decide (t3=q3)) && true)=_;have:List.range 3=[0,1,2]:=rfl;rw[this];simp only[all_cons,List.all_nil,Bool.and_true,Option.some.injEq,Prod.mk.injEq,Bool.decide_and]
    rw[e]at d;exact d
   ·match i,ex,ey with
    |0,ex,ey=>cases ex;cases ey;exact .flat U U
    |1,ex,ey=>cases ex;cases ey;exact .flat U U
    |2,ex,ey=>cases ex;cases ey;exact k _ _ _ _ c c'
    |i+3,ex,_=>simp at ex
 ·rw[h.1,h'.1];by_cases e:f=g
  ·subst e;simp
  ·rw[decide_eq_false e];by_cases hl:f.length=g.length
   ·rw[Bool.and_eq_false_iff];left
    refine eq_false_iff.mpr λq=>e (List.ext_getElem? λi=>?_)
    rw[all_eq_true]at q;by_cases hi:i<f.length
    ·exact of_decide_eq_true (q i (mem_range.mpr (by lia)))
    ·rw[List.getElem?_eq_none_iff.mpr (by lia),List.getElem?_eq_none_iff.mpr (by lia)]
   ·simp[hl]
theorem FmV.deq{L:Type} [DecidableEq L] {A:Lfp L}{K:W.Frag}{H:Hp}:∀{n:Nat}{f g:Fm L n}{u v:V},FmV A H n f u->FmV A H n g v->DEq K H (2*n+2) u v (decide (f=g))
 |0,f,g,_,_,h,h'=>A.deq K h h'
 |n+1,f,g,_,_,h,h'=>by
  obtain⟨a,xs,rfl,h2,h3⟩:=h;obtain⟨b,ys,rfl,h2',h3'⟩:=h';obtain⟨d1,d2⟩:=FmL.deq (R:=FmV A H n) (K:=K) (m:=2*n+2) (λx y u q q'=>FmV.inj q q') (λx y u v q q'=>FmV.deq q q') h3 h3';by_cases hab:a=b
  ·subst hab;rw[h2]at h2';cases h2';have:f=g:=FmL.inj (R:=FmV A H n) (λx y u q q'=>FmV.inj q q') h3 h3';rw[decide_eq_true this];exact .same a
  ·have:=DEq.tup hab (SqT.of h2) (SqT.of h2') d1;rw[d2]at this;exact this
theorem uf{f:Value->Value->Sem Value}{r r':R2}(a:OpR X f r)(b:OpR X f r'):OpR X f (λx y H Q=>r x y H Q\/r' x y H Q):=λpins s σ H x y v u Q I rx ry h=>h.elim (a pins s σ H x y v u Q I rx ry) (b pins s σ H x y v u Q I rx ry)
theorem zF{k:Nat}(hr:bZ k X.A):OpR X (compareOp .Eq) (rFm X.K):=uf bU (xy hr)
theorem FmV.eq_to{L:Type} [DecidableEq L] {A:Lfp L}{K:W.Frag}{H:Hp}{Q:VK}:∀{n:Nat}{f g:Fm L n}{u v:V},n<=20->FmV A H n f u->FmV A H n g v->Q (.bl (decide (f=g))) H->rFm K u v H Q
 |0,f,g,_,_,_,h,h',q=>A.eq K h h' q
 |n+1,f,g,_,_,hn,h,h',q=>by
  obtain⟨a,xs,rfl,h2,h3⟩:=h;obtain⟨b,ys,rfl,h2',h3'⟩:=h';obtain⟨d1,d2⟩:=FmL.deq (R:=FmV A H n) (K:=K) (m:=2*n+2) (λx y u q q'=>FmV.inj q q') (λx y u v q q'=>FmV.deq q q') h3 h3';refine .inr ⟨a,b,xs,ys,U,U,SqT.of h2,SqT.of h2',_,λj x y ex ey=>(d1 j x y ex ey).mono (by lia),?_⟩;rw[if_neg (by decide),d2];exact q
theorem vM(x y:Int):decide (V.int x=V.int y)=decide (x=y):=by
 by_cases e:x=y
 ·rw[decide_eq_true e,e];simp
 ·rw[decide_eq_false e];exact decide_eq_false λz=>e (V.int.inj z)
theorem vO(x y:Int):eqV (.int x) (.int y)=decide (x=y):=by
 show((x:Int) == (y:Int))=decide (x=y);by_cases e:x=y
 ·rw[decide_eq_true e,e];simp
 ·rw[decide_eq_false e];exact beq_eq_false_iff_ne.mpr e
def mJ:Lfp Int where
 R _ x v:=v=.int x
 mono _ h:=h
 inj h h':=V.int.inj (h.symm.trans h')
 deq K {H x y u v} h h':=by
  cases h;cases h';rw[←vO];exact .flat U U
 eq K {H x y u v Q} h h' q:=by
  cases h;cases h';refine .inl ⟨U,?_⟩;rw[vM];exact q
 ne K {H x y u v Q} h h' q:=by
  cases h;cases h';refine .inl ⟨U,?_⟩;rw[vM];exact q
theorem nJ(p:Pos)(a b:Int)(c:Value):∀(l:List Value),TriplesOk l->codeAmong p (l++[rawInt a,rawInt b,c])=(codeAmong p l).or (codeAmong p [rawInt a,rawInt b,c])
 | [],_=>rfl
 | .int x t :: .int y u :: d :: rest,h=>by
  have ih:=nJ p a b c rest h;show codeAmong p (.int x t :: .int y u :: d :: (rest++[rawInt a,rawInt b,c]))=_;rw[codeAmong,codeAmong];split
  ·rfl
  ·exact ih
def c9(H:Hp)(P:Addr)(L:List (Pos×Str)):Prop:=∃ps,H P=some (.tbl ps)/\TriplesOk ps.toList/\∀p∈L,codeAmong p.1 ps.toList=none\/∃(c':Addr)(oc:Obj),codeAmong p.1 ps.toList=some (.ref c')/\H c'=some (.frz oc TTh)/\pP oc p.2
theorem c9.same{H H':Hp}{P:Addr}{L:List (Pos×Str)}(h:c9 H P L)(s:ar H H'):c9 H' P L:=by
 obtain⟨ps,h1,h2,h3⟩:=h;exact⟨ps,s _ _ h1,h2,λp hp=>(h3 p hp).imp id λ⟨c,o,a,b,d⟩=>⟨c,o,a,s _ _ b,d⟩⟩
theorem c9.new{H:Hp}{P:Addr}{L:List (Pos×Str)}(h:H P=some (.tbl #[])):c9 H P L:=⟨#[],h,trivial,λ_ _=>.inl U⟩
def CM(P:Addr)(pos:Pos)(qual:Str)(mk:Value->Addr->Value->Obj)(clos:List (Str×Addr)):TE:=λ_ H Q=>∃L,(pos,qual)∈L/\(∀p∈L,p.1.line=pos.line->p.1.col=pos.col->p.2=qual)/\c9 H P L /\
 ∀(f c':Addr)(oc:Obj)(pm ctv:Value)(H':Hp),H f=none->(∀b o,b≠P->H b=some o->H' b=some o)->H' f=some (.frz (mk pm c' ctv) TTh)->H' c'=some (.frz oc TTh)->pP oc qual->c9 H' P L->(∀x y a,clos.lookup x=some a->clos.lookup y=some a->x=y)->Q (.ref f) H'
theorem vP{params:Arguments}{body:Expr}{scope:Scope}{pos:Pos}{c P:Addr}{clos:List (Str×Addr)}(yH:X.env.code=.ref c)
  (C:W.CodeHd X.base c P)(hb:X.base.BuiltinsAt X.mg P)(hcl:closureFor scope X.env=pure clos)(hin:∀p∈clos,X.env.cells.lookup p.1=some p.2)(A3:defaultsOf params X.env=([],[]):=by rfl) :
  PE X (.Lambda params body scope pos) (CM P pos (X.env.qual ++ "<lambda>") (λpm c' ctv=>W.kla_obj "<lambda>" (X.env.qual ++ "<lambda>") params body scope clos pm c' ctv) clos):=by
 intro pins s σ H Q I h;obtain⟨L,hL,hLu,⟨ps,hP,ht,hps⟩,k⟩:=h;have ePh:s.heap.get? P=some (W.tabObj ps):=I.hok P _ hP;have hgs:s.heap.Ns mainGlobals X.mg:=I.mod.glob.keeps I.bk;have hgP:mainGlobals≠P:=λq=>by
  obtain⟨o,es,ep,e,hd,_⟩:=hgs;rw[q,ePh]at e;cases e;cases hd
 have inj:∀x y a,clos.lookup x=some a->clos.lookup y=some a->x=y:=λx y a h1 h2=>I.ok.inj x y a (hin _ (mem_of_lookup h1)) (hin _ (mem_of_lookup h2))
 rcases hps _ hL with hnf|⟨c',oc,hf,hHc,hko⟩
 ·refine W.kla_eval A3 (W.kla_makeFunction hcl I.ok.glob hgs yH (C.keeps I.bk) ePh ht hnf hgP (hb.keeps I.bk) λc' ctv h' tk hx' hge hlt CN htb=>?_);obtain⟨c₂,oc,vs,t,e2,hoc,hdd,hv⟩:=CN;cases e2;have hfr:∀b,s.heap.objs.size<=b->H b=none:=λb hb'=>I.hok.fresh hb'
  have hPl:P<s.heap.objs.size:=Heap.lt_size ePh;have ncP:c'≠P:=λz=>by rw[z]at hge;exact absurd hPl (not_lt.mpr hge)
  have hfs:s.heap.objs.size<=h'.objs.size:=le_trans hge (le_of_lt hlt);have nfP:h'.objs.size≠P:=λz=>by rw[z]at hfs;exact absurd hPl (not_lt.mpr hfs)
  have nfc:h'.objs.size≠c':=ne_of_gt hlt;have hHf:=hfr _ hfs;have hHc:=hfr _ hge;have at3:∀{b:Addr}{u:HO},b≠P->H b=some u->upd (upd (upd H P (.tbl (ps ++ #[rawInt pos.line,rawInt pos.col,.ref c']))) c' (.frz oc TTh)) h'.objs.size (.frz (W.kla_obj "<lambda>" (X.env.qual ++ "<lambda>") params body scope clos ((X.mg "__name__").getD .none) c' ctv) TTh) b=some u:=λ{b u} hb' e=>by
   rw[aw (bj e hHf),aw (bj e hHc),aw hb'];exact e
  have atP:upd (upd (upd H P (.tbl (ps ++ #[rawInt pos.line,rawInt pos.col,.ref c']))) c' (.frz oc TTh)) h'.objs.size (.frz (W.kla_obj "<lambda>" (X.env.qual ++ "<lambda>") params body scope clos ((X.mg "__name__").getD .none) c' ctv) TTh) P=some (.tbl (ps ++ #[rawInt pos.line,rawInt pos.col,.ref c'])):=by
   rw[aw nfP.symm,aw ncP.symm,ab]
  have neP:∀{b:Addr},H b=none->b≠P:=λe z=>by rw[z,hP]at e;cases e
  have keep:∀b o,b≠P->s.heap.get? b=some o->(h'.push (W.kla_obj "<lambda>" (X.env.qual ++ "<lambda>") params body scope clos ((X.mg "__name__").getD .none) c' ctv)).get? b=some o:=λb o hb' e=>Heap.get?_push_of_some _ (hx' b o hb' e)
  have un:Un X.fs [] H (upd (upd (upd H P (.tbl (ps ++ #[rawInt pos.line,rawInt pos.col,.ref c']))) c' (.frz oc TTh)) h'.objs.size (.frz (W.kla_obj "<lambda>" (X.env.qual ++ "<lambda>") params body scope clos ((X.mg "__name__").getD .none) c' ctv) TTh)) s.heap (h'.push (W.kla_obj "<lambda>" (X.env.qual ++ "<lambda>") params body scope clos ((X.mg "__name__").getD .none) c' ctv)):=by
   refine⟨λb o e n _ _=>keep b o (neP n) e,λb o e n _ _=>⟨o.slots,keep b o (neP n) e⟩,λb o e n _=>?_,λb o e _=>?_,λb xs e=>at3 (λz=>by rw[z,hP]at e;cases e) e,λb o u e=>at3 (λz=>by rw[z,hP]at e;cases e) e,λb ps' e=>?_⟩
   ·have hb':=Heap.lt_size e;rw[aw (ne_of_lt (lt_of_lt_of_le hb' hfs)),aw (ne_of_lt (lt_of_lt_of_le hb' hge)),aw (neP n)];exact n
   ·by_cases hb':b=P
    ·subst hb';exact⟨_,Heap.get?_push_of_some _ htb⟩
    ·exact⟨o,keep b o hb' e⟩
   ·by_cases hb':b=P
    ·subst hb';rw[hP]at e;cases e;exact⟨_,atP⟩
    ·exact⟨#[],by rw[at3 hb' e];simp⟩
  have hok:HOk X.prog X.w (upd (upd (upd H P (.tbl (ps ++ #[rawInt pos.line,rawInt pos.col,.ref c']))) c' (.frz oc TTh)) h'.objs.size (.frz (W.kla_obj "<lambda>" (X.env.qual ++ "<lambda>") params body scope clos ((X.mg "__name__").getD .none) c' ctv) TTh)) (h'.push (W.kla_obj "<lambda>" (X.env.qual ++ "<lambda>") params body scope clos ((X.mg "__name__").getD .none) c' ctv)):=λb u e=>by
   by_cases h1:b=h'.objs.size
   ·subst h1;rw[ab]at e;cases e;exact pO (Heap.get?_push_size _ U)
   rw[aw h1]at e;by_cases h2:b=c'
   ·subst h2;rw[ab]at e;cases e;exact pO (Heap.get?_push_of_some _ hoc)
   rw[aw h2]at e;by_cases h3:b=P
   ·subst h3;rw[ab]at e;cases e;exact Heap.get?_push_of_some _ htb
   rw[aw h3]at e;refine(I.hok b u e).stay (λd v hd q=>keep d v ?_ q) (λd q=>at3 (λz=>by rw[z,hP]at q;cases q) q) λd xs q=>at3 (λz=>by rw[z,hP]at q;cases q) q
   rcases hd with rfl|hd
   ·exact h3
   ·exact λz=>by rw[z,hP]at hd;cases hd
  have I2:=I.un (t':=tk) un hok;have hko:pP oc (X.env.qual ++ "<lambda>"):=⟨vs,t,hdd,hv⟩;have ec':upd (upd (upd H P (.tbl (ps ++ #[rawInt pos.line,rawInt pos.col,.ref c']))) c' (.frz oc TTh)) h'.objs.size (.frz (W.kla_obj "<lambda>" (X.env.qual ++ "<lambda>") params body scope clos ((X.mg "__name__").getD .none) c' ctv) TTh) c'=some (.frz oc TTh):=(aw nfc.symm).trans ab;refine⟨.ref h'.objs.size,_,I2,U,k _ c' oc _ ctv _ hHf (λb o hb' e=>at3 hb' e) ab ec' hko ⟨_,atP,?_,λp hp=>?_⟩ inj⟩
  ·rw[Array.toList_append];exact TriplesOk_snoc _ _ _ _ ht
  ·rw[Array.toList_append];show codeAmong p.1 (ps.toList++[rawInt pos.line,rawInt pos.col,.ref c'])=none\/∃(d:Addr)(oc:Obj),codeAmong p.1 (ps.toList++[rawInt pos.line,rawInt pos.col,.ref c'])=some (.ref d)/\_;rw[nJ _ _ _ _ _ ht];rcases hps p hp with q|⟨d,od,q1,q2,q3⟩
   ·rw[q];show codeAmong p.1 [rawInt pos.line,rawInt pos.col,.ref c']=none\/∃(d:Addr)(oc:Obj),codeAmong p.1 [rawInt pos.line,rawInt pos.col,.ref c']=some (.ref d)/\_;by_cases e:p.1.line=pos.line/\p.1.col=pos.col
    ·have e3:codeAmong p.1 [rawInt pos.line,rawInt pos.col,.ref c']=some (.ref c'):=by
      show(if ((pos.line:Int) == (p.1.line:Int) && (pos.col:Int) == (p.1.col:Int))=true then some (Value.ref c')else none)=_;rw[e.1,e.2];simp
     exact .inr ⟨c',oc,e3,ec',by rw[hLu p hp e.1 e.2];exact hko⟩
    ·left
     show(if ((pos.line:Int) == (p.1.line:Int) && (pos.col:Int) == (p.1.col:Int))=true then some (Value.ref c')else none)=none;rw[if_neg λz=>e ?_];rw[and_eq_true,beq_iff_eq,beq_iff_eq]at z;lia
   ·exact .inr ⟨d,od,by rw[q1];rfl,at3 (λz=>by rw[z,hP]at q2;cases q2) q2,q3⟩
 ·refine W.kla_eval A3 (W.kla_makeFunctionHit hcl I.ok.glob hgs yH (C.keeps I.bk) ePh ht hf (hb.keeps I.bk) λctv h' tk kp hfs=>?_);have hHf:H h'.objs.size=none:=I.hok.fresh hfs;have s':ar H (upd H h'.objs.size (.frz (W.kla_obj "<lambda>" (X.env.qual ++ "<lambda>") params body scope clos ((X.mg "__name__").getD .none) c' ctv) TTh)):=ai hHf _;have keep:∀b o,s.heap.get? b=some o->(h'.push (W.kla_obj "<lambda>" (X.env.qual ++ "<lambda>") params body scope clos ((X.mg "__name__").getD .none) c' ctv)).get? b=some o:=λb o e=>Heap.get?_push_of_some _ (kp b o e)
  have un:Un X.fs [] H (upd H h'.objs.size (.frz (W.kla_obj "<lambda>" (X.env.qual ++ "<lambda>") params body scope clos ((X.mg "__name__").getD .none) c' ctv) TTh)) s.heap (h'.push (W.kla_obj "<lambda>" (X.env.qual ++ "<lambda>") params body scope clos ((X.mg "__name__").getD .none) c' ctv)):=by
   refine⟨λb o e n _ _=>keep b o e,λb o e n _ _=>⟨o.slots,keep b o e⟩,λb o e n _=>?_,λb o e _=>⟨o,keep b o e⟩,λb xs e=>s' _ _ e,λb o u e=>s' _ _ e,λb ps' e=>⟨#[],by rw[s' _ _ e];simp⟩⟩;have hb':=Heap.lt_size e;rw[aw (ne_of_lt (lt_of_lt_of_le hb' hfs))];exact n
  have hok:HOk X.prog X.w (upd H h'.objs.size (.frz (W.kla_obj "<lambda>" (X.env.qual ++ "<lambda>") params body scope clos ((X.mg "__name__").getD .none) c' ctv) TTh)) (h'.push (W.kla_obj "<lambda>" (X.env.qual ++ "<lambda>") params body scope clos ((X.mg "__name__").getD .none) c' ctv)):=λb u e=>by
   by_cases h1:b=h'.objs.size
   ·subst h1;rw[ab]at e;cases e;exact pO (Heap.get?_push_size _ U)
   rw[aw h1]at e;exact(I.hok b u e).stay (λd v _ q=>keep d v q) (λd q=>s' _ _ q) λd xs q=>s' _ _ q
  have I2:=I.un (t':=tk) un hok;exact⟨.ref h'.objs.size,_,I2,U,k _ c' oc _ ctv _ hHf (λb o _ e=>s' _ _ e) ab (s' _ _ hHc) hko (c9.same ⟨ps,hP,ht,hps⟩ s') inj⟩
theorem zG{CX:CXT}{P:Program}{w:World}{K:W.Frag}{mg:Str->Option Value}{base:Heap}{k:Nat}{f c':Addr}{name qual:Str}{params:Arguments}{body:Expr}{scope:Scope}{cl:List (Str×Addr)}{pm ctv:Value}{N ps:List Str}{sp:Sp}
  (S:oA N ps scope cl)(inj:∀x y c,cl.lookup x=some c->cl.lookup y=some c->x=y)
  (len:∀vs H Q E,sp vs H Q E->vs.length=ps.length)
  (gf:∀(A:Around)(outer:List Env)(s:Shared)(H:Hp)(vs:List V)(Q:VK)(E:XK),bZ k (A.deeper (W.envX qual scope s.heap.objs.size f (.ref c') cl))->sp vs H Q E ->
   (∃oc,H f=some (.frz (W.kla_obj name qual params body scope cl pm c' ctv) TTh)/\H c'=some (.frz oc TTh)/\pP oc qual)/\∃ws,eK H cl ws/\(∀x∈N.drop ps.length,∀v,ws.lookup x=some v->scope.names.lookup x=some .free) /\
   ((∀c∈cl.map (·.2),base.get? c=none/\c ∉ frs outer)->∃t:TE,PE (cxC CX P w K mg base N qual scope f (.ref c') cl A outer s H E) body t/\t (j0 N ps vs ws) (hideL H (cl.map (·.2))) λv H'=>(∀c∈cl.map (·.2),H' c=none)->Q v (backL H H' (cl.map (·.2))))) :
  aH P w K mg base CX (k+1) f (W.kla_fn name qual params body scope cl pm (.ref c') ctv) ps sp:=by
 refine⟨len,λA outer s H args us vs Q E hr e0 hb r hsp=>?_⟩;have hl:=len _ _ _ _ hsp;obtain⟨⟨oc,ef,ec,vs',t',hcd,hcq⟩,ws,js,sf,vq⟩:=gf A outer s H vs Q E (hr.deeper _) hsp;obtain⟨t,ht,hq⟩:=vq λc hc=>by
  obtain⟨o,e⟩:=js.fzs c hc;refine⟨?_,λz=>by rw[e0.frf c z]at e;cases e⟩;cases eb:base.get? c with
  |none=>rfl
  |some ob=>rw[(e0.bs c ob eb).2]at e;cases e
 have lim:s.heap.NoLimit:=e0.mod.nolimit.keeps λb o e=>(e0.bs b o e).1
 have eo:s.heap.get? f=some (W.kla_obj name qual params body scope cl pm c' ctv):=(e0.hok f _ ef).1;have eoc:s.heap.get? c'=some oc:=(e0.hok c' _ ec).1;have hul:us.length=ps.length:=by rw[←r.length];exact hl
 have ndP:ps.Nodup:=by rw[←S.pre];exact S.nd.sublist (List.take_sublist _ _)
 have fz:=js.fzs;have hcs:∀{x:Str}{c:Addr},cl.lookup x=some c->c∈cl.map (·.2):=λe=>lF e
 refine W.kla_callFunE hr.depth eo U S.co S.gen U ⟨c',oc,vs',t',U,eoc,hcd,hcq⟩ (hb _ _ _ _ ?_);refine wpAny_newFunctionEnv S.nocell (λx hx=>S.par x.1 (of_mem_zip hx).1) (λh₁ hns hsb=>?_) S.kind;have hk₁:∀b o,s.heap.get? b=some o->h₁.get? b=some o:=λb o e=>hsb.extBut b o (ne_of_lt (Heap.lt_size e)) (Heap.get?_push_of_some _ e)
 refine⟨lim.keeps hk₁,W.kla_codeExpr ?_⟩;have hH0:∀{b:Addr},H b=none->hideL H (cl.map (·.2)) b=none:=λh=>fI h
 have I:Inv (cxC CX P w K mg base N qual scope f (.ref c') cl A outer s H E) [] (j0 N ps vs ws) (hideL H (cl.map (·.2))) { s with heap:=h₁,toks:=s.toks+(ps.zip us).length }:=by
  have noA:∀b:Addr,b ∉ (cxC CX P w K mg base N qual scope f (.ref c') cl A outer s H E).ex:=λb z=>absurd (show b∈([]:List Addr)from z) (by simp)
  refine⟨⟨e0.mod,S.kind,U,U,le_refl _,λx y c h1 h2=>inj x y c h1 h2,λx hx=>?_,λx c hf=>?_,λ_=>hr.hd,Around.frames_deeper e0.frames,.inr ⟨U,U⟩,λb z=>absurd z (noA b),λb o e=>⟨(e0.bs b o e).1,hH0 (e0.bs b o e).2⟩,e0.bsz,λb _ _=>noA b,λb z=>absurd z (noA b),e0.funs,λb hb=>hH0 (e0.frf b hb)⟩,
   rfl,e0.bare,Un.kept hk₁,⟨_,hns,λi x v h1 h2 h3=>?_⟩,λx c h=>?_,hH0 (e0.hok.fresh (le_refl _)),λx c h=>jz (hcs h),λp hp=>absurd (show p∈([]:List (Addr×Obj))from hp) (by simp),(e0.hok.hideL fz).kept hk₁,?_⟩
  ·have hx:scope.names.lookup x=some .cell\/scope.names.lookup x=some .free:=hx;rcases hx with hx|hx
   ·exact absurd U (S.nocell _ (mem_of_lookup hx))
   ·exact S.has _ (mem_of_lookup hx) U
  ·exact absurd (show false=true from hf) Bool.false_ne_true
  ·have h1:N[i]?=some x:=h1;unfold j0 at h2;by_cases hi:i<vs.length
   ·rw[getElem?_append_left (by simpa using hi),getElem?_map]at h2;have ha:vs[i]?=some v:=by
     cases e:vs[i]? with
     |none=>rw[e]at h2;cases h2
     |some a=>rw[e]at h2;cases h2;rfl
    obtain⟨u,hu,rv⟩:=r.get ha;have hp:ps[i]?=some x:=by rw[←S.pre,List.getElem?_take_of_lt (by lia)];exact h1
    exact⟨u,rv,.inl ⟨S.par x (Fp hp),rC ndP hp hu hul⟩⟩
   ·rw[getElem?_append_right (by simpa using hi),getElem?_map,length_map]at h2;cases e:(N.drop ps.length)[i-vs.length]? with
    |none=>rw[e]at h2;cases h2
    |some y =>
     rw[e]at h2;have h2:some (ws.lookup y)=some (some v):=h2;have h2:=Option.some.inj h2;have hy:y=x:=by
      rw[List.getElem?_drop,show ps.length+(i-vs.length)=i by lia,h1]at e;exact(Option.some.inj e).symm
     subst hy;obtain⟨c,o,u,e1,e2,e3,rv⟩:=js.2 y v h2;exact⟨u,rv,.inr ⟨.inr (sf y (Fp e) v h2),c,e1,o,hk₁ _ _ (e0.hok c _ e2).1,e3⟩⟩
  ·obtain⟨o,v,e,d⟩:=js.1 c (hcs h);exact⟨v,o,hk₁ _ _ (e0.hok c _ e).1,d⟩
  ·unfold j0;show _=N.length;have hpl:ps.length<=N.length:=by have:=congrArg List.length S.pre;rw[length_take]at this;lia
   rw[length_append,length_map,length_map,length_drop];lia
 refine wpAny_mono (ht [] _ (j0 N ps vs ws) _ _ I hq) (λu s' hs=>?_) λe s' hs=>hs
 have fin:∀{σ':St}{H':Hp}{v:V}{u:Value},Inv (cxC CX P w K mg base N qual scope f (.ref c') cl A outer s H E) [] σ' H' s'->RelV v u->((∀c∈cl.map (·.2),H' c=none)->Q v (backL H H' (cl.map (·.2))))->CE outer P w H s Q u s':=λ{σ' H' v u} J rv q=>by
  have un:Un (frs outer) [] (hideL H (cl.map (·.2))) H' s.heap s'.heap:=J.base;have nc:∀c∈cl.map (·.2),H' c=none:=λc hc=>by
   obtain⟨⟨x,d⟩,hm,rfl⟩:=mem_map.mp hc;obtain⟨o,e⟩:=fz d hc;exact un.free d o (e0.hok d _ e).1 (jz hc) (by simp)
  refine⟨v,backL H H' (cl.map (·.2)),J.os,J.bare,un.backL fz,J.hok.backL fz nc λc hc o e=>?_,rv,q nc⟩;refine un.keep c o (e0.hok c _ e).1 (jz hc) (λz=>?_) (by simp);rw[e0.frf c z]at e;cases e
 obtain⟨v,H',J,rv,q⟩:=hs;exact fin J rv q
def yI(st:Stmt)(k:Nat):Expr:=match st with
 | .Assign _ (.Call _ as _ _) _=>as.getD k (.Name "" ⟨0,0,0,0⟩)
 | .Return (some (.Call _ as _ _)) _=>as.getD k (.Name "" ⟨0,0,0,0⟩)
 |_=>.Name "" ⟨0,0,0,0⟩
def oF(e:Expr):Arguments:=match e with
 | .Lambda a _ _ _=>a
 |_=>fE (.Pass ⟨0,0,0,0⟩)
def mK(e:Expr):Expr:=match e with
 | .Lambda _ b _ _=>b
 |e=>e
def jA(e:Expr):Scope:=match e with
 | .Lambda _ _ s _=>s
 |_=>aj (.Pass ⟨0,0,0,0⟩)
def pS(e:Expr):Pos:=match e with
 | .Lambda _ _ _ p=>p
 |_=>⟨0,0,0,0⟩
theorem vQ{qual:Str}{ps:List Str}{e:Expr}{f c':Addr}{cl:List (Str×Addr)}{pm ctv:Value}{N:List Str}{k:Nat}{sp:Sp}(S:oA N ps (jA e) cl)(inj:∀x y c,cl.lookup x=some c->cl.lookup y=some c->x=y)
  (hb:∀us:List Value,us.length=ps.length->bindArgs (W.kla_fn "<lambda>" qual (oF e) (mK e) (jA e) cl pm (.ref c') ctv) ⟨us,[]⟩=pure (ps.zip us))
  (len:∀vs H Q E,sp vs H Q E->vs.length=ps.length)
  (gf:∀(A:Around)(outer:List Env)(s:Shared)(H:Hp)(vs:List V)(Q:VK)(E:XK),bZ k (A.deeper (W.envX qual (jA e) s.heap.objs.size f (.ref c') cl))->sp vs H Q E ->
   ∃ws,iD H f c' (W.kla_obj "<lambda>" qual (oF e) (mK e) (jA e) cl pm c' ctv) qual cl ws/\(∀y∈N.drop ps.length,∀v,ws.lookup y=some v->(jA e).names.lookup y=some .free) /\
   ((∀c∈cl.map (·.2),base.get? c=none/\c ∉ frs outer)->∃t:TE,PE (cxC CX0 P w K mg base N qual (jA e) f (.ref c') cl A outer s H E).nox (mK e) t/\t (j0 N ps vs ws) (hideL H (cl.map (·.2))) λv H'=>(∀c∈cl.map (·.2),H' c=none)->Q v (backL H H' (cl.map (·.2))))) :
  HFn P w K mg base (k+1) f sp:=by
 refine⟨_,ps,zG (name := "<lambda>") (qual:=qual) (c':=c') (params:=oF e) (body:=mK e) (pm:=pm) (ctv:=ctv) S inj len λA outer s H vs Q E hr hsp=>?_,.all λus hl=>?_⟩
 ·obtain⟨ws,⟨h1,⟨oc,h2,h3⟩,h4⟩,h5,h6⟩:=gf A outer s H vs Q E hr hsp;refine⟨⟨oc,h1,h2,h3⟩,ws,h4,h5,λhc=>?_⟩;obtain⟨t,a,b⟩:=h6 hc;exact⟨t,a.nox,b⟩
 ·exact hb us hl
section
variable{i:Nat}
end
inductive TFn(K:W.Frag)(x:Str)(st:Stmt):Prop
 |mk {f c t:Addr}{fd:FuncData}(a:W.nsIn K mainGlobals x=some (some (.ref f)))(F:Fun K x x st f fd)(hc:fd.code=.ref c)(ht:W.tabIn K x=some (c,t)):TFn K x st
theorem tfn_mk{K:W.Frag}{x:Str}{st:Stmt}{f c t:Addr}{oc kV doc pm ct:Value}{od an:Option Addr}{osl:Array (Option Value)}{o1:Value}{o2:Option Addr}{vs:Array Value}{o3:Array (Option Value)}(a:W.nsIn K mainGlobals x=some (some (.ref f)))
  (l:K.lookup f=some ⟨oc,od,.func (W.fnOf x x (fE st) (dh st) (aj st) .none kV doc pm an (.ref c) ct),osl⟩)(cd:W.codeIn K (.ref c) x=true)(kp:W.keepIn K (.ref f)=true)(lc:K.lookup c=some ⟨o1,o2,.fields vs,o3⟩)(e:vs[11]?=some (.ref t)):TFn K x st :=
 ⟨a,fun_mk l cd kp,U,tab_mk a l lc e⟩
theorem mkT{P:Program}{w:World}{K:W.Frag}{mg:Str->Option Value}{base:Heap}{k:Nat}{x:Str}{ps:List Str}{sp:Sp}{st:Stmt}(Z:Zb P w K mg base)(h:TFn K x st)(hq:∀q∈(W.tabIn K x).toList,W.CodeHd base q.1 q.2/\base.BuiltinsAt mg q.2)
  (O:∀{f c t:Addr}{fd:FuncData},Fun K x x st f fd->fd.code=.ref c->W.tabIn K x=some (c,t)->W.CodeHd base c t/\base.BuiltinsAt mg t->aH P w K mg base CX0 k f fd ps sp)
  (b:∀{f:Addr}{fd:FuncData},Fun K x x st f fd->Binds K fd ps []:=by exact λF=>F.binds λ_ _ _ _ _ _=>by first|exact L2.lb0 rfl|exact L2.lb1 λ_=>U|exact L2.lb2 λ_ _=>U|exact L2.lb3 λ_ _ _=>U|exact L2.lb4 λ_ _ _ _=>U|exact L2.lb5 λ_ _ _ _ _=>U|exact L2.lb6 λ_ _ _ _ _ _=>U|exact L2.lb7 λ_ _ _ _ _ _ _=>U|exact L2.lb8 λ_ _ _ _ _ _ _ _=>U|exact L2.lb9 λ_ _ _ _ _ _ _ _ _=>U):Callee P w K mg base k x ps sp:=by
 cases h with|mk a F hc ht=>exact⟨_,_,O F hc ht (hq _ (by rw[ht];exact mem_cons_self)),b F,F.kp,Z.g a⟩
theorem sO{K:W.Frag}{x:Str}{t:Addr×Addr}(h:t∈(W.tabIn K x).toList):W.tabIn K x=some t:=by
 cases e:W.tabIn K x with
 |none=>rw[e]at h;cases h
 |some z=>rw[e]at h;rw[mem_singleton.mp h]
end L2
set_option Elab.async false
set_option maxRecDepth 100000
set_option maxHeartbeats 4000000
set_option linter.all false
namespace My
open PySem L2
def top(i:Nat):Stmt:=PySem.Challenge.pw_rowjudge_k43_clashes.main.body.getD i (.Pass ⟨0,0,0,0⟩)
abbrev Y31:Stmt:=top 14
abbrev Y45:Stmt:=top 15
abbrev Y44:Stmt:=top 16
abbrev Y43:Stmt:=top 21
abbrev Y39:Stmt:=top 22
abbrev Y77:Stmt:=top 23
abbrev Y42:Stmt:=top 26
abbrev Y38:Stmt:=top 27
abbrev Y34:Stmt:=top 28
abbrev Y68:Stmt:=top 29
abbrev Y36:Stmt:=top 30
abbrev Y69:Stmt:=top 31
abbrev Y32:Stmt:=top 32
abbrev Y41:Stmt:=top 33
abbrev Y80:Stmt:=top 44
abbrev Y73:Stmt:=top 49
abbrev Y72:Stmt:=top 50
abbrev Y75:Stmt:=top 51
abbrev Y74:Stmt:=top 52
abbrev Y71:Stmt:=top 53
abbrev Y40:Stmt:=top 54
abbrev Y70:Stmt:=top 55
abbrev Y46:Stmt:=top 56
abbrev Y78:Stmt:=top 58
abbrev Y79:Stmt:=top 59
abbrev Y37:Stmt:=top 60
abbrev s_row_form:Stmt:=top 61
abbrev s_clashes:Stmt:=top 64
abbrev Y33:Stmt:=top 65
abbrev Y49:Stmt:=top 67
abbrev Y60:Stmt:=top 68
abbrev Y53:Stmt:=top 69
abbrev Y67:Stmt:=top 70
abbrev Y50:Stmt:=top 71
abbrev Y58:Stmt:=top 72
abbrev Y57:Stmt:=top 73
abbrev Y65:Stmt:=top 74
abbrev Y61:Stmt:=top 75
abbrev Y63:Stmt:=top 76
abbrev Y64:Stmt:=top 77
abbrev Y59:Stmt:=top 78
abbrev Y48:Stmt:=top 79
abbrev Y52:Stmt:=top 80
abbrev Y51:Stmt:=top 81
abbrev Y66:Stmt:=top 82
abbrev Y54:Stmt:=top 83
abbrev Y56:Stmt:=top 84
abbrev Y62:Stmt:=top 85
abbrev Y55:Stmt:=top 86
abbrev Y17:Stmt:=inClass (top 48) 0
abbrev Y4:Stmt:=inClass (top 38) 0
abbrev Y18:Stmt:=inClass (top 37) 0
abbrev Y13:Stmt:=inClass (top 39) 0
abbrev Y22:Stmt:=inClass (top 37) 0
abbrev Y8:Stmt:=inClass (top 40) 0
abbrev Y20:Stmt:=inClass (top 37) 0
abbrev Y10:Stmt:=inClass (top 41) 0
abbrev Y21:Stmt:=inClass (top 37) 0
abbrev Y6:Stmt:=inClass (top 42) 0
abbrev Y19:Stmt:=inClass (top 37) 0
abbrev Y15:Stmt:=inClass (top 43) 0
abbrev Y23:Stmt:=inClass (top 37) 0
abbrev Y2:Stmt:=inClass (top 17) 5
abbrev Y3:Stmt:=inClass (top 17) 5
abbrev Y12:Stmt:=inClass (top 18) 0
abbrev Y0:Stmt:=inClass (top 17) 0
abbrev Y30:Stmt:=inClass (top 19) 0
abbrev Y1:Stmt:=inClass (top 17) 0
abbrev Y24:Stmt:=inClass (top 37) 1
abbrev Y5:Stmt:=inClass (top 38) 1
abbrev Y28:Stmt:=inClass (top 37) 1
abbrev Y14:Stmt:=inClass (top 39) 1
abbrev Y26:Stmt:=inClass (top 37) 1
abbrev Y9:Stmt:=inClass (top 40) 1
abbrev Y27:Stmt:=inClass (top 37) 1
abbrev Y11:Stmt:=inClass (top 41) 1
abbrev Y25:Stmt:=inClass (top 37) 1
abbrev Y7:Stmt:=inClass (top 42) 1
abbrev Y29:Stmt:=inClass (top 37) 1
abbrev Y16:Stmt:=inClass (top 43) 1
abbrev Y47:Stmt:=top 87
abbrev Y76:Expr:=yI ((dh s_row_form).getD 0 (.Pass ⟨0,0,0,0⟩)) 2
theorem Z78{c_0:Addr}:oA ["codes","table"] ["codes"] (jA Y76) [("table",c_0)]:=⟨U,U,U,by decide+kernel,U,by decide+kernel,by decide+kernel,vK U⟩
abbrev Y35:Expr:=yI ((dh s_clashes).getD 1 (.Pass ⟨0,0,0,0⟩)) 2
theorem Z36{c_0:Addr}:oA ["rows","table"] ["rows"] (jA Y35) [("table",c_0)]:=⟨U,U,U,by decide+kernel,U,by decide+kernel,by decide+kernel,vK U⟩
theorem Z31:ao ["text","signs","sign"] ["text","signs"] (aj Y31):=fsc
theorem Z46:ao ["text"] ["text"] (aj Y45):=fsc
theorem Z45:ao ["value"] ["value"] (aj Y44):=fsc
theorem Z44:ao ["spans","number","low","high"] ["spans","number"] (aj Y43):=fsc
theorem Z40:ao ["spans","low","high","turns","first","last"] ["spans","low","high"] (aj Y39):=fsc
theorem Z79:ao ["low","high","marks","cuts","lows","highs"] ["low","high","marks"] (aj Y77):=fsc
theorem Z43:ao ["bounds","marks","product","parts"] ["bounds","marks"] (aj Y42):=fsc
theorem Z39:ao ["bounds","marks"] ["bounds","marks"] (aj Y38):=fsc
theorem Z34:ao ["bounds","marks","leaf"] ["bounds","marks","leaf"] (aj Y34):=fsc
theorem Z69:ao ["columns","ahead","leaf"] ["columns","ahead","leaf"] (aj Y68):=fsc
theorem Z37:ao ["triples","form","low","high","beneath"] ["triples"] (aj Y36):=fsc
theorem Z70:ao ["form","deep","change"] ["form","deep","change"] (aj Y69):=fsc
theorem Z32:ao ["form","deep","told","low","high","beneath","box","leaf"] ["form","deep"] (aj Y32):=fsc
theorem Z42:ao ["lists","numbers","some"] ["lists"] (aj Y41):=fsc
theorem Z82:ao ["name","way"] ["name"] (aj Y80):=fsc
theorem Z74:ao ["names","name"] ["names"] (aj Y73):=fsc
theorem Z73:ao ["names","rows"] ["names","rows"] (aj Y72):=fsc
theorem Z76:ao ["way","outcome"] ["way","outcome"] (aj Y75):=fsc
theorem Z75:ao ["domains","outcome","cells","code","domain","spans","low","high"] ["domains","outcome","cells","code"] (aj Y74):=fsc
theorem Z72:ao ["cells","code"] ["cells","code"] (aj Y71):=fsc
theorem Z41:ao ["table","k","codes","cells","spans","code"] ["table","k","codes"] (aj Y40):=fsc
theorem Z71:ao ["table","codes"] ["table","codes"] (aj Y70):=fsc
theorem Z47:ao ["table","rows","codes"] ["table","rows"] (aj Y46):=fsc
theorem Z80:ao ["table"] ["table"] (aj Y78):=fsc
theorem Z81:ao ["table"] ["table"] (aj Y79):=fsc
theorem Z38:ao ["table","column","domain"] ["table","column"] (aj Y37):=fsc
theorem Z77:ao ["table"] ["table"] (aj s_row_form):=fsc
theorem Z35:ao ["table","deep","clashing"] ["table"] (aj s_clashes):=fsc
theorem Z33:ao ["form","deep"] ["form","deep"] (aj Y33):=fsc
theorem Z50:ao ["script","k"] ["script","k"] (aj Y49):=fsc
theorem Z61:ao ["cell","count","at","told","k","part","step"] ["cell","count"] (aj Y60):=fsc
theorem Z54:ao ["script","most","told","k","cell"] ["script","most"] (aj Y53):=fsc
theorem Z68:ao ["cell","k","stem","at"] ["cell","k"] (aj Y67):=fsc
theorem Z51:ao ["cell","points"] ["cell","points"] (aj Y50):=fsc
theorem Z59:ao ["cell","gap","low"] ["cell"] (aj Y58):=fsc
theorem Z58:ao ["cell","outs"] ["cell","outs"] (aj Y57):=fsc
theorem Z66:ao ["cell","words"] ["cell","words"] (aj Y65):=fsc
theorem Z62:ao ["cell","points","outs","bits","k","size","mixed"] ["cell","points","outs"] (aj Y61):=fsc
theorem Z64:ao ["points","bits","told","k"] ["points","bits"] (aj Y63):=fsc
theorem Z65:ao ["script","points","outs","rows","domains","names","cell","made","row","way"] ["script","points","outs","rows"] (aj Y64):=fsc
theorem Z60:ao ["points","told","row","longer","at","k"] ["points"] (aj Y59):=fsc
theorem Z49:ao ["points","at"] ["points","at"] (aj Y48):=fsc
theorem Z53:ao ["rows","at","told","k","good","j"] ["rows","at"] (aj Y52):=fsc
theorem Z52:ao ["codes","way","outs"] ["codes","way","outs"] (aj Y51):=fsc
theorem Z67:ao ["found"] ["found"] (aj Y66):=fsc
theorem Z55:ao ["box","points","k"] ["box","points"] (aj Y54):=fsc
theorem Z57:ao ["one","other","k"] ["one","other"] (aj Y56):=fsc
theorem Z63:ao ["box","count","pair"] ["box"] (aj Y62):=fsc
theorem Z56:ao ["told","tiles","due","points","left","k","box","j"] ["told","tiles","due","points"] (aj Y55):=fsc
theorem Z17:ao ["self","name","names","domains","outcome","way","rows","cells","code"] ["self","name","names","domains","outcome","way","rows"] (aj Y17):=fsc
theorem Z4:ao ["self"] ["self"] (aj Y4):=fsc
theorem Z18:ao ["self","called"] ["self","called"] (aj Y18):=fsc
theorem Z13:ao ["self"] ["self"] (aj Y13):=fsc
theorem Z22:ao ["self","called"] ["self","called"] (aj Y22):=fsc
theorem Z8:ao ["self"] ["self"] (aj Y8):=fsc
theorem Z20:ao ["self","called"] ["self","called"] (aj Y20):=fsc
theorem Z10:ao ["self"] ["self"] (aj Y10):=fsc
theorem Z21:ao ["self","called"] ["self","called"] (aj Y21):=fsc
theorem Z6:ao ["self"] ["self"] (aj Y6):=fsc
theorem Z19:ao ["self","called"] ["self","called"] (aj Y19):=fsc
theorem Z15:ao ["self"] ["self"] (aj Y15):=fsc
theorem Z23:ao ["self","called"] ["self","called"] (aj Y23):=fsc
theorem Z2:ao ["self","value"] ["self","value"] (aj Y2):=fsc
theorem Z3:ao ["self","value"] ["self","value"] (aj Y3):=fsc
theorem Z12:ao ["self","low","high"] ["self","low","high"] (aj Y12):=fsc
theorem Z0:ao ["self","low","high"] ["self","low","high"] (aj Y0):=fsc
theorem Z30:ao ["self","words","word"] ["self","words"] (aj Y30):=fsc
theorem Z1:ao ["self","low","high"] ["self","low","high"] (aj Y1):=fsc
theorem Z24:ao ["self","codes","outcome"] ["self","codes","outcome"] (aj Y24):=fsc
theorem Z5:ao ["self","codes","outcome"] ["self","codes","outcome"] (aj Y5):=fsc
theorem Z28:ao ["self","codes","outcome"] ["self","codes","outcome"] (aj Y28):=fsc
theorem Z14:ao ["self","codes","outcome"] ["self","codes","outcome"] (aj Y14):=fsc
theorem Z26:ao ["self","codes","outcome"] ["self","codes","outcome"] (aj Y26):=fsc
theorem Z9:ao ["self","codes","outcome"] ["self","codes","outcome"] (aj Y9):=fsc
theorem Z27:ao ["self","codes","outcome"] ["self","codes","outcome"] (aj Y27):=fsc
theorem Z11:ao ["self","codes","outcome"] ["self","codes","outcome"] (aj Y11):=fsc
theorem Z25:ao ["self","codes","outcome"] ["self","codes","outcome"] (aj Y25):=fsc
theorem Z7:ao ["self","codes","outcome"] ["self","codes","outcome"] (aj Y7):=fsc
theorem Z29:ao ["self","codes","outcome"] ["self","codes","outcome"] (aj Y29):=fsc
theorem Z16:ao ["self","codes","outcome"] ["self","codes","outcome"] (aj Y16):=fsc
theorem Z48:ao ["script","points","outs","rows","table","due","tiles","at","fit","found","one","kept"] ["script"] (aj Y47):=fsc
structure AD where (a b c d e f g h i j k l m:Addr)
structure Bk(K:W.Frag)(Y:AD):Prop where
 n_Way:W.nsIn K mainGlobals "Way" = some (some (.ref Y.a))
 n_First:W.nsIn K mainGlobals "First" = some (some (.ref Y.b))
 n_Only:W.nsIn K mainGlobals "Only" = some (some (.ref Y.c))
 n_Like:W.nsIn K mainGlobals "Like" = some (some (.ref Y.d))
 n_Low:W.nsIn K mainGlobals "Low" = some (some (.ref Y.e))
 n_High:W.nsIn K mainGlobals "High" = some (some (.ref Y.f))
 n_Sum:W.nsIn K mainGlobals "Sum" = some (some (.ref Y.g))
 n_Domain:W.nsIn K mainGlobals "Domain" = some (some (.ref Y.h))
 n_Numbers:W.nsIn K mainGlobals "Numbers" = some (some (.ref Y.i))
 n_Words:W.nsIn K mainGlobals "Words" = some (some (.ref Y.j))
 n_Table:W.nsIn K mainGlobals "Table" = some (some (.ref Y.k))
 n_NONE:W.nsIn K mainGlobals "NONE" = some (some (.ref Y.l))
 n_CLASH:W.nsIn K mainGlobals "CLASH" = some (some (.ref Y.m))
 k_First:Cls K Y.b
 k_Only:Cls K Y.c
 k_Like:Cls K Y.d
 k_Low:Cls K Y.e
 k_High:Cls K Y.f
 k_Sum:Cls K Y.g
 k_Numbers:Cls K Y.i
 k_Words:Cls K Y.j
 k_Table:Cls K Y.k
 t_First:lB K Y.b
 t_Only:lB K Y.c
 t_Like:lB K Y.d
 t_Low:lB K Y.e
 t_High:lB K Y.f
 t_Sum:lB K Y.g
 t_Numbers:lB K Y.i
 t_Words:lB K Y.j
 t_Table:lB K Y.k
 q_NONE:ModT K Y.l [.str "none",.int (0)]
 q_CLASH:ModT K Y.m [.str "clash",.int (0)]
 na_First_called:NoAttr K Y.b "called"
 na_Only_called:NoAttr K Y.c "called"
 na_Like_called:NoAttr K Y.d "called"
 na_Low_called:NoAttr K Y.e "called"
 na_High_called:NoAttr K Y.f "called"
 na_Sum_called:NoAttr K Y.g "called"
 na_Numbers_low:NoAttr K Y.i "low"
 na_Numbers_high:NoAttr K Y.i "high"
 na_Words_low:NoAttr K Y.j "low"
 na_Words_high:NoAttr K Y.j "high"
 na_Words_words:NoAttr K Y.j "words"
 na_Table_name:NoAttr K Y.k "name"
 na_Table_names:NoAttr K Y.k "names"
 na_Table_domains:NoAttr K Y.k "domains"
 na_Table_outcome:NoAttr K Y.k "outcome"
 na_Table_way:NoAttr K Y.k "way"
 na_Table_rows:NoAttr K Y.k "rows"
 f_nw:W.kitOne K (.ref Y.i) (.ref Y.j)=some false
 f_tt:W.kitOne K (.ref Y.k) (.ref Y.k)=some true
 nt0:∀z z',W.tabIn K "row_form" = some z->W.tabIn K "clashes" = some z'->z.2≠z'.2
structure Bl(K:W.Frag)(mg:Str->Option Value)(Y:AD):Prop extends Bk K Y where
 Way_:mg "Way" = some (.ref Y.a)
 First_:mg "First" = some (.ref Y.b)
 Only_:mg "Only" = some (.ref Y.c)
 Like_:mg "Like" = some (.ref Y.d)
 Low_:mg "Low" = some (.ref Y.e)
 High_:mg "High" = some (.ref Y.f)
 Sum_:mg "Sum" = some (.ref Y.g)
 Domain_:mg "Domain" = some (.ref Y.h)
 Numbers_:mg "Numbers" = some (.ref Y.i)
 Words_:mg "Words" = some (.ref Y.j)
 Table_:mg "Table" = some (.ref Y.k)
 NONE_:mg "NONE" = some (.ref Y.l)
 CLASH_:mg "CLASH" = some (.ref Y.m)
 len_:mg "len" = none
 isinstance_:mg "isinstance" = none
 int_:mg "int" = none
 bool_:mg "bool" = none
 sorted_:mg "sorted" = none
 list_:mg "list" = none
 set_:mg "set" = none
 zip_:mg "zip" = none
 tuple_:mg "tuple" = none
 sum_:mg "sum" = none
 range_:mg "range" = none
 enumerate_:mg "enumerate" = none
 min_:mg "min" = none
 max_:mg "max" = none
 MOST_SIGNS_:∃u,mg "MOST_SIGNS" = some u/\RelV (V.int 12) u
 SMALL_LETTERS_:∃u,mg "SMALL_LETTERS" = some u/\RelV (V.str "abcdefghijklmnopqrstuvwxyz") u
 MOST_GRAIN_:∃u,mg "MOST_GRAIN" = some u/\RelV (V.int 300) u
 MOST_ROWS_:∃u,mg "MOST_ROWS" = some u/\RelV (V.int 200) u
 MOST_COLUMNS_:∃u,mg "MOST_COLUMNS" = some u/\RelV (V.int 4) u
 NOTHING_:∃u,mg "NOTHING" = some u/\RelV (V.int 0) u
 MOST_WORDS_:∃u,mg "MOST_WORDS" = some u/\RelV (V.int 40) u
theorem rD{ns:List Int}{i:Nat}{x:V}(e:(ns.map V.int)[i]?=some x):∃c,x=.int c:=by
 rw[getElem?_map]at e;cases q:ns[i]? with
 |none=>rw[q]at e;cases e
 |some c=>rw[q]at e;cases e;exact⟨c,U⟩
theorem vR(ns:List Int)(k:Nat)(hi:Option Int):∃ms:List Int,oj (ns.map V.int) (some (k:Int)) hi=ms.map V.int/\ms.length<=ns.length-k:=by
 unfold oj;have e:HT.sIx (ns.map V.int).length 0 (some (k:Int))=min k ns.length:=by
  simp only[HT.sIx,length_map];split <;> lia
 refine⟨(ns.drop (HT.sIx (ns.map V.int).length 0 (some (k:Int)))).take (HT.sIx (ns.map V.int).length (ns.map V.int).length hi-HT.sIx (ns.map V.int).length 0 (some (k:Int))),?_,?_⟩
 ·rw[List.map_take,List.map_drop]
 ·rw[length_take,length_drop,e];lia
theorem p10(n:Nat):(0:Int)<10^n:=pow_pos (by decide)
theorem CO{n:Int}{p:Int×Int}(c:decide (p.1<=n)=true)(d:decide (n<=p.2)=true):inR n p=true:=by unfold inR;rw[c,d];rfl
theorem A4{n:Int}{p:Int×Int}(c:¬ decide (p.1<=n)=true):inR n p=false:=by unfold inR;rw[eq_false_iff.mpr c];rfl
theorem A5{n:Int}{p:Int×Int}(d:¬ decide (n<=p.2)=true):inR n p=false:=by unfold inR;rw[eq_false_iff.mpr d,Bool.and_false]
theorem mL{xs:List V}{i:Nat}{x:V}(e:xs[i]?=some x):atI xs (0+(i:Int))=some x:=by
 rw[zero_add];exact aZ e
theorem z0(a b:Int):atI [V.int a,V.int b] 0=some (V.int a):=rfl
theorem z1(a b:Int):atI [V.int a,V.int b] 1=some (V.int b):=rfl
theorem cz{H:Hp}{r:Addr}{o:HO}{b:Addr}{u:HO}(h:H r=some u)(n:H b=none):upd H b o r=some u:=by rw[aw (bj h n)];exact h
theorem gq{n:Nat}(h:0<n):ixN n (-1)=some (n-1):=by
 unfold ixN;rw[if_neg (by decide),if_pos (by lia)]
 congr 1
 lia
theorem pT{α:Type}(l:List α)(x y:α):(l++[x]).set ((l++[x]).length-1) y=l++[y]:=by
 have e:(l++[x]).length-1=l.length:=by simp
 rw[e,List.set_append_right _ _ (le_refl _),sub_self];rfl
theorem take_snoc{α:Type}{l:List α}{i:Nat}{x:α}(e:l[i]?=some x):l.take (i+1)=l.take i++[x]:=by rw[take_add_one,e];rfl
theorem get_map{ns:List Int}{i:Nat}{c:Int}(e:ns[i]?=some c):(ns.map V.int)[i]?=some (.int c):=by rw[getElem?_map,e];rfl
theorem of_map{ns:List Int}{i:Nat}{x:V}(e:(ns.map V.int)[i]?=some x):∃c,x=.int c/\ns[i]?=some c:=by
 rw[getElem?_map]at e;cases q:ns[i]? with
 |none=>rw[q]at e;cases e
 |some c=>rw[q]at e;cases e;exact⟨c,U,U⟩
def lets:Str := "abcdefghijklmnopqrstuvwxyz"
def isw(z:Str):Bool:=decide ((1:Int)<=((z.length:Nat):Int)) && (decide (((z.length:Nat):Int)<=12) && (!decide (V.str z=V.str "not") && kY z lets))
theorem zH{l:List Nat}{i:Nat}{c:Nat}{p:Nat->Bool}(e:l[i]?=some c)(h:p c=false):l.all p=false:=by
 cases q:l.all p with
 |false=>rfl
 |true=>rw[all_eq_true.mp q c (Fp e)]at h;cases h
theorem all_succ{l:List Nat}{i:Nat}{c:Nat}{p:Nat->Bool}(e:l[i]?=some c)(h:p c=true)(ha:(l.take i).all p=true):(l.take (i+1)).all p=true:=by
 rw[take_snoc e,List.all_append,ha];simp[h]
theorem vS{z g:Str}(h:(z.cps.toList.take z.cps.size).all (sg g)=true):kY z g=true:=by
 have e:z.cps.toList.take z.cps.size=z.cps.toList:=by rw[←length_toList];exact take_length
 rw[e]at h;exact h
theorem zI{g:Str}{c:Nat}(h:(!(!(Builtin.Str.occurrences g ⟨#[c]⟩ 0 g.length 1).isEmpty))=true):sg g c=false:=by unfold sg;simpa using h
theorem A6{g:Str}{c:Nat}(h:¬ (!(!(Builtin.Str.occurrences g ⟨#[c]⟩ 0 g.length 1).isEmpty))=true):sg g c=true:=by unfold sg;simpa using h
theorem big{n:Nat}(h:n<=1000):n<=sizeLine:=le_of_lt (ay h)
def mkd(C:Addr)(H:Hp)(x dx:Addr)(lo hi:Int):Hp:=upd (upd H x (.ins C dx [("low",.int lo)])) x (.ins C dx [("low",.int lo),("high",.int hi)])
theorem put2(v u:V):bq (Str.ofString "high") u [(Str.ofString "low",v)]=[(Str.ofString "low",v),(Str.ofString "high",u)]:=by
 unfold bq bq;rw[if_neg (by decide)]
theorem put3(v u t:V):bq (Str.ofString "words") t [(Str.ofString "low",v),(Str.ofString "high",u)]=[(Str.ofString "low",v),(Str.ofString "high",u),(Str.ofString "words",t)]:=by
 unfold bq bq bq;rw[if_neg (by decide),if_neg (by decide)]
def hiW(zs:List Str):Int:=((zs.length:Nat):Int)-1
structure Good(zs:List Str):Prop where
 some_:1<=zs.length
 few:zs.length<=40
 words:∀z∈zs,isw z=true
 once:zs.Nodup
theorem pU{zs:List Str}{i:Nat}{x:V}(e:(zs.map V.str)[i]?=some x):∃z,x=.str z/\zs[i]?=some z:=by
 rw[getElem?_map]at e;cases q:zs[i]? with
 |none=>rw[q]at e;cases e
 |some z=>rw[q]at e;cases e;exact⟨z,U,U⟩
def six:List Str:=[Str.ofString "first",Str.ofString "only",Str.ofString "like",Str.ofString "low",Str.ofString "high",Str.ofString "sum"]
theorem xG{i j:Nat}{z:Str}(h:six[i]?=some z)(k:six[j]?=some z):i=j:=jr (show six.Nodup by decide+kernel) h k
def WyN(C:Addr)(H:Hp)(x:Addr)(z:Str):Prop:=∃dx,H x=some (.ins C dx [("called",.str z)])
theorem WyN.same{C:Addr}{H H':Hp}{x:Addr}{z:Str}(h:WyN C H x z)(s:ar H H'):WyN C H' x z:=by obtain⟨dx,e⟩:=h;exact⟨dx,s _ _ e⟩
def ug(C:Addr)(z:Str):Sp:=λvs H Q _=>∃(x dx:Addr),vs=[.ref x]/\H x=some (.ins C dx [])/\Q .non (upd H x (.ins C dx [("called",.str z)]))
theorem bu:2<=sizeLine:=by decide
def cl6(a b c d e f:Addr):List Addr:=[a,b,c,d,e,f]
def zJ(C:Addr)(H:Hp)(a:Addr)(lo hi:Int):Prop:=∃dx fs,H a=some (.ins C dx fs)/\fs.lookup (Str.ofString "low")=some (.int lo)/\fs.lookup (Str.ofString "high")=some (.int hi)/\fs.lookup (Str.ofString "has_code")=none
def Dom(cN cW:Addr)(H:Hp)(a:Addr)(b:Int×Int):Prop:=∃C,(C=cN\/C=cW)/\zJ C H a b.1 b.2
theorem Dom.same{cN cW:Addr}{H H':Hp}{a:Addr}{b:Int×Int}(h:Dom cN cW H a b)(s:ar H H'):Dom cN cW H' a b:=by obtain⟨C,hC,dx,fs,e,r⟩:=h;exact⟨C,hC,dx,fs,s _ _ e,r⟩
theorem Dom.upd{cN cW:Addr}{H:Hp}{a D:Addr}{b:Int×Int}{o:HO}{zs:List V}(h:Dom cN cW H a b)(e:H D=some (.lst zs)):Dom cN cW (upd H D o) a b:=by
 obtain⟨C,hC,dx,fs,f,r⟩:=h;exact⟨C,hC,dx,fs,(aw (dA f e (by intro z;cases z))).trans f,r⟩
def aI{α:Type}(xs:List V)(as:List α)(P:Addr->α->Prop):Prop:=xs.length=as.length/\∀(j:Nat)(a:α),as[j]?=some a->∃r,xs[j]?=some (.ref r)/\P r a
theorem aI.mono{α:Type}{xs:List V}{as:List α}{P Q:Addr->α->Prop}(h:aI xs as P)(k:∀r a,P r a->Q r a):aI xs as Q:=⟨h.1,λj a e=>let ⟨r,e1,p⟩:=h.2 j a e;⟨r,e1,k r a p⟩⟩
theorem aI.nil{α:Type}{P:Addr->α->Prop}:aI [] [] P:=⟨U,(λj a e=>by simp at e)⟩
theorem aI.snoc{α:Type}{xs:List V}{as:List α}{P:Addr->α->Prop}{r:Addr}{a:α}(h:aI xs as P)(p:P r a):aI (xs++[.ref r]) (as++[a]) P:=by
 refine⟨by simp[h.1],λj b e=>?_⟩;by_cases hj:j<as.length
 ·rw[getElem?_append_left hj]at e;obtain⟨r',e1,q⟩:=h.2 j b e;exact⟨r',by rw[getElem?_append_left (by rw[h.1];exact hj)];exact e1,q⟩
 ·have hj2:j=as.length:=by
   have:=(Fo.mp e).1;simp at this;lia
  subst hj2;simp at e;subst e;exact⟨r,by rw[←h.1];simp,p⟩
theorem aI.get{α:Type}{xs:List V}{as:List α}{P:Addr->α->Prop}(h:aI xs as P){j:Nat}{x:V}(e:xs[j]?=some x):∃r a,x=.ref r/\as[j]?=some a/\P r a:=by
 have hj:=(Fo.mp e).1;have ea:=Fn (l:=as) (i:=j) (by rw[←h.1];exact hj);obtain⟨r,e1,p⟩:=h.2 j _ ea;rw[e]at e1;cases e1;exact⟨r,_,U,ea,p⟩
abbrev Prs:=List (Int×Int)
def SpA(N:Addr->Prop)(H:Hp)(l:Addr)(ps:Prs):Prop:=N l/\∃ys,H l=some (.lst ys)/\PL H ys ps
def CL(N:Addr->Prop)(H:Hp)(xs:List V)(pss:List Prs):Prop:=aI xs pss (SpA N H)
abbrev Rw:=List Prs×Int
def iO(N:Addr->Prop)(H:Hp)(r:Addr)(rw_:Rw):Prop:=∃ce cs,H r=some (.tup [.ref ce,.int rw_.2])/\N ce/\H ce=some (.lst cs)/\CL N H cs rw_.1
def RL(N:Addr->Prop)(H:Hp)(xs:List V)(rws:List Rw):Prop:=aI xs rws (iO N H)
theorem SpA.same{N:Addr->Prop}{H H':Hp}{l:Addr}{ps:Prs}(h:SpA N H l ps)(s:ar H H'):SpA N H' l ps:=by obtain⟨n,ys,e,p⟩:=h;exact⟨n,ys,s _ _ e,p.mono s.tups⟩
theorem CL.same{N:Addr->Prop}{H H':Hp}{xs:List V}{pss:List Prs}(h:CL N H xs pss)(s:ar H H'):CL N H' xs pss:=aI.mono h λ_ _ p=>p.same s
theorem iO.same{N:Addr->Prop}{H H':Hp}{r:Addr}{w:Rw}(h:iO N H r w)(s:ar H H'):iO N H' r w:=by obtain⟨ce,cs,e,n,f,c⟩:=h;exact⟨ce,cs,s _ _ e,n,s _ _ f,c.same s⟩
theorem RL.same{N:Addr->Prop}{H H':Hp}{xs:List V}{rws:List Rw}(h:RL N H xs rws)(s:ar H H'):RL N H' xs rws:=aI.mono h λ_ _ p=>p.same s
abbrev NT:Addr->Prop:=λ_=>True
theorem SpA.any{N:Addr->Prop}{H:Hp}{l:Addr}{ps:Prs}(h:SpA N H l ps):SpA NT H l ps:=⟨trivial,h.2⟩
theorem CL.any{N:Addr->Prop}{H:Hp}{xs:List V}{pss:List Prs}(h:CL N H xs pss):CL NT H xs pss:=aI.mono h λ_ _ p=>p.any
theorem iO.any{N:Addr->Prop}{H:Hp}{r:Addr}{w:Rw}(h:iO N H r w):iO NT H r w:=by obtain⟨ce,cs,e,_,f,c⟩:=h;exact⟨ce,cs,e,trivial,f,c.any⟩
theorem RL.any{N:Addr->Prop}{H:Hp}{xs:List V}{rws:List Rw}(h:RL N H xs rws):RL NT H xs rws:=aI.mono h λ_ _ p=>p.any
theorem SpA.wk{N N':Addr->Prop}{H:Hp}{l:Addr}{ps:Prs}(h:SpA N H l ps)(k:∀a,N a->N' a):SpA N' H l ps:=⟨k _ h.1,h.2⟩
theorem CL.wk{N N':Addr->Prop}{H:Hp}{xs:List V}{pss:List Prs}(h:CL N H xs pss)(k:∀a,N a->N' a):CL N' H xs pss:=aI.mono h λ_ _ p=>p.wk k
theorem iO.wk{N N':Addr->Prop}{H:Hp}{r:Addr}{w:Rw}(h:iO N H r w)(k:∀a,N a->N' a):iO N' H r w:=by obtain⟨ce,cs,e,n,f,c⟩:=h;exact⟨ce,cs,e,k _ n,f,c.wk k⟩
theorem SpA.updN{N:Addr->Prop}{D:Addr}{H:Hp}{l:Addr}{ps:Prs}{zs:List V}{o:HO}(h:SpA N H l ps)(n:¬ N D)(e:H D=some (.lst zs)):SpA N (upd H D o) l ps:=by
 obtain⟨m,ys,f,p⟩:=h;exact⟨m,ys,(aw (λz=>n (by rw[←z];exact m))).trans f,p.mono (aO e)⟩
theorem CL.updN{N:Addr->Prop}{D:Addr}{H:Hp}{xs:List V}{pss:List Prs}{zs:List V}{o:HO}(h:CL N H xs pss)(n:¬ N D)(e:H D=some (.lst zs)):CL N (upd H D o) xs pss:=aI.mono h λ_ _ p=>p.updN n e
theorem iO.updN{N:Addr->Prop}{D:Addr}{H:Hp}{r:Addr}{w:Rw}{zs:List V}{o:HO}(h:iO N H r w)(n:¬ N D)(e:H D=some (.lst zs)):iO N (upd H D o) r w:=by
 obtain⟨ce,cs,f,m,g,c⟩:=h;exact⟨ce,cs,(aw (dA f e (by intro z;cases z))).trans f,m,(aw (λz=>n (by rw[←z];exact m))).trans g,c.updN n e⟩
theorem RL.updN{N:Addr->Prop}{D:Addr}{H:Hp}{xs:List V}{rws:List Rw}{zs:List V}{o:HO}(h:RL N H xs rws)(n:¬ N D)(e:H D=some (.lst zs)):RL N (upd H D o) xs rws:=aI.mono h λ_ _ p=>p.updN n e
def Fr(H:Hp)(D:Addr):Addr->Prop:=λa=>H a=none/\a≠D
theorem Fr.out{H:Hp}{D:Addr}:¬ Fr H D D:=λh=>h.2 U
structure ES(b:Int×Int)(zs:List Str):Prop where
 le:b.1<=b.2
 ws:zs≠[]->Good zs/\b=(0,hiW zs)
structure nK(bs:Prs)(o:Int×Int)(w:Rw):Prop where
 len:w.1.length=bs.length
 inn:∀(j:Nat)(ps:Prs)(b:Int×Int),w.1[j]?=some ps->bs[j]?=some b->∀p∈ps,b.1<=p.1/\p.2<=b.2
 lo:o.1<=w.2
 hi:w.2<=o.2
def mM(pss:List Prs)(cs:List Int):Bool:=(List.range cs.length).all λj=>inP (pss.getD j []) (cs.getD j 0)
theorem pf1(v0 v1:V):bq (Str.ofString "names") v1 [(Str.ofString "name",v0)]=[(Str.ofString "name",v0),(Str.ofString "names",v1)]:=by
 unfold bq bq;rw[if_neg (by decide)]
theorem pf2(v0 v1 v2:V):bq (Str.ofString "domains") v2 [(Str.ofString "name",v0),(Str.ofString "names",v1)]=[(Str.ofString "name",v0),(Str.ofString "names",v1),(Str.ofString "domains",v2)]:=by
 unfold bq bq bq;rw[if_neg (by decide),if_neg (by decide)]
theorem pf3(v0 v1 v2 v3:V):bq (Str.ofString "outcome") v3 [(Str.ofString "name",v0),(Str.ofString "names",v1),(Str.ofString "domains",v2)]=[(Str.ofString "name",v0),(Str.ofString "names",v1),(Str.ofString "domains",v2),(Str.ofString "outcome",v3)]:=by
 unfold bq bq bq bq;rw[if_neg (by decide),if_neg (by decide),if_neg (by decide)]
theorem pf4(v0 v1 v2 v3 v4:V):bq (Str.ofString "way") v4 [(Str.ofString "name",v0),(Str.ofString "names",v1),(Str.ofString "domains",v2),(Str.ofString "outcome",v3)]=[(Str.ofString "name",v0),(Str.ofString "names",v1),(Str.ofString "domains",v2),(Str.ofString "outcome",v3),(Str.ofString "way",v4)]:=by
 unfold bq bq bq bq bq;rw[if_neg (by decide),if_neg (by decide),if_neg (by decide),if_neg (by decide)]
theorem pf5(v0 v1 v2 v3 v4 v5:V):bq (Str.ofString "rows") v5 [(Str.ofString "name",v0),(Str.ofString "names",v1),(Str.ofString "domains",v2),(Str.ofString "outcome",v3),(Str.ofString "way",v4)]=[(Str.ofString "name",v0),(Str.ofString "names",v1),(Str.ofString "domains",v2),(Str.ofString "outcome",v3),(Str.ofString "way",v4),(Str.ofString "rows",v5)]:=by
 unfold bq bq bq bq bq bq;rw[if_neg (by decide),if_neg (by decide),if_neg (by decide),if_neg (by decide),if_neg (by decide)]
def hide(H:Hp)(x:Addr):Hp:=λb=>if b=x then none else H b
theorem dM{H:Hp}{x b:Addr}{o:HO}(e:H b=some o)(n:b≠x):hide H x b=some o:=by unfold hide;rw[if_neg n];exact e
theorem hide_same{H H':Hp}{x:Addr}(k:∀b o,b≠x->H b=some o->H' b=some o):ar (hide H x) H':=λb o e=>by
 unfold hide at e;by_cases h:b=x
 ·rw[if_pos h]at e;cases e
 ·rw[if_neg h]at e;exact k b o h e
theorem PL.hide{H:Hp}{x C dx:Addr}{fs:List (Str×V)}(hx:H x=some (.ins C dx fs)){ys:List V}{ps:Prs}(h:PL H ys ps):PL (hide H x) ys ps :=
 h.mono λb xs e=>dM e (dA e hx (by intro z;cases z))
theorem RL.hide{H:Hp}{x C dx:Addr}{fs:List (Str×V)}(hx:H x=some (.ins C dx fs)){xs:List V}{rws:List Rw}(h:RL NT H xs rws):RL NT (My.hide H x) xs rws :=
 aI.mono h λr w ⟨ce,cs,e,_,f,c⟩=>⟨ce,cs,dM e (dA e hx (by intro z;cases z)),trivial,dM f (dA f hx (by intro z;cases z)),aI.mono c λl ps ⟨_,ys,g,p⟩=>⟨trivial,ys,dM g (dA g hx (by intro z;cases z)),PL.hide hx p⟩⟩
def wcs(c k:Int):List Nat:=List.replicate (c / 26%6).toNat (97+(c%26).toNat)++([97+(k / 7%7).toNat,97+(k%7).toNat]++List.replicate (k%5).toNat (97+(c / 156%26).toNat))
def wd(c k:Int):Str:=⟨(wcs c k).toArray⟩
theorem zK{c:Nat}(h:97<=c/\c<=122):sg lets c=true:=by
 have:∀d:Nat,d<26->sg lets (97+d)=true:=by decide+kernel
 have z:=this (c-97) (by lia);rw[show 97+(c-97)=c by lia]at z;exact z
theorem xH{s:Str}{n:Nat}(h:s.cps.toList=(List.range n).map (97 + ·)){k:Int}(h0:0<=k)(h1:k<n):atI s.cps.toList k=some (97+k.toNat):=by
 have hk:k.toNat<n:=by lia
 have z:s.cps.toList[k.toNat]?=some (97+k.toNat):=by rw[h,getElem?_map,List.getElem?_range hk];rfl
 have q:=aZ z;rw[show((k.toNat:Nat):Int)=k by lia]at q;exact q
abbrev SI:=Str×Int
def tp(p:SI):List V:=[.str p.1,.int p.2]
def say(i:Int):SI:=(Str.ofString "say",i)
def sP:SI:=(Str.ofString "clash",0)
def CP:SI:=(Str.ofString "none",0)
def least(ns:List Int):Int:=ns.foldl (λm c=>if c<m then c else m) (ns.headD 0)
def great(ns:List Int):Int:=ns.foldl (λm c=>if c>m then c else m) (ns.headD 0)
theorem fold_min(ns:List Int):∀m:Int,(ns.foldl (λm c=>if c<m then c else m) m=m\/ns.foldl (λm c=>if c<m then c else m) m∈ns)/\ns.foldl (λm c=>if c<m then c else m) m<=m/\∀x∈ns,ns.foldl (λm c=>if c<m then c else m) m<=x:=by
 induction ns with
 |nil=>intro m;exact⟨.inl U,Int.le_refl _,λx h=>by cases h⟩
 |cons n ns ih =>
  intro m;obtain⟨h1,h2,h3⟩:=ih (if n<m then n else m);rw[foldl_cons];refine⟨?_,?_,λx hx=>?_⟩
  ·rcases h1 with h1|h1
   ·rw[h1];split
    ·exact .inr mem_cons_self
    ·exact .inl U
   ·exact .inr (mem_cons_of_mem _ h1)
  ·split at h2 <;> split <;> lia
  ·rcases mem_cons.mp hx with rfl|hx
   ·split at h2 <;> split <;> lia
   ·exact h3 x hx
theorem fold_max(ns:List Int):∀m:Int,(ns.foldl (λm c=>if c>m then c else m) m=m\/ns.foldl (λm c=>if c>m then c else m) m∈ns)/\m<=ns.foldl (λm c=>if c>m then c else m) m/\∀x∈ns,x<=ns.foldl (λm c=>if c>m then c else m) m:=by
 induction ns with
 |nil=>intro m;exact⟨.inl U,Int.le_refl _,λx h=>by cases h⟩
 |cons n ns ih =>
  intro m;obtain⟨h1,h2,h3⟩:=ih (if n>m then n else m);rw[foldl_cons];refine⟨?_,?_,λx hx=>?_⟩
  ·rcases h1 with h1|h1
   ·rw[h1];split
    ·exact .inr mem_cons_self
    ·exact .inl U
   ·exact .inr (mem_cons_of_mem _ h1)
  ·split at h2 <;> split <;> lia
  ·rcases mem_cons.mp hx with rfl|hx
   ·split at h2 <;> split <;> lia
   ·exact h3 x hx
theorem dS{n:Int}{ns:List Int}:least (n :: ns)∈n :: ns/\∀x∈n :: ns,least (n :: ns)<=x:=by
 obtain⟨h1,h2,h3⟩:=fold_min (n :: ns) n;refine⟨?_,h3⟩;rcases h1 with h1|h1
 ·show(n :: ns).foldl _ n∈_;rw[h1];exact mem_cons_self
 ·exact h1
theorem fj{n:Int}{ns:List Int}:great (n :: ns)∈n :: ns/\∀x∈n :: ns,x<=great (n :: ns):=by
 obtain⟨h1,h2,h3⟩:=fold_max (n :: ns) n;refine⟨?_,h3⟩;rcases h1 with h1|h1
 ·show(n :: ns).foldl _ n∈_;rw[h1];exact mem_cons_self
 ·exact h1
theorem lK{n m:Int}{ns:List Int}(h1:m∈n :: ns)(h2:∀b∈n :: ns,m<=b):m=least (n :: ns):=by
 have a:=h2 _ dS.1;have b:=dS.2 _ h1;lia
theorem lL{n m:Int}{ns:List Int}(h1:m∈n :: ns)(h2:∀b∈n :: ns,b<=m):m=great (n :: ns):=by
 have a:=h2 _ fj.1;have b:=fj.2 _ h1;lia
def CQ(ns:List Int):SI:=say (least ns)
def A7(ns:List Int):SI:=say (great ns)
def fX(ns:List Int):SI:=if least ns=great ns then say (least ns)else sP
theorem nL{n:Int}{ns:List Int}:(∀x∈ns,x=n)↔least (n :: ns)=great (n :: ns):=by
 constructor
 ·intro h;have e:∀x∈n :: ns,x=n:=λx hx=>by
   rcases mem_cons.mp hx with r|hx
   ·exact r
   ·exact h x hx
  rw[e _ dS.1,e _ fj.1]
 ·intro h x hx;have a1:=dS.2 x (mem_cons_of_mem n hx);have a2:=fj.2 x (mem_cons_of_mem n hx);have a3:=dS.2 n (mem_cons_self (l:=ns));have a4:=fj.2 n (mem_cons_self (l:=ns));lia
theorem uh{n:Int}{ns:List Int}(h:∀x∈ns,x=n):least (n :: ns)=n:=by
 have e:∀x∈n :: ns,x=n:=λx hx=>by
  rcases mem_cons.mp hx with r|hx
  ·exact r
  ·exact h x hx
 exact e _ dS.1
def ver(f:List Int->SI):List Int->SI
 | []=>CP
 |n :: ns=>f (n :: ns)
def Wy(C:Addr)(H:Hp)(x:Addr):Prop:=∃dx z,H x=some (.ins C dx [("called",.str z)])
def vT(ns:List Int):SI:=say (ns.headD 0)
def fY(ns:List Int):SI:=if ns.length=1 then say (ns.headD 0)else sP
def near(lo hi n:Int):Int:=if n<lo then lo else if n>hi then hi else n
def wf:Nat->Int->Int->List Int->SI
 |0,_,_=>vT
 |1,_,_=>fY
 |2,_,_=>fX
 |3,_,_=>CQ
 |4,_,_=>A7
 |_,lo,hi=>λns=>say (near lo hi ns.sum)
theorem at0(n:Int)(ns:List Int):atI ((n :: ns).map V.int) 0=some (.int n):=aZ (j:=0) U
def ui(K:W.Frag)(C cN cW:Addr)(i:Nat):Sp:=λvs H Q _=>∃(x c o:Addr)(n:Int)(ns:List Int)(b:Int×Int),vs=[.ref x,.ref c,.ref o]/\Wy C H x/\Dom cN cW H o b/\b.1<=b.2/\SqL K H c ((n :: ns).map V.int)/\ns.length<900/\∀(r:Addr)(H':Hp),ar H H'->SqT K H' r (tp (wf i b.1 b.2 (n :: ns)))->Q (.ref r) H'
def jB(K:W.Frag)(C cN cW:Addr)(i:Nat):Sp:=λvs H Q _=>∃(x c o:Addr)(ns:List Int)(b:Int×Int),vs=[.ref x,.ref c,.ref o]/\Wy C H x/\Dom cN cW H o b/\b.1<=b.2/\SqL K H c (ns.map V.int)/\ns.length<900/\∀(r:Addr)(H':Hp),ar H H'->SqT K H' r (tp (ver (wf i b.1 b.2) ns))->Q (.ref r) H'
def msk(f:Nat->Bool):Nat->Nat
 |0=>0
 |n+1=>(if f n then 2^n else 0)+msk f n
theorem fk(f:Nat->Bool)(n:Nat):msk f (n+1)=(if f n then 2^n else 0)+msk f n:=rfl
theorem rE(f:Nat->Bool):∀n,msk f n<2^n
 |0=>Nat.one_pos
 |n+1=>by
  have:=rE f n;unfold msk;rw[pow_succ];split <;> lia
theorem sQ(f:Nat->Bool)(k:Nat):∀n,(msk f n).testBit k=(decide (k<n) && f k)
 |0=>by simp[msk]
 |n+1=>by
  have ih:=sQ f k n;have lt:=rE f n;unfold msk;rcases Nat.lt_trichotomy k n with h|h|h
  ·split
   ·rw[Nat.testBit_two_pow_add_gt h,ih];simp[h,lt_succ_of_lt h]
   ·rw[Nat.zero_add,ih];simp[h,lt_succ_of_lt h]
  ·subst h;split
   ·rename_i hf
    rw[Nat.testBit_two_pow_add_eq,Nat.testBit_lt_two_pow lt];simp[hf]
   ·rename_i hf
    rw[Nat.zero_add,Nat.testBit_lt_two_pow lt];simp[hf]
  ·have lt2:(if f n=true then 2^n else 0)+msk f n<2^k:=lt_of_lt_of_le (rE f (n+1)) (Nat.pow_le_pow_right (by decide) h);rw[Nat.testBit_lt_two_pow lt2];simp;lia
def bH(m:Int)(k:Nat):Bool:=Builtin.bitAnd (m / 2^k) 1 != 0
theorem uj(f:Nat->Bool)(n k:Nat):bH ((msk f n:Nat):Int) k=(decide (k<n) && f k):=by
 rw[←sQ];unfold bH;have e:((msk f n:Nat):Int) / 2^k=((msk f n / 2^k:Nat):Int):=by simp
 rw[e,PyProof.Rows.bitAnd_pp (Int.natCast_nonneg _) (by decide)];unfold Nat.testBit;rw[Nat.shiftRight_eq_div_pow,toNat_natCast,Nat.and_comm];show((((1:Int).toNat &&& (msk f n / 2^k):Nat):Int) != 0)=_;rw[Bool.eq_iff_iff,bne_iff_ne,bne_iff_ne];constructor
 ·intro h z;exact h (by rw[show(1:Int).toNat=1 from U,z];rfl)
 ·intro h z;exact h (by rw[show(1:Int).toNat=1 from U]at z;lia)
def pkF(rws:List Rw)(f:Nat->Bool)(n:Nat):List Int:=((List.range n).filter f).map λk=>(rws.getD k ([],0)).2
theorem vU(rws:List Rw)(f:Nat->Bool)(n:Nat):pkF rws f (n+1)=pkF rws f n++(if f n then[(rws.getD n ([],0)).2] else[]):=by
 unfold pkF;rw[range_succ,filter_append,map_append];cases h:f n with
 |true=>rw[filter_cons_of_pos h];simp
 |false=>rw[filter_cons_of_neg (by rw[h];exact Bool.false_ne_true)];simp
theorem sR(rws:List Rw)(f:Nat->Bool)(n:Nat):(pkF rws f n).length<=n:=by
 unfold pkF;rw[length_map];exact le_trans (length_filter_le ..) (by simp)
theorem xI(rws:List Rw)(f:Nat->Bool)(n:Nat):pkF rws (bH ((msk f n:Nat):Int)) n=pkF rws f n:=by
 unfold pkF
 congr 1
 apply List.filter_congr
 intro k hk;rw[uj];simp[mem_range.mp hk]
def Tbl(cT cN cW:Addr)(H:Hp)(t:Addr)(rws:List Rw)(i:Nat)(o:Int×Int):Prop:=∃(rl ou dx:Addr)(fs:List (Str×V))(xs:List V)(wy:Str),H t=some (.ins cT dx fs)/\fs.lookup (Str.ofString "rows")=some (.ref rl)/\fs.lookup (Str.ofString "way")=some (.str wy)/\fs.lookup (Str.ofString "outcome")=some (.ref ou)/\H rl=some (.lst xs)/\RL NT H xs rws/\six[i]?=some wy/\Dom cN cW H ou o/\o.1<=o.2/\xs.length<=200
theorem Tbl.same{cT cN cW:Addr}{H H':Hp}{t:Addr}{rws:List Rw}{i:Nat}{o:Int×Int}(h:Tbl cT cN cW H t rws i o)(s:ar H H'):Tbl cT cN cW H' t rws i o:=by
 obtain⟨rl,ou,dx,fs,xs,wy,h1,h2,h3,h4,h5,h6,h7,h8,h9,h10⟩:=h;exact⟨rl,ou,dx,fs,xs,wy,s _ _ h1,h2,h3,h4,s _ _ h5,h6.same s,h7,h8.same s,h9,h10⟩
def gX(rws:List Rw)(cs:List Int)(k:Nat):Bool:=mM (rws.getD k ([],0)).1 cs
theorem getD_at{rws:List Rw}{k:Nat}{w:Rw}(e:rws[k]?=some w):rws.getD k ([],0)=w:=by rw[getD_eq_getElem?_getD,e];rfl
def fl(rws:List Rw)(cs:List Int):List Int:=(rws.filter λw=>mM w.1 cs).map (·.2)
def ord:List Nat:=[3,4,2,1,0,5]
structure Lay(H:Hp)(r1:Addr)(F2 F3:Addr->Prop)(m:Nat):Prop where
 top:∃xs,H r1=some (.lst xs)/\xs.length<=63/\∀x∈xs,∃(t ce:Addr)(c:Int),x=.ref t/\H t=some (.tup [.ref ce,.int c])/\F2 ce
 mid:∀ce,F2 ce->∃ys,H ce=some (.lst ys)/\ys.length<=4/\∀y∈ys,∃l,y=.ref l/\F3 l
 low:∀l,F3 l->∃zs,H l=some (.lst zs)/\zs.length<=m
 n2:¬ F2 r1
 n3:¬ F3 r1
 n23:∀a,F2 a->F3 a->False
theorem vV(x:V)(xs:List V):oj (x :: xs) (some 1) none=xs:=by
 unfold oj;simp[HT.sIx]
theorem RL.hideN{N:Addr->Prop}{H:Hp}{x C dx:Addr}{fs:List (Str×V)}(hx:H x=some (.ins C dx fs)){xs:List V}{rws:List Rw}(h:RL N H xs rws):RL N (My.hide H x) xs rws :=
 aI.mono h λr w ⟨ce,cs,e,n,f,c⟩=>⟨ce,cs,dM e (dA e hx (by intro z;cases z)),n,dM f (dA f hx (by intro z;cases z)),aI.mono c λl ps ⟨n,ys,g,p⟩=>⟨n,ys,dM g (dA g hx (by intro z;cases z)),PL.hide hx p⟩⟩
def rF(N:Addr->Prop)(cT:Addr)(H:Hp)(t:Addr)(rws:List Rw)(nm wy:Str)(ou:Addr)(zs:List Str)(dv:List V):Prop:=∃(rl dx na dl:Addr)(fs:List (Str×V))(xs:List V),H t=some (.ins cT dx fs)/\fs.lookup (Str.ofString "rows")=some (.ref rl)/\fs.lookup (Str.ofString "name")=some (.str nm)/\fs.lookup (Str.ofString "way")=some (.str wy)/\fs.lookup (Str.ofString "outcome")=some (.ref ou)/\fs.lookup (Str.ofString "names")=some (.ref na)/\fs.lookup (Str.ofString "domains")=some (.ref dl)/\H na=some (.lst (zs.map V.str))/\H dl=some (.lst dv)/\H rl=some (.lst xs)/\RL N H xs rws/\N na/\N dl/\N rl/\xs.length<=200
theorem rF.tbl{N:Addr->Prop}{cT cN cW:Addr}{H:Hp}{t:Addr}{rws:List Rw}{nm wy:Str}{ou:Addr}{zs:List Str}{dv:List V}{i:Nat}{o:Int×Int}(h:rF N cT H t rws nm wy ou zs dv)(hi:six[i]?=some wy)(ho:Dom cN cW H ou o)(hl:o.1<=o.2):Tbl cT cN cW H t rws i o:=by
 obtain⟨rl,dx,_,_,fs,xs,h1,h2,_,h4,h5,_,_,_,_,h10,h11,_,_,_,uk⟩:=h;exact⟨rl,ou,dx,fs,xs,wy,h1,h2,h4,h5,h10,h11.any,hi,ho,hl,uk⟩
section
variable{H G:Hp}{Bad N:Addr->Prop}
end
def di(ns:List Int)(k:Int):Int:=ns.getD k.toNat 0
structure Pts(ps:List Int):Prop where
 two:2<=ps.length
 few:ps.length<=13
 asc:ps.Pairwise (· < ·)
def loP(ps:List Int):Int:=ps.getD 0 0
def hiP(ps:List Int):Int:=ps.getD (ps.length-1) 0-1
theorem Pts.mono{ps:List Int}(h:Pts ps){i j:Nat}{x y:Int}(ei:ps[i]?=some x)(ej:ps[j]?=some y)(hij:i<j):x<y:=by
 obtain⟨hi,rfl⟩:=Fo.mp ei;obtain⟨hj,rfl⟩:=Fo.mp ej;exact pairwise_iff_getElem.mp h.asc i j hi hj hij
theorem Pts.lo{ps:List Int}(h:Pts ps){i:Nat}{x:Int}(ei:ps[i]?=some x):loP ps<=x:=by
 have h2:=h.two;have e0:ps[0]?=some (loP ps):=by
  unfold loP;rw[getD_eq_getElem?_getD,Fn (by lia)];rfl
 rcases Nat.eq_zero_or_pos i with rfl|hi
 ·rw[e0]at ei;cases ei;exact Int.le_refl _
 ·exact Int.le_of_lt (h.mono e0 ei hi)
theorem Pts.last{ps:List Int}(h:Pts ps):ps[ps.length-1]?=some (hiP ps+1):=by
 have h2:=h.two;unfold hiP;rw[getD_eq_getElem?_getD,Fn (by lia)];simp
theorem Pts.hi{ps:List Int}(h:Pts ps){i:Nat}{x:Int}(ei:ps[i]?=some x):x-1<=hiP ps:=by
 have hi:=(Fo.mp ei).1;by_cases e:i=ps.length-1
 ·rw[e,h.last]at ei;cases ei;lia
 ·have:=h.mono ei h.last (by lia);lia
theorem Pts.le{ps:List Int}(h:Pts ps):loP ps<=hiP ps:=by
 have h2:=h.two;have e0:ps[0]?=some (loP ps):=by
  unfold loP;rw[getD_eq_getElem?_getD,Fn (by lia)];rfl
 have:=h.mono e0 h.last (by lia);lia
def cA(n:Nat):List Int:=(List.range n).map λj:Nat=>(0:Int)+(j:Int)
theorem pV(n:Nat):cA (n+1)=cA n++[(0:Int)+(n:Int)]:=by unfold cA;rw[range_succ,map_append];rfl
theorem cg(n:Nat):(cA n).length=n:=by unfold cA;simp
theorem gP{n i:Nat}(h:i<n):(cA n)[i]?=some (i:Int):=by unfold cA;rw[getElem?_map,List.getElem?_range h];simp
theorem rG{n:Nat}(h1:1<=n)(h2:n<=12):Pts (cA (n+1)):=by
 refine⟨by rw[cg];lia,by rw[cg];lia,?_⟩;rw[pairwise_iff_getElem];intro i j hi hj hij;rw[cg]at hi hj;have e1:=gP hi;have e2:=gP hj;rw[Fn (by rw[cg];exact hi)]at e1;rw[Fn (by rw[cg];exact hj)]at e2;rw[Option.some.inj e1,Option.some.inj e2];lia
theorem um{n:Nat}(h:1<=n):loP (cA (n+1))=0:=by
 unfold loP;rw[getD_eq_getElem?_getD,gP (by lia)];rfl
theorem uo(n:Nat):hiP (cA (n+1))=(n:Int)-1:=by
 unfold hiP;rw[cg,getD_eq_getElem?_getD,show n+1-1=n by lia,gP (by lia)];rfl
def PTL(H:Hp)(xs:List V)(pss:List (List Int)):Prop:=aI xs pss λl ps=>H l=some (.lst (ps.map V.int))
theorem PTL.same{H H':Hp}{xs:List V}{pss:List (List Int)}(h:PTL H xs pss)(s:ar H H'):PTL H' xs pss:=aI.mono h λ_ _ e=>s _ _ e
structure oG(ns:List Int)(pss:List (List Int)):Prop where
 pts:∀ps∈pss,Pts ps
 wrd:∀(j:Nat)(ps:List Int),pss[j]?=some ps->di ns (1+(0+(j:Int)))%3=1->∃n:Nat,1<=n/\n<=12/\ps=cA (n+1)
theorem CS{k:Int}(h0:0<=k)(h1:k<5):∃v:Int,atI [V.int 10007,.int 10009,.int 10037,.int 10039,.int 10061] k=some (.int v)/\0<v:=by
 have:k=0\/k=1\/k=2\/k=3\/k=4:=by lia
 rcases this with rfl|rfl|rfl|rfl|rfl
 ·exact⟨_,U,by decide⟩
 ·exact⟨_,U,by decide⟩
 ·exact⟨_,U,by decide⟩
 ·exact⟨_,U,by decide⟩
 ·exact⟨_,U,by decide⟩
def s2(c:Int):List Nat:=[113+(c%8).toNat,121+(c / 8%2).toNat]
def w3l(c k:Int):List Nat:=(s2 c).take (c / 16%3).toNat++([97+k.toNat]++(s2 c).drop (c / 16%3).toNat)
def w3(c k:Int):Str:=⟨(w3l c k).toArray⟩
theorem CT(c:Int):(c / 16%3).toNat<=2:=by
 have:=emod_lt_of_pos (c / 16) (show(0:Int)<3 by decide);lia
theorem vW(c k:Int):(w3l c k).length=3:=by
 have:=CT c;unfold w3l s2;simp;lia
theorem rH(c k:Int)(h0:0<=k)(h1:k<12):∀x∈w3l c k,97<=x/\x<=122/\x≠110:=λx hx=>by
 have a0:=emod_nonneg c (show(8:Int)≠0 by decide);have a1:=emod_lt_of_pos c (show(0:Int)<8 by decide);have b0:=emod_nonneg (c / 8) (show(2:Int)≠0 by decide);have b1:=emod_lt_of_pos (c / 8) (show(0:Int)<2 by decide);have hs:∀y∈s2 c,97<=y/\y<=122/\y≠110:=λy hy=>by
  unfold s2 at hy;simp only[mem_cons,not_mem_nil,or_false]at hy;lia
 unfold w3l at hx;rcases mem_append.mp hx with hx|hx
 ·exact hs x (List.mem_of_mem_take hx)
 ·rcases mem_append.mp hx with hx|hx
  ·have:x=97+k.toNat:=by simpa using hx
   lia
  ·exact hs x (List.mem_of_mem_drop hx)
theorem zL{l:List Nat}(h1:1<=l.length)(h2:l.length<=12)(h3:∀x∈l,97<=x/\x<=122)(h4:l≠[110,111,116]):isw ⟨l.toArray⟩=true:=by
 have ha:kY ⟨l.toArray⟩ lets=true:=by
  unfold kY;rw[all_eq_true];intro x hx;exact zK (h3 x (by simpa using hx))
 have hn:¬ (V.str ⟨l.toArray⟩=V.str (Str.ofString "not")):=λh=>by
  injection h with h;have e:Str.ofString "not" = ⟨[110,111,116].toArray⟩:=by decide+kernel
  rw[e]at h;injection h with h;exact h4 (by simpa using congrArg Array.toList h)
 have hl:(⟨l.toArray⟩:Str).length=l.length:=by simp[Str.length]
 unfold isw;rw[ha,decide_eq_true (show(1:Int)<=(((⟨l.toArray⟩:Str).length:Nat):Int) by lia),decide_eq_true (show(((⟨l.toArray⟩:Str).length:Nat):Int)<=12 by lia)];show(true && (true && (!decide (V.str ⟨l.toArray⟩=V.str (Str.ofString "not")) && true)))=true;rw[decide_eq_false hn];rfl
theorem vX(c k:Int)(h0:0<=k)(h1:k<12):isw (w3 c k)=true :=
 zL (by rw[vW];decide) (by rw[vW];decide) (λx hx=>⟨(rH c k h0 h1 x hx).1,(rH c k h0 h1 x hx).2.1⟩) λh=>(rH c k h0 h1 110 (by rw[h];simp)).2.2 U
theorem vY{c k k':Int}(h0:0<=k)(h1:0<=k')(e:w3 c k=w3 c k'):k=k':=by
 unfold w3 at e;injection e with e;have e:w3l c k=w3l c k':=by simpa using congrArg Array.toList e
 unfold w3l at e;have e:=List.append_cancel_left e;injection e with e _;lia
def w3s(c:Int)(n:Nat):List Str:=(List.range n).map λj:Nat=>w3 c (0+(j:Int))
theorem lM(c:Int)(n:Nat):w3s c (n+1)=w3s c n++[w3 c (0+(n:Int))]:=by unfold w3s;rw[range_succ,map_append];rfl
theorem eN(c:Int)(n:Nat):(w3s c n).length=n:=by unfold w3s;simp
theorem nM(c:Int)(n:Nat):(w3s c n).Nodup:=by
 unfold w3s;rw[List.nodup_iff_pairwise_ne,List.pairwise_map];refine List.Pairwise.imp_of_mem (R:=λa b=>a≠b) (λ{a b} ha hb hab e=>?_) List.nodup_range;have:=vY (by lia) (by lia) e;lia
theorem sS{c:Int}{n:Nat}(h:n<=12):∀z∈w3s c n,isw z=true:=λz hz=>by
 unfold w3s at hz;obtain⟨j,hj,rfl⟩:=mem_map.mp hz;have:=mem_range.mp hj;exact vX _ _ (by lia) (by lia)
theorem pW{c:Int}{n:Nat}(h1:1<=n)(h2:n<=12):Good (w3s c n):=⟨by rw[eN];exact h1,by rw[eN];lia,sS h2,nM c n⟩
theorem A8(x y:Nat){t:Int}(h0:0<=t)(h1:t<3):Txt.slice ⟨#[x,y]⟩ none (some t)=⟨([x,y].take t.toNat).toArray⟩:=by
 have:t=0\/t=1\/t=2:=by lia
 rcases this with rfl|rfl|rfl <;> rfl
theorem A9(x y:Nat){t:Int}(h0:0<=t)(h1:t<3):Txt.slice ⟨#[x,y]⟩ (some t) none=⟨([x,y].drop t.toNat).toArray⟩:=by
 have h:=StrLaws.sliceText_from (x:=⟨#[x,y]⟩) (i:=t) ⟨h0,by show t<=2;lia⟩;have e:Txt.slice ⟨#[x,y]⟩ (some t) none=StrLaws.sliceText ⟨#[x,y]⟩ (some t) none:=rfl;rw[e,h];have:t=0\/t=1\/t=2:=by lia
 rcases this with rfl|rfl|rfl <;> simp
theorem qx8{k:Int}(h0:0<=k)(h1:k<8):atI (Str.ofString "qrstuvwx").cps.toList k=some (113+k.toNat):=by
 have:k=0\/k=1\/k=2\/k=3\/k=4\/k=5\/k=6\/k=7:=by lia
 rcases this with rfl|rfl|rfl|rfl|rfl|rfl|rfl|rfl <;> decide+kernel
theorem yz2{k:Int}(h0:0<=k)(h1:k<2):atI (Str.ofString "yz").cps.toList k=some (121+k.toNat):=by
 have:k=0\/k=1:=by lia
 rcases this with rfl|rfl <;> decide+kernel
theorem Ba:(Str.ofString "abcdefghijkl").cps.toList=(List.range 12).map (97 + ·):=by decide+kernel
def iP(c:Int)(os:List Int):Prop:=∃x0 x1 x2 x3 x4:Int,os=[x0,x1,x2,x3,x4]/\x0<=x1/\x1<=x2/\x2<=x3/\x3<=x4/\(c%3=1->x0=0/\x4=4)
def o0(os:List Int):Int:=os.getD 0 0
def o4(os:List Int):Int:=os.getD 4 0
theorem xJ{c:Int}{os:List Int}(h:iP c os):∀x∈os,o0 os<=x/\x<=o4 os:=by
 obtain⟨x0,x1,x2,x3,x4,rfl,h1,h2,h3,h4,_⟩:=h;intro x hx;show x0<=x/\x<=x4;simp only[mem_cons,not_mem_nil,or_false]at hx;rcases hx with rfl|rfl|rfl|rfl|rfl <;> lia
def BRL(H:Hp)(rx:List V)(bms:List (List Int×Int)):Prop:=aI rx bms λr b=>∃bl:Addr,H r=some (.tup [.ref bl,.int b.2])/\H bl=some (.lst (b.1.map V.int))
theorem rF.wk{N:Addr->Prop}{cT:Addr}{H:Hp}{t:Addr}{rws:List Rw}{nm wy:Str}{ou:Addr}{zs:List Str}{dv:List V}(h:rF N cT H t rws nm wy ou zs dv):rF (λ_=>True) cT H t rws nm wy ou zs dv:=by
 obtain⟨rl,dx,na,dl,fs,xs,h1,h2,h3,h4,h5,h6,h7,h8,h9,h10,h11,_,_,_,r⟩:=h;exact⟨rl,dx,na,dl,fs,xs,h1,h2,h3,h4,h5,h6,h7,h8,h9,h10,aI.mono h11 λ_ _ p=>p.wk λ_ _=>trivial,trivial,trivial,trivial,r⟩
theorem uq{K:W.Frag}{H:Hp}{Q:VK}{a b:Addr}{xs ys:List V}(ha:SqL K H a xs)(hb:SqL K H b ys)(hl:xs.length=ys.length)(h:∀(j:Nat)(x y:V),xs[j]?=some x->ys[j]?=some y->DEq K H 60 x y true)(q:Q (.bl true) H):vo K false (.ref a) (.ref b) H Q:=by
 refine⟨a,b,xs,ys,U,U,ha,hb,.inr ⟨hl,λ_=>true,h,?_⟩⟩;rw[show(List.range xs.length).all (λ_=>true)=true by simp];exact q
def b9(lo hi:Int)(cs:List Int):List (Int×Int):=(lo :: cs).zip (cs.map (· - 1)++[hi])
def Chn:List (Int×Int)->Int->Int->Prop
 | [],lo,hi=>lo=hi+1
 |p :: r,lo,hi=>p.1=lo/\lo<=p.2/\Chn r (p.2+1) hi
theorem pX:∀{cs:List Int}{lo hi:Int},cs.Pairwise (· < ·)->(∀c∈cs,lo<c/\c<=hi)->lo<=hi->Chn (b9 lo hi cs) lo hi
 | [],lo,hi,_,_,h=>⟨U,h,U⟩
 |c :: cs,lo,hi,hp,hb,h=>by
  obtain⟨h1,h2⟩:=pairwise_cons.mp hp;have hc:=hb c mem_cons_self;have e:b9 lo hi (c :: cs)=(lo,c-1) :: b9 c hi cs:=rfl;rw[e];refine⟨U,by show lo<=c-1;lia,?_⟩;show Chn (b9 c hi cs) (c-1+1) hi;rw[show c-1+1=c by lia];exact pX h2 (λd hd=>⟨h1 d hd,(hb d (mem_cons_of_mem _ hd)).2⟩) hc.2
theorem gu(lo hi:Int)(cs:List Int):(b9 lo hi cs).length=cs.length+1:=by simp[b9]
theorem PL.of_get{H:Hp}:∀{ts:List Addr}{ps:List (Int×Int)},ts.length=ps.length->(∀(j:Nat)(p:Int×Int),ps[j]?=some p->∃T,ts[j]?=some T/\H T=some (.tup [.int p.1,.int p.2]))->PL H (ts.map V.ref) ps
 | [],[],_,_=>.nil
 | [],p :: ps,h,_=>by simp at h
 |t :: ts,[],h,_=>by simp at h
 |t :: ts,p :: ps,h,g=>by
  obtain⟨T,e1,e2⟩:=g 0 p U;have:t=T:=by simpa using e1
  subst this;exact .cons ⟨t,U,e2⟩ (PL.of_get (by simpa using h) λj q hj=>by simpa using g (j+1) q (by simpa using hj))
theorem zip_get{lo hi:Int}{cs:List Int}{j:Nat}{p:Int×Int}(e:(b9 lo hi cs)[j]?=some p):((lo :: cs).map V.int)[j]?=some (.int p.1)/\((cs.map (· - 1)++[hi]).map V.int)[j]?=some (.int p.2):=by
 unfold b9 at e;rw[getElem?_zip_eq_some]at e;obtain⟨e1,e2⟩:=e;exact⟨get_map e1,get_map e2⟩
def lN(lo hi:Int)(acc:List Int)(m:Int):List Int:=if lo<m/\m<=hi/\m ∉ acc then acc++[m]else acc
def dd(lo hi:Int)(ms:List Int):List Int:=ms.foldl (lN lo hi) []
theorem oH(lo hi:Int):∀(ms acc:List Int),acc.Nodup->(ms.foldl (lN lo hi) acc).Nodup/\∀c,c∈ms.foldl (lN lo hi) acc↔(c∈acc\/(c∈ms/\lo<c/\c<=hi))
 | [],acc,h=>⟨h,λc=>by simp⟩
 |m :: ms,acc,h=>by
  have h2:(lN lo hi acc m).Nodup:=by
   unfold lN;split
   ·rename_i g
    rw[nodup_append];refine⟨h,by simp,λa ha b hb=>?_⟩;have:b=m:=by simpa using hb
    subst this;exact λz=>g.2.2 (z ▸ ha)
   ·exact h
  obtain⟨a1,a2⟩:=oH lo hi ms (lN lo hi acc m) h2;refine⟨a1,λc=>(a2 c).trans ?_⟩;unfold lN;by_cases g:lo<m/\m<=hi/\m ∉ acc
  ·rw[if_pos g];simp only[mem_append,mem_cons,not_mem_nil,or_false];constructor
   ·rintro((h|rfl)|⟨h,h'⟩)
    ·exact .inl h
    ·exact .inr ⟨.inl U,g.1,g.2.1⟩
    ·exact .inr ⟨.inr h,h'⟩
   ·rintro(h|⟨rfl|h,h'⟩)
    ·exact .inl (.inl h)
    ·exact .inl (.inr U)
    ·exact .inr ⟨h,h'⟩
  ·rw[if_neg g];simp only[mem_cons];constructor
   ·rintro(h|⟨h,h'⟩)
    ·exact .inl h
    ·exact .inr ⟨.inr h,h'⟩
   ·rintro(h|⟨rfl|h,h'⟩)
    ·exact .inl h
    ·by_cases hc:c∈acc
     ·exact .inl hc
     ·exact absurd ⟨h'.1,h'.2,hc⟩ g
    ·exact .inr ⟨h,h'⟩
theorem zM{lo hi:Int}{ms cs:List Int}(hp:cs.Pairwise (· < ·))(hm:∀c,c∈cs↔(c∈ms/\lo<c/\c<=hi)):cs.length=(dd lo hi ms).length:=by
 obtain⟨a1,a2⟩:=oH lo hi ms [] nodup_nil;have e:∀c,c∈cs↔c∈dd lo hi ms:=λc=>by
  rw[hm c];exact⟨λh=>(a2 c).mpr (.inr h),λh=>by rcases(a2 c).mp h with z|z;cases z;exact z⟩
 exact Nat.le_antisymm (bC (hp.imp λh=>Int.ne_of_lt h) λx hx=>(e x).mp hx) (bC a1 λx hx=>(e x).mpr hx)
theorem Bb(lo hi:Int)(ms:List Int):(dd lo hi ms).length<=ms.length:=by
 obtain⟨a1,a2⟩:=oH lo hi ms [] nodup_nil;exact bC a1 λx hx=>by rcases(a2 x).mp hx with z|z;cases z;exact z.1
def gl(ps:List (Int×Int))(mss:List (List Int))(j:Nat):Nat:=(dd (ps.getD j (0,0)).1 (ps.getD j (0,0)).2 (mss.getD j [])).length+1
def gr(ps:List (Int×Int))(mss:List (List Int)):Nat->Nat
 |0=>1
 |n+1=>gr ps mss n*gl ps mss n
theorem Bc{ps:List (Int×Int)}{mss:List (List Int)}(h:∀ms∈mss,ms.length<=57)(j:Nat):gl ps mss j<=58:=by
 unfold gl;have:=Bb (ps.getD j (0,0)).1 (ps.getD j (0,0)).2 (mss.getD j []);have h2:(mss.getD j []).length<=57:=by
  rw[getD_eq_getElem?_getD];cases e:mss[j]? with
  |none=>simp
  |some ms=>exact h ms (Fp e)
 lia
theorem yJ{ps:List (Int×Int)}{mss:List (List Int)}(h:∀ms∈mss,ms.length<=57):∀n,gr ps mss n<=58^n
 |0=>le_refl _
 |n+1=>by
  have a:=yJ (ps:=ps) h n;have b:=Bc (ps:=ps) h n;show gr ps mss n*gl ps mss n<=58^n*58;exact mul_le_mul a b
def MLs(H:Hp)(as:List Addr)(mss:List (List Int)):Prop:=as.length=mss.length/\∀(j:Nat)(ms:List Int),mss[j]?=some ms->∃r,as[j]?=some r/\H r=some (.lst (ms.map V.int))
theorem MLs.keep{H H':Hp}{as:List Addr}{mss:List (List Int)}(h:MLs H as mss)(k:∀r∈as,∀o,H r=some o->H' r=some o):MLs H' as mss :=
 ⟨h.1,λj ms e=>let ⟨r,e1,e2⟩:=h.2 j ms e;⟨r,e1,k r (Fp e1) _ e2⟩⟩
theorem MLs.same{H H':Hp}{as:List Addr}{mss:List (List Int)}(h:MLs H as mss)(s:ar H H'):MLs H' as mss:=h.keep λ_ _ _ e=>s _ _ e
theorem vZ{as:List Addr}{j:Nat}{x:V}(e:(as.map V.ref)[j]?=some x):∃r,x=.ref r/\as[j]?=some r:=by
 rw[getElem?_map]at e;cases h:as[j]? with
 |none=>rw[h]at e;cases e
 |some r=>rw[h]at e;cases e;exact⟨r,U,U⟩
def MOK(ps:List (Int×Int))(mss:List (List Int)):Prop:=ps.length=mss.length/\ps.length<=6/\∀ms∈mss,ms.length<=57
abbrev Tri:=Int×Int×V
structure At(ts:List Tri)(c:Int)(j:Nat)(t:Tri):Prop where
 at_:ts[j]?=some t
 le:c<=t.2.1
 lt:∀(i:Nat)(u:Tri),i<j->ts[i]?=some u->u.2.1<c
theorem yK:∀{c:List (Int×Int)}{lo hi:Int},Chn c lo hi->xF c lo hi
 | [],_,_,h=>h
 |_ :: _,_,_,h=>⟨h.1,h.2.1,yK h.2.2⟩
theorem pY:∀{cs:List Int}{lo hi c:Int},cs.Pairwise (· < ·)->(∀x∈cs,lo<x)->lo<=c->c<=hi->cw (b9 lo hi cs) c<=c/\(cw (b9 lo hi cs) c=lo\/cw (b9 lo hi cs) c∈cs)/\lo<=cw (b9 lo hi cs) c/\∀x∈cs,x<=c->x<=cw (b9 lo hi cs) c
 | [],lo,hi,c,_,_,h1,h2=>by
  have e:cw (b9 lo hi []) c=lo:=by simp[b9,cw,h2]
  rw[e];exact⟨h1,.inl U,Int.le_refl _,λx hx=>by cases hx⟩
 |d :: cs,lo,hi,c,hp,hb,h1,h2=>by
  obtain⟨p1,p2⟩:=pairwise_cons.mp hp;have e:b9 lo hi (d :: cs)=(lo,d-1) :: b9 d hi cs:=rfl;by_cases q:c<=d-1
  ·have e2:cw (b9 lo hi (d :: cs)) c=lo:=by rw[e];unfold cw;rw[find?_cons_of_pos (by simpa using q)];rfl
   rw[e2];refine⟨h1,.inl U,Int.le_refl _,λx hx hc=>?_⟩;rcases mem_cons.mp hx with rfl|hx
   ·lia
   ·have:=p1 x hx;lia
  ·have e2:cw (b9 lo hi (d :: cs)) c=cw (b9 d hi cs) c:=by rw[e];unfold cw;rw[find?_cons_of_neg (by simpa using q)]
   rw[e2];obtain⟨a1,a2,a3,a4⟩:=pY p2 p1 (c:=c) (by lia) h2;have hd:=hb d mem_cons_self;refine⟨a1,.inr ?_,by lia,λx hx hc=>?_⟩
   ·rcases a2 with a2|a2
    ·rw[a2];exact mem_cons_self
    ·exact mem_cons_of_mem _ a2
   ·rcases mem_cons.mp hx with rfl|hx
    ·exact a3
    ·exact a4 x hx hc
def CoL(H:Hp)(xs:List V)(cols:List (List (Int×Int))):Prop:=aI xs cols λr c=>∃ts,H r=some (.lst ts)/\PL H ts c
theorem CoL.same{H H':Hp}{xs:List V}{cols:List (List (Int×Int))}(h:CoL H xs cols)(s:ar H H'):CoL H' xs cols:=aI.mono h λ_ _ ⟨ts,e,p⟩=>⟨ts,s _ _ e,PL.mono p s.tups⟩
structure zN{L:Type} [DecidableEq L] (A:Lfp L)(P:Program)(w:World)(K:W.Frag)(mg:Str->Option Value)(base:Heap)(f:Addr)(m:Nat)(g:List Int->L)(J:Hp->Prop):Prop where
 fn:∃sp,HFn P w K mg base 8 f sp/\∀(H:Hp)(a:Addr)(cs:List Int)(Q:VK),J H->cs.length=m->H a=some (.lst (cs.map V.int))->(∀v H',(∀b o,b≠a->H b=some o->H' b=some o)->A.R H' (g cs) v->Q v H')->sp [.ref a] H Q E0
 ob:∀H,J H->FnO H f
 st:∀H H',J H->ar H H'->J H'
theorem nN{α:Type} [DecidableEq α] (ts:List (T3a α)):(fK ts).length<=ts.length:=by
 have:∀(r f:List (T3a α)),(r.foldl cJ f).length<=f.length+r.length:=by
  intro r;induction r with
  |nil=>intro f;exact le_refl _
  |cons t r ih =>
   intro f;have h1:(cJ f t).length<=f.length+1:=by
    unfold cJ;split
    ·split
     ·rw[length_append,List.length_dropLast,length_singleton];lia
     ·rw[length_append,length_singleton];lia
    ·rw[length_append,length_singleton];lia
   have h2:=ih (cJ f t);rw[length_cons];show((r.foldl cJ (cJ f t)).length)<=_;lia
 have h:=this ts [];rw[length_nil,Nat.zero_add]at h;exact h
def below(ms:List Int)(c:Int):Int:=((ms.filter λm=>decide (m<=c)).length:Int)
def zO(mss:List (List Int))(tw:Int)(cs:List Int):Nat->Int
 |0=>0
 |k+1=>zO mss tw cs k*tw+(1+zO mss tw cs k)%3*below (mss.getD k []) (cs.getD k 0)
def told(mss:List (List Int))(tw tu st:Int)(cs:List Int):Int:=zO mss tw cs cs.length%tu*st
def SmS{α:Type}(b:Nat)(S:α->Prop)(f:List (T3a α)):Prop:=f.length<=b/\∀t∈f,S t.2.2
def SmF{L:Type}(b:Nat):(n:Nat)->Fm L n->Prop
 |0,_=>True
 |n+1,f=>SmS b (SmF b n) f
theorem v7{b:Nat}{L:Type} [DecidableEq L] {g:List Int->L}:∀{cols:List (List (Int×Int))}{ps:List (Int×Int)},gn cols ps->(∀c∈cols,c.length<=b)->∀ah:List Int,SmF b cols.length (lay g cols ah)
 | [],_,_,_,_=>trivial
 |c :: cols,_,hok,h,ah=>by
  cases hok with
  | @cons _ _ p ps hne hc hok =>
   have k:=fi (vL (λq=>lay g cols (ah++[q.1])) hc);refine⟨le_trans (nN _) (by rw[length_map];exact h c mem_cons_self),λt ht=>?_⟩;obtain⟨t',h1,h2⟩:=k.mem t ht;obtain⟨q,_,rfl⟩:=mem_map.mp h1;rw[←h2];exact v7 hok (λc hc=>h c (mem_cons_of_mem _ hc)) _
theorem zP{ps:List (Int×Int)}{mss:List (List Int)}{m:Nat}(hW:∀ms∈mss,∃L:List Int,L.length<=m/\∀x∈ms,x∈L)(j:Nat):gl ps mss j<=m+1:=by
 unfold gl;have:(dd (ps.getD j (0,0)).1 (ps.getD j (0,0)).2 (mss.getD j [])).length<=m:=by
  rw[show mss.getD j []=(mss[j]?).getD []from getD_eq_getElem?_getD ..];cases e:mss[j]? with
  |none=>exact zero_le _
  |some ms =>
   obtain⟨L,h1,h2⟩:=hW ms (Fp e);obtain⟨a,b⟩:=oH (ps.getD j (0,0)).1 (ps.getD j (0,0)).2 ms [] nodup_nil;refine le_trans (bC a λx hx=>?_) h1;rcases(b x).mp hx with z|z
   ·cases z
   ·exact h2 x z.1
 lia
theorem v9:∀{ps:List (Int×Int)}{css:List (List Int)},css.length=ps.length->(∀p∈ps,p.1<=p.2)->(∀(j:Nat)(p:Int×Int)(cs:List Int),ps[j]?=some p->css[j]?=some cs->cs.Pairwise (· < ·)/\∀c∈cs,p.1<c/\c<=p.2)->gn (List.zipWith (λp cs=>b9 p.1 p.2 cs) ps css) ps
 | [],[],_,_,_=>.nil
 | [],_ :: _,h,_,_=>by simp at h
 |_ :: _,[],h,_,_=>by simp at h
 |p :: ps,cs :: css,h,hle,hk=>by
  obtain⟨a,b⟩:=hk 0 p cs U U;refine .cons (λz=>?_) (yK (pX a b (hle p mem_cons_self))) (v9 (by simpa using h) (λq hq=>hle q (mem_cons_of_mem _ hq)) λj q c e1 e2=>hk (j+1) q c (by simpa using e1) (by simpa using e2));have:=congrArg List.length z;rw[gu]at this;simp at this
def mN{L M:Type} [DecidableEq M] (h:L->M):(n:Nat)->Fm L n->Fm M n
 |0,x=>h x
 |n+1,f=>fK (List.map (λt:T3a (Fm L n)=>((t.1,t.2.1,mN h n t.2.2):T3a (Fm M n))) f)
theorem oI{α β:Type}(F:α->β):∀{f:List (T3a α)}{lo hi:Int},Ch3 f lo hi->Ch3 (f.map λt=>((t.1,t.2.1,F t.2.2):T3a β)) lo hi
 | [],_,_,h=>h
 |_ :: _,_,_,h=>⟨h.1,h.2.1,oI F h.2.2⟩
theorem pZ{α β:Type}(F:α->β)(c:Int):∀f:List (T3a α),vAt (f.map λt=>((t.1,t.2.1,F t.2.2):T3a β)) c=(vAt f c).map F
 | []=>rfl
 |t :: f=>by
  have ih:=pZ F c f;unfold vAt at ih⊢;rw[map_cons];by_cases q:c<=t.2.1
  ·rw[find?_cons_of_pos (by simpa using q),find?_cons_of_pos (by simpa using q)];rfl
  ·rw[find?_cons_of_neg (by simpa using q),find?_cons_of_neg (by simpa using q)];exact ih
theorem gQ{α:Type}{c:Int}:∀{f:List (T3a α)}{j:Nat}{t:T3a α},f[j]?=some t->c<=t.2.1->(∀(i:Nat)(u:T3a α),i<j->f[i]?=some u->u.2.1<c)->vAt f c=some t.2.2
 | [],j,t,e,_,_=>by simp at e
 |u :: f,0,t,e,h,_=>by
  cases e;unfold vAt;rw[find?_cons_of_pos (by simpa using h)];rfl
 |u :: f,j+1,t,e,h,k=>by
  have hu:=k 0 u (succ_pos _) U;have:=gQ (f:=f) (j:=j) (t:=t) (by simpa using e) h λi w hi ew=>k (i+1) w (by lia) (by simpa using ew)
  unfold vAt at this⊢;rw[find?_cons_of_neg (by simpa using hu)];exact this
theorem wa{L M:Type} [DecidableEq M] {h:L->M}:∀{n:Nat}{F:Fm L n}{ps:List (Int×Int)},dR n F ps->dR n (mN h n F) ps
 |0,_,_,hs=>hs
 |n+1,F,ps,hs=>by
  obtain⟨G,rfl⟩:∃G:List (T3a (Fm L n)),(G:Fm L (n+1))=F:=⟨F,U⟩;obtain⟨p,r,rfl,hne,hch,hnb,fD⟩:ShS (dR n) G ps:=hs;have k:=fi (oI (mN h n) hch);refine⟨p,r,U,k.ne (by simpa using hne),k.ch,k.nb,λt ht=>?_⟩;obtain⟨t',a,b⟩:=k.mem t ht;obtain⟨u,hu,rfl⟩:=mem_map.mp a;rw[←b];exact wa (fD u hu)
theorem xK{L M:Type} [DecidableEq M] {h:L->M}{n:Nat}{F:Fm L n}{cs:List Int}{x:L}(ht:Tel n F cs x):∀{ps:List (Int×Int)},dR n F ps->InB cs ps->Tel n (mN h n F) cs (h x):=by
 induction ht with
 |nil x=>intro ps _ _;exact .nil (h x)
 | @cons n f c cs x j t e1 e2 e3 _ ih =>
  intro ps hs hb;obtain⟨p,r,rfl,hne,hch,hnb,fD⟩:ShS (dR n) f ps:=hs;cases hb with
  |cons h1 h2 hb =>
   have k:=fi (oI (mN h n) hch);obtain⟨j',t',a1,a2,a3,a4,a5⟩:=k.ch.at h1 h2;rw[k.va,pZ,gQ e1 e2 e3]at a5;have a5:mN h n t.2.2=t'.2.2:=Option.some.inj a5;refine .cons (f:=(mN h (n+1) f:List (T3a (Fm M n)))) a1 a3 a4 ?_;rw[←a5];exact ih (fD t (Fp e1)) hb
structure Bd{L M:Type} [DecidableEq L] [DecidableEq M] (A:Lfp L)(B:Lfp M)(P:Program)(w:World)(K:W.Frag)(mg:Str->Option Value)(base:Heap)(f:Addr)(h:L->M)(J:Hp->Prop):Prop where
 fn:∃sp,HFn P w K mg base 8 f sp/\∀(H:Hp)(v:V)(x:L)(Q:VK),J H->A.R H x v->(∀u H',ar H H'->B.R H' (h x) u->Q u H')->sp [v] H Q E0
 ob:∀H,J H->FnO H f
 st:∀H H',J H->ar H H'->J H'
theorem _root_.L2.Ch3.le{α:Type}:∀{f:List (T3a α)}{lo hi:Int},Ch3 f lo hi->lo<=hi+1
 | [],_,_,h=>Int.le_of_eq h
 |t :: f,lo,hi,h=>by have:=L2.Ch3.le h.2.2;have:=h.2.1;lia
theorem dU{α:Type}(t:T3a α)(r:List (T3a α))(c:Int):vAt (t :: r) c=if c<=t.2.1 then some t.2.2 else vAt r c:=by
 unfold vAt;by_cases h:c<=t.2.1
 ·rw[find?_cons_of_pos (by simpa using h),if_pos h];rfl
 ·rw[find?_cons_of_neg (by simpa using h),if_neg h]
structure ET{α β γ:Type}(G:α->β->γ)(f:List (T3a α))(g:List (T3a β))(z:List (T3a γ))(lo hi:Int):Prop where
 ch:Ch3 z lo hi
 va:∀c x y,lo<=c->c<=hi->vAt f c=some x->vAt g c=some y->vAt z c=some (G x y)
 mem:∀t∈z,∃s∈f,∃u∈g,t.2.2=G s.2.2 u.2.2
 len:z.length<=f.length+g.length
 ne:f≠[]->g≠[]->z≠[]
section
variable{L M N:Type} [DecidableEq N] {h:L->M->N}
end
theorem SmF.le{L:Type}{b b':Nat}:∀{n:Nat}{F:Fm L n},SmF b n F->b<=b'->SmF b' n F
 |0,_,_,_=>trivial
 |n+1,F,h,l=>by
  obtain⟨f,rfl⟩:∃f:List (T3a (Fm L n)),(f:Fm L (n+1))=F:=⟨F,U⟩;obtain⟨h1,h2⟩:SmS b (SmF b n) f:=h;exact⟨le_trans h1 l,λt ht=>SmF.le (h2 t ht) l⟩
structure E6{L M N:Type} [DecidableEq L] [DecidableEq M] [DecidableEq N] (A:Lfp L)(B:Lfp M)(C:Lfp N)(P:Program)(w:World)(K:W.Frag)(mg:Str->Option Value)(base:Heap)(f:Addr)(h:L->M->N)(J:Hp->Prop):Prop where
 fn:∃sp,HFn P w K mg base 8 f sp/\∀(H:Hp)(v u:V)(x:L)(y:M)(Q:VK),J H->A.R H x v->B.R H y u->(∀r H',ar H H'->C.R H' (h x y) r->Q r H')->sp [v,u] H Q E0
 ob:∀H,J H->FnO H f
 st:∀H H',J H->ar H H'->J H'
theorem xM{ps:List (Int×Int)}{css:List (List Int)}{cs:List Int}{k:Nat}{p:Int×Int}{ks:List Int}{c:Int}(ep:ps[k]?=some p)(ek:css[k]?=some ks)(ec:cs[k]?=some c):(List.zipWith cw (List.zipWith (λp cs=>b9 p.1 p.2 cs) ps css) cs)[k]?=some (cw (b9 p.1 p.2 ks) c):=by
 rw[getElem?_zipWith,getElem?_zipWith,ep,ek,ec]
theorem nO{α:Type}:∀{f g:List (T3a α)}{lo hi:Int},Ch3 f lo hi->Ch3 g lo hi->Nbx (f.map (·.2.2))->Nbx (g.map (·.2.2))->(∀c,lo<=c->c<=hi->vAt f c=vAt g c)->f=g
 | [],[],_,_,_,_,_,_,_=>rfl
 | [],t :: g,lo,hi,hf,hg,_,_,_=>by
  have hf:lo=hi+1:=hf;have:=hg.2.1;have:=hg.2.2.le;lia
 |s :: f,[],lo,hi,hf,hg,_,_,_=>by
  have hg:lo=hi+1:=hg;have:=hf.2.1;have:=hf.2.2.le;lia
 |s :: f,t :: g,lo,hi,hf,hg,nf,ng,hv=>by
  obtain⟨f1,f2,f3⟩:=hf;obtain⟨g1,g2,g3⟩:=hg;have lf:=f3.le;have lg:=g3.le;have e0:=hv lo (by lia) (by lia);rw[dU,dU,if_pos f2,if_pos g2]at e0;have e0:s.2.2=t.2.2:=Option.some.inj e0;have nxt:∀{a b:T3a α}{r:List (T3a α)}{q:List (T3a α)},Ch3 r (a.2.1+1) hi->Nbx ((a :: r).map (·.2.2))->a.2.1<b.2.1->b.2.1<=hi->lo<=a.2.1->a.2.2=b.2.2->vAt (a :: r) (a.2.1+1)=vAt (b :: q) (a.2.1+1)->False:=λ{a b r q} hr hn h1 h2 h3 h4 h5=>by
   rw[dU,dU,if_neg (by lia),if_pos (by lia)]at h5;cases r with
   |nil =>
    have hr:a.2.1+1=hi+1:=hr;lia
   |cons u r =>
    rw[dU,if_pos hr.2.1]at h5;exact hn 0 _ _ U U (h4.trans (Option.some.inj h5).symm)
  have e1:s.2.1=t.2.1:=by
   rcases Int.lt_trichotomy s.2.1 t.2.1 with h|h|h
   ·exact(nxt f3 nf h (by lia) f2 e0 (hv _ (by lia) (by lia))).elim
   ·exact h
   ·exact(nxt g3 ng h (by lia) g2 e0.symm (hv _ (by lia) (by lia)).symm).elim
  have e2:s=t:=by
   obtain⟨s1,s2,s3⟩:=s;obtain⟨t1,t2,t3⟩:=t;simp only at f1 g1 e0 e1;rw[f1,g1,e0,e1]
  have tl:∀{α:Type}{a:α}{r:List α},Nbx (a :: r)->Nbx r:=λ{α a r} h i x y ex ey=>h (i+1) x y (by simpa using ex) (by simpa using ey)
  have e3:f=g:=nO f3 (by rw[e1];exact g3) (tl nf) (tl ng) λc c1 c2=>by
   have:=hv c (by lia) c2;rw[dU,dU,if_neg (by lia),if_neg (by lia)]at this;exact this
  rw[e2,e3]
section
variable{L:Type}
theorem _root_.L2.Tel.inv{n:Nat}{g:List (T3a (Fm L n))}{c:Int}{cs:List Int}{y:L}(h:Tel (n+1) (g:Fm L (n+1)) (c :: cs) y):∃(j:Nat)(t:T3a (Fm L n)),g[j]?=some t/\c<=t.2.1/\(∀(i:Nat)(u:T3a (Fm L n)),i<j->g[i]?=some u->u.2.1<c)/\Tel n t.2.2 cs y:=by
 cases h with
 |cons a b c d=>exact⟨_,_,a,b,c,d⟩
theorem kG{n:Nat}{F:Fm L n}{cs:List Int}{x:L}(h:Tel n F cs x):∀{y:L},Tel n F cs y->x=y:=by
 induction h with
 |nil x=>intro y hy;cases hy;rfl
 | @cons n f c cs x j t e1 e2 e3 _ ih =>
  intro y hy;obtain⟨j',t',a1,a2,a3,a4⟩:=hy.inv;have e:=(gQ e1 e2 e3).symm.trans (gQ a1 a2 a3);rw[←Option.some.inj e]at a4;exact ih a4
theorem nP:∀{n:Nat}{F G:Fm L n}{ps:List (Int×Int)},dR n F ps->dR n G ps->(∀cs,InB cs ps->∀x y,Tel n F cs x->Tel n G cs y->x=y)->F=G
 |0,F,G,ps,hs,_,hv=>by
  have hs:ps=[]:=hs;subst hs;exact hv [] .nil F G (.nil F) (.nil G)
 |n+1,F,G,ps,hs,hs',hv=>by
  obtain⟨f,rfl⟩:∃f:List (T3a (Fm L n)),(f:Fm L (n+1))=F:=⟨F,U⟩;obtain⟨g,rfl⟩:∃g:List (T3a (Fm L n)),(g:Fm L (n+1))=G:=⟨G,U⟩;obtain⟨p,r,rfl,hne,hch,hnb,fD⟩:ShS (dR n) f ps:=hs;obtain⟨p',r',e,E7,Be,CU,Bf⟩:ShS (dR n) g (p :: r):=hs';cases e;refine nO hch Be hnb CU λc c1 c2=>?_
  obtain⟨j,t,e1,e2,e3,e4,e5⟩:=hch.at c1 c2;obtain⟨j',t',a1,a2,a3,a4,a5⟩:=Be.at c1 c2;rw[e5,a5];rw[nP (fD t (Fp e1)) (Bf t' (Fp a1)) λcs hin x y hx hy=>hv (c :: cs) (.cons c1 c2 hin) x y (.cons e1 e3 e4 hx) (.cons a1 a3 a4 hy)]
end
theorem jC{α:Type}:∀{f:List (T3a α)}{lo hi:Int}{j:Nat}{s:T3a α},Ch3 f lo hi->f[j]?=some s->lo<=s.1/\s.1<=s.2.1/\s.2.1<=hi/\(∀t,f[j+1]?=some t->t.1=s.2.1+1)/\(∀(i:Nat)(u:T3a α),i<j->f[i]?=some u->u.2.1<s.1)/\(j=0->s.1=lo)
 | [],_,_,j,s,_,e=>by simp at e
 |t :: f,lo,hi,0,s,h,e=>by
  cases e;have h1:=h.1;have h2:=h.2.1;have h3:=h.2.2.le;refine⟨by lia,by lia,by lia,λt e=>?_,λi u hi=>absurd hi (not_lt_zero i),λ_=>h1⟩;cases f with
  |nil=>simp at e
  |cons u f=>simp at e;subst e;exact h.2.2.1
 |t :: f,lo,hi,j+1,s,h,e=>by
  have e':f[j]?=some s:=by simpa using e
  obtain⟨a1,a2,a3,a4,a5,a6⟩:=jC (f:=f) h.2.2 e';have h2:=h.2.1;refine⟨by lia,a2,a3,λt e=>a4 t (by simpa using e),λi u hi eu=>?_,λz=>by lia⟩
  match i,eu with
  |0,eu=>cases eu;lia
  |i+1,eu=>exact a5 i u (by lia) (by simpa using eu)
section
variable{L:Type}
theorem oJ{n:Nat}{f:List (T3a (Fm L n))}{lo hi:Int}{j:Nat}{t:T3a (Fm L n)}{c:Int}{cs:List Int}{x:L}(h:Ch3 f lo hi)(e:f[j]?=some t)(h1:t.1<=c)(h2:c<=t.2.1)(hx:Tel n t.2.2 cs x):Tel (n+1) (f:Fm L (n+1)) (c :: cs) x:=by
 obtain⟨_,_,_,_,a5,_⟩:=jC h e;exact .cons e h2 (λi u hi eu=>by have:=a5 i u hi eu;lia) hx
end
structure LfS(P:Program)(w:World)(K:W.Frag)(mg:Str->Option Value)(base:Heap)(f:Addr)(m:Nat)(g:List Int->Int)(J:Hp->Prop):Prop where
 fn:∃sp,HFn P w K mg base 8 f sp/\∀(H:Hp)(a:Addr)(cs:List Int)(Q:VK),J H->cs.length=m->H a=some (.lst (cs.map V.int))->(∀H',ar H H'->Q (.int (g cs)) H')->sp [.ref a] H Q E0
 ob:∀H,J H->FnO H f
 st:∀H H',J H->ar H H'->J H'
theorem kn{α:Type}:∀{f:List (T3a α)}{lo hi:Int},Ch3 f lo hi->(f.map (·.1)).Pairwise (· < ·)/\∀t∈f,lo<=t.1
 | [],_,_,_=>⟨.nil,λt ht=>by cases ht⟩
 |t :: f,lo,hi,h=>by
  obtain⟨a,b⟩:=kn h.2.2;have h1:=h.1;have h2:=h.2.1;refine⟨.cons (λx hx=>?_) a,λu hu=>?_⟩
  ·obtain⟨u,hu,rfl⟩:=mem_map.mp hx;have:=b u hu;show t.1<u.1;lia
  ·rcases mem_cons.mp hu with rfl|hu
   ·lia
   ·have:=b u hu;lia
theorem ur{n:Nat}(h:n<=2000):n<sizeLine:=lt_of_le_of_lt h (by decide)
theorem dW{α β:Type}{R:α->β->Prop}:∀{xs:List α}{as:List β}{i:Nat}{x:α},Paired R xs as->xs[i]?=some x->∃a,as[i]?=some a/\R x a
 |_,_,_,_,.nil,e=>by simp at e
 |_,_,0,_,.cons (b:=b) h _,e=>by simp at e;subst e;exact⟨b,U,h⟩
 |_,_,i+1,x,.cons _ tl,e=>by
  obtain⟨a,q⟩:=dW (i:=i) (x:=x) tl (by simpa using e);exact⟨a,by simpa using q.1,q.2⟩
theorem lO{α β:Type}{R:α->β->Prop}{xs ys:List α}{as bs:List β}(h:Paired R xs as)(h':Paired R ys bs):Paired R (xs++ys) (as++bs):=by
 induction h with
 |nil=>exact h'
 |cons a _ ih=>exact .cons a ih
theorem wb{K:W.Frag}{H:Hp}{Q:VK}{a b:Addr}{xs ys:List V}(ha:H a=some (.tup xs))(hb:H b=some (.tup ys))(hz:xs.length+ys.length<=sizeLine)(q:∀(r:Addr)(H':Hp),ar H H'->H' r=some (.tup (xs++ys))->Q (.ref r) H'):qX K (.ref a) (.ref b) H Q:=by
 refine⟨a,b,xs,ys,U,U,SqT.of ha,SqT.of hb,hz,λz=>?_,λ_ z=>?_,λ_ _ p hp=>q p _ (ai hp _) ab⟩
 ·subst z;exact q b H (ar.refl _) hb
 ·subst z;exact q a H (ar.refl _) (by rw[append_nil];exact ha)
def BxA(H:Hp)(a:Addr)(B:List (Int×Int)):Prop:=∃xs,H a=some (.tup xs)/\PL H xs B
theorem BxA.mono{H H':Hp}{a:Addr}{B:List (Int×Int)}(h:BxA H a B)(s:cj H H'):BxA H' a B:=by obtain⟨xs,e,p⟩:=h;exact⟨xs,s _ _ e,p.mono s⟩
def bxs:(n:Nat)->Fm Int n->List (List (Int×Int)×Int)
 |0,f=>[([],f)]
 |n+1,l=>List.flatMap (λe:T3a (Fm Int n)=>(bxs n e.2.2).map λq=>((e.1,e.2.1) :: q.1,q.2)) l
theorem oK(n:Nat)(l m:List (T3a (Fm Int n))):bxs (n+1) (show Fm Int (n+1)from l++m)=bxs (n+1) (show Fm Int (n+1)from l)++bxs (n+1) (show Fm Int (n+1)from m):=List.flatMap_append
theorem sU(n:Nat)(e:T3a (Fm Int n)):bxs (n+1) (show Fm Int (n+1) from[e])=(bxs n e.2.2).map λq=>((e.1,e.2.1) :: q.1,q.2):=by
 show List.flatMap (λe:T3a (Fm Int n)=>(bxs n e.2.2).map λq=>((e.1,e.2.1) :: q.1,q.2)) [e]=_;rw[List.flatMap_singleton]
def BxL(H:Hp):List V->List (List (Int×Int)×Int)->Prop:=Paired λx q=>∃(t b:Addr),x=.ref t/\H t=some (.tup [.ref b,.int q.2])/\BxA H b q.1
theorem BxL.mono{H H':Hp}{xs:List V}{L:List (List (Int×Int)×Int)}(h:BxL H xs L)(s:cj H H'):BxL H' xs L:=Paired.mapP h λ_ _ ⟨t,b,e,z,p⟩=>⟨t,b,e,s _ _ z,p.mono s⟩
theorem BxL.length{H:Hp}{xs:List V}{L:List (List (Int×Int)×Int)}(h:BxL H xs L):xs.length=L.length:=Paired.length h
def vol(B:List (Int×Int)):Int:=B.foldl (λv p=>v*(p.2-p.1+1)) 1
theorem p5{B:List (Int×Int)}{i:Nat}{p:Int×Int}(e:B[i]?=some p):vol (B.take (i+1))=vol (B.take i)*(p.2-p.1+1):=by unfold vol;rw[take_snoc e,foldl_append];rfl
theorem wc{ps:List (Int×Int)}{mss:List (List Int)}{b:Nat}(h:∀j,gl ps mss j<=b):∀n,gr ps mss n<=b^n
 |0=>le_refl _
 |n+1=>by
  show gr ps mss n*gl ps mss n<=b^n*b;exact mul_le_mul (wc h n) (h n)
theorem we{n:Nat}{f:List (T3a (Fm Int n))}{q:List (Int×Int)×Int}:q∈bxs (n+1) (f:Fm Int (n+1))↔∃e∈f,∃r∈bxs n e.2.2,q=((e.1,e.2.1) :: r.1,r.2):=by
 constructor
 ·intro h;obtain⟨e,he,hq⟩:=mem_flatMap.mp h;obtain⟨r,hr,rfl⟩:=mem_map.mp hq;exact⟨e,he,r,hr,U⟩
 ·rintro⟨e,he,r,hr,rfl⟩;exact mem_flatMap.mpr ⟨e,he,mem_map.mpr ⟨r,hr,U⟩⟩
structure zQ(B ps:List (Int×Int)):Prop where
 len:B.length=ps.length
 get:∀(k:Nat)(b p:Int×Int),B[k]?=some b->ps[k]?=some p->p.1<=b.1/\b.1<=b.2/\b.2<=p.2
theorem p6:∀{n:Nat}{F:Fm Int n}{ps:List (Int×Int)},dR n F ps->∀q∈bxs n F,zQ q.1 ps/\Tel n F (q.1.map (·.1)) q.2/\Tel n F (q.1.map (·.2)) q.2
 |0,F,ps,hs,q,hq=>by
  have hs:ps=[]:=hs;have hq:q∈[(([]:List (Int×Int)),F)]:=hq;rw[mem_singleton.mp hq,hs];exact⟨⟨U,λk b p e=>by simp at e⟩,.nil _,.nil _⟩
 |n+1,F,ps,hs,q,hq=>by
  obtain⟨f,rfl⟩:∃f:List (T3a (Fm Int n)),(f:Fm Int (n+1))=F:=⟨F,U⟩;obtain⟨p,r,rfl,hne,hch,hnb,fD⟩:ShS (dR n) f ps:=hs;obtain⟨e,he,q',hq',rfl⟩:=we.mp hq;obtain⟨j,hj,ej⟩:=List.getElem_of_mem he;have ej:f[j]?=some e:=by rw[Fn hj,ej]
  obtain⟨a1,a2,a3,-,-,-⟩:=jC hch ej;obtain⟨b1,b2,b3⟩:=p6 (fD e he) q' hq';refine⟨⟨by rw[length_cons,length_cons,b1.len],λk b p' e1 e2=>?_⟩,oJ hch ej (Int.le_refl _) a2 b2,oJ hch ej a2 (Int.le_refl _) b3⟩
  match k,e1,e2 with
  |0,e1,e2=>cases e1;cases e2;exact⟨a1,a2,a3⟩
  |k+1,e1,e2=>exact b1.get k b p' (by simpa using e1) (by simpa using e2)
inductive Asc:List (Int×Int)->List (Int×Int)->Prop
 |here {a b:Int×Int}{A B:List (Int×Int)}:a.1<b.1->a.2<b.1->Asc (a :: A) (b :: B)
 |there {a:Int×Int}{A B:List (Int×Int)}:Asc A B->Asc (a :: A) (a :: B)
theorem sV{A B:List (Int×Int)}(h:Asc A B):∃(k:Nat)(a b:Int×Int),A[k]?=some a/\B[k]?=some b/\a.1<b.1/\a.2<b.1/\∀(i:Nat),i<k->A[i]?=B[i]?:=by
 induction h with
 | @here a b A B h1 h2=>exact⟨0,a,b,U,U,h1,h2,λi hi=>absurd hi (not_lt_zero i)⟩
 | @there a A B _ ih =>
  obtain⟨k,x,y,e1,e2,h1,h2,h3⟩:=ih;refine⟨k+1,x,y,by simpa using e1,by simpa using e2,h1,h2,λi hi=>?_⟩
  match i with
  |0=>rfl
  |i+1=>simpa using h3 i (by lia)
theorem wg{α:Type}:∀{f:List (T3a α)}{lo hi:Int},Ch3 f lo hi->f.Pairwise λa b=>a.1<b.1/\a.2.1<b.1
 | [],_,_,_=>.nil
 |t :: f,lo,hi,h=>by
  have h1:=h.1;have h2:=h.2.1;refine .cons (λu hu=>?_) (wg h.2.2);have:=(kn h.2.2).2 u hu;exact⟨by lia,by lia⟩
theorem wj:∀{n:Nat}{F:Fm Int n}{ps:List (Int×Int)},dR n F ps->(bxs n F).Pairwise λq r=>Asc q.1 r.1
 |0,F,_,_=>pairwise_singleton _ _
 |n+1,F,ps,hs=>by
  obtain⟨f,rfl⟩:∃f:List (T3a (Fm Int n)),(f:Fm Int (n+1))=F:=⟨F,U⟩;obtain⟨p,r,rfl,hne,hch,hnb,fD⟩:ShS (dR n) f ps:=hs;show(List.flatMap (λe:T3a (Fm Int n)=>(bxs n e.2.2).map λq=>((e.1,e.2.1) :: q.1,q.2)) f).Pairwise _;rw[List.pairwise_flatMap];refine⟨λe he=>?_,(wg hch).imp λ{a b} hab x hx y hy=>?_⟩
  ·rw[List.pairwise_map];exact(wj (fD e he)).imp λh=>.there h
  ·obtain⟨x',_,rfl⟩:=mem_map.mp hx;obtain⟨y',_,rfl⟩:=mem_map.mp hy;exact .here hab.1 hab.2
theorem zR(B:List (Int×Int)):∀v:Int,B.foldl (λv p=>v*(p.2-p.1+1)) v=v*B.foldl (λv p=>v*(p.2-p.1+1)) 1:=by
 induction B with
 |nil=>intro v;exact(mul_one v).symm
 |cons p B ih =>
  intro v;rw[foldl_cons,foldl_cons,ih,ih (1*(p.2-p.1+1)),one_mul,Int.mul_assoc]
theorem wm(p:Int×Int)(B:List (Int×Int)):vol (p :: B)=(p.2-p.1+1)*vol B:=by
 unfold vol;rw[foldl_cons,zR,one_mul]
def d7:List (List (Int×Int)×Int)->Int
 | []=>0
 |q :: r=>vol q.1+d7 r
theorem p7:∀a b:List (List (Int×Int)×Int),d7 (a++b)=d7 a+d7 b
 | [],b=>(zero_add _).symm
 |q :: a,b=>by show vol q.1+d7 (a++b)=vol q.1+d7 a+d7 b;rw[p7 a b,add_assoc]
theorem uu{l:List (List (Int×Int)×Int)}{i:Nat}{q:List (Int×Int)×Int}(e:l[i]?=some q):d7 (l.take (i+1))=d7 (l.take i)+vol q.1:=by
 rw[take_snoc e,p7];show _+(vol q.1+0)=_;rw[add_zero]
theorem p8{α β:Type}{b:Nat}{F:α->List β}:∀{l:List α},(∀x∈l,(F x).length<=b)->(l.flatMap F).length<=l.length*b
 | [],_=>zero_le _
 |x :: l,h=>by
  have h1:=h x mem_cons_self;have h2:=p8 λy hy=>h y (mem_cons_of_mem _ hy)
  rw[List.flatMap_cons,length_append,length_cons,Nat.succ_mul];lia
theorem wo{b:Nat}{g:List Int->Int}:∀{cols:List (List (Int×Int))}{ps:List (Int×Int)},gn cols ps->(∀c∈cols,c.length<=b)->∀ah:List Int,(bxs cols.length (lay g cols ah)).length<=b^cols.length
 | [],_,_,_,_=>le_refl _
 |c :: cols,ps,h,hb,ah=>by
  cases h with
  | @cons _ _ p ps hne hc h =>
  have k:=fi (vL (λq=>lay g cols (ah++[q.1])) hc);have h1:(fK (c.map λp=>((p.1,p.2,lay g cols (ah++[p.1])):T3a (Fm Int cols.length)))).length<=b:=le_trans (nN _) (by rw[length_map];exact hb c mem_cons_self);have h2:(bxs (cols.length+1) (show Fm Int (cols.length+1)from fK (c.map λp=>((p.1,p.2,lay g cols (ah++[p.1])):T3a (Fm Int cols.length))))).length<=(fK (c.map λp=>((p.1,p.2,lay g cols (ah++[p.1])):T3a (Fm Int cols.length)))).length*b^cols.length:=p8 λt ht=>by
   rw[length_map];obtain⟨t',a1,a2⟩:=k.mem t ht;obtain⟨q,_,rfl⟩:=mem_map.mp a1;rw[←a2];exact wo h (λc hc=>hb c (mem_cons_of_mem _ hc)) _
  show(bxs (cols.length+1) _).length<=b^(cols.length+1);rw[pow_succ,Nat.mul_comm];exact le_trans h2 (Nat.mul_le_mul_right _ h1)
theorem rJ{K:W.Frag}{H:Hp}{n:Nat}{a b:Addr}{xs ys:List V}(ha:H a=some (.tup xs))(hb:H b=some (.tup ys))(hl:xs.length=ys.length)(h:∀(j:Nat)(x y:V),xs[j]?=some x->ys[j]?=some y->DEq K H n x y true):DEq K H (n+1) (.ref a) (.ref b) true:=by
 by_cases e:a=b
 ·subst e;exact .same a
 ·have:=DEq.tup (f:=λ_=>true) e (SqT.of ha) (SqT.of hb) h;rw[all_eq_true.mpr (λ_ _=>U),hl,Bool.true_and,beq_self_eq_true]at this;exact this
theorem sW{K:W.Frag}{H:Hp}{n:Nat}{a b:Addr}{p:Int×Int}(ha:H a=some (.tup [.int p.1,.int p.2]))(hb:H b=some (.tup [.int p.1,.int p.2])):DEq K H (n+1) (.ref a) (.ref b) true :=
 rJ ha hb U λj x y e1 e2=>by
  rw[e1]at e2;cases e2;have:∃c:Int,x=.int c:=by
   match j,e1 with
   |0,e1=>cases e1;exact⟨_,U⟩
   |1,e1=>cases e1;exact⟨_,U⟩
   |j+2,e1=>simp at e1
  obtain⟨c,rfl⟩:=this;have:=DEq.flat (K:=K) (H:=H) (n:=n) (x:=.int c) (y:=.int c) U U;rw[show eqV (.int c) (.int c)=true by simp[eqV]]at this;exact this
theorem zS{K:W.Frag}{H:Hp}{n:Nat}{a b:Addr}{B:List (Int×Int)}(ha:BxA H a B)(hb:BxA H b B):DEq K H (n+2) (.ref a) (.ref b) true:=by
 obtain⟨xs,ea,hx⟩:=ha;obtain⟨ys,eb,hy⟩:=hb;refine rJ ea eb (by rw[hx.length,hy.length]) λj x y e1 e2=>?_
 obtain⟨p,t,ep,rfl,ht⟩:=hx.get e1;obtain⟨p',t',ep',rfl,ht'⟩:=hy.get e2;rw[ep]at ep';cases ep';exact sW ht ht'
theorem zT{K:W.Frag}{H:Hp}{xs ys:List V}{L:List (List (Int×Int)×Int)}(hx:BxL H xs L)(hy:BxL H ys L){j:Nat}{x y:V}(e1:xs[j]?=some x)(e2:ys[j]?=some y):DEq K H 60 x y true:=by
 obtain⟨q,eq,t,b,rfl,ht,hb⟩:=dW hx e1;obtain⟨q',eq',t',b',rfl,ht',hb'⟩:=dW hy e2;rw[eq]at eq';cases eq';refine rJ (n:=59) ht ht' U λj x y e1 e2=>?_
 match j,e1,e2 with
 |0,e1,e2=>cases e1;cases e2;exact zS (n:=57) hb hb'
 |1,e1,e2 =>
  cases e1;cases e2;have:=DEq.flat (K:=K) (H:=H) (n:=59) (x:=.int q.2) (y:=.int q.2) U U;rw[show eqV (.int q.2) (.int q.2)=true by simp[eqV]]at this;exact this
 |j+2,e1,_=>simp at e1
theorem zU{K:W.Frag}{H:Hp}{n:Nat}{t u:Addr}{a c:Int×Int}(ht:H t=some (.tup [.int a.1,.int a.2]))(hu:H u=some (.tup [.int c.1,.int c.2]))(h:a.1≠c.1):DEq K H (n+1) (.ref t) (.ref u) false:=by
 have ne:t≠u:=λz=>by
  rw[z,hu]at ht;injection ht with ht;injection ht with ht;injection ht with h1 h2;injection h1 with h1;exact h h1.symm
 have:=DEq.tup (K:=K) (n:=n) (f:=λj=>if j=0 then eqV (.int a.1) (.int c.1)else eqV (.int a.2) (.int c.2)) ne (SqT.of ht) (SqT.of hu) λj x y e1 e2=>by
  match j,e1,e2 with
  |0,e1,e2=>cases e1;cases e2;exact DEq.flat U U
  |1,e1,e2=>cases e1;cases e2;exact DEq.flat U U
  |j+2,e1,_=>simp at e1
 have e:eqV (.int a.1) (.int c.1)=false:=by rw[vO];exact decide_eq_false h
 have r:((List.range (min [V.int a.1,V.int a.2].length [V.int c.1,V.int c.2].length)).all (λj=>if j=0 then eqV (.int a.1) (.int c.1)else eqV (.int a.2) (.int c.2)) && [V.int a.1,V.int a.2].length == [V.int c.1,V.int c.2].length)=false:=by
  rw[List.all_eq_false.mpr ⟨0,mem_range.mpr (by show 0<2;decide),by rw[if_pos U,e];decide⟩];rfl
 rw[r]at this;exact this
theorem wq{α:Type}{R:α->α->Prop}{l:List α}(h:l.Pairwise R){i j:Nat}{x y:α}(hij:i<j)(ex:l[i]?=some x)(ey:l[j]?=some y):R x y:=by
 obtain⟨h1,rfl⟩:=Fo.mp ex;obtain⟨h2,rfl⟩:=Fo.mp ey;exact(pairwise_iff_getElem.mp h) i j h1 h2 hij
def TD(cT cN cW:Addr)(H:Hp)(t:Addr)(dv:List V)(bs:Prs)(rws:List Rw):Prop:=∃(rl dx dl:Addr)(fs:List (Str×V))(xs:List V),H t=some (.ins cT dx fs)/\fs.lookup (Str.ofString "rows")=some (.ref rl)/\fs.lookup (Str.ofString "domains")=some (.ref dl)/\H dl=some (.lst dv)/\aI dv bs (Dom cN cW H)/\H rl=some (.lst xs)/\RL NT H xs rws
theorem TD.same{cT cN cW:Addr}{H H':Hp}{t:Addr}{dv:List V}{bs:Prs}{rws:List Rw}(h:TD cT cN cW H t dv bs rws)(s:ar H H'):TD cT cN cW H' t dv bs rws:=by
 obtain⟨rl,dx,dl,fs,xs,h1,h2,h3,h4,h5,h6,h7⟩:=h;exact⟨rl,dx,dl,fs,xs,s _ _ h1,h2,h3,s _ _ h4,aI.mono h5 λ_ _ p=>p.same s,s _ _ h6,h7.same s⟩
theorem p9{H:Hp}{D:Addr}{o:HO}:hide (upd H D o) D=hide H D:=by
 funext b
 unfold hide;by_cases h:b=D
 ·rw[if_pos h,if_pos h]
 ·rw[if_neg h,if_neg h,aw h]
theorem nQ{H H':Hp}{D:Addr}(s:ar H H'):ar (hide H D) (hide H' D):=λb o e=>by
 unfold hide at e⊢;by_cases h:b=D
 ·rw[if_pos h]at e;cases e
 ·rw[if_neg h]at e⊢;exact s b o e
theorem sX(H:Hp)(D:Addr):ar (hide H D) H:=λb o e=>by
 unfold hide at e;by_cases h:b=D
 ·rw[if_pos h]at e;cases e
 ·rw[if_neg h]at e;exact e
theorem MLs.nil{H:Hp}:MLs H [] []:=⟨U,λj ms e=>by simp at e⟩
theorem MLs.snoc{H:Hp}{as:List Addr}{mss:List (List Int)}{r:Addr}{ms:List Int}(h:MLs H as mss)(e:H r=some (.lst (ms.map V.int))):MLs H (as++[r]) (mss++[ms]):=by
 refine⟨by rw[length_append,length_append,h.1];rfl,λj m em=>?_⟩;by_cases hj:j<mss.length
 ·rw[getElem?_append_left hj]at em;obtain⟨r',e1,e2⟩:=h.2 j m em;exact⟨r',by rw[getElem?_append_left (by rw[h.1];exact hj)];exact e1,e2⟩
 ·rw[getElem?_append_right (by lia)]at em;have hj0:j-mss.length=0:=by
   have:=(Fo.mp em).1;rw[length_singleton]at this;lia
  rw[hj0]at em;cases em;exact⟨r,by rw[getElem?_append_right (by rw[h.1];lia),h.1,hj0];rfl,e⟩
def rmk(c:Nat)(b:Int×Int)(w:Rw):List Int:=(ends (w.1.getD c [])).filter λt=>decide (b.1<t) && decide (t<=b.2)
def MkC(rws:List Rw)(c:Nat)(b:Int×Int)(x:Int):Prop:=∃w∈rws,x∈rmk c b w
theorem qc:∀R:Prs,(ends R).length=2*R.length
 | []=>rfl
 |p :: R=>by
  rw[tN,length_cons,length_cons,qc R,length_cons];lia
theorem xN(c:Nat)(b:Int×Int){w:Rw}(h:(w.1.getD c []).length<=6):(rmk c b w).length<=12:=le_trans (length_filter_le _ _) (by rw[qc];lia)
theorem qd(c:Nat)(b:Int×Int):∀{rws:List Rw},(∀w∈rws,(w.1.getD c []).length<=6)->((rws.map (rmk c b)).flatten).length<=12*rws.length
 | [],_=>le_refl _
 |w :: rws,h=>by
  have h1:=xN c b (h w (.head _));have h2:=qd c b (rws:=rws) λw hw=>h w (.tail _ hw)
  rw[map_cons,List.flatten_cons,length_append,length_cons];lia
theorem sY{rws:List Rw}{c:Nat}{b:Int×Int}{x:Int}:x∈(rws.map (rmk c b)).flatten↔MkC rws c b x:=by
 rw[List.mem_flatten];constructor
 ·rintro⟨l,hl,hx⟩;obtain⟨w,hw,rfl⟩:=mem_map.mp hl;exact⟨w,hw,hx⟩
 ·rintro⟨w,hw,hx⟩;exact⟨_,mem_map.mpr ⟨w,hw,U⟩,hx⟩
def rK:HO->Prop
 | .frz _ _=>False
 | .tbl _=>False
 |_=>True
def So(H H':Hp):Prop:=∀d o,rK o->H d=some o->H' d=some o
theorem So.of{H H':Hp}(s:ar H H'):So H H':=λd o _ e=>s d o e
theorem So.trans{H H1 H2:Hp}(a:So H H1)(b:So H1 H2):So H H2:=λd o p e=>b d o p (a d o p e)
theorem So.tups{H H':Hp}(s:So H H'):cj H H':=λd xs e=>s d _ trivial e
theorem So.lst{H H':Hp}{a:Addr}{xs:List V}(s:So H H')(e:H a=some (.lst xs)):H' a=some (.lst xs):=s _ _ trivial e
theorem So.hide{H:Hp}{cs:List Addr}(f:Fzs H cs):So H (hideL H cs):=λd o p e=>by
 rw[bM (f.out e λz q=>by rw[q]at p;exact p)];exact e
section
variable{H H':Hp}(s:So H H')
include s
theorem SpA.so{N:Addr->Prop}{l:Addr}{ps:Prs}(h:SpA N H l ps):SpA N H' l ps:=by obtain⟨n,ys,e,p⟩:=h;exact⟨n,ys,s _ _ trivial e,p.mono s.tups⟩
theorem RL.so{N:Addr->Prop}{xs:List V}{rws:List Rw}(h:RL N H xs rws):RL N H' xs rws:=aI.mono h λ_ _ ⟨ce,cs,e,n,f,c⟩=>⟨ce,cs,s _ _ trivial e,n,s _ _ trivial f,aI.mono c λ_ _ p=>SpA.so s p⟩
theorem Dom.so{cN cW a:Addr}{b:Int×Int}(h:Dom cN cW H a b):Dom cN cW H' a b:=by obtain⟨C,hC,dx,fs,e,r⟩:=h;exact⟨C,hC,dx,fs,s _ _ trivial e,r⟩
theorem Tbl.so{cT cN cW t:Addr}{rws:List Rw}{i:Nat}{o:Int×Int}(h:Tbl cT cN cW H t rws i o):Tbl cT cN cW H' t rws i o:=by
 obtain⟨rl,ou,dx,fs,xs,wy,h1,h2,h3,h4,h5,h6,h7,h8,h9⟩:=h;exact⟨rl,ou,dx,fs,xs,wy,s _ _ trivial h1,h2,h3,h4,s _ _ trivial h5,RL.so s h6,h7,Dom.so s h8,h9⟩
theorem MLs.so{as:List Addr}{mss:List (List Int)}(h:MLs H as mss):MLs H' as mss:=⟨h.1,λj ms e=>let ⟨r,e1,e2⟩:=h.2 j ms e;⟨r,e1,s _ _ trivial e2⟩⟩
theorem TD.so{cT cN cW t:Addr}{dv:List V}{bs:Prs}{rws:List Rw}(h:TD cT cN cW H t dv bs rws):TD cT cN cW H' t dv bs rws:=by
 obtain⟨rl,dx,dl,fs,xs,h1,h2,h3,h4,h5,h6,h7⟩:=h;exact⟨rl,dx,dl,fs,xs,s _ _ trivial h1,h2,h3,s _ _ trivial h4,aI.mono h5 λ_ _ p=>Dom.so s p,s _ _ trivial h6,RL.so s h7⟩
end
theorem wt{ms L:List Int}(pw:ms.Pairwise (· < ·))(h:∀x∈ms,x∈L):ms.length<=L.length:=bC (pw.imp λh=>Int.ne_of_lt h) h
structure RfH(cT cN cW:Addr)(H:Hp)(t:Addr)(dv:List V)(bs:Prs)(rws:List Rw)(L:Nat->List Int)(kk:Nat)(i:Nat)(o:Int×Int):Prop where
 td:TD cT cN cW H t dv bs rws
 tb:Tbl cT cN cW H t rws i o
 b4:bs.length<=4
 r60:rws.length<=60
 row:∀x∈rws,x.1.length=bs.length/\∀c,(x.1.getD c []).length<=6
 mrk:∀(c:Nat)(b:Int×Int),bs[c]?=some b->(L c).length<=kk/\∀x,MkC rws c b x->x∈L c
 few:(kk+1)^bs.length<=300
 k57:kk<=57
 le:∀p∈bs,p.1<=p.2
theorem RfH.so{cT cN cW t:Addr}{H H':Hp}{dv:List V}{bs:Prs}{rws:List Rw}{L:Nat->List Int}{kk i:Nat}{o:Int×Int}(h:RfH cT cN cW H t dv bs rws L kk i o)(s:So H H'):RfH cT cN cW H' t dv bs rws L kk i o:=⟨TD.so s h.td,Tbl.so s h.tb,h.b4,h.r60,h.row,h.mrk,h.few,h.k57,h.le⟩
theorem RfH.gr{cT cN cW t:Addr}{H:Hp}{dv:List V}{bs:Prs}{rws:List Rw}{L:Nat->List Int}{kk i:Nat}{o:Int×Int}(h:RfH cT cN cW H t dv bs rws L kk i o)(mss:List (List Int))(hl:mss.length=bs.length)(hm:∀(c:Nat)(b:Int×Int)(ms:List Int),bs[c]?=some b->mss[c]?=some ms->ms.Pairwise (· < ·)/\∀x,x∈ms↔MkC rws c b x):My.gr bs mss bs.length<=300 :=
 le_trans (wc (b:=kk+1) (zP λms hms=>by
  obtain⟨c,ec⟩:=getElem?_of_mem hms;have hc:=(Fo.mp ec).1;obtain⟨b,eb⟩:∃b,bs[c]?=some b:=⟨_,Fn (by lia)⟩;exact⟨L c,(h.mrk c b eb).1,λx hx=>(h.mrk c b eb).2 x (((hm c b ms eb ec).2 x).mp hx)⟩) _) h.few
def wu(K:W.Frag)(H:Hp):Prop:=∀z,W.tabIn K "row_form" = some z->c9 H z.2 [(pS Y76,"row_form.<locals>.<lambda>")]
structure rL(bs:Prs)(rws:List Rw)(cols:List (List (Int×Int))):Prop where
 ok:gn cols bs
 ex:∃css:List (List Int),css.length=bs.length/\cols=List.zipWith (λp cs=>b9 p.1 p.2 cs) bs css/\∀(j:Nat)(p:Int×Int)(cs:List Int),bs[j]?=some p->css[j]?=some cs->cs.Pairwise (· < ·)/\∀x,x∈cs↔MkC rws j p x
theorem wx{rws:List Rw}{c:Nat}{b:Int×Int}{x:Int}(h:MkC rws c b x):b.1<x/\x<=b.2:=by
 obtain⟨w_,_,hx⟩:=h;have:=(mem_filter.mp hx).2;rw[and_eq_true,decide_eq_true_iff,decide_eq_true_iff]at this;exact this
abbrev mkg(rws:List Rw)(cd:List Int):Int:=((msk (gX rws cd) rws.length:Nat):Int)
theorem BxL.get:∀{H:Hp}{xs:List V}{L:List (Prs×Int)}{j:Nat}{x:V},BxL H xs L->xs[j]?=some x->∃q t b,L[j]?=some q/\x=.ref t/\H t=some (.tup [.ref b,.int q.2])/\BxA H b q.1
 |_,_,_,j,_,.nil,e=>by simp at e
 |_,_,_,0,_,.cons h _,e=>by cases e;obtain⟨t,b,a1,a2,a3⟩:=h;exact⟨_,t,b,U,a1,a2,a3⟩
 |_,_,_,j+1,_,.cons _ r,e=>BxL.get r (j:=j) (by simpa using e)
structure SpG(ps:List Int)(m:Int)(n:Nat)(qs:Prs):Prop where
 le:∀p∈qs,p.1<=p.2
 pw:qs.Pairwise λp q=>p.2<q.1
 bel:∀a,ps[n]?=some a->∀p∈qs,p.2<a
 iff:∀x,inP qs x=true↔∃(k:Nat)(a b:Int),k<n/\ps[k]?=some a/\ps[k+1]?=some b/\bH m k=true/\a<=x/\x<b
 ep:∀p∈qs,p.1∈ps/\p.2+1∈ps
 lenA:2*qs.length<=n+1
 lenB:(∀p∈qs,∀a,ps[n]?=some a->p.2≠a-1)->2*qs.length<=n
theorem SpG.nil{ps:List Int}{m:Int}:SpG ps m 0 []:=⟨(λp h=>by cases h),List.Pairwise.nil,(λ_ _ p h=>by cases h),λx=>⟨(λh=>by cases h),λ⟨k,_,_,h,_⟩=>absurd h (not_lt_zero _)⟩,(λp h=>by cases h),by decide,λ_=>le_refl _⟩
section
variable{ps:List Int}{m:Int}{n:Nat}{a b:Int}(hp:Pts ps)(ea:ps[n]?=some a)(eb:ps[n+1]?=some b)
include hp ea eb
theorem rM:a<b:=vm hp.asc ea eb (by lia)
theorem SpG.skip{qs:Prs}(h:SpG ps m n qs)(hb:bH m n=false):SpG ps m (n+1) qs:=by
 have hab:=rM hp ea eb;refine⟨h.le,h.pw,λa' e p hq=>?_,λx=>(h.iff x).trans ⟨λ⟨k,u,v,hk,r⟩=>⟨k,u,v,by lia,r⟩,λ⟨k,u,v,hk,e1,e2,e3,r⟩=>⟨k,u,v,?_,e1,e2,e3,r⟩⟩,h.ep,?_,λ_=>h.lenA⟩
 ·rw[eb]at e;cases e;have:=h.bel a ea p hq;lia
 ·by_cases q:k=n
  ·rw[q,hb]at e3;cases e3
  ·lia
 ·have:=h.lenA;lia
theorem SpG.put{qs:Prs}(h:SpG ps m n qs)(hb:bH m n=true)(hl:∀p∈qs,p.2≠a-1):SpG ps m (n+1) (qs++[(a,b-1)]):=by
 have hab:=rM hp ea eb;refine⟨λp hq=>?_,?_,λa' e p hq=>?_,λx=>?_,λp hq=>?_,?_,λ_=>?_⟩
 ·rcases mem_append.mp hq with hq|hq
  ·exact h.le p hq
  ·rw[mem_singleton.mp hq];show a<=b-1;lia
 ·rw[pairwise_append];refine⟨h.pw,pairwise_singleton _ _,λp hq q hq'=>?_⟩;rw[mem_singleton.mp hq'];exact h.bel a ea p hq
 ·rw[eb]at e;cases e;rcases mem_append.mp hq with hq|hq
  ·have:=h.bel a ea p hq;lia
  ·rw[mem_singleton.mp hq];show b-1<b;lia
 ·rw[ph,Bool.or_eq_true,h.iff x];constructor
  ·rintro(⟨k,u,v,hk,r⟩|r)
   ·exact⟨k,u,v,by lia,r⟩
   ·unfold inR at r;rw[and_eq_true,decide_eq_true_iff,decide_eq_true_iff]at r;exact⟨n,a,b,lt_succ_self _,ea,eb,hb,r.1,by have:=r.2;show x<b;lia⟩
  ·rintro⟨k,u,v,hk,e1,e2,e3,r1,r2⟩;by_cases q:k=n
   ·right
    subst q;rw[ea]at e1;rw[eb]at e2;cases e1;cases e2;unfold inR;rw[decide_eq_true r1,decide_eq_true (show x<=b-1 by lia)];rfl
   ·exact .inl ⟨k,u,v,by lia,e1,e2,e3,r1,r2⟩
 ·rcases mem_append.mp hq with hq|hq
  ·exact h.ep p hq
  ·rw[mem_singleton.mp hq];exact⟨Fp ea,by show b-1+1∈ps;rw[show b-1+1=b by lia];exact Fp eb⟩
 ·have:=h.lenB λp hq a' e=>by rw[ea]at e;cases e;exact hl p hq
  rw[length_append,length_singleton];lia
 ·have:=h.lenB λp hq a' e=>by rw[ea]at e;cases e;exact hl p hq
  rw[length_append,length_singleton];exfalso
  rename_i z
  exact z (a,b-1) (mem_append_right _ (mem_singleton.mpr U)) b eb U
theorem SpG.join{qs:Prs}{l:Int×Int}(h:SpG ps m n (qs++[l]))(hb:bH m n=true)(hl:l.2=a-1):SpG ps m (n+1) (qs++[(l.1,b-1)]):=by
 have hab:=rM hp ea eb;have hll:=h.le l (mem_append_right _ (mem_singleton.mpr U));refine⟨λp hq=>?_,?_,λa' e p hq=>?_,λx=>?_,λp hq=>?_,?_,λz=>?_⟩
 ·rcases mem_append.mp hq with hq|hq
  ·exact h.le p (mem_append_left _ hq)
  ·rw[mem_singleton.mp hq];show l.1<=b-1;lia
 ·have:=pairwise_append.mp h.pw;rw[pairwise_append];refine⟨this.1,pairwise_singleton _ _,λp hq q hq'=>?_⟩;rw[mem_singleton.mp hq'];exact this.2.2 p hq l (mem_singleton.mpr U)
 ·rw[eb]at e;cases e;rcases mem_append.mp hq with hq|hq
  ·have:=h.bel a ea p (mem_append_left _ hq);lia
  ·rw[mem_singleton.mp hq];show b-1<b;lia
 ·have hi:=h.iff x;rw[ph,Bool.or_eq_true]at hi⊢;have e1:inR x (l.1,b-1)=true↔inR x l=true\/(a<=x/\x<b):=by
   unfold inR;simp only[and_eq_true,decide_eq_true_eq];lia
  rw[e1];constructor
  ·rintro(r|r|r)
   ·obtain⟨k,u,v,hk,r'⟩:=hi.mp (.inl r);exact⟨k,u,v,by lia,r'⟩
   ·obtain⟨k,u,v,hk,r'⟩:=hi.mp (.inr r);exact⟨k,u,v,by lia,r'⟩
   ·exact⟨n,a,b,lt_succ_self _,ea,eb,hb,r⟩
  ·rintro⟨k,u,v,hk,f1,f2,f3,r1,r2⟩;by_cases q:k=n
   ·subst q;rw[ea]at f1;rw[eb]at f2;cases f1;cases f2;exact .inr (.inr ⟨r1,r2⟩)
   ·rcases hi.mpr ⟨k,u,v,by lia,f1,f2,f3,r1,r2⟩with r|r
    ·exact .inl r
    ·exact .inr (.inl r)
 ·rcases mem_append.mp hq with hq|hq
  ·exact h.ep p (mem_append_left _ hq)
  ·rw[mem_singleton.mp hq];exact⟨(h.ep l (mem_append_right _ (mem_singleton.mpr U))).1,by show b-1+1∈ps;rw[show b-1+1=b by lia];exact Fp eb⟩
 ·have:=h.lenA;rw[length_append,length_singleton]at this⊢;lia
 ·exact absurd U (z (l.1,b-1) (mem_append_right _ (mem_singleton.mpr U)) b eb)
end
theorem wz{m:Int}(hm:0<=m)(k:Nat):decide (V.int (Builtin.bitAnd (m / 2^(0+(k:Int)).toNat) 1)=V.int 1)=bH m k:=by
 unfold bH;rw[show(0+(k:Int)).toNat=k by lia];have h0:0<=m / 2^k:=Int.ediv_nonneg hm (Int.le_of_lt (pow_pos (by decide)));generalize m / 2^k=x at h0⊢;have:Builtin.bitAnd x 1=0\/Builtin.bitAnd x 1=1:=by
  rw[PyProof.Rows.bitAnd_pp h0 (by decide)];have:x.toNat &&& (1:Int).toNat=x.toNat%2:=Nat.and_one_is_mod _;rw[this];have:=mod_lt x.toNat (show 0<2 by decide);lia
 rcases this with h|h <;> rw[h] <;> rfl
def GrR(pss:List (List Int))(b:List Int×Int)(x:Rw):Prop:=x.2=b.2/\x.1.length=pss.length/\∀(j:Nat)(ps:List Int)(qs:Prs)(m:Int),pss[j]?=some ps->x.1[j]?=some qs->b.1[j]?=some m->SpG ps m (ps.length-1) qs
def vN(bs:List Nat):List V:=bs.map λb:Nat=>V.int (b:Int)
theorem cU(bs:List Nat):(vN bs).length=bs.length:=by unfold vN;rw[length_map]
theorem yL{bs:List Nat}{j b:Nat}(e:bs[j]?=some b):(vN bs)[j]?=some (.int (b:Int)):=by unfold vN;rw[getElem?_map,e];rfl
theorem yM{bs:List Nat}{j:Nat}{x:V}(e:(vN bs)[j]?=some x):∃b:Nat,x=.int (b:Int)/\bs[j]?=some b:=by
 unfold vN at e;rw[getElem?_map]at e;cases q:bs[j]? with
 |none=>rw[q]at e;cases e
 |some b=>rw[q]at e;cases e;exact⟨b,U,U⟩
theorem wA(bs cs:List Nat):vN bs++vN cs=vN (bs++cs):=by unfold vN;rw[map_append]
def grow(pts:List (List Nat))(n:Nat):List (List Nat):=pts.flatMap λp=>(List.range n).map λk=>p++[k]
def cm(ls:List Nat):List (List Nat):=ls.foldl grow [[]]
theorem fL(ls:List Nat)(n:Nat):cm (ls++[n])=grow (cm ls) n:=by unfold cm;rw[foldl_append];rfl
theorem wB{pts:List (List Nat)}{n:Nat}{q:List Nat}:q∈grow pts n↔∃p∈pts,∃k,k<n/\q=p++[k]:=by
 unfold grow;rw[mem_flatMap];constructor
 ·rintro⟨p,hp,h⟩;obtain⟨k,hk,rfl⟩:=mem_map.mp h;exact⟨p,hp,k,mem_range.mp hk,U⟩
 ·rintro⟨p,hp,k,hk,rfl⟩;exact⟨p,hp,mem_map.mpr ⟨k,mem_range.mpr hk,U⟩⟩
theorem uv{pts:List (List Nat)}{n a:Nat}{p:List Nat}(e:pts[a]?=some p):grow (pts.take (a+1)) n=grow (pts.take a) n++(List.range n).map λk=>p++[k]:=by
 unfold grow;rw[take_snoc e,List.flatMap_append];simp
theorem lP(pts:List (List Nat))(n:Nat):(grow pts n).length=pts.length*n:=by
 unfold grow;induction pts with
 |nil=>simp
 |cons p pts ih=>rw[List.flatMap_cons,length_append,ih,length_map,length_range,length_cons,Nat.succ_mul];lia
def kx(ls:List Nat)(p:List Nat):Prop:=p.length=ls.length/\∀(j a m:Nat),p[j]?=some a->ls[j]?=some m->a<m
theorem nR:∀{r ls:List Nat}(_:ls.reverse=r){p:List Nat},p∈cm ls↔kx ls p
 | [],ls,h,p=>by
  have:ls=[]:=List.reverse_eq_nil_iff.mp h;subst this;show p∈[[]]↔_;rw[mem_singleton];constructor
  ·rintro rfl;exact⟨U,λj a m e=>by simp at e⟩
  ·rintro⟨h,_⟩;exact List.length_eq_zero_iff.mp h
 |n :: r,ls,h,p=>by
  have e:ls=r.reverse++[n]:=by rw[←reverse_reverse ls,h,List.reverse_cons]
  subst e;rw[fL,wB];have ih:∀{p:List Nat},p∈cm r.reverse↔kx r.reverse p:=nR (reverse_reverse r);constructor
  ·rintro⟨q,hq,k,hk,rfl⟩;obtain⟨l1,l2⟩:=ih.mp hq;refine⟨by rw[length_append,length_append,l1];rfl,λj a m f g=>?_⟩;by_cases hj:j<q.length
   ·rw[getElem?_append_left hj]at f;rw[getElem?_append_left (by rw[←l1];exact hj)]at g;exact l2 j a m f g
   ·have:j=q.length:=by have:=(Fo.mp f).1;simp at this;lia
    subst this;simp at f;subst f;rw[l1]at g;simp at g;subst g;exact hk
  ·rintro⟨l1,l2⟩;rw[length_append,length_singleton]at l1;rcases eq_nil_or_concat p with rfl|⟨q,k,rfl⟩
   ·simp at l1
   ·rw[concat_eq_append]at l1 l2⊢;rw[length_append,length_singleton]at l1;have lq:q.length=r.reverse.length:=by lia
    refine⟨q,ih.mpr ⟨lq,λj a m f g=>?_⟩,k,?_,U⟩
    ·refine l2 j a m ?_ ?_
     ·rw[getElem?_append_left (Fo.mp f).1];exact f
     ·rw[getElem?_append_left (Fo.mp g).1];exact g
    ·refine l2 q.length k n (by simp) ?_;rw[lq];simp
theorem kx.iff{ls p:List Nat}:p∈cm ls↔kx ls p:=nR U
def PtL(N:Addr->Prop)(H:Hp)(xs:List V)(pts:List (List Nat)):Prop:=aI xs pts λr p=>N r/\H r=some (.lst (vN p))
theorem PtL.same{N:Addr->Prop}{H H':Hp}{xs:List V}{pts:List (List Nat)}(h:PtL N H xs pts)(s:ar H H'):PtL N H' xs pts:=aI.mono h λ_ _ p=>⟨p.1,s _ _ p.2⟩
theorem PtL.updN{N:Addr->Prop}{D:Addr}{H:Hp}{xs:List V}{pts:List (List Nat)}{o:HO}(h:PtL N H xs pts)(n:¬ N D):PtL N (upd H D o) xs pts:=aI.mono h λ_ _ p=>⟨p.1,(aw (λz=>n (by rw[←z];exact p.1))).trans p.2⟩
theorem PtL.any{N:Addr->Prop}{H:Hp}{xs:List V}{pts:List (List Nat)}(h:PtL N H xs pts):PtL NT H xs pts:=aI.mono h λ_ _ p=>⟨trivial,p.2⟩
def gls(pss:List (List Int)):List Nat:=pss.map λps=>ps.length-1
theorem xO{m:Int}(hm:0<=m)(k:Nat):decide (V.int (Builtin.bitAnd (m / 2^((k:Int)).toNat) 1)=V.int 0) = !bH m k:=by
 have h1:=wz hm k;rw[show(0+(k:Int))=(k:Int) by lia]at h1;rw[←h1];rw[toNat_natCast];have h0:0<=m / 2^k:=Int.ediv_nonneg hm (Int.le_of_lt (pow_pos (by decide)));generalize m / 2^k=x at h0⊢;have:Builtin.bitAnd x 1=0\/Builtin.bitAnd x 1=1:=by
  rw[PyProof.Rows.bitAnd_pp h0 (by decide)];have:x.toNat &&& (1:Int).toNat=x.toNat%2:=Nat.and_one_is_mod _;rw[this];have:=mod_lt x.toNat (show 0<2 by decide);lia
 rcases this with h|h <;> rw[h] <;> rfl
def gY(at_:List Nat)(b:List Int×Int):Bool:=(List.range at_.length).all λj=>bH (b.1.getD j 0) (at_.getD j 0)
def ky(bms:List (List Int×Int))(at_:List Nat):List Nat:=(List.range bms.length).filter λk=>gY at_ (bms.getD k ([],0))
theorem lQ(f:Nat->Bool)(n:Nat):(List.range (n+1)).all f=((List.range n).all f && f n):=by
 rw[range_succ,List.all_append];simp
def cdF(bms:List (List Int×Int))(ks:List Nat):List Int:=ks.map λk=>(bms.getD k ([],0)).2
theorem xP{bms:List (List Int×Int)}{at_:List Nat}:∀k∈ky bms at_,k<bms.length:=λk hk=>mem_range.mp (mem_filter.mp hk).1
theorem wC(bms:List (List Int×Int))(at_:List Nat):(ky bms at_).length<=bms.length:=le_trans (length_filter_le _ _) (by rw[length_range];exact le_refl _)
theorem wD{A:Prs}{m n:Int}(hmn:m<=n)(h:∀e∈ends A,e<=m\/n<e):inP A n=inP A m:=by
 rw[Bool.eq_iff_iff,sF,sF];constructor
 ·rintro⟨p,hp,h1,h2⟩;have e1:=h _ (kX.mpr ⟨p,hp,.inl U⟩);exact⟨p,hp,by lia,by lia⟩
 ·rintro⟨p,hp,h1,h2⟩;have e1:=h _ (kX.mpr ⟨p,hp,.inr U⟩);exact⟨p,hp,by lia,by lia⟩
theorem j3{f g:Nat->Bool}:∀{n:Nat},(∀k,k<n->f k=g k)->msk f n=msk g n
 |0,_=>rfl
 |n+1,h=>by rw[fk,fk,h n (lt_succ_self n),j3 λk hk=>h k (lt_succ_of_lt hk)]
def lR(pss:List (List Int))(at_:List Nat)(cd:List Int):Prop:=at_.length=pss.length/\cd.length=pss.length/\∀(j:Nat)(ps:List Int)(a:Nat)(c:Int),pss[j]?=some ps->at_[j]?=some a->cd[j]?=some c->∃u v,ps[a]?=some u/\ps[a+1]?=some v/\u<=c/\c<v
theorem zV{ps:List Int}(hp:Pts ps){m:Int}{qs:Prs}(h:SpG ps m (ps.length-1) qs){a:Nat}{u v c:Int}(eu:ps[a]?=some u)(ev:ps[a+1]?=some v)(h1:u<=c)(h2:c<v):inP qs c=bH m a:=by
 have ha:=(Fo.mp ev).1;rw[Bool.eq_iff_iff,h.iff c];constructor
 ·rintro⟨k,x,y,hk,ex,ey,hb,k1,k2⟩;have:k=a:=by
   rcases Nat.lt_trichotomy k a with z|z|z
   ·by_cases w:k+1=a
    ·rw[w,eu]at ey;cases ey;lia
    ·have:=vm hp.asc ey eu (by lia);lia
   ·exact z
   ·by_cases w:a+1=k
    ·rw[w,ex]at ev;cases ev;lia
    ·have:=vm hp.asc ev ex (by lia);lia
  rw[←this];exact hb
 ·intro hb;exact⟨a,u,v,by lia,eu,ev,hb,h1,h2⟩
section
variable{pss:List (List Int)}{bms:List (List Int×Int)}{rws:List Rw}(hpt:∀ps∈pss,Pts ps)(hn:rws.length=bms.length)(hGr:∀(k:Nat)(b:List Int×Int)(x:Rw),bms[k]?=some b->rws[k]?=some x->GrR pss b x)(hb:∀b∈bms,b.1.length=pss.length)
include hpt hn hGr hb
theorem zW{at_:List Nat}{cd:List Int}(h:lR pss at_ cd){k:Nat}(hk:k<bms.length):gX rws cd k=gY at_ (bms.getD k ([],0)):=by
 obtain⟨b,eb⟩:∃b,bms[k]?=some b:=⟨_,Fn hk⟩;obtain⟨x,ex⟩:∃x,rws[k]?=some x:=⟨_,Fn (by lia)⟩;obtain⟨_,hl,hsp⟩:=hGr k b x eb ex;have hbl:=hb b (Fp eb);obtain⟨ha,hc,hin⟩:=h;unfold gX gY mM;rw[getD_eq_getElem?_getD,ex,getD_eq_getElem?_getD,eb,ha,hc];show(List.range pss.length).all (λj=>inP (x.1.getD j []) (cd.getD j 0))=(List.range pss.length).all λj=>bH (b.1.getD j 0) (at_.getD j 0)
 rw[Bool.eq_iff_iff,all_eq_true,all_eq_true];have key:∀j∈List.range pss.length,inP (x.1.getD j []) (cd.getD j 0)=bH (b.1.getD j 0) (at_.getD j 0):=λj hj=>by
  have hj:=mem_range.mp hj;obtain⟨ps,ep⟩:∃ps,pss[j]?=some ps:=⟨_,Fn hj⟩;obtain⟨qs,eq⟩:∃qs,x.1[j]?=some qs:=⟨_,Fn (by lia)⟩;obtain⟨m,em⟩:∃m,b.1[j]?=some m:=⟨_,Fn (by lia)⟩;obtain⟨a,ea⟩:∃a,at_[j]?=some a:=⟨_,Fn (by lia)⟩;obtain⟨c,ec⟩:∃c,cd[j]?=some c:=⟨_,Fn (by lia)⟩;obtain⟨u,v,eu,ev,k1,k2⟩:=hin j ps a c ep ea ec;rw[getD_eq_getElem?_getD,getD_eq_getElem?_getD,getD_eq_getElem?_getD,getD_eq_getElem?_getD,eq,ec,em,ea];exact zV (hpt ps (Fp ep)) (hsp j ps qs m ep eq em) eu ev k1 k2
 exact⟨λh j hj=>by rw[←key j hj];exact h j hj,λh j hj=>by rw[key j hj];exact h j hj⟩
theorem zX{at_:List Nat}{cd:List Int}(h:lR pss at_ cd):mkg rws cd=((msk (λk=>gY at_ (bms.getD k ([],0))) bms.length:Nat):Int):=by
 show((msk (gX rws cd) rws.length:Nat):Int)=_;rw[hn,j3 λk hk=>zW hpt hn hGr hb h hk]
end
theorem oM:∀{cs:List Int}{ps:List (Int×Int)},InB cs ps->cs.length=ps.length/\∀(j:Nat)(c:Int)(p:Int×Int),cs[j]?=some c->ps[j]?=some p->p.1<=c/\c<=p.2
 |_,_,.nil=>⟨U,λj c p e=>by simp at e⟩
 |_,_,.cons h1 h2 h=>by
  obtain⟨hl,hg⟩:=oM h;refine⟨by rw[length_cons,length_cons,hl],λj c p e1 e2=>?_⟩;cases j with
  |zero=>cases e1;cases e2;exact⟨h1,h2⟩
  |succ j=>exact hg j c p (by simpa using e1) (by simpa using e2)
theorem xQ{bs:Prs}{rws:List Rw}{cols:List (List (Int×Int))}(hc:rL bs rws cols)(j4:∀x∈rws,x.1.length=bs.length){cs:List Int}(h:InB cs bs):mkg rws (List.zipWith cw cols cs)=mkg rws cs:=by
 obtain⟨css,hl,e,hm⟩:=hc.ex;obtain⟨hcl,hin⟩:=oM h;have hll:(List.zipWith cw cols cs).length=cs.length:=by rw[e,length_zipWith,length_zipWith];lia
 show((msk (gX rws (List.zipWith cw cols cs)) rws.length:Nat):Int)=((msk (gX rws cs) rws.length:Nat):Int);rw[j3 λk hk=>?_];obtain⟨x,ex⟩:∃x,rws[k]?=some x:=⟨_,Fn hk⟩;have hxm:=Fp ex;have hxl:=j4 x hxm;unfold gX mM;rw[getD_eq_getElem?_getD,ex,hll];show(List.range cs.length).all (λj=>inP (x.1.getD j []) ((List.zipWith cw cols cs).getD j 0))=(List.range cs.length).all λj=>inP (x.1.getD j []) (cs.getD j 0)
 have key:∀j∈List.range cs.length,inP (x.1.getD j []) ((List.zipWith cw cols cs).getD j 0)=inP (x.1.getD j []) (cs.getD j 0):=λj hj=>by
  have hj:=mem_range.mp hj;obtain⟨c,ec⟩:∃c,cs[j]?=some c:=⟨_,Fn hj⟩;obtain⟨p,ep⟩:∃p,bs[j]?=some p:=⟨_,Fn (by lia)⟩;obtain⟨ks,ek⟩:∃ks,css[j]?=some ks:=⟨_,Fn (by lia)⟩;obtain⟨pw,hmk⟩:=hm j p ks ep ek;obtain⟨b1,b2⟩:=hin j c p ec ep;have el:=xM (css:=css) ep ek ec;rw[←e]at el;obtain⟨l1,l2,l3,l4⟩:=pY (hi:=p.2) pw (λy hy=>(wx ((hmk y).mp hy)).1) b1 b2;rw[getD_eq_getElem?_getD (l:=List.zipWith cw cols cs),el,getD_eq_getElem?_getD (l:=cs),ec];show inP _ (cw (b9 p.1 p.2 ks) c)=inP _ c
  symm
  refine wD l1 λy hy=>?_
  by_cases z:p.1<y/\y<=p.2
  ·have:MkC rws j p y:=⟨x,hxm,mem_filter.mpr ⟨hy,by rw[and_eq_true,decide_eq_true_iff,decide_eq_true_iff];exact z⟩⟩;by_cases w:y<=c
   ·exact .inl (l4 y ((hmk y).mpr this) w)
   ·exact .inr (by lia)
  ·by_cases w:y<=p.1
   ·exact .inl (by lia)
   ·exact .inr (by lia)
 rw[Bool.eq_iff_iff,all_eq_true,all_eq_true];exact⟨λh j hj=>by rw[←key j hj];exact h j hj,λh j hj=>by rw[key j hj];exact h j hj⟩
theorem oN:∀{cs:List Int}{ps:List (Int×Int)},cs.length=ps.length->(∀(j:Nat)(c:Int)(p:Int×Int),cs[j]?=some c->ps[j]?=some p->p.1<=c/\c<=p.2)->InB cs ps
 | [],[],_,_=>.nil
 | [],_ :: _,h,_=>by cases h
 |_ :: _,[],h,_=>by cases h
 |c :: cs,p :: ps,h,hg=>.cons (hg 0 c p U U).1 (hg 0 c p U U).2 (oN (by simpa using h) λj c p e1 e2=>hg (j+1) c p (by simpa using e1) (by simpa using e2))
section
variable{pss:List (List Int)}(hpt:∀ps∈pss,Pts ps)
include hpt
end
section
variable{bms:List (List Int×Int)}{rws:List Rw}(hn:rws.length=bms.length)(hcd:∀k,k<bms.length->(rws.getD k ([],0)).2=(bms.getD k ([],0)).2)
include hn hcd
theorem Bg(f:Nat->Bool):pkF rws f rws.length=cdF bms ((List.range bms.length).filter f):=by
 unfold pkF cdF;rw[hn];exact List.map_congr_left λk hk=>hcd k (mem_range.mp (mem_filter.mp hk).1)
end
def fM(lo:Int)(φ:Int->Int):Nat->Int
 |0=>0
 |n+1=>fM lo φ n+φ (lo+(n:Int))
theorem lS{lo:Int}{φ ψ:Int->Int}:∀{n:Nat},(∀c,lo<=c->c<lo+(n:Int)->φ c=ψ c)->fM lo φ n=fM lo ψ n
 |0,_=>rfl
 |n+1,h=>by
  show fM lo φ n+φ (lo+(n:Int))=fM lo ψ n+ψ (lo+(n:Int));rw[lS λc h1 h2=>h c h1 (by lia),h (lo+(n:Int)) (by lia) (by lia)]
theorem lT{lo k:Int}:∀n:Nat,fM lo (λ_=>k) n=(n:Int)*k
 |0=>(Int.zero_mul k).symm
 |n+1=>by
  show fM lo (λ_=>k) n+k=((n+1:Nat):Int)*k;rw[lT n,Int.natCast_succ,Int.add_mul,one_mul]
theorem lU{lo:Int}{φ:Int->Int}(n:Nat):∀m:Nat,fM lo φ (n+m)=fM lo φ n+fM (lo+(n:Int)) φ m
 |0=>(add_zero _).symm
 |m+1=>by
  show fM lo φ (n+m)+φ (lo+((n+m:Nat):Int))=fM lo φ n+(fM (lo+(n:Int)) φ m+φ (lo+(n:Int)+(m:Int)));rw[lU n m,Int.natCast_add,add_assoc,add_assoc]
def iQ(p:Int×Int)(φ:Int->Int):Int:=fM p.1 φ (p.2-p.1+1).toNat
theorem lV{p:Int×Int}{φ ψ:Int->Int}(h:∀c,p.1<=c->c<=p.2->φ c=ψ c):iQ p φ=iQ p ψ:=lS λc h1 h2=>h c h1 (by lia)
theorem lW{p:Int×Int}{k:Int}{φ:Int->Int}(hp:p.1<=p.2+1)(h:∀c,p.1<=c->c<=p.2->φ c=k):iQ p φ=(p.2-p.1+1)*k:=by
 rw[lV (ψ:=λ_=>k) h];unfold iQ;rw[lT,Int.toNat_of_nonneg (by lia)]
theorem lX{lo m hi:Int}{φ:Int->Int}(h1:lo<=m+1)(h2:m<=hi):iQ (lo,hi) φ=iQ (lo,m) φ+iQ (m+1,hi) φ:=by
 unfold iQ;show fM lo φ (hi-lo+1).toNat=fM lo φ (m-lo+1).toNat+fM (m+1) φ (hi-(m+1)+1).toNat;have e1:(hi-lo+1).toNat=(m-lo+1).toNat+(hi-(m+1)+1).toNat:=by lia
 have e2:lo+((m-lo+1).toNat:Int)=m+1:=by lia
 rw[e1,lU,e2]
def uw:List (Int×Int)->(List Int->Int)->Int
 | [],φ=>φ []
 |p :: ps,φ=>iQ p λc=>uw ps λcs=>φ (c :: cs)
theorem nU(p:Int×Int):∀(ps:List (Int×Int))(φ:List Int->Int),uw (ps++[p]) φ=uw ps λcs=>iQ p λc=>φ (cs++[c])
 | [],φ=>rfl
 |q :: ps,φ=>lV λc _ _=>nU p ps λcs=>φ (c :: cs)
def wsum(g:Int->Int):List (List (Int×Int)×Int)->Int
 | []=>0
 |q :: r=>vol q.1*g q.2+wsum g r
theorem qe(g:Int->Int):∀a b:List (List (Int×Int)×Int),wsum g (a++b)=wsum g a+wsum g b
 | [],b=>(zero_add _).symm
 |q :: a,b=>by show vol q.1*g q.2+wsum g (a++b)=vol q.1*g q.2+wsum g a+wsum g b;rw[qe g a b,add_assoc]
theorem qf(g:Int->Int)(p:Int×Int):∀l:List (List (Int×Int)×Int),wsum g (l.map λq=>(p :: q.1,q.2))=(p.2-p.1+1)*wsum g l
 | []=>(mul_zero _).symm
 |q :: l=>by
  show vol (p :: q.1)*g q.2+wsum g (l.map λq=>(p :: q.1,q.2))=(p.2-p.1+1)*(vol q.1*g q.2+wsum g l);rw[wm,qf g p l,Int.mul_add,Int.mul_assoc]
theorem wF{α:Type}:∀{l:List (T3a α)}{lo hi:Int},Ch3 l lo hi->lo<=hi+1
 | [],_,_,h=>Int.le_of_eq h
 |t :: l,_,_,h=>by
  have h1:=wF h.2.2;have h2:=h.2.1;lia
theorem nV{g:Int->Int}:∀{n:Nat}{F:Fm Int n}{ps:List (Int×Int)}{φ:List Int->Int},dR n F ps->(∀cs x,InB cs ps->Tel n F cs x->g x=φ cs)->wsum g (bxs n F)=uw ps φ
 |0,F,ps,φ,hs,h=>by
  have hs:ps=[]:=hs;subst hs;have h1:=h [] F .nil (.nil F);show 1*g F+0=φ [];rw[h1,one_mul,add_zero]
 |n+1,F,ps,φ,hs,h=>by
  obtain⟨f,rfl⟩:∃f:List (T3a (Fm Int n)),(f:Fm Int (n+1))=F:=⟨F,U⟩;obtain⟨p,r,rfl,hne,hch,hnb,fD⟩:ShS (dR n) f ps:=hs;have go:∀(l:List (T3a (Fm Int n)))(lo hi:Int),Ch3 l lo hi->(∀t∈l,dR n t.2.2 r)->(∀t∈l,∀c,t.1<=c->c<=t.2.1->∀cs x,InB cs r->Tel n t.2.2 cs x->g x=φ (c :: cs))->wsum g (bxs (n+1) (l:Fm Int (n+1)))=iQ (lo,hi) λc=>uw r λcs=>φ (c :: cs):=by
   intro l;induction l with
   |nil =>
    intro lo hi h _ _;have h:lo=hi+1:=h;unfold iQ;show(0:Int)=fM lo _ (hi-lo+1).toNat;rw[show(hi-lo+1).toNat=0 by lia];rfl
   |cons t l ih =>
    intro lo hi h ha hv;have h1:=h.1;have h2:=h.2.1;have h3:=wF h.2.2;have e:bxs (n+1) (show Fm Int (n+1)from t :: l)=bxs (n+1) (show Fm Int (n+1) from[t])++bxs (n+1) (show Fm Int (n+1)from l):=oK n [t] l;rw[e,qe,sU,qf g (t.1,t.2.1),ih _ _ h.2.2 (λu hu=>ha u (mem_cons_of_mem _ hu)) (λu hu=>hv u (mem_cons_of_mem _ hu)),lX (lo:=lo) (m:=t.2.1) (hi:=hi) (by lia) (by lia)]
    congr 1
    rw[lW (k:=wsum g (bxs n t.2.2)) (by show lo<=t.2.1+1;lia) λc c1 c2=>(nV (ha t mem_cons_self) λcs x hc hx=>hv t mem_cons_self c (by rw[h1];exact c1) c2 cs x hc hx).symm];show(t.2.1-t.1+1)*_=(t.2.1-lo+1)*_;rw[h1]
  refine go f p.1 p.2 hch fD λt ht c c1 c2 cs x hc hx=>?_
  obtain⟨j,ej⟩:=getElem?_of_mem ht;obtain⟨a1,a2,a3,-,-,-⟩:=jC hch ej;exact h (c :: cs) x (.cons (by lia) (by lia) hc) (oJ hch ej c1 c2 hx)
def dn(pss:List (List Int))(at_:List Nat):List (Int×Int):=List.zipWith (λps a=>(ps.getD a 0,ps.getD (a+1) 0-1)) pss at_
def xR(ψ:List Nat->Int)(pss:List (List Int)):Int:=((cm (gls pss)).map λat_=>vol (dn pss at_)*ψ at_).sum
theorem wG(B:List (Int×Int))(p:Int×Int):vol (B++[p])=vol B*(p.2-p.1+1):=by unfold vol;rw[foldl_append];rfl
theorem jD:∀a b:List Int,(a++b).sum=a.sum+b.sum
 | [],b=>by rw[List.nil_append,List.sum_nil,zero_add]
 |x :: a,b=>by rw[List.cons_append,sum_cons,sum_cons,jD a b,add_assoc]
theorem qg{α:Type}(k:Int)(f:α->Int):∀l:List α,(l.map λx=>k*f x).sum=k*(l.map f).sum
 | []=>(mul_zero k).symm
 |x :: l=>by rw[map_cons,map_cons,sum_cons,sum_cons,qg k f l,Int.mul_add]
theorem nW{α β:Type}(f:α->List β)(F:β->Int):∀l:List α,((l.flatMap f).map F).sum=(l.map λx=>((f x).map F).sum).sum
 | []=>rfl
 |x :: l=>by rw[List.flatMap_cons,map_append,jD,map_cons,sum_cons,nW f F l]
theorem sZ{ps:List Int}(hp:Pts ps){φ:Int->Int}{ψ:Nat->Int}(h:∀(a:Nat)(u v c:Int),ps[a]?=some u->ps[a+1]?=some v->u<=c->c<v->φ c=ψ a):∀m,m<ps.length->((List.range m).map λk=>(ps.getD (k+1) 0-1-ps.getD k 0+1)*ψ k).sum=iQ (ps.getD 0 0,ps.getD m 0-1) φ
 |0,_=>by
  unfold iQ;show(0:Int)=fM _ _ (ps.getD 0 0-1-ps.getD 0 0+1).toNat;rw[show(ps.getD 0 0-1-ps.getD 0 0+1).toNat=0 by lia];rfl
 |m+1,hm=>by
  have ea:=Fn (l:=ps) (i:=m) (by lia);have eb:=Fn (l:=ps) (i:=m+1) hm;have ga:ps.getD m 0=ps[m]:=by rw[getD_eq_getElem?_getD,ea];rfl
  have gb:ps.getD (m+1) 0=ps[m+1]:=by rw[getD_eq_getElem?_getD,eb];rfl
  have h1:ps.getD 0 0<=ps[m]:=hp.lo ea;have h2:ps[m]<ps[m+1]:=hp.mono ea eb (by lia);rw[range_succ,map_append,jD,sZ hp h m (by lia),lX (lo:=ps.getD 0 0) (m:=ps.getD m 0-1) (hi:=ps.getD (m+1) 0-1) (by lia) (by lia)]
  congr 1
  rw[lW (k:=ψ m) (by show ps.getD m 0-1+1<=ps.getD (m+1) 0-1+1;lia) λc c1 c2=>h m _ _ c ea eb (by have c1:ps.getD m 0-1+1<=c:=c1;lia) (by have c2:c<=ps.getD (m+1) 0-1:=c2;lia)];show(ps.getD (m+1) 0-1-ps.getD m 0+1)*ψ m+0=(ps.getD (m+1) 0-1-(ps.getD m 0-1+1)+1)*ψ m;rw[add_zero,show ps.getD m 0-1+1=ps.getD m 0 by lia]
theorem lR.snoc{qss:List (List Int)}{at_:List Nat}{cd:List Int}{ps:List Int}{a:Nat}{u v c:Int}(h:lR qss at_ cd)(e1:ps[a]?=some u)(e2:ps[a+1]?=some v)(h1:u<=c)(h2:c<v):lR (qss++[ps]) (at_++[a]) (cd++[c]):=by
 obtain⟨l1,l2,g⟩:=h;refine⟨by rw[length_append,length_append,l1];rfl,by rw[length_append,length_append,l2];rfl,λj ps' a' c' f1 f2 f3=>?_⟩;by_cases hj:j<qss.length
 ·rw[getElem?_append_left hj]at f1;rw[getElem?_append_left (by lia)]at f2 f3;exact g j ps' a' c' f1 f2 f3
 ·rw[getElem?_append_right (by lia)]at f1;have h0:=(Fo.mp f1).1;rw[length_singleton]at h0;rw[getElem?_append_right (by lia)]at f2 f3;rw[show j-qss.length=0 by lia]at f1;rw[show j-at_.length=0 by lia]at f2;rw[show j-cd.length=0 by lia]at f3;cases f1;cases f2;cases f3;exact⟨u,v,e1,e2,h1,h2⟩
theorem nX:∀{r pss:List (List Int)},pss.reverse=r->(∀ps∈pss,Pts ps)->∀{φ:List Int->Int}{ψ:List Nat->Int},(∀at_ cd,lR pss at_ cd->φ cd=ψ at_)->xR ψ pss=uw (pss.map λps=>(loP ps,hiP ps)) φ
 | [],pss,h,_,φ,ψ,hv=>by
  have:pss=[]:=List.reverse_eq_nil_iff.mp h;subst this;have:=hv [] [] ⟨U,U,λj ps a c e=>by simp at e⟩;show 1*ψ []+0=φ [];rw[this,one_mul,add_zero]
 |ps :: r,pss,h,hp,φ,ψ,hv=>by
  obtain⟨qss,hr⟩:∃qss:List (List Int),qss.reverse=r:=⟨r.reverse,reverse_reverse r⟩;have e:pss=qss++[ps]:=by rw[←reverse_reverse pss,h,List.reverse_cons,←hr,reverse_reverse]
  subst e;have hps:=hp ps (mem_append_right _ (mem_singleton.mpr U));have hp2:=hps.two;have eg:gls (qss++[ps])=gls qss++[ps.length-1]:=by unfold gls;rw[map_append];rfl
  unfold xR;rw[eg,fL];unfold grow;rw[nW,map_append,List.map_singleton,nU];rw[←nX hr (λq hq=>hp q (mem_append_left _ hq)) (φ:=λcs=>iQ (loP ps,hiP ps) λc=>φ (cs++[c])) (ψ:=λp=>((List.range (ps.length-1)).map λk=>(ps.getD (k+1) 0-1-ps.getD k 0+1)*ψ (p++[k])).sum) λat_ cd hin=>(sZ hps (φ:=λc=>φ (cd++[c])) (ψ:=λk=>ψ (at_++[k])) (λa u v c e1 e2 h1 h2=>hv _ _ (hin.snoc e1 e2 h1 h2)) (ps.length-1) (by lia)).symm];unfold xR
  congr 1
  refine List.map_congr_left λp hpm=>?_
  have hl:p.length=qss.length:=by rw[(kx.iff.mp hpm).1];unfold gls;rw[length_map]
  rw[List.map_map,←qg]
  congr 1
  refine List.map_congr_left λk _=>?_
  show vol (dn (qss++[ps]) (p++[k]))*ψ (p++[k])=_;have ep:dn (qss++[ps]) (p++[k])=dn qss p++[(ps.getD k 0,ps.getD (k+1) 0-1)]:=by
   unfold dn;rw[List.zipWith_append hl.symm];rfl
  rw[ep,wG,Int.mul_assoc]
def iE(A B:List (Int×Int)):Bool:=(List.range A.length).all λk=>!(decide ((A.getD k (0,0)).2<(B.getD k (0,0)).1) || decide ((B.getD k (0,0)).2<(A.getD k (0,0)).1))
theorem lY{A B:List (Int×Int)}(h:iE A B=true){k:Nat}{a b:Int×Int}(ea:A[k]?=some a)(eb:B[k]?=some b):b.1<=a.2/\a.1<=b.2:=by
 have:=all_eq_true.mp h k (mem_range.mpr (Fo.mp ea).1);rw[getD_eq_getElem?_getD,getD_eq_getElem?_getD,ea,eb]at this;have this:(!(decide (a.2<b.1) || decide (b.2<a.1)))=true:=this;rw[Bool.not_eq_true',Bool.or_eq_false_iff,decide_eq_false_iff_not,decide_eq_false_iff_not]at this;lia
theorem ux{A B:List (Int×Int)}(hl:A.length=B.length)(ha:∀p∈A,p.1<=p.2)(hb:∀p∈B,p.1<=p.2)(h:iE A B=true):∃cd,InB cd A/\InB cd B:=by
 refine⟨List.zipWith (λa b=>max a.1 b.1) A B,oN (by rw[length_zipWith];lia) λj c p e1 e2=>?_,oN (by rw[length_zipWith];lia) λj c p e1 e2=>?_⟩
 ·obtain⟨b,eb⟩:∃b,B[j]?=some b:=⟨_,Fn (by have:=(Fo.mp e2).1;lia)⟩;rw[getElem?_zipWith,e2,eb]at e1;have e1:max p.1 b.1=c:=Option.some.inj e1;have h1:=lY h e2 eb;have h2:=ha p (Fp e2);lia
 ·obtain⟨a,ea⟩:∃a,A[j]?=some a:=⟨_,Fn (by have:=(Fo.mp e2).1;lia)⟩;rw[getElem?_zipWith,e2,ea]at e1;have e1:max a.1 p.1=c:=Option.some.inj e1;have h1:=lY h ea e2;have h2:=hb p (Fp e2);lia
theorem wH{A B:List (Int×Int)}(h:Asc A B):iE A B=false:=by
 obtain⟨k,a,b,ea,eb,h1,h2,_⟩:=sV h;cases hm:iE A B with
 |false=>rfl
 |true=>have:=lY hm ea eb;lia
theorem wI:∀{n:Nat}{F:Fm Int n}{ps:List (Int×Int)},dR n F ps->∀q∈bxs n F,∀cs,InB cs q.1->InB cs ps/\Tel n F cs q.2
 |0,F,ps,hs,q,hq,cs,hc=>by
  have hs:ps=[]:=hs;have hq:q∈[(([]:List (Int×Int)),F)]:=hq;rw[mem_singleton.mp hq]at hc⊢;subst hs;cases hc;exact⟨.nil,.nil _⟩
 |n+1,F,ps,hs,q,hq,cs,hc=>by
  obtain⟨f,rfl⟩:∃f:List (T3a (Fm Int n)),(f:Fm Int (n+1))=F:=⟨F,U⟩;obtain⟨p,r,rfl,hne,hch,hnb,fD⟩:ShS (dR n) f ps:=hs;obtain⟨e,he,q',hq',rfl⟩:=we.mp hq;obtain⟨j,ej⟩:=getElem?_of_mem he;obtain⟨a1,a2,a3,-,-,-⟩:=jC hch ej;cases hc with
  |cons k1 k2 k3 =>
   obtain⟨b1,b2⟩:=wI (fD e he) q' hq' _ k3;have k1:e.1<=_:=k1;have k2:_<=e.2.1:=k2;exact⟨.cons (by lia) (by lia) b1,oJ hch ej k1 k2 b2⟩
theorem xS{pss:List (List Int)}{at_:List Nat}{cd:List Int}(h:at_∈cm (gls pss))(hc:InB cd (dn pss at_)):lR pss at_ cd:=by
 have hk:=kx.iff.mp h;have hl:at_.length=pss.length:=by rw[hk.1];unfold gls;rw[length_map]
 obtain⟨h1,h2⟩:=oM hc;have hpl:(dn pss at_).length=pss.length:=by unfold dn;rw[length_zipWith];lia
 refine⟨hl,by lia,λj ps a c e1 e2 e3=>?_⟩;have ha:a<ps.length-1:=hk.2 j a _ e2 (by unfold gls;rw[getElem?_map,e1];rfl);have ea:=Fn (l:=ps) (i:=a) (by lia);have eb:=Fn (l:=ps) (i:=a+1) (by lia);have e4:(dn pss at_)[j]?=some (ps[a],ps[a+1]-1):=by
  unfold dn;rw[getElem?_zipWith,e1,e2];show some (ps.getD a 0,ps.getD (a+1) 0-1)=_;rw[getD_eq_getElem?_getD,getD_eq_getElem?_getD,ea,eb];rfl
 have:=h2 j c _ e3 e4;have k1:ps[a]<=c:=this.1;have k2:c<=ps[a+1]-1:=this.2;exact⟨_,_,ea,eb,k1,by lia⟩
theorem tj{pss:List (List Int)}(hpt:∀ps∈pss,Pts ps){at_:List Nat}(h:at_∈cm (gls pss)):(dn pss at_).length=pss.length/\∀p∈dn pss at_,p.1<=p.2:=by
 have hk:=kx.iff.mp h;have hl:at_.length=pss.length:=by rw[hk.1];unfold gls;rw[length_map]
 refine⟨by unfold dn;rw[length_zipWith];lia,λp hp=>?_⟩;obtain⟨j,ej⟩:=getElem?_of_mem hp;unfold dn at ej;have hj:=(Fo.mp ej).1;rw[length_zipWith]at hj;have e1:=Fn (l:=pss) (i:=j) (by lia);have e2:=Fn (l:=at_) (i:=j) (by lia);rw[getElem?_zipWith,e1,e2]at ej;have ej:(pss[j].getD at_[j] 0,pss[j].getD (at_[j]+1) 0-1)=p:=Option.some.inj ej;have ha:at_[j]<pss[j].length-1:=hk.2 j _ _ e2 (by unfold gls;rw[getElem?_map,e1];rfl);have ea:=Fn (l:=pss[j]) (i:=at_[j]) (by lia);have eb:=Fn (l:=pss[j]) (i:=at_[j]+1) (by lia);have:=(hpt _ (Fp e1)).mono ea eb (by lia);rw[←ej];show pss[j].getD at_[j] 0<=pss[j].getD (at_[j]+1) 0-1;rw[getD_eq_getElem?_getD,getD_eq_getElem?_getD,ea,eb];show pss[j][at_[j]]<=pss[j][at_[j]+1]-1;lia
def eO(L:List (List (Int×Int)×Int)):List (List (Int×Int)×Int):=L.filter λq=>decide (q.2≠0)
def g01(x:Int):Int:=if x=0 then 0 else 1
theorem qh:∀L:List (List (Int×Int)×Int),d7 (eO L)=wsum g01 L
 | []=>rfl
 |q :: L=>by
  have ih:=qh L;unfold eO at ih⊢;by_cases h:q.2=0
  ·rw[filter_cons_of_neg (by simpa using h),ih];show wsum g01 L=vol q.1*g01 q.2+wsum g01 L;unfold g01;rw[if_pos h,mul_zero,zero_add]
  ·rw[filter_cons_of_pos (by simpa using h)];show vol q.1+d7 _=vol q.1*g01 q.2+wsum g01 L;rw[ih];unfold g01;rw[if_neg h,mul_one]
theorem wJ{pss:List (List Int)}(hpt:∀ps∈pss,Pts ps){n:Nat}{F:Fm Int n}(hs:dR n F (pss.map λps=>(loP ps,hiP ps))){lf:List Int->Int}{lt:List Nat->Int}(ht:∀cs,InB cs (pss.map λps=>(loP ps,hiP ps))->Tel n F cs (lf cs))(hl:∀at_ cd,lR pss at_ cd->lf cd=lt at_):d7 (eO (bxs n F))=xR (λat_=>g01 (lt at_)) pss:=by
 rw[qh,nV (φ:=λcs=>g01 (lf cs)) hs λcs x hc hx=>by rw[kG hx (ht cs hc)],nX U hpt (φ:=λcs=>g01 (lf cs)) λat_ cd h=>by rw[hl at_ cd h]]
theorem uy{pss:List (List Int)}(hpt:∀ps∈pss,Pts ps){n:Nat}{F:Fm Int n}(hs:dR n F (pss.map λps=>(loP ps,hiP ps))){lf:List Int->Int}{lt:List Nat->Int}(ht:∀cs,InB cs (pss.map λps=>(loP ps,hiP ps))->Tel n F cs (lf cs))(hl:∀at_ cd,lR pss at_ cd->lf cd=lt at_){q:List (Int×Int)×Int}(hq:q∈bxs n F){at_:List Nat}(ha:at_∈cm (gls pss))(hm:iE q.1 (dn pss at_)=true):lt at_=q.2:=by
 obtain⟨hb,_,_⟩:=p6 hs q hq;obtain⟨pl,ple⟩:=tj hpt ha;have hbl:=hb.len;rw[length_map]at hbl;obtain⟨cd,c1,c2⟩:=ux (by lia) (λp hp=>by
  obtain⟨j,ej⟩:=getElem?_of_mem hp;obtain⟨b,eb⟩:∃b,(pss.map λps=>(loP ps,hiP ps))[j]?=some b:=⟨_,Fn (by rw[length_map];have:=(Fo.mp ej).1;lia)⟩;exact(hb.get j p b ej eb).2.1) ple hm
 obtain⟨d1,d2⟩:=wI hs q hq cd c1;rw[←hl at_ cd (xS ha c2)];exact kG (ht cd d1) d2
theorem tm{B:List (Int×Int)}(hw:∀p∈B,0<=p.2-p.1/\p.2-p.1<=10^58):∀i,i<=B.length->1<=vol (B.take i)/\vol (B.take i)<=((2:Int)^193)^i
 |0,_=>⟨Int.le_refl _,Int.le_refl _⟩
 |i+1,hi=>by
  obtain⟨a,b⟩:=tm hw i (by lia);obtain⟨p,ep⟩:∃p,B[i]?=some p:=⟨_,Fn (by lia)⟩;obtain⟨w1,w2⟩:=hw p (Fp ep);have w3:p.2-p.1+1<=(2:Int)^193:=by
   have:(10:Int)^58+1<=2^193:=by decide
   lia
  rw[p5 ep,Int.pow_succ];exact⟨by have:=Int.mul_le_mul a (show(1:Int)<=p.2-p.1+1 by lia) (by decide) (by lia);lia,Int.mul_le_mul b w3 (by lia) (Int.le_trans (by decide) (Int.le_trans a b))⟩
theorem xT{B:List (Int×Int)}(h4:B.length<=4)(hw:∀p∈B,0<=p.2-p.1/\p.2-p.1<=10^58){i:Nat}{p:Int×Int}(ep:B[i]?=some p):IntMulOk (vol (B.take i)) (p.2-p.1+1):=by
 have hi:i<B.length:=(Fo.mp ep).1;obtain⟨a,b⟩:=tm hw i (by lia);obtain⟨w1,w2⟩:=hw p (Fp ep);have c:((2:Int)^193)^i<=2^579:=by
  have:i=0\/i=1\/i=2\/i=3:=by lia
  rcases this with rfl|rfl|rfl|rfl <;> decide
 have d:(10:Int)^58+1<2^193:=by decide
 refine vB (m:=580) (n:=194) ?_ ?_ (by decide) (by decide)
 ·have e:((vol (B.take i)).natAbs:Int)=vol (B.take i):=Int.natAbs_of_nonneg (by lia);have f:((2^580:Nat):Int)=2^580:=by decide
  have g:(2:Int)^579<2^580:=by decide
  exact Int.ofNat_lt.mp (by rw[f];lia)
 ·have e:((p.2-p.1+1).natAbs:Int)=p.2-p.1+1:=Int.natAbs_of_nonneg (by lia);have f:((2^194:Nat):Int)=2^194:=by decide
  have g:(2:Int)^193<2^194:=by decide
  exact Int.ofNat_lt.mp (by rw[f];lia)
def rN(A B:List (Int×Int))(k:Nat):Bool:=decide ((A.getD k (0,0)).2<(B.getD k (0,0)).1) || decide ((B.getD k (0,0)).2<(A.getD k (0,0)).1)
theorem zY{A B:List (Int×Int)}(h:∀k,k<A.length->rN A B k=false):iE A B=true:=all_eq_true.mpr λk hk=>by
 have:=h k (mem_range.mp hk);unfold rN at this;rw[this];rfl
theorem wK{A B:List (Int×Int)}{k:Nat}(hk:k<A.length)(h:rN A B k=true):iE A B=false:=List.all_eq_false.mpr ⟨k,mem_range.mpr hk,by
 unfold rN at h;rw[h];decide⟩
theorem zZ{A B:List (Int×Int)}{k:Nat}{a b:Int×Int}(ea:A[k]?=some a)(eb:B[k]?=some b):rN A B k=(decide (a.2<b.1) || decide (b.2<a.1)):=by
 unfold rN;rw[getD_eq_getElem?_getD,getD_eq_getElem?_getD,ea,eb];rfl
def TlL(lv:Int->V)(H:Hp):List V->List (List (Int×Int)×Int)->Prop:=Paired λx q=>∃(t b:Addr),x=.ref t/\H t=some (.tup [.ref b,lv q.2])/\BxA H b q.1
theorem TlL.length{lv:Int->V}{H:Hp}{xs:List V}{L:List (List (Int×Int)×Int)}(h:TlL lv H xs L):xs.length=L.length:=Paired.length h
theorem BxA.ge_to{K:W.Frag}{H:Hp}{Q:VK}{a b:Addr}{A B:List (Int×Int)}(ha:BxA H a A)(hb:BxA H b B)(h:Asc A B)(q:Q (.bl false) H):zw K (.ref a) (.ref b) H Q:=by
 obtain⟨xs,ea,hx⟩:=ha;obtain⟨ys,eb,hy⟩:=hb;obtain⟨k,p,r,ep,er,k1,k2,k3⟩:=sV h;obtain⟨x,ex⟩:∃x,xs[k]?=some x:=⟨_,Fn (by rw[hx.length];exact(Fo.mp ep).1)⟩;obtain⟨y,ey⟩:∃y,ys[k]?=some y:=⟨_,Fn (by rw[hy.length];exact(Fo.mp er).1)⟩;obtain⟨p',t,ep',rfl,ht⟩:=hx.get ex;obtain⟨r',u,er',rfl,hu⟩:=hy.get ey;rw[ep]at ep';cases ep';rw[er]at er';cases er';refine⟨a,b,xs,ys,k,t,u,p.1,r.1,[p.2],[r.2],U,U,SqT.of ea,SqT.of eb,λi x y hi e1 e2=>?_,ex,ey,zU ht hu (Int.ne_of_lt k1),SqT.of ht,SqT.of hu,Int.ne_of_lt k1,?_⟩
 ·obtain⟨p1,t1,ep1,rfl,ht1⟩:=hx.get e1;obtain⟨p2,t2,ep2,rfl,ht2⟩:=hy.get e2;have:=k3 i hi;rw[ep1,ep2]at this;cases this;exact sW ht1 ht2
 ·rw[decide_eq_false (by lia)];exact q
def oO(l:List (List (Int×Int)×Int)):List Int:=(l.filter λp=>decide (p.2≠0)).map λp=>vol p.1
theorem nY{l:List (List (Int×Int)×Int)}{i:Nat}{q:List (Int×Int)×Int}(e:l[i]?=some q):oO (l.take (i+1))=oO (l.take i)++if q.2=0 then[] else[vol q.1]:=by
 unfold oO;rw[take_snoc e,filter_append,map_append];by_cases h:q.2=0
 ·rw[if_pos h,filter_cons_of_neg (by simpa using h)];rfl
 ·rw[if_neg h,filter_cons_of_pos (by simpa using h)];rfl
theorem wL(l:List (List (Int×Int)×Int)):(oO l).length<=l.length:=by unfold oO;rw[length_map];exact length_filter_le _ _
theorem wM{pss:List (List Int)}{lt:List Nat->Int}:∀l:List (List Nat),(oO (l.map λat_=>(dn pss at_,lt at_))).sum=(l.map λat_=>vol (dn pss at_)*g01 (lt at_)).sum
 | []=>rfl
 |a :: l=>by
  have ih:=wM (pss:=pss) (lt:=lt) l;unfold oO at ih⊢;rw[map_cons,map_cons,sum_cons];by_cases h:lt a=0
  ·rw[filter_cons_of_neg (by simpa using h),ih];unfold g01;rw[if_pos h,mul_zero,zero_add]
  ·rw[filter_cons_of_pos (by simpa using h),map_cons,sum_cons,ih];unfold g01;rw[if_neg h,mul_one]
theorem xU{L M:Type} [DecidableEq L] [DecidableEq M] {h:L->M}{g:List Int->L}{cols:List (List (Int×Int))}{ps:List (Int×Int)}(hc:gn cols ps):mN h cols.length (lay g cols [])=lay (λcd=>h (g cd)) cols [] :=
 nP (wa (lJ hc [])) (lJ hc []) λcs hcs x y hx hy=>(kG hx (xK (oE hc [] cs hcs) (lJ hc []) hcs)).trans (kG hy (oE (g:=λcd=>h (g cd)) hc [] cs hcs)).symm
def h01(m:Int):Int:=if m=0 then 1 else 0
theorem qi{f:Nat->Bool}:∀{n:Nat},msk f n=0↔(List.range n).filter f=[]
 |0=>⟨λ_=>U,λ_=>U⟩
 |n+1=>by
  have ih:=qi (f:=f) (n:=n);rw[range_succ,filter_append,List.append_eq_nil_iff,←ih];rw[fk];cases hf:f n with
  |true =>
   rw[filter_cons_of_pos hf,if_pos U];have:=Nat.two_pow_pos n;exact⟨λz=>by lia,λz=>by cases z.2⟩
  |false =>
   rw[filter_cons_of_neg (by rw[hf];decide),if_neg (by decide)];exact⟨λz=>⟨by lia,U⟩,λz=>by lia⟩
theorem tab_keep{H H':Hp}{P P':Addr}{L:List (Pos×Str)}(h:c9 H P L)(ne:P≠P'){ps:Array Value}(e:H P'=some (.tbl ps))(k:∀d o,d≠P'->H d=some o->H' d=some o):c9 H' P L:=by
 obtain⟨qs,h1,h2,h3⟩:=h;refine⟨qs,k _ _ ne h1,h2,λp hp=>?_⟩;rcases h3 p hp with z|⟨c,oc,k1,k2,k3⟩
 ·exact .inl z
 ·exact .inr ⟨c,oc,k1,k _ _ (λz=>by rw[z,e]at k2;cases k2) k2,k3⟩
theorem tab_ne{K:W.Frag}{x y:Str}{c t c' t':Addr}(h:W.tabIn K x=some (c,t))(h':W.tabIn K y=some (c',t'))(ne:t≠t'):∀z z',W.tabIn K x=some z->W.tabIn K y=some z'->z.2≠z'.2:=λz z' e e'=>by
 rw[h]at e;rw[h']at e';cases e;cases e';exact ne
theorem nZ{n:Nat}{x:Int}(h:x∈cA n):0<=x/\x<n:=by
 obtain⟨j,hj,rfl⟩:=mem_map.mp h;have:=mem_range.mp hj;lia
theorem qj{H:Hp}{P fo:Addr}{L:List (Pos×Str)}{xs ys:List V}(h:c9 H P L)(e:H fo=some (.lst xs)):c9 (upd H fo (.lst ys)) P L:=by
 obtain⟨ps,h1,h2,h3⟩:=h;refine⟨ps,(aw (dA h1 e (by intro z;cases z))).trans h1,h2,λp hp=>?_⟩;rcases h3 p hp with k|⟨c,oc,k1,k2,k3⟩
 ·exact .inl k
 ·exact .inr ⟨c,oc,k1,(aw (dA k2 e (by intro z;cases z))).trans k2,k3⟩
theorem n4{b:Nat}:∀{r ls:List Nat},ls.reverse=r->(∀n∈ls,n<=b)->(cm ls).length<=b^ls.length
 | [],ls,h,_=>by
  have:ls=[]:=List.reverse_eq_nil_iff.mp h;subst this;exact le_refl _
 |n :: r,ls,h,hb=>by
  obtain⟨qs,hr⟩:∃qs:List Nat,qs.reverse=r:=⟨r.reverse,reverse_reverse r⟩;have e:ls=qs++[n]:=by rw[←reverse_reverse ls,h,List.reverse_cons,←hr,reverse_reverse]
  subst e;rw[fL,lP,length_append,length_singleton,pow_succ];exact mul_le_mul (n4 hr λm hm=>hb m (mem_append_left _ hm)) (hb n (mem_append_right _ (mem_singleton.mpr U)))
theorem wN{ls:List Nat}(h:∀n∈ls,1<=n):cm ls≠[]:=λz=>by
 have:List.replicate ls.length 0∈cm ls:=kx.iff.mpr ⟨length_replicate,λj a m e1 e2=>by
  have:=Fp e1;have:=(List.mem_replicate.mp this).2;have:=h m (Fp e2);lia⟩
 rw[z]at this;cases this
theorem wO{bs:Prs}{rws:List Rw}{cols wQ:List (List (Int×Int))}(h:rL bs rws cols)(h':rL bs rws wQ):cols=wQ:=by
 obtain⟨css,l1,e1,k1⟩:=h.ex;obtain⟨Bh,l2,e2,k2⟩:=h'.ex;have:css=Bh:=by
  refine List.ext_getElem? λj=>?_
  by_cases hj:j<bs.length
  ·have eb:=Fn hj;have f1:=Fn (l:=css) (i:=j) (by lia);have f2:=Fn (l:=Bh) (i:=j) (by lia);obtain⟨p1,m1⟩:=k1 j _ _ eb f1;obtain⟨p2,m2⟩:=k2 j _ _ eb f2;rw[f1,f2,kj p1 p2 λx=>(m1 x).trans (m2 x).symm]
  ·rw[getElem?_eq_none (by lia),getElem?_eq_none (by lia)]
 rw[e1,e2,this]
theorem uz(xs:List V)(x y:V):(xs++[x]).set xs.length y=xs++[y]:=by
 rw[List.set_append_right _ _ (le_refl _),sub_self];rfl
def hC(rws:List Rw)(i:Nat)(o:Int×Int)(m:Int):Int:=if ver (wf i o.1 o.2) (pkF rws (bH m) rws.length)=(Str.ofString "clash",0)then m else 0
def wR(K:W.Frag)(H:Hp):Prop:=∀z,W.tabIn K "clashes" = some z->c9 H z.2 [(pS Y35,"clashes.<locals>.<lambda>")]
theorem CV{k:Int}(h0:0<=k)(h1:k<2):∃(wy:Str)(i:Nat),atI [V.str "only",.str "like"] k=some (.str wy)/\six[i]?=some wy/\wy≠Str.ofString "sum" := by
 have:k=0\/k=1:=by lia
 rcases this with rfl|rfl
 ·exact⟨_,1,U,U,by decide⟩
 ·exact⟨_,2,U,U,by decide⟩
theorem CW{k:Int}(h0:0<=k)(h1:k<3):∃(wy:Str)(i:Nat),atI [V.str "first",.str "low",.str "high"] k=some (.str wy)/\six[i]?=some wy/\wy≠Str.ofString "sum" := by
 have:k=0\/k=1\/k=2:=by lia
 rcases this with rfl|rfl|rfl
 ·exact⟨_,0,U,U,by decide⟩
 ·exact⟨_,3,U,U,by decide⟩
 ·exact⟨_,4,U,U,by decide⟩
theorem CY{k:Int}(h0:0<=k)(h1:k<4):∃(wy:Str)(i:Nat),atI [V.str "first",.str "low",.str "high",.str "sum"] k=some (.str wy)/\six[i]?=some wy:=by
 have:k=0\/k=1\/k=2\/k=3:=by lia
 rcases this with rfl|rfl|rfl|rfl
 ·exact⟨_,0,U,U⟩
 ·exact⟨_,3,U,U⟩
 ·exact⟨_,4,U,U⟩
 ·exact⟨_,5,U,U⟩
theorem xV{K:W.Frag}{H:Hp}{Q:VK}{a b:Addr}{v u:SI}(ha:SqT K H a (tp v))(hb:SqT K H b (tp u))(h:Q (.bl (decide (v=u))) H):zr K false (.ref a) (.ref b) H Q:=by
 refine⟨a,b,_,_,U,U,ha,hb,λj=>if j=0 then eqV (.str v.1) (.str u.1)else eqV (.int v.2) (.int u.2),λj x y e1 e2=>?_,?_⟩
 ·match j,e1,e2 with
  |0,e1,e2=>cases e1;cases e2;exact EqI.flat U U
  |1,e1,e2=>cases e1;cases e2;exact EqI.flat U U
  |j+2,e1,e2=>simp[tp]at e1
 ·have e:((List.range (min (tp v).length (tp u).length)).all (λj=>if j=0 then eqV (.str v.1) (.str u.1)else eqV (.int v.2) (.int u.2)) && (tp v).length == (tp u).length)=decide (v=u):=by
   have e1:eqV (.str v.1) (.str u.1)=decide (v.1=u.1):=by unfold eqV;rw[Bool.eq_iff_iff];simp
   have e2:eqV (.int v.2) (.int u.2)=decide (v.2=u.2):=by unfold eqV;rw[Bool.eq_iff_iff];simp
   show((List.range 2).all (λj=>if j=0 then eqV (.str v.1) (.str u.1)else eqV (.int v.2) (.int u.2)) && (2 == 2:Bool))=_;rw[e1,e2];obtain⟨v1,v2⟩:=v;obtain⟨u1,u2⟩:=u;by_cases h1:v1=u1 <;> by_cases h2:v2=u2 <;> simp[range_succ,h1,h2]
  show Q (.bl (if false=true then _ else _)) H;rw[if_neg (by decide),e];exact h
theorem n5{i:Nat}{lo hi:Int}{cs:List Int}(h:(ver (wf i lo hi) cs).1=Str.ofString "clash"):ver (wf i lo hi) cs=(Str.ofString "clash",0)/\cs≠[]:=by
 cases cs with
 |nil=>exact absurd (show Str.ofString "none" = Str.ofString "clash" from h) (by decide)
 |cons n ns =>
  refine⟨?_,λz=>by cases z⟩;have hs:∀x:Int,(say x).1≠Str.ofString "clash" := λx=>show Str.ofString "say" ≠ Str.ofString "clash" by decide
  have h:(wf i lo hi (n :: ns)).1=Str.ofString "clash" := h;show wf i lo hi (n :: ns)=_
  match i,h with
  |0,h=>exact absurd h (hs _)
  |1,h =>
   have h:(fY (n :: ns)).1=Str.ofString "clash" := h;show fY (n :: ns)=_;unfold fY at h⊢;split at h
   ·exact absurd h (hs _)
   ·rename_i g;rw[if_neg g];rfl
  |2,h =>
   have h:(fX (n :: ns)).1=Str.ofString "clash" := h;show fX (n :: ns)=_;unfold fX at h⊢;split at h
   ·exact absurd h (hs _)
   ·rename_i g;rw[if_neg g];rfl
  |3,h=>exact absurd h (hs _)
  |4,h=>exact absurd h (hs _)
  |i+5,h=>exact absurd h (hs _)
def ltC(bms:List (List Int×Int))(i:Nat)(o:Int×Int)(at_:List Nat):Int:=if (ver (wf i o.1 o.2) (cdF bms (ky bms at_))).1=Str.ofString "clash" then((msk (λk=>gY at_ (bms.getD k ([],0))) bms.length:Nat):Int)else 0
theorem Aa{bms:List (List Int×Int)}{i:Nat}{o:Int×Int}{at_:List Nat}(h:(ver (wf i o.1 o.2) (cdF bms (ky bms at_))).1=Str.ofString "clash"):ltC bms i o at_=((msk (λk=>gY at_ (bms.getD k ([],0))) bms.length:Nat):Int)/\ltC bms i o at_≠0:=by
 have e:ltC bms i o at_=((msk (λk=>gY at_ (bms.getD k ([],0))) bms.length:Nat):Int):=by unfold ltC;rw[if_pos h]
 refine⟨e,λz=>(n5 h).2 ?_⟩;rw[e]at z;have:=qi.mp (show msk (λk=>gY at_ (bms.getD k ([],0))) bms.length=0 by lia);unfold ky;rw[this];rfl
theorem Bi{pss:List (List Int)}{bms:List (List Int×Int)}{rws:List Rw}{i:Nat}{o:Int×Int}(hpt:∀ps∈pss,Pts ps)(hn:rws.length=bms.length)(hGr:∀(k:Nat)(b:List Int×Int)(x:Rw),bms[k]?=some b->rws[k]?=some x->GrR pss b x)(hb:∀b∈bms,b.1.length=pss.length){at_:List Nat}{cd:List Int}(h:lR pss at_ cd):hC rws i o (mkg rws cd)=ltC bms i o at_:=by
 have hcd:∀k,k<bms.length->(rws.getD k ([],0)).2=(bms.getD k ([],0)).2:=λk hk=>by
  have e1:=Fn hk;have e2:=Fn (l:=rws) (i:=k) (by lia);rw[getD_eq_getElem?_getD,getD_eq_getElem?_getD,e1,e2];exact(hGr k _ _ e1 e2).1
 rw[zX hpt hn hGr hb h];generalize hg:(λk=>gY at_ (bms.getD k ([],0)))=g;have hF:ky bms at_=(List.range bms.length).filter g:=by unfold ky;rw[hg]
 have e2:pkF rws (bH ((msk g bms.length:Nat):Int)) rws.length=cdF bms ((List.range bms.length).filter g):=by rw[←hn,xI,Bg hn hcd,hn]
 unfold hC ltC;rw[e2,hF,hg];by_cases z:(ver (wf i o.1 o.2) (cdF bms ((List.range bms.length).filter g))).1=Str.ofString "clash"
 ·rw[if_pos z,if_pos (n5 z).1]
 ·rw[if_neg z,if_neg λk=>z (by rw[k])]
theorem tq(f:Nat->Bool):∀n,((((List.range n).filter f).map λk:Nat=>(1:Int)*2^((k:Int)).toNat)).sum=((msk f n:Nat):Int)
 |0=>rfl
 |n+1=>by
  have e:(1:Int)*2^((n:Int)).toNat=((2^n:Nat):Int):=by rw[one_mul,toNat_natCast];simp
  rw[range_succ,filter_append,map_append,jD,tq f n,fk];cases hf:f n with
  |true =>
   rw[filter_cons_of_pos hf,if_pos U];show _+((1:Int)*2^((n:Int)).toNat+0)=_;rw[e];lia
  |false =>
   rw[filter_cons_of_neg (by rw[hf];decide),if_neg (by decide)];show _+(0:Int)=_;lia
inductive fN(K:W.Frag)(Y:AD)(vs:List V)(H:Hp)(Q:VK)(e_:XK):Prop
 |mk (z g:Str)(_:vs=[.str z,.str g])(_:Q (.bl (kY z g)) H):fN K Y vs H Q e_
inductive eP(K:W.Frag)(Y:AD)(vs:List V)(H:Hp)(Q:VK)(e_:XK):Prop
 |mk (i:Int)(_:vs=[.int i])(_:Q (.bl true) H):eP K Y vs H Q e_
inductive lZ(K:W.Frag)(Y:AD)(vs:List V)(H:Hp)(Q:VK)(e_:XK):Prop
 |mk (a:Addr)(xs:List V)(ps:List (Int×Int))(n:Int)(_:vs=[.ref a,.int n])(_:SqL K H a xs)(_:PL H xs ps)(_:Q (.bl (inP ps n)) H):lZ K Y vs H Q e_
inductive l0(K:W.Frag)(Y:AD)(vs:List V)(H:Hp)(Q:VK)(e_:XK):Prop
 |mk (a:Addr)(xs:List V)(R:List (Int×Int))(lo hi:Int)(_:vs=[.ref a,.int lo,.int hi])(_:SqL K H a xs)(_:PL H xs R)(_:xs.length<=400)(_:∀(r:Addr)(H':Hp)(es:List Int),ar H H'->H r=none->H' r=some (.lst (es.map V.int))->es=(ends R).filter (λt=>decide (lo<t) && decide (t<=hi))->Q (.ref r) H'):l0 K Y vs H Q e_
inductive fO(K:W.Frag)(Y:AD)(vs:List V)(H:Hp)(Q:VK)(e_:XK):Prop
 |mk (a:Addr)(ms L:List Int)(lo hi:Int)(_:vs=[.int lo,.int hi,.ref a])(_:SqL K H a (ms.map V.int))(_:ms.length<=400)(_:L.length<64)(_:(∀m∈ms,lo<m->m<=hi->m∈L))(_:∀(r:Addr)(H':Hp)(cs:List Int)(ts:List V),ar H H'->H r=none->H' r=some (.lst ts)->PL H' ts (b9 lo hi cs)->cs.Pairwise (· < ·)->(∀c,c∈cs↔(c∈ms/\lo<c/\c<=hi))->cs.length<64->Q (.ref r) H'):fO K Y vs H Q e_
inductive gR(K:W.Frag)(Y:AD)(vs:List V)(H:Hp)(Q:VK)(e_:XK):Prop
 |mk (L:Type)(_:DecidableEq L)(A:Lfp L)(n:Nat)(a:Addr)(xs:List V)(ts:List (T3a (Fm L n)))(_:vs=[.ref a])(_:n<=6)(_:H a=some (.lst xs))(_:FmL (FmV A H n) H ts xs)(_:ts.length<=900)(_:∀(r:Addr)(H':Hp),ar H H'->FmV A H' (n+1) (fK ts) (.ref r)->Q (.ref r) H'):gR K Y vs H Q e_
inductive gv(K:W.Frag)(Y:AD)(vs:List V)(H:Hp)(Q:VK)(e_:XK):Prop
 |mk (a:Addr)(as:List Addr)(xss:List (List Int))(L:List Int)(_:vs=[.ref a])(_:H a=some (.lst (as.map V.ref)))(_:MLs H as xss)(_:xss.flatten.length<=1000)(_:L.length<64)(_:(∀x∈xss.flatten,x∈L))(_:∀(l:Addr)(cs:List Int)(H':Hp),ar H H'->H l=none->H' l=some (.lst (cs.map V.int))->cs.Pairwise (· < ·)->(∀x,x∈cs↔x∈xss.flatten)->Q (.ref l) H'):gv K Y vs H Q e_
inductive dz(K:W.Frag)(Y:AD)(vs:List V)(H:Hp)(Q:VK)(e_:XK):Prop
 |mk (p r:Addr)(xs ys:List V)(_:vs=[.ref p,.ref r])(_:SqL K H p xs)(_:SqL K H r ys)(_:1<=xs.length)(_:xs.length<=4)(_:ys.length<=200)(_:Q .non H):dz K Y vs H Q e_
inductive iR(K:W.Frag)(Y:AD)(vs:List V)(H:Hp)(Q:VK)(e_:XK):Prop
 |mk (cl:Addr)(xs:List V)(w:Rw)(_:vs=[.ref cl,.int w.2])(_:H cl=some (.lst xs))(_:CL NT H xs w.1)(_:w.1.length<=100)(_:∀(r:Addr)(H':Hp),ar H H'->H r=none->iO (λa=>H a=none) H' r w->Q (.ref r) H'):iR K Y vs H Q e_
inductive dH(K:W.Frag)(Y:AD)(vs:List V)(H:Hp)(Q:VK)(e_:XK):Prop
 |mk (t:Addr)(dv:List V)(bs:Prs)(rws:List Rw)(_:vs=[.ref t])(_:TD Y.k Y.i Y.j H t dv bs rws)(_:bs.length<=100)(_:∀(l:Addr)(ys:List V)(H':Hp),ar H H'->H l=none->H' l=some (.lst ys)->PL H' ys bs->Q (.ref l) H'):dH K Y vs H Q e_
inductive dD(K:W.Frag)(Y:AD)(vs:List V)(H:Hp)(Q:VK)(e_:XK):Prop
 |mk (a:Addr)(ns:List Int)(k:Int)(_:vs=[.ref a,.int k])(_:SqL K H a (ns.map V.int))(_:0<=k)(_:Q (.int (di ns k)) H):dD K Y vs H Q e_
inductive eW(K:W.Frag)(Y:AD)(vs:List V)(H:Hp)(Q:VK)(e_:XK):Prop
 |mk (c n:Int)(_:vs=[.int c,.int n])(_:1<=n)(_:n<=12)(_:∀(l:Addr)(ps:List Int)(H':Hp),ar H H'->H l=none->H' l=some (.lst (ps.map V.int))->Pts ps->(c%3=1->∃m:Nat,1<=m/\m<=12/\ps=cA (m+1))->(ps.length:Int)<=n+1->(∀x∈ps,∀y∈ps,y-x<=12*10^56)->Q (.ref l) H'):eW K Y vs H Q e_
inductive dE(K:W.Frag)(Y:AD)(vs:List V)(H:Hp)(Q:VK)(e_:XK):Prop
 |mk (c k:Int)(_:vs=[.int c,.int k])(_:0<=k)(_:k<12)(_:Q (.str (w3 c k)) H):dE K Y vs H Q e_
inductive gw(K:W.Frag)(Y:AD)(vs:List V)(H:Hp)(Q:VK)(e_:XK):Prop
 |mk (c:Int)(_:vs=[.int c])(_:∀(l:Addr)(os:List Int)(H':Hp),ar H H'->H' l=some (.lst (os.map V.int))->iP c os->Q (.ref l) H'):gw K Y vs H Q e_
inductive iS(K:W.Frag)(Y:AD)(vs:List V)(H:Hp)(Q:VK)(e_:XK):Prop
 |mk (c:Int)(b:Bool)(_:vs=[.int c,.bl b])(_:∀(wy:Str)(i:Nat)(H':Hp),ar H H'->six[i]?=some wy->(b=true->wy≠Str.ofString "sum")->Q (.str wy) H'):iS K Y vs H Q e_
inductive iT(K:W.Frag)(Y:AD)(vs:List V)(H:Hp)(Q:VK)(e_:XK):Prop
 |mk (c:Int)(pl ol:Addr)(xs:List V)(pss:List (List Int))(os:List Int)(oc:Int)(_:vs=[.int c,.ref pl,.ref ol])(_:H pl=some (.lst xs))(_:PTL H xs pss)(_:pss.length<=4)(_:(∀ps∈pss,Pts ps))(_:H ol=some (.lst (os.map V.int)))(_:iP oc os)(_:∀(r bl:Addr)(ms:List Int)(cd:Int)(H':Hp),ar H H'->H r=none->H bl=none->H' r=some (.tup [.ref bl,.int cd])->H' bl=some (.lst (ms.map V.int))->ms.length=pss.length->(∀x∈ms,0<=x)->cd∈os->Q (.ref r) H'):iT K Y vs H Q e_
inductive fP(K:W.Frag)(Y:AD)(vs:List V)(H:Hp)(Q:VK)(e_:XK):Prop
 |mk (l:Addr)(ps:List Int)(m:Int)(_:vs=[.ref l,.int m])(_:H l=some (.lst (ps.map V.int)))(_:Pts ps)(_:0<=m)(_:∀(sp:Addr)(qs:Prs)(H':Hp),ar H H'->SpA (λa=>H a=none) H' sp qs->(∀p∈qs,loP ps<=p.1/\p.2<=hiP ps)->SpG ps m (ps.length-1) qs->Q (.ref sp) H'):fP K Y vs H Q e_
inductive eX(K:W.Frag)(Y:AD)(vs:List V)(H:Hp)(Q:VK)(e_:XK):Prop
 |mk (cl:Addr)(xs:List V)(cs:List (List Int))(_:vs=[.ref cl])(_:H cl=some (.lst xs))(_:PTL H xs cs)(_:(∀c∈cs,Pts c))(_:cs.length<=4)(_:∀(l:Addr)(zs:List V)(H':Hp),ar H H'->H' l=some (.lst zs)->PtL NT H' zs (cm (gls cs))->Q (.ref l) H'):eX K Y vs H Q e_
inductive iU(K:W.Frag)(Y:AD)(vs:List V)(H:Hp)(Q:VK)(e_:XK):Prop
 |mk (pl at_:Addr)(xs:List V)(pss:List (List Int))(ps:List Nat)(_:vs=[.ref pl,.ref at_])(_:H pl=some (.lst xs))(_:PTL H xs pss)(_:pss.length<=4)(_:ps∈cm (gls pss))(_:H at_=some (.lst (vN ps)))(_:∀(b:Addr)(H':Hp),ar H H'->BxA H' b (dn pss ps)->Q (.ref b) H'):iU K Y vs H Q e_
inductive dX(K:W.Frag)(Y:AD)(vs:List V)(H:Hp)(Q:VK)(e_:XK):Prop
 |mk (rl al:Addr)(rx:List V)(bms:List (List Int×Int))(at_:List Nat)(_:vs=[.ref rl,.ref al])(_:H rl=some (.lst rx))(_:BRL H rx bms)(_:rx.length<=60)(_:H al=some (.lst (vN at_)))(_:at_.length<=4)(_:(∀b∈bms,b.1.length=at_.length/\∀x∈b.1,0<=x))(_:∀(l:Addr)(H':Hp),ar H H'->H l=none->H' l=some (.lst (vN (ky bms at_)))->Q (.ref l) H'):dX K Y vs H Q e_
inductive iV(K:W.Frag)(Y:AD)(vs:List V)(H:Hp)(Q:VK)(e_:XK):Prop
 |mk (cl ol:Addr)(wy:Str)(i:Nat)(cs os:List Int)(oc:Int)(_:vs=[.ref cl,.str wy,.ref ol])(_:H cl=some (.lst (cs.map V.int)))(_:cs.length<=60)(_:six[i]?=some wy)(_:H ol=some (.lst (os.map V.int)))(_:iP oc os)(_:∀(r:Addr)(H':Hp),ar H H'->H' r=some (.tup (tp (ver (wf i (o0 os) (o4 os)) cs)))->Q (.ref r) H'):iV K Y vs H Q e_
inductive dN(K:W.Frag)(Y:AD)(vs:List V)(H:Hp)(Q:VK)(e_:XK):Prop
 |mk (i:Int)(_:vs=[.int i])(_:Q (.bl true) H):dN K Y vs H Q e_
inductive gx(K:W.Frag)(Y:AD)(vs:List V)(H:Hp)(Q:VK)(e_:XK):Prop
 |mk (a b:Addr)(A B:List (Int×Int))(_:vs=[.ref a,.ref b])(_:BxA H a A)(_:BxA H b B)(_:A.length=B.length)(_:A.length<=6)(_:Q (.bl (iE A B)) H):gx K Y vs H Q e_
inductive gy(K:W.Frag)(Y:AD)(vs:List V)(H:Hp)(Q:VK)(e_:XK):Prop
 |mk (b:Addr)(B:List (Int×Int))(_:vs=[.ref b])(_:BxA H b B)(_:B.length<=4)(_:(∀p∈B,0<=p.2-p.1/\p.2-p.1<=10^58))(_:Q (.int (vol B)) H):gy K Y vs H Q e_
inductive cn(K:W.Frag)(Y:AD)(vs:List V)(H:Hp)(Q:VK)(e_:XK):Prop
 |mk (x dx:Addr)(z:Str)(_:vs=[.ref x,.str z])(_:H x=some (.ins Y.b dx []))(_:Q .non (upd H x (.ins Y.b dx [("called",.str z)]))):cn K Y vs H Q e_
inductive cB(K:W.Frag)(Y:AD)(vs:List V)(H:Hp)(Q:VK)(e_:XK):Prop
 |mk (x dx:Addr)(z:Str)(_:vs=[.ref x,.str z])(_:H x=some (.ins Y.c dx []))(_:Q .non (upd H x (.ins Y.c dx [("called",.str z)]))):cB K Y vs H Q e_
inductive cC(K:W.Frag)(Y:AD)(vs:List V)(H:Hp)(Q:VK)(e_:XK):Prop
 |mk (x dx:Addr)(z:Str)(_:vs=[.ref x,.str z])(_:H x=some (.ins Y.d dx []))(_:Q .non (upd H x (.ins Y.d dx [("called",.str z)]))):cC K Y vs H Q e_
inductive cM(K:W.Frag)(Y:AD)(vs:List V)(H:Hp)(Q:VK)(e_:XK):Prop
 |mk (x dx:Addr)(z:Str)(_:vs=[.ref x,.str z])(_:H x=some (.ins Y.e dx []))(_:Q .non (upd H x (.ins Y.e dx [("called",.str z)]))):cM K Y vs H Q e_
inductive cD(K:W.Frag)(Y:AD)(vs:List V)(H:Hp)(Q:VK)(e_:XK):Prop
 |mk (x dx:Addr)(z:Str)(_:vs=[.ref x,.str z])(_:H x=some (.ins Y.f dx []))(_:Q .non (upd H x (.ins Y.f dx [("called",.str z)]))):cD K Y vs H Q e_
inductive cO(K:W.Frag)(Y:AD)(vs:List V)(H:Hp)(Q:VK)(e_:XK):Prop
 |mk (x dx:Addr)(z:Str)(_:vs=[.ref x,.str z])(_:H x=some (.ins Y.g dx []))(_:Q .non (upd H x (.ins Y.g dx [("called",.str z)]))):cO K Y vs H Q e_
inductive bE(K:W.Frag)(Y:AD)(vs:List V)(H:Hp)(Q:VK)(e_:XK):Prop
 |mk (x dx:Addr)(lo hi:Int)(_:vs=[.ref x,.int lo,.int hi])(_:H x=some (.ins Y.i dx []))(_:Q .non (mkd Y.i H x dx lo hi)):bE K Y vs H Q e_
inductive bR(K:W.Frag)(Y:AD)(vs:List V)(H:Hp)(Q:VK)(e_:XK):Prop
 |mk (x dx:Addr)(lo hi:Int)(_:vs=[.ref x,.int lo,.int hi])(_:H x=some (.ins Y.j dx []))(_:Q .non (mkd Y.j H x dx lo hi)):bR K Y vs H Q e_
def J1(K:W.Frag)(Y:AD):Sp:=ui K Y.b Y.i Y.j 0
def J9(K:W.Frag)(Y:AD):Sp:=ui K Y.c Y.i Y.j 1
def J5(K:W.Frag)(Y:AD):Sp:=ui K Y.d Y.i Y.j 2
def J7(K:W.Frag)(Y:AD):Sp:=ui K Y.e Y.i Y.j 3
def J3(K:W.Frag)(Y:AD):Sp:=ui K Y.f Y.i Y.j 4
def J11(K:W.Frag)(Y:AD):Sp:=ui K Y.g Y.i Y.j 5
inductive fQ(K:W.Frag)(Y:AD)(vs:List V)(H:Hp)(Q:VK)(e_:XK):Prop
 |mk (z:Str)(_:vs=[.str z])(_:z.length<=1000)(_:Q (.bl (isw z)) H):fQ K Y vs H Q e_
inductive dj(K:W.Frag)(Y:AD)(vs:List V)(H:Hp)(Q:VK)(e_:XK):Prop
 |mk (a b:Addr)(ys:List V)(ps:List (Int×Int))(as:List Addr)(mss:List (List Int))(_:vs=[.ref a,.ref b])(_:H a=some (.lst ys))(_:PL H ys ps)(_:H b=some (.lst (as.map V.ref)))(_:MLs H as mss)(_:MOK ps mss)(_:∀(l:Addr)(xs:List V)(H':Hp)(css:List (List Int)),ar H H'->H' l=some (.lst xs)->css.length=ps.length->(∀(j:Nat)(p:Int×Int)(ms cs:List Int),ps[j]?=some p->mss[j]?=some ms->css[j]?=some cs->cs.Pairwise (· < ·)/\(∀c,c∈cs↔(c∈ms/\p.1<c/\c<=p.2))/\cs.length<64)->CoL H' xs (List.zipWith (λp cs=>b9 p.1 p.2 cs) ps css)->Q (.ref l) H'):dj K Y vs H Q e_
inductive oP(K:W.Frag)(Y:AD)(vs:List V)(H:Hp)(Q:VK)(e_:XK):Prop
 |mk (t rl c dx:Addr)(fs:List (Str×V))(xs:List V)(rws:List Rw)(k:Nat)(w:Rw)(cs:List Int)(_:vs=[.ref t,.int k,.ref c])(_:H t=some (.ins Y.k dx fs))(_:fs.lookup (Str.ofString "rows")=some (.ref rl)) (_:H rl=some (.lst xs))(_:RL NT H xs rws)(_:rws[k]?=some w)(_:SqL K H c (cs.map V.int))(_:w.1.length=cs.length)(_:∀H',ar H H'->Q (.bl (mM w.1 cs)) H'):oP K Y vs H Q e_
inductive dI(K:W.Frag)(Y:AD)(vs:List V)(H:Hp)(Q:VK)(e_:XK):Prop
 |mk (t:Addr)(c:Nat)(dv:List V)(bs:Prs)(rws:List Rw)(b:Int×Int)(L:List Int)(_:vs=[.ref t,.int (c:Int)])(_:TD Y.k Y.i Y.j H t dv bs rws)(_:bs[c]?=some b)(_:rws.length<=60)(_:(∀w∈rws,c<w.1.length/\(w.1.getD c []).length<=6))(_:L.length<64)(_:(∀x,MkC rws c b x->x∈L))(_:∀(l:Addr)(cs:List Int)(H':Hp),ar H H'->H l=none->H' l=some (.lst (cs.map V.int))->cs.Pairwise (· < ·)->(∀x,x∈cs↔MkC rws c b x)->Q (.ref l) H'):dI K Y vs H Q e_
inductive cV(K:W.Frag)(Y:AD)(vs:List V)(H:Hp)(Q:VK)(e_:XK):Prop
 |mk (a m:Addr)(ns qs:List Int)(_:vs=[.ref a,.ref m])(_:SqL K H a (ns.map V.int))(_:SqL K H m (qs.map V.int))(_:(∀x∈qs,1<=x/\x<=12))(_:qs.length<=4)(_:∀(l:Addr)(xs:List V)(pss:List (List Int))(H':Hp),ar H H'->H' l=some (.lst xs)->PTL H' xs pss->oG ns pss->pss.length=qs.length->(∀(j:Nat)(ps:List Int)(x:Int),pss[j]?=some ps->qs[j]?=some x->(ps.length:Int)<=x+1)->(∀ps∈pss,∀x∈ps,∀y∈ps,y-x<=12*10^56)->Q (.ref l) H'):cV K Y vs H Q e_
inductive eY(K:W.Frag)(Y:AD)(vs:List V)(H:Hp)(Q:VK)(e_:XK):Prop
 |mk (b pl:Addr)(B:List (Int×Int))(xs:List V)(pss:List (List Int))(_:vs=[.ref b,.ref pl])(_:BxA H b B)(_:H pl=some (.lst xs))(_:PTL H xs pss)(_:(∀ps∈pss,Pts ps))(_:zQ B (pss.map λps=>(loP ps,hiP ps)))(_:pss.length<=4)(_:Q (.bl true) H):eY K Y vs H Q e_
def J0(K:W.Frag)(Y:AD):Sp:=ug Y.b (Str.ofString "first")
def J8(K:W.Frag)(Y:AD):Sp:=ug Y.c (Str.ofString "only")
def J4(K:W.Frag)(Y:AD):Sp:=ug Y.d (Str.ofString "like")
def J6(K:W.Frag)(Y:AD):Sp:=ug Y.e (Str.ofString "low")
def J2(K:W.Frag)(Y:AD):Sp:=ug Y.f (Str.ofString "high")
def J10(K:W.Frag)(Y:AD):Sp:=ug Y.g (Str.ofString "sum")
inductive bF(K:W.Frag)(Y:AD)(vs:List V)(H:Hp)(Q:VK)(e_:XK):Prop
 |mk (a:Addr)(b:Int×Int)(i:Int)(_:vs=[.ref a,.int i])(_:zJ Y.i H a b.1 b.2)(_:b.1<=i)(_:i<=b.2)(_:Q (.bl true) H):bF K Y vs H Q e_
inductive bT(K:W.Frag)(Y:AD)(vs:List V)(H:Hp)(Q:VK)(e_:XK):Prop
 |mk (a:Addr)(b:Int×Int)(i:Int)(_:vs=[.ref a,.int i])(_:zJ Y.j H a b.1 b.2)(_:b.1<=i)(_:i<=b.2)(_:Q (.bl true) H):bT K Y vs H Q e_
inductive bg(K:W.Frag)(Y:AD)(vs:List V)(H:Hp)(Q:VK)(e_:XK):Prop
 |mk (x dx:Addr)(lo hi:Int)(_:vs=[.ref x,.int lo,.int hi])(_:H x=some (.ins Y.i dx []))(_:lo<=hi)(_:Q .non (mkd Y.i H x dx lo hi)):bg K Y vs H Q e_
def J12(K:W.Frag)(Y:AD):Sp:=jB K Y.b Y.i Y.j 0
def J16(K:W.Frag)(Y:AD):Sp:=jB K Y.c Y.i Y.j 1
def J14(K:W.Frag)(Y:AD):Sp:=jB K Y.d Y.i Y.j 2
def J15(K:W.Frag)(Y:AD):Sp:=jB K Y.e Y.i Y.j 3
def J13(K:W.Frag)(Y:AD):Sp:=jB K Y.f Y.i Y.j 4
def J17(K:W.Frag)(Y:AD):Sp:=jB K Y.g Y.i Y.j 5
inductive l7(K:W.Frag)(Y:AD)(vs:List V)(H:Hp)(Q:VK)(e_:XK):Prop
 |mk (a b:Addr)(ys:List V)(ps:List (Int×Int))(as:List Addr)(mss:List (List Int))(_:vs=[.ref a,.ref b])(_:H a=some (.lst ys))(_:PL H ys ps)(_:H b=some (.lst (as.map V.ref)))(_:MLs H as mss)(_:MOK ps mss)(_:∀H':Hp,ar H H'->Q (.int ((gr ps mss ps.length:Nat):Int)) H'):l7 K Y vs H Q e_
inductive dJ(K:W.Frag)(Y:AD)(vs:List V)(H:Hp)(Q:VK)(e_:XK):Prop
 |mk (p:Addr)(zs:List Str)(_:vs=[.ref p])(_:SqL K H p (zs.map V.str))(_:(∀z∈zs,isw z=true))(_:zs.Nodup)(_:zs.length<=100)(_:∀H',ar H H'->Q .non H'):dJ K Y vs H Q e_
inductive eZ(K:W.Frag)(Y:AD)(vs:List V)(H:Hp)(Q:VK)(e_:XK):Prop
 |mk (dl ou cl:Addr)(dv xs:List V)(bs:Prs)(o:Int×Int)(w:Rw)(_:vs=[.ref dl,.ref ou,.ref cl,.int w.2])(_:SqL K H dl dv)(_:aI dv bs (Dom Y.i Y.j H))(_:Dom Y.i Y.j H ou o)(_:H cl=some (.lst xs))(_:CL NT H xs w.1)(_:nK bs o w)(_:∀H',ar H H'->Q .non H'):eZ K Y vs H Q e_
inductive jE(K:W.Frag)(Y:AD)(vs:List V)(H:Hp)(Q:VK)(e_:XK):Prop
 |mk (t c:Addr)(rws:List Rw)(i:Nat)(o:Int×Int)(cs:List Int)(_:vs=[.ref t,.ref c])(_:Tbl Y.k Y.i Y.j H t rws i o)(_:SqL K H c (cs.map V.int))(_:(∀w∈rws,w.1.length=cs.length))(_:∀H',ar H H'->Q (.int ((msk (gX rws cs) rws.length:Nat):Int)) H'):jE K Y vs H Q e_
inductive dY(K:W.Frag)(Y:AD)(vs:List V)(H:Hp)(Q:VK)(e_:XK):Prop
 |mk (t:Addr)(dv:List V)(bs:Prs)(rws:List Rw)(L:Nat->List Int)(_:vs=[.ref t])(_:TD Y.k Y.i Y.j H t dv bs rws)(_:bs.length<=100)(_:rws.length<=60)(_:(∀w∈rws,w.1.length=bs.length/\∀c,(w.1.getD c []).length<=6))(_:(∀(c:Nat)(b:Int×Int),bs[c]?=some b->(L c).length<64/\∀x,MkC rws c b x->x∈L c))(_:∀(l:Addr)(as:List Addr)(mss:List (List Int))(H':Hp),ar H H'->H l=none->H' l=some (.lst (as.map V.ref))->MLs H' as mss->mss.length=bs.length->(∀(c:Nat)(b:Int×Int)(ms:List Int),bs[c]?=some b->mss[c]?=some ms->ms.Pairwise (· < ·)/\∀x,x∈ms↔MkC rws c b x)->Q (.ref l) H'):dY K Y vs H Q e_
inductive gz(K:W.Frag)(Y:AD)(vs:List V)(H:Hp)(Q:VK)(e_:XK):Prop
 |mk (tl il dl pl:Addr)(lv:Int->V)(tx:List V)(TL:List (List (Int×Int)×Int))(ix:List V)(IL:List (List (Int×Int)×Int))(xs:List V)(pss:List (List Int))(_:vs=[.ref tl,.ref il,.ref dl,.ref pl])(_:H tl=some (.lst tx))(_:TlL lv H tx TL)(_:H il=some (.lst ix))(_:aI ix (IL.map (·.1)) (BxA H))(_:H dl=some (.lst (IL.map λx=>if x.2=0 then V.non else lv x.2)))(_:H pl=some (.lst xs))(_:PTL H xs pss)(_:(∀ps∈pss,Pts ps))(_:pss.length<=4)(_:(∀x:Int,y8 (lv x) (lv x)=true/\lv x≠.non))(_:TL.Pairwise (λa b=>Asc a.1 b.1))(_:(∀q∈TL,zQ q.1 (pss.map λps=>(loP ps,hiP ps))/\q.2≠0))(_:(∀q,q∈TL\/q∈IL->q.1.length=pss.length/\∀p∈q.1,0<=p.2-p.1/\p.2-p.1<=10^58))(_:(∀q∈TL,∀r∈IL,iE q.1 r.1=true->r.2=q.2))(_:d7 TL=(oO IL).sum)(_:TL.length<=300)(_:IL.length<=300)(_:∀H',ar H H'->Q (.bl true) H'):gz K Y vs H Q e_
inductive bz(K:W.Frag)(Y:AD)(vs:List V)(H:Hp)(Q:VK)(e_:XK):Prop
 |mk (x dx p:Addr)(zs:List Str)(_:vs=[.ref x,.ref p])(_:H x=some (.ins Y.j dx []))(_:H p=some (.lst (zs.map V.str)))(_:Good zs)(_:∀(H':Hp)(l:Addr),(∀b o,b≠x->H b=some o->H' b=some o)->H' x=some (.ins Y.j dx [("low",.int 0),("high",.int (hiW zs)),("words",.ref l)])->Q .non H'):bz K Y vs H Q e_
inductive gW(K:W.Frag)(Y:AD)(vs:List V)(H:Hp)(Q:VK)(e_:XK):Prop
 |mk (z:Str)(_:vs=[.str z])(_:z∈six)(_:(∀i:Nat,six[i]?=some z->∀(x C:Addr)(H':Hp),ar H H'->(cl6 Y.b Y.c Y.d Y.e Y.f Y.g)[i]?=some C->WyN C H' x z->Q (.ref x) H')):gW K Y vs H Q e_
inductive fb(K:W.Frag)(Y:AD)(vs:List V)(H:Hp)(Q:VK)(e_:XK):Prop
 |mk (z:Str)(ou:Addr)(_:vs=[.str z,.ref ou])(_:z∈six)(_:(z=Str.ofString "sum" -> ∃dx fs,H ou=some (.ins Y.i dx fs))) (_:∀H',ar H H'->Q .non H'):fb K Y vs H Q e_
inductive fm(K:W.Frag)(Y:AD)(vs:List V)(H:Hp)(Q:VK)(e_:XK):Prop
 |mk (t:Addr)(rws:List Rw)(i:Nat)(o:Int×Int)(m:Int)(_:vs=[.ref t,.int m])(_:Tbl Y.k Y.i Y.j H t rws i o)(_:∀(r:Addr)(H':Hp),ar H H'->SqT K H' r (tp (ver (wf i o.1 o.2) (pkF rws (bH m) rws.length)))->Q (.ref r) H'):fm K Y vs H Q e_
inductive fc(K:W.Frag)(Y:AD)(vs:List V)(H:Hp)(Q:VK)(e_:XK):Prop
 |mk (c:Int)(l:Addr)(ps:List Int)(_:vs=[.int c,.ref l])(_:H l=some (.lst (ps.map V.int)))(_:Pts ps)(_:(c%3=1->∃m:Nat,1<=m/\m<=12/\ps=cA (m+1)))(_:∀(d:Addr)(H':Hp),ar H H'->Dom Y.i Y.j H' d (loP ps,hiP ps)->Q (.ref d) H'):fc K Y vs H Q e_
inductive dZ(K:W.Frag)(Y:AD)(vs:List V)(H:Hp)(Q:VK)(e_:XK):Prop
 |mk (c:Int)(l:Addr)(os:List Int)(_:vs=[.int c,.ref l])(_:H l=some (.lst (os.map V.int)))(_:iP c os)(_:∀(d:Addr)(H':Hp),ar H H'->Dom Y.i Y.j H' d (o0 os,o4 os)->(c%3≠1->∃dx fs,H' d=some (.ins Y.i dx fs))->Q (.ref d) H'):dZ K Y vs H Q e_
inductive b8(K:W.Frag)(Y:AD)(vs:List V)(H:Hp)(Q:VK)(e_:XK):Prop
 |mk (x dx na dl ou rl:Addr)(nm wy:Str)(zs:List Str)(dv rx:List V)(bs:Prs)(o:Int×Int)(rws:List Rw)(_:vs=[.ref x,.str nm,.ref na,.ref dl,.ref ou,.str wy,.ref rl])(_:H x=some (.ins Y.k dx []))(_:H na=some (.lst (zs.map V.str)))(_:(∀z∈nm :: zs,isw z=true))(_:(nm :: zs).Nodup)(_:1<=zs.length)(_:zs.length<=4)(_:wy∈six)(_:(wy=Str.ofString "sum" -> ∃dx fs,H ou=some (.ins Y.i dx fs))) (_:H dl=some (.lst dv))(_:aI dv bs (Dom Y.i Y.j H))(_:Dom Y.i Y.j H ou o)(_:H rl=some (.lst rx))(_:RL NT H rx rws)(_:rx.length<=200)(_:bs.length<=4)(_:(∀w∈rws,nK bs o w))(_:∀(H':Hp)(fs:List (Str×V))(rl':Addr)(xs':List V),(∀b o,b≠x->H b=some o->H' b=some o)->H' x=some (.ins Y.k dx fs)->fs.lookup (Str.ofString "rows")=some (.ref rl')->fs.lookup (Str.ofString "way")=some (.str wy)->fs.lookup (Str.ofString "outcome")=some (.ref ou)->fs.lookup (Str.ofString "name")=some (.str nm)->(∃na' dl':Addr,fs.lookup (Str.ofString "names")=some (.ref na')/\fs.lookup (Str.ofString "domains")=some (.ref dl')/\H' na'=some (.lst (zs.map V.str))/\H' dl'=some (.lst dv)/\H na'=none/\H dl'=none)->H rl'=none->H' rl'=some (.lst xs')->RL (λa=>H a=none) H' xs' rws->Q .non H'):b8 K Y vs H Q e_
inductive gA(K:W.Frag)(Y:AD)(n:Nat)(vs:List V)(H:Hp)(Q:VK)(e_:XK):Prop
 |mk (d:Nat)(f:Fm Int d)(v:V)(_:vs=[v,.int (d:Int)])(_:FmV mJ H d f v)(_:d+1<=n)(_:(bxs d f).length<=2000)(_:(∀q∈bxs d f,q.1.length<=6))(_:∀(l:Addr)(xs:List V)(H':Hp),ar H H'->H l=none->H' l=some (.lst xs)->BxL H' xs (bxs d f)->Q (.ref l) H'):gA K Y n vs H Q e_
theorem wU{K:W.Frag}{Y:AD}{vs:List V}{H:Hp}{Q:VK}{E:XK}(h:gA K Y 0 vs H Q E):False:=by
 obtain⟨d,f_,v,rfl,hf,hn,hlen,h6,q⟩:=h;lia
inductive cX(K:W.Frag)(Y:AD)(vs:List V)(H:Hp)(Q:VK)(e_:XK):Prop
 |mk (d:Nat)(F:Fm Int d)(v:V)(_:vs=[v,.int (d:Int)])(_:FmV mJ H d F v)(_:d<=6)(_:(bxs d F).length<=300)(_:(∀q∈bxs d F,q.1.length<=6))(_:∀(l:Addr)(xs:List V)(H':Hp),ar H H'->H l=none->H' l=some (.lst xs)->BxL H' xs (eO (bxs d F))->Q (.ref l) H'):cX K Y vs H Q e_
inductive fR(K:W.Frag)(Y:AD)(vs:List V)(H:Hp)(Q:VK)(e_:XK):Prop
 |mk (a pl ol rl:Addr)(ns:List Int)(xs:List V)(pss:List (List Int))(os:List Int)(rx:List V)(bms:List (List Int×Int))(_:vs=[.ref a,.ref pl,.ref ol,.ref rl])(_:SqL K H a (ns.map V.int))(_:H pl=some (.lst xs))(_:PTL H xs pss)(_:oG ns pss)(_:1<=pss.length)(_:pss.length<=4)(_:H ol=some (.lst (os.map V.int)))(_:iP (di ns 5) os)(_:H rl=some (.lst rx))(_:BRL H rx bms)(_:rx.length<=60)(_:(∀b∈bms,b.1.length=pss.length/\b.2∈os/\∀x∈b.1,0<=x))(_:∀(t:Addr)(rws:List Rw)(nm wy:Str)(ou:Addr)(zs:List Str)(dv:List V)(wi:Nat)(H':Hp),ar H H'->rF (λa=>H a=none) Y.k H' t rws nm wy ou zs dv->aI dv (pss.map λps=>(loP ps,hiP ps)) (Dom Y.i Y.j H')->Dom Y.i Y.j H' ou (o0 os,o4 os)->six[wi]?=some wy->(wy=Str.ofString "sum" -> ∃dx fs,H' ou=some (.ins Y.i dx fs))->(∀z∈nm :: zs,isw z=true)->(nm :: zs).Nodup->zs.length=pss.length->rws.length=bms.length->(∀w∈rws,nK (pss.map λps=>(loP ps,hiP ps)) (o0 os,o4 os) w)->(∀(k:Nat)(b:List Int×Int)(x:Rw),bms[k]?=some b->rws[k]?=some x->GrR pss b x)->Q (.ref t) H'):fR K Y vs H Q e_
inductive d6(K:W.Frag)(Y:AD)(P:Program)(w:World)(mg:Str->Option Value)(base:Heap)(n:Nat)(vs:List V)(H:Hp)(Q:VK)(e_:XK):Prop
 |mk (c b f:Addr)(xs:List V)(cols:List (List (Int×Int)))(ah:List Int)(m:Nat)(L:Type)(_:DecidableEq L)(A:Lfp L)(g:List Int->L)(J:Hp->Prop)(_:vs=[.ref c,.ref b,.ref f])(_:cols.length+1<=n)(_:H c=some (.lst xs))(_:CoL H xs cols)(_:H b=some (.lst (ah.map V.int)))(_:(∀col∈cols,col.length<=64))(_:ah.length+cols.length<=6)(_:cols.length<=6)(_:m=ah.length+cols.length)(_:zN A P w K mg base f m g J)(_:J H)(_:(∀(v:V)(H':Hp),(∀d o,d≠b->H d=some o->H' d=some o)->FmV A H' cols.length (lay g cols ah) v->Q v H')):d6 K Y P w mg base n vs H Q e_
theorem rO{K:W.Frag}{Y:AD}{P:Program}{w:World}{mg:Str->Option Value}{base:Heap}{vs:List V}{H:Hp}{Q:VK}{E:XK}(h:d6 K Y P w mg base 0 vs H Q E):False:=by
 obtain⟨c,b,f_,xs,cols,ah,m,L,iL,A,g,J,rfl,hn,hc,hC,hb,h64,ha3,hc3,hm,hL,hJ,q⟩:=h;lia
inductive fq(K:W.Frag)(Y:AD)(P:Program)(w:World)(mg:Str->Option Value)(base:Heap)(n:Nat)(vs:List V)(H:Hp)(Q:VK)(e_:XK):Prop
 |mk (L M:Type)(_:DecidableEq L)(_:DecidableEq M)(A:Lfp L)(B:Lfp M)(h:L->M)(J:Hp->Prop)(d:Nat)(F:Fm L d)(v:V)(f:Addr)(_:vs=[v,.int d,.ref f])(_:d+1<=n)(_:d<=6)(_:FmV A H d F v)(_:SmF 300 d F)(_:Bd A B P w K mg base f h J)(_:J H)(_:∀(u:V)(H':Hp),ar H H'->FmV B H' d (mN h d F) u->Q u H'):fq K Y P w mg base n vs H Q e_
theorem uA{K:W.Frag}{Y:AD}{P:Program}{w:World}{mg:Str->Option Value}{base:Heap}{vs:List V}{H:Hp}{Q:VK}{E:XK}(h:fq K Y P w mg base 0 vs H Q E):False:=by
 obtain⟨L,M,iL,iM,A,B,h_,J,d,F_,v,f_,rfl,hn,hd3,hv,hsm,hL,hJ,q⟩:=h;lia
inductive l8(K:W.Frag)(Y:AD)(P:Program)(w:World)(mg:Str->Option Value)(base:Heap)(vs:List V)(H:Hp)(Q:VK)(e_:XK):Prop
 |mk (a b f:Addr)(ys:List V)(ps:List (Int×Int))(as:List Addr)(mss:List (List Int))(L:Type)(_:DecidableEq L)(A:Lfp L)(g:List Int->L)(J:Hp->Prop)(_:vs=[.ref a,.ref b,.ref f])(_:H a=some (.lst ys))(_:PL H ys ps)(_:H b=some (.lst (as.map V.ref)))(_:MLs H as mss)(_:MOK ps mss)(_:gr ps mss ps.length<=300)(_:zN A P w K mg base f ps.length g J)(_:J H)(_:∀(v:V)(H':Hp)(css:List (List Int)),ar H H'->css.length=ps.length->(∀(j:Nat)(p:Int×Int)(ms cs:List Int),ps[j]?=some p->mss[j]?=some ms->css[j]?=some cs->cs.Pairwise (· < ·)/\(∀c,c∈cs↔(c∈ms/\p.1<c/\c<=p.2))/\cs.length<64)->FmV A H' (List.zipWith (λp cs=>b9 p.1 p.2 cs) ps css).length (lay g (List.zipWith (λp cs=>b9 p.1 p.2 cs) ps css) []) v->Q v H'):l8 K Y P w mg base vs H Q e_
inductive gB(K:W.Frag)(Y:AD)(vs:List V)(H:Hp)(Q:VK)(e_:XK):Prop
 |mk (t:Addr)(dv:List V)(bs:Prs)(rws:List Rw)(L:Nat->List Int)(i:Nat)(o:Int×Int)(_:vs=[.ref t])(_:TD Y.k Y.i Y.j H t dv bs rws)(_:Tbl Y.k Y.i Y.j H t rws i o)(_:bs.length<=4)(_:rws.length<=60)(_:(∀x∈rws,x.1.length=bs.length/\∀c,(x.1.getD c []).length<=6))(_:(∀(c:Nat)(b:Int×Int),bs[c]?=some b->(L c).length<=57/\∀x,MkC rws c b x->x∈L c))(_:(∀mss:List (List Int),mss.length=bs.length->(∀(c:Nat)(b:Int×Int)(ms:List Int),bs[c]?=some b->mss[c]?=some ms->ms.Pairwise (· < ·)/\∀x,x∈ms↔MkC rws c b x)->gr bs mss bs.length<=300))(_:(∀z,W.tabIn K "row_form" = some z->c9 H z.2 [(pS Y76,"row_form.<locals>.<lambda>")])) (_:∀(v:V)(H':Hp)(css:List (List Int)),So H H'->(∀z,W.tabIn K "row_form" = some z->c9 H' z.2 [(pS Y76,"row_form.<locals>.<lambda>")]/\∀d o,d≠z.2->H d=some o->H' d=some o)->(∃z,W.tabIn K "row_form" = some z)->css.length=bs.length->(∀(j:Nat)(p:Int×Int)(cs:List Int),bs[j]?=some p->css[j]?=some cs->cs.Pairwise (· < ·)/\∀x,x∈cs↔MkC rws j p x)->FmV mJ H' (List.zipWith (λp cs=>b9 p.1 p.2 cs) bs css).length (lay (λcd=>((msk (gX rws cd) rws.length:Nat):Int)) (List.zipWith (λp cs=>b9 p.1 p.2 cs) bs css) []) v->Q v H'):gB K Y vs H Q e_
inductive iW(K:W.Frag)(Y:AD)(vs:List V)(H:Hp)(Q:VK)(e_:XK):Prop
 |mk (t:Addr)(dv:List V)(bs:Prs)(rws:List Rw)(L:Nat->List Int)(kk i:Nat)(o:Int×Int)(_:vs=[.ref t])(_:RfH Y.k Y.i Y.j H t dv bs rws L kk i o)(_:wu K H)(_:wR K H)(_:∀(l:Addr)(xs:List V)(cols:List (List (Int×Int)))(H':Hp),So H H'->(∀o,rK o->H l≠some o)->wu K H'->wR K H'->H' l=some (.lst xs)->rL bs rws cols->BxL H' xs (eO (bxs cols.length (lay (λcd=>hC rws i o (mkg rws cd)) cols [])))->xs.length<=300->Q (.ref l) H'):iW K Y vs H Q e_
def J18(K:W.Frag):Sp:=λvs H Q _=>∃(a:Addr)(ns:List Int),vs=[.ref a]/\SqL K H a (ns.map V.int)/\ns.length<=63/\(∀z,W.tabIn K "row_form" = some z->H z.2=some (.tbl #[]))/\(∀z,W.tabIn K "clashes" = some z->H z.2=some (.tbl #[]))/\∀H',Q (.bl true) H'
inductive ft(K:W.Frag)(Y:AD)(f c' c_0:Addr)(doc pm ctv:Value)(vs:List V)(H:Hp)(Q:VK)(e_:XK):Prop
 |mk (a t:Addr)(cs:List Int)(rws:List Rw)(i:Nat)(o:Int×Int)(_:vs=[.ref a])(_:iD H f c' (W.kla_obj "<lambda>" "row_form.<locals>.<lambda>" (oF Y76) (mK Y76) (jA Y76) [("table",c_0)] pm c' ctv) "row_form.<locals>.<lambda>" [("table",c_0)] [("table",.ref t)]) (_:Tbl Y.k Y.i Y.j H t rws i o)(_:H a=some (.lst (cs.map V.int)))(_:(∀x∈rws,x.1.length=cs.length))(_:∀H',ar H H'->Q (.int ((msk (gX rws cs) rws.length:Nat):Int)) H'):ft K Y f c' c_0 doc pm ctv vs H Q e_
inductive fZ(K:W.Frag)(Y:AD)(f c' c_0:Addr)(doc pm ctv:Value)(vs:List V)(H:Hp)(Q:VK)(e_:XK):Prop
 |mk (m:Int)(t:Addr)(rws:List Rw)(i:Nat)(o:Int×Int)(_:vs=[.int m])(_:iD H f c' (W.kla_obj "<lambda>" "clashes.<locals>.<lambda>" (oF Y35) (mK Y35) (jA Y35) [("table",c_0)] pm c' ctv) "clashes.<locals>.<lambda>" [("table",c_0)] [("table",.ref t)]) (_:Tbl Y.k Y.i Y.j H t rws i o)(_:∀H',ar H H'->Q (.int (hC rws i o m)) H'):fZ K Y f c' c_0 doc pm ctv vs H Q e_
section
variable{P:Program}{w:World}{K:W.Frag}{mg:Str->Option Value}{base:Heap}{f:Addr}{fd:FuncData}{Y:AD}
theorem CZ(F:Fun K "all_among" "all_among" Y31 f fd) (bl:Bl K mg Y)  : aH P w K mg base CX0 1 f fd ["text","signs"] (fN K Y):=by
 refine F.okA Z31 λcdv A outer s H vs Q E hr h=>?_
 obtain⟨z,g,rfl,q⟩:=h
 refine⟨_,(ak (aY PassesOwn.never U (zo (pv 0)) (aC (i:=2) Z31.nd U (Or.inl U))
  (af (aN (aE oi (pv 2) (pv 1) (by with_unfolding_all rfl))
  (af (av cP))
  aD)))
  (af (av cP))),?_⟩
 refine⟨_,U,z,U,xv (λi σ H'=>(∃c2:Option V,σ=[some (.str z),some (.str g),c2])/\H'=H/\(z.cps.toList.take i).all (sg g)=true) ⟨⟨_,U⟩,U,U⟩ (λi c σ H' e h=>?_) (λσ H' h=>?_)⟩
 ·obtain⟨⟨c2,rfl⟩,e0,ha⟩:=h;rw[e0];refine⟨_,U,_,U,_,_,U,U,_,U,?_⟩;refine bV (λd=>?_) (λd=>?_)
  ·have z2:kY z g=false:=zH e (zI d);rw[z2]at q;exact q
  ·exact⟨⟨_,U⟩,U,all_succ e (A6 d) ha⟩
 ·obtain⟨⟨c2,rfl⟩,e0,ha⟩:=h;rw[e0];rw[vS ha]at q;exact q
theorem C0(F:Fun K "is_whole" "is_whole" Y44 f fd) (bl:Bl K mg Y)  : aH P w K mg base CX0 1 f fd ["value"] (eP K Y):=by
 refine F.okA Z45 λcdv A outer s H vs Q E hr h=>?_
 obtain⟨i,rfl,q⟩:=h;refine⟨_,(af (av (jO (aq cH U bl.isinstance_ PyProof.Rows.boot_isinstance (aa (pv 0) (aa (eF (v:=.ty "int") U bl.int_ PyProof.Rows.boot_int U) ae))) (kJ (uP (aq cH U bl.isinstance_ PyProof.Rows.boot_isinstance (aa (pv 0) (aa (eF (v:=.ty "bool") U bl.bool_ PyProof.Rows.boot_bool U) ae)))))))),?_⟩;exact⟨_,U,_,_,_,_,true,U,.ty _,.inl (.int _),(by first|rfl|with_unfolding_all rfl|decide+kernel),_,U,f6 ⟨_,U,_,_,_,_,false,U,.ty _,.inl (.int _),(by first|rfl|with_unfolding_all rfl|decide+kernel),_,U,q⟩⟩
theorem C1(F:Fun K "holds" "holds" Y43 f fd) (bl:Bl K mg Y)  : aH P w K mg base CX0 1 f fd ["spans","number"] (lZ K Y):=by
 refine F.okA Z44 λcdv A outer s H vs Q E hr h=>?_
 obtain⟨a,xs,ps,n,rfl,hS,hP,q⟩:=h
 refine⟨_,(ak (aY PassesOwn.never U (aV (pv 0)) (eQ U (aK (aC (i:=2) Z44.nd U (Or.inl U)) (aK (aC (i:=3) Z44.nd U (Or.inl U)) bW)))
  (af (aN (gd eG eG (pv 2) (pv 1) (pv 3))
  (af (av cP))
  aD)))
  (af (av cP))),?_⟩
 refine⟨_,U,a,U,⟨_,hS⟩,bB (xs:=xs) (λi σ H'=>(∃c2 c3,σ=[some (.ref a),some (.int n),c2,c3])/\H'=H/\(ps.take i).any (inR n)=false) ⟨⟨_,_,U⟩,U,U⟩ (λi σ H' _ h=>by obtain⟨_,e,_⟩:=h;rw[e];exact hS) (λi x σ H' e h=>?_) (λσ H' h=>?_)⟩
 ·obtain⟨⟨c2,c3,rfl⟩,e0,hn⟩:=h;rw[e0];obtain⟨p,r,e1,rfl,hr'⟩:=hP.get e;refine⟨r,_,U,SqT.of hr',U,_,_,U,_,_,U,U,?_⟩;refine⟨_,U,_,U,_,_,U,U,_,U,?_⟩;refine bV (λc=>?_) (λc=>?_)
  ·refine⟨_,U,_,_,U,U,_,U,?_⟩;refine bV (λd=>?_) (λd=>?_)
   ·have z2:inP ps n=true:=qV e1 (CO c d);rw[z2]at q;exact q
   ·exact⟨⟨_,_,U⟩,U,iz e1 hn (A5 d)⟩
  ·exact⟨_,U,bA ⟨⟨_,_,U⟩,U,iz e1 hn (A4 c)⟩⟩
 ·obtain⟨⟨c2,c3,rfl⟩,e0,hn⟩:=h;rw[e0];have z:inP ps n=false:=by
   rw[hP.length,take_length]at hn;exact hn
  rw[z]at q;exact q
theorem C2(F:Fun K "edges" "edges" Y39 f fd) (bl:Bl K mg Y)  : aH P w K mg base CX0 1 f fd ["spans","low","high"] (l0 K Y):=by
 refine F.okA Z40 λcdv A outer s H vs Q E hr h=>?_
 obtain⟨a,xs,R,lo,hi,rfl,hS,hP,hl,q⟩:=h
 refine⟨_,(ak (aJ (i:=3) Z40.nd U (Or.inl U) (aW ae))
  (ak (aY PassesOwn.never U (aV (pv 0)) (eQ U (aK (aC (i:=4) Z40.nd U (Or.inl U)) (aK (aC (i:=5) Z40.nd U (Or.inl U)) bW)))
  (ak (aU (dP PySem.F.plainAttrs_list PySem.F.slot_list_append PySem.F.type_list_append bp (pv 3) (aa (pv 4) ae)))
  (af (aU (dP PySem.F.plainAttrs_list PySem.F.slot_list_append PySem.F.type_list_append bp (pv 3) (aa (ax cc (pv 5) ag) ae))))))
  (af (av (bP (aV (pv 3)) (bo (N:=["turn","low","high"]) (fr:=[1,2]) (cl:=[("low",s.heap.objs.size+1),("high",s.heap.objs.size+1+1)]) U U (by decide+kernel) (by decide+kernel) U (by decide+kernel) U U U (forall_mem_cons.mpr ⟨U,forall_mem_cons.mpr ⟨U,forall_mem_nil _⟩⟩) U) U (λ_ _ _ _=>(gM (gd jt eG (pv 1) (pv 0) (pv 2)))) (λ_ _ _ _=>(pv 0))))))),?_⟩
 refine⟨(by show 0<=sizeLine;decide),λtn htn=>?_⟩;have s0:ar H (upd H tn (.lst [])):=ai htn _
 refine⟨_,U,a,U,⟨_,s0.seq hS⟩,bB (xs:=xs) (λi σ H'=>∃(c4 c5:Option V),σ=[some (.ref a),some (.int lo),some (.int hi),some (.ref tn),c4,c5]/\ar H H'/\H' tn=some (.lst ((ends (R.take i)).map V.int))/\(ends (R.take i)).length<=2*i)
  ⟨none,none,U,s0,ab,le_refl _⟩ (λi σ H' _ h=>by obtain⟨_,_,_,sm,_⟩:=h;exact sm.seq hS) (λi x σ H' e h=>?_) (λσ H' h=>?_)⟩
 ·obtain⟨c4,c5,rfl,sm,ht,hle⟩:=h;obtain⟨p,r,e1,rfl,hr'⟩:=(hP.mono sm.tups).get e;have hi':i<xs.length:=(Fo.mp e).1;refine⟨r,_,U,SqT.of hr',U,_,_,U,_,_,U,U,?_⟩;refine⟨_,U,.inl ⟨U,_,SqL.of ht⟩,_,U,tn,_,_,U,U,ht,ay (by rw[length_map];lia),?_⟩;refine⟨_,U,.inl ⟨U,_,SqL.of ab⟩,_,U,_,_,U,U,tn,_,_,U,U,ab,ay (by rw[length_append,length_map,length_singleton];lia),?_⟩;rw[xf];refine⟨_,_,U,sm.upd htn,?_,?_⟩
  ·rw[ab,take_snoc e1,ni];simp
  ·rw[take_snoc e1,ni,length_append];simp;lia
 ·obtain⟨c4,c5,rfl,sm,ht,hle⟩:=h;rw[hP.length,take_length]at ht hle
  refine⟨_,U,tn,U,⟨_,SqL.of ht⟩,cY (xs:=(ends R).map V.int) (λD i zs H2=>ar H' H2/\H2 D=some (.lst zs)/\zs=(((ends R).take i).filter (λt=>decide (lo<t) && decide (t<=hi))).map V.int/\zs.length<=i)
   (λD hD=>⟨ai hD _,ab,U,zero_le _⟩) (λD i zs H2 hD _ h=>SqL.of (h.1 _ _ ht)) (λD i x zs H2 hD e h=>?_) (λD zs H2 hD h=>?_)⟩
  ·obtain⟨sm2,eD,hz,hlz⟩:=h;obtain⟨c,rfl,ec⟩:=of_map e;have hi':i<((ends R).map V.int).length:=(Fo.mp e).1;have hi2:i<(ends R).length:=by rw[length_map]at hi';exact hi'
   have hno:(decide (lo<c) && decide (c<=hi))=false->dC (λD i zs H2=>ar H' H2/\H2 D=some (.lst zs)/\zs=(((ends R).take i).filter (λt=>decide (lo<t) && decide (t<=hi))).map V.int/\zs.length<=i) D i ((ends R).map V.int).length H2:=λhf=>by
    refine dC.mk (zs:=zs) hi' ⟨sm2,eD,?_,by lia⟩;rw[take_snoc ec,filter_append,filter_cons_of_neg (by simpa using hf)];simpa using hz
   refine⟨_,U,_,U,_,_,U,U,_,U,?_⟩;refine bV (λg1=>?_) (λg1=>?_)
   ·refine⟨_,U,_,_,U,U,_,U,?_⟩;refine bV (λg2=>?_) (λg2=>hno (by rw[eq_false_iff.mpr g2,Bool.and_false]));have hpl:=hP.length;refine⟨_,U,cF.mk hi' eD (ay (by lia)) ⟨sm2.upd hD,ab,?_,by rw[length_append,length_singleton];lia⟩⟩;rw[take_snoc ec,filter_append,filter_cons_of_pos (by rw[g1,g2];rfl),hz];simp
   ·exact⟨_,U,bA (hno (by rw[eq_false_iff.mpr g1,Bool.false_and]))⟩
  ·obtain⟨sm2,eD,hz,hlz⟩:=h;rw[length_map,take_length]at hz;rw[hz]at eD;exact q D H2 _ (sm.trans sm2) (sm.free hD) eD U
theorem C3(F:Fun K "stretches" "stretches" Y77 f fd) (bl:Bl K mg Y)  : aH P w K mg base CX0 1 f fd ["low","high","marks"] (fO K Y):=by
 refine F.okA Z79 λcdv A outer s H vs Q E hr h=>?_
 obtain⟨a,ms,L,lo,hi,rfl,hS,hl,hL,pH,q⟩:=h
 refine⟨_,(ak (aJ (i:=3) Z79.nd U (Or.inl U) (aq (fh (w:=w) U U) U bl.sorted_ PyProof.Rows.boot_sorted (aa (bL (nH (w:=w) U U) U bl.set_ PyProof.Rows.boot_set (aa (bP (aV (pv 2)) (bo (N:=["mark","low","high"]) (fr:=[0,1]) (cl:=[("low",s.heap.objs.size+1),("high",s.heap.objs.size+1+1)]) U U (by decide+kernel) (by decide+kernel) U (by decide+kernel) U U U (forall_mem_cons.mpr ⟨U,forall_mem_cons.mpr ⟨U,forall_mem_nil _⟩⟩) U) U (λ_ _ _ _=>(gM (gd jt eG (pv 1) (pv 0) (pv 2)))) (λ_ _ _ _=>(pv 0))) ae)) ae)))
  (ak (aJ (i:=4) Z79.nd U (Or.inl U) (ax kO (aW (aa (pv 0) ae)) (pv 3)))
  (ak (aJ (i:=5) Z79.nd U (Or.inl U) (ax kO (bP (aV (pv 3)) (dB U (by decide+kernel) (by decide+kernel) (by decide+kernel) U) U (λ_ _ _ _=>bw) (λ_ _ _ _=>(ax bY (pv 0) ag))) (aW (aa (pv 1) ae))))
  (af (av (rz U U bl.list_ U bl.zip_ (aa (pv 4) (aa (pv 5) ae)))))))),?_⟩
 refine⟨_,U,a,U,⟨_,hS⟩,cY (xs:=ms.map V.int) (λD i zs H2=>ar H H2/\H2 D=some (.lst zs)/\zs=((ms.take i).filter (λt=>decide (lo<t) && decide (t<=hi))).map V.int/\zs.length<=i)
  (λD hD=>⟨ai hD _,ab,U,zero_le _⟩) (λD i zs H2 hD _ h=>h.1.seq hS) (λD i x zs H2 hD e h=>?_) (λD zs H2 hD h=>?_)⟩
 ·obtain⟨sm2,eD,hz,hlz⟩:=h;obtain⟨c,rfl,ec⟩:=of_map e;have hi':i<(ms.map V.int).length:=(Fo.mp e).1;have hi2:i<ms.length:=by rw[length_map]at hi';exact hi'
  have hno:(decide (lo<c) && decide (c<=hi))=false->dC (λD i zs H2=>ar H H2/\H2 D=some (.lst zs)/\zs=((ms.take i).filter (λt=>decide (lo<t) && decide (t<=hi))).map V.int/\zs.length<=i) D i (ms.map V.int).length H2:=λhf=>by
   refine dC.mk (zs:=zs) hi' ⟨sm2,eD,?_,by lia⟩;rw[take_snoc ec,filter_append,filter_cons_of_neg (by simpa using hf)];simpa using hz
  refine⟨_,U,_,U,_,_,U,U,_,U,?_⟩;refine bV (λg1=>?_) (λg1=>?_)
  ·refine⟨_,U,_,_,U,U,_,U,?_⟩;refine bV (λg2=>?_) (λg2=>hno (by rw[eq_false_iff.mpr g2,Bool.and_false]));refine⟨_,U,cF.mk hi' eD (ay (by lia)) ⟨sm2.upd hD,ab,?_,by rw[length_append,length_singleton];lia⟩⟩;rw[take_snoc ec,filter_append,filter_cons_of_pos (by rw[g1,g2];rfl),hz];simp
  ·exact⟨_,U,bA (hno (by rw[eq_false_iff.mpr g1,Bool.false_and]))⟩
 ·obtain⟨s2,eD,hz,hlz⟩:=h;rw[length_map]at hlz hz;rw[take_length]at hz;rw[hz]at eD;generalize hks:ms.filter (λt=>decide (lo<t) && decide (t<=hi))=ks at eD hz;have lG:∀c,c∈ks↔(c∈ms/\lo<c/\c<=hi):=λc=>by rw[←hks,mem_filter];simp
  have hkl:ks.length<=ms.length:=by rw[←hks];exact length_filter_le ..
  refine⟨D,ks,U,SqL.of eD,by lia,λl hl'=>?_⟩;have s3:ar H (upd H2 l (rq w l ks)):=s2.trans (ai hl' _);refine⟨l,ks,L,U,ab,hL,λk hk=>let ⟨a1,a2,a3⟩:=(lG k).mp hk;pH k a1 a2 a3,λD2 cs hD2 pw mem=>?_⟩;have s4:=s3.trans (ai hD2 (.lst (cs.map V.int)));have e4:upd (upd H2 l (rq w l ks)) D2 (.lst (cs.map V.int)) D2=some (.lst (cs.map V.int)):=ab;generalize upd (upd H2 l (rq w l ks)) D2 (.lst (cs.map V.int))=H3 at s4 e4⊢;have hcl:cs.length<64:=lt_of_le_of_lt (bC (pw.imp λh=>Int.ne_of_lt h) λk hk=>let ⟨a1,a2,a3⟩:=(lG k).mp ((mem k).mp hk);pH k a1 a2 a3) hL;refine⟨_,U,(by show 1<=sizeLine;decide),λt1 ht1=>?_⟩;have e5:=cz (o:=.lst [.int lo]) e4 ht1;have s5:=s4.trans (ai ht1 (.lst [.int lo]));refine⟨_,U,t1,D2,_,_,U,U,ab,e5,le_of_lt (ay (by rw[length_map];show 1+cs.length<=1000;lia)),λt2 ht2=>?_⟩;have e6:=cz (o:=.lst ([V.int lo]++cs.map V.int)) e5 ht2;have s6:=s5.trans (ai ht2 (.lst ([V.int lo]++cs.map V.int)));have e7:upd (upd H3 t1 (.lst [.int lo])) t2 (.lst ([V.int lo]++cs.map V.int)) t2=some (.lst ([V.int lo]++cs.map V.int)):=ab;generalize upd (upd H3 t1 (.lst [.int lo])) t2 (.lst ([V.int lo]++cs.map V.int))=H4 at s6 e6 e7⊢
  refine⟨_,U,D2,U,⟨_,SqL.of e6⟩,cY (xs:=cs.map V.int) (λD i zs H5=>ar H4 H5/\H5 D=some (.lst zs)/\zs=((cs.take i).map (· - 1)).map V.int/\zs.length<=i)
   (λD hD=>⟨ai hD _,ab,U,zero_le _⟩) (λD i zs H5 hD _ h=>SqL.of (h.1 _ _ e6)) (λD i x zs H5 hD e h=>?_) (λD zs H5 hD h=>?_)⟩
  ·obtain⟨sm2,eD5,hz5,C4⟩:=h;obtain⟨c,rfl,ec⟩:=of_map e;have hi':i<(cs.map V.int).length:=(Fo.mp e).1;have hi2:i<cs.length:=by rw[length_map]at hi';exact hi'
   refine⟨_,U,_,_,U,U,cF.mk hi' eD5 (ay (by lia)) ⟨sm2.upd hD,ab,?_,by rw[length_append,length_singleton];lia⟩⟩;rw[take_snoc ec,map_append,map_append,hz5];rfl
  ·obtain⟨sm5,eD5,hz5,C4⟩:=h;rw[length_map,take_length]at hz5;rw[hz5]at eD5;refine⟨_,U,(by show 1<=sizeLine;decide),λt3 ht3=>?_⟩;have s7:=sm5.trans (ai ht3 (.lst [.int hi]));refine⟨D,t3,_,_,U,U,cz eD5 ht3,ab,le_of_lt (ay (by rw[length_map,length_map];show cs.length+1<=1000;lia)),λt4 ht4=>?_⟩;have s8:=s7.trans (ai ht4 (.lst ((cs.map (· - 1)).map V.int++[.int hi])));have e8:upd (upd H5 t3 (.lst [.int hi])) t4 (.lst ((cs.map (· - 1)).map V.int++[.int hi])) t4=some (.lst ((cs.map (· - 1)).map V.int++[.int hi])):=ab;generalize upd (upd H5 t3 (.lst [.int hi])) t4 (.lst ((cs.map (· - 1)).map V.int++[.int hi]))=H6 at s8 e8⊢;have e9:=s8 _ _ e7;refine⟨_,U,_,U,t2,t4,(lo :: cs).map V.int,(cs.map (· - 1)++[hi]).map V.int,U,SqL.of e9,by rw[map_append];exact SqL.of e8,λD9 ts H9 hlen k9 hD9 eD9 f9=>?_⟩;have s9:ar H H9:=(s6.trans s8).trans λc o e=>k9 c o e
   refine q D9 H9 cs (ts.map V.ref) s9 ((s6.trans s8).free hD9) eD9 (PL.of_get (by rw[hlen,gu];simp) λj p hj=>?_) pw (λc=>(mem c).trans (lG c)) hcl;obtain⟨z1,z2⟩:=zip_get hj;obtain⟨T,h1,_,h2⟩:=f9 j _ _ z1 z2;exact⟨T,h1,h2⟩
theorem C5(F:Fun K "closed" "closed" Y36 f fd) (bl:Bl K mg Y)  : aH P w K mg base CX0 1 f fd ["triples"] (gR K Y):=by
 refine F.okA Z37 λcdv A outer s H vs Q E hr h=>?_
 obtain⟨L,iL,A,n,a,xs,ts,rfl,hn,ha,hT,hl,q⟩:=h
 refine⟨_,(ak (aJ (i:=1) Z37.nd U (Or.inl U) (aW ae))
  (ak (aY PassesOwn.never U (aV (pv 0)) (eQ U (aK (aC (i:=2) Z37.nd U (Or.inl U)) (aK (aC (i:=3) Z37.nd U (Or.inl U)) (aK (aC (i:=4) Z37.nd U (Or.inl U)) bW))))
  (af (aN (PW.pt (iG (df (pv 1) (by intro _;rfl)) (fB (aE (zF hr) (az aR (az aF (pv 1) (iq eR ag) (λ_ _=>U)) ag (λ_ _=>U)) (pv 4) (aG _)))))
  (af (qE (bh (aa (az aR (az aF (pv 1) (iq eR ag) (λ_ _=>U)) ag (λ_ _=>U)) (aa (pv 3) (aa (pv 4) ae)))) (qD (pv 1) (iq eR ag) set_list)))
  (af (aU (dP PySem.F.plainAttrs_list PySem.F.slot_list_append PySem.F.type_list_append bp (pv 1) (aa (bh (aa (pv 2) (aa (pv 3) (aa (pv 4) ae)))) ae)))))))
  (af (av (bL iu U bl.tuple_ PyProof.Rows.boot_tuple (aa (pv 1) ae)))))),?_⟩
 refine⟨(by show 0<=sizeLine;decide),λl hl'=>?_⟩;have s0:ar H (upd H l (.lst [])):=ai hl' _
 refine⟨_,U,a,U,⟨_,SqL.of (s0 _ _ ha)⟩,bB (xs:=xs) (λi σ H'=>ar H H'/\∃(zs:List V)(c2 c3 c4:Option V),H' l=some (.lst zs)/\FmL (FmV A H' n) H' ((ts.take i).foldl cJ []) zs/\zs.length<=i/\σ=[some (.ref a),some (.ref l),c2,c3,c4])
  ⟨s0,[],none,none,none,ab,FmL.nil,zero_le _,U⟩ (λi σ H' _ h=>SqL.of (h.1 _ _ ha)) (λi y σ H' e h=>?_) (λσ H' h=>?_)⟩
 ·obtain⟨sm,zs,c2,c3,c4,el,hz,hzl,rfl⟩:=h;have hi:i<xs.length:=(Fo.mp e).1;obtain⟨t,et⟩:∃t,ts[i]?=some t:=⟨_,Fn (by rw[←hT.1];exact hi)⟩;obtain⟨r,u,ex,er,hu⟩:=hT.2 i t et;rw[e]at ex;cases ex;have er':=sm _ _ er;have hu':=FmV.mono sm.tups hu;have Bj:(ts.take (i+1)).foldl cJ []=cJ ((ts.take i).foldl cJ []) t:=by rw[take_snoc et,foldl_append];rfl
  rw[Bj];generalize (ts.take i).foldl cJ []=F at hz;have hli:i<900:=by have:=hT.1;lia
  refine⟨r,_,U,SqT.of er',U,_,_,U,_,_,U,_,_,U,U,?_⟩
  have put:cJ F t=F++[t]->∀t',H' t'=none->ar H (upd (upd H' t' (.tup [.int t.1,.int t.2.1,u])) l (.lst (zs++[.ref t'])))/\∃(zs2:List V)(c2 c3 c4:Option V),upd (upd H' t' (.tup [.int t.1,.int t.2.1,u])) l (.lst (zs++[.ref t'])) l=some (.lst zs2) /\
    FmL (FmV A (upd (upd H' t' (.tup [.int t.1,.int t.2.1,u])) l (.lst (zs++[.ref t']))) n) (upd (upd H' t' (.tup [.int t.1,.int t.2.1,u])) l (.lst (zs++[.ref t']))) (cJ F t) zs2/\zs2.length<=i+1/\[some (V.ref a),some (V.ref l),some (V.int t.1),some (V.int t.2.1),some u]=[some (.ref a),some (.ref l),c2,c3,c4]:=λec t' ht=>by
   have e3:upd H' t' (.tup [.int t.1,.int t.2.1,u]) l=some (.lst zs):=cz el ht;have st1:cj H' (upd (upd H' t' (.tup [.int t.1,.int t.2.1,u])) l (.lst (zs++[.ref t']))):=(gL ht).trans (aO e3);refine⟨(sm.trans (ai ht _)).upd hl',zs++[.ref t'],_,_,_,ab,?_,by rw[length_append,length_singleton];lia,U⟩;rw[ec];exact(hz.mono (λ_ _ q=>FmV.mono st1 q) st1).snoc (aO e3 _ _ ab) (FmV.mono st1 hu')
  refine⟨_,U,!zs.isEmpty,.inl ⟨zs,SqL.of el,U⟩,?_⟩;rcases eq_nil_or_concat F with hF|⟨F',lt,hF⟩
  ·subst hF;have hz0:zs=[]:=List.eq_nil_of_length_eq_zero hz.1;have eE:(!zs.isEmpty)=false:=by rw[hz0];rfl
   rw[eE];refine bA (bA ?_);refine⟨_,U,.inl ⟨U,_,SqL.of el⟩,_,U,_,U,_,U,(by show 3<=sizeLine;decide),λt' ht=>?_⟩;refine⟨l,zs,_,U,U,cz el ht,ay (by lia),?_⟩;exact put U t' ht
  ·rw[concat_eq_append]at hF;subst hF;obtain⟨ys,rl,ul,rfl,hy,hrl,hul⟩:=hz.init;have eE:(!(ys++[V.ref rl]).isEmpty)=true:=by cases ys <;> rfl
   rw[eE];refine f6 ?_;refine⟨_,U,_,U,l,_,_,_,U,U,SqL.of el,ju _ _,rl,_,_,_,U,U,SqT.of hrl,U,_,U,FmV.eq_to (by lia) hul hu' ?_⟩;refine⟨_,U,?_⟩;refine bV (λd=>?_) (λd=>?_)
   ·have d':lt.2.2=t.2.2:=kQ d;have ec:cJ (F'++[lt]) t=F'++[(lt.1,t.2.1,t.2.2)]:=by
     unfold cJ;rw[List.getLast?_concat];simp only;rw[if_pos d',List.dropLast_concat]
    refine⟨_,U,_,U,l,_,_,_,U,U,SqL.of el,ju _ _,rl,_,_,_,U,U,SqT.of hrl,U,_,U,_,U,(by show 3<=sizeLine;decide),λt' ht=>?_⟩;have e3:upd H' t' (.tup [.int lt.1,.int t.2.1,u]) l=some (.lst (ys++[.ref rl])):=cz el ht;refine⟨_,U,_,U,l,_,_,_,U,U,e3,gq (by simp),?_⟩;rw[pT];have st1:cj H' (upd (upd H' t' (.tup [.int lt.1,.int t.2.1,u])) l (.lst (ys++[.ref t']))):=(gL ht).trans (aO e3);refine⟨(sm.trans (ai ht _)).upd hl',ys++[.ref t'],_,_,_,ab,?_,by rw[length_append,length_singleton]at hzl⊢;lia,U⟩;rw[ec];exact(hy.mono (λ_ _ q=>FmV.mono st1 q) st1).snoc (t:=(lt.1,t.2.1,t.2.2)) (aO e3 _ _ ab) (FmV.mono st1 hu')
   ·have d':lt.2.2≠t.2.2:=pj d;have ec:cJ (F'++[lt]) t=F'++[lt]++[t]:=by
     unfold cJ;rw[List.getLast?_concat];simp only;rw[if_neg d']
    refine⟨_,U,.inl ⟨U,_,SqL.of el⟩,_,U,_,U,_,U,(by show 3<=sizeLine;decide),λt' ht=>?_⟩;refine⟨l,_,_,U,U,cz el ht,ay (by lia),?_⟩;exact put ec t' ht
 ·obtain⟨sm,zs,c2,c3,c4,el,hz,hzl,rfl⟩:=h;have hz':FmL (FmV A H' n) H' (fK ts) zs:=by
   have e:ts.take xs.length=ts:=by rw[hT.1];exact take_length
   rw[e]at hz;exact hz
  refine⟨_,U,l,zs,U,.inl ⟨SqL.of el,λt' ht=>?_⟩⟩;have st:=ai ht (.tup zs);exact q t' _ (sm.trans st) ⟨t',zs,U,ab,hz'.mono (λ_ _ z=>FmV.mono st.tups z) st.tups⟩
theorem C6(F:Fun K "gathered" "gathered" Y41 f fd) (bl:Bl K mg Y)  : aH P w K mg base CX0 1 f fd ["lists"] (gv K Y):=by
 refine F.okA Z42 λcdv A outer s H vs Q E hr h=>?_
 obtain⟨a,as,xss,L,rfl,ea,hav,hlen,hL,pH,q⟩:=h
 refine⟨_,(ak (aJ (i:=1) Z42.nd U (Or.inl U) (aW ae))
  (ak (aY PassesOwn.never U (aV (pv 0)) (aC (i:=2) Z42.nd U (Or.inl U))
  (af (aU (dP PySem.F.plainAttrs_list PySem.F.slot_list_extend PySem.F.type_list_extend tK (pv 1) (aa (pv 2) ae)))))
  (af (av (aq (fh (w:=w) U U) U bl.sorted_ PyProof.Rows.boot_sorted (aa (bL (nH (w:=w) U U) U bl.set_ PyProof.Rows.boot_set (aa (pv 1) ae)) ae)))))),?_⟩
 refine⟨(by show 0<=sizeLine;decide),λnb hnb=>?_⟩;have s0:ar H (upd H nb (.lst [])):=ai hnb _;have e0:upd H nb (.lst []) nb=some (.lst [] ):=ab;generalize upd H nb (.lst [])=H0 at s0 e0⊢;have n6:∀(A:List (List Int))(x:List Int),(A++[x]).flatten=A.flatten++x:=λA x=>by rw[List.flatten_append];simp
 refine⟨_,U,a,U,⟨_,SqL.of (s0 _ _ ea)⟩,bB (xs:=as.map V.ref) (λi σ H'=>ar H H'/\H' nb=some (.lst ((xss.take i).flatten.map V.int))/\∃c2:Option V,σ=[some (.ref a),some (.ref nb),c2]) ⟨s0,e0,_,U⟩ (λi σ H' _ h=>SqL.of (h.1 _ _ ea)) (λi y σ H' e h=>?_) (λσ H' h=>?_)⟩
 ·obtain⟨sm,enb,c2,rfl⟩:=h;obtain⟨r,rfl,er⟩:=vZ e;obtain⟨xs,ex⟩:∃xs,xss[i]?=some xs:=⟨_,Fn (by rw[←hav.1];exact(Fo.mp er).1)⟩;obtain⟨r',er',hr⟩:=hav.2 i xs ex;rw[er]at er';cases er';have hle:(xss.take i).flatten.length+xs.length<=1000:=by
   have h0:xss.flatten=(xss.take (i+1)).flatten++(xss.drop (i+1)).flatten:=by rw[←List.flatten_append,List.take_append_drop]
   have h1:((xss.take (i+1)).flatten).length<=xss.flatten.length:=by rw[h0,length_append];lia
   rw[take_snoc ex,n6,length_append]at h1;lia
  refine⟨_,U,.inl ⟨U,_,SqL.of enb⟩,_,U,nb,r,_,_,U,U,enb,sm _ _ hr,le_of_lt (ay (by rw[length_map,length_map];lia)),sm.upd hnb,?_,_,U⟩;rw[ab,take_snoc ex,n6,map_append]
 ·obtain⟨sm,enb,c2,rfl⟩:=h;rw[length_map,hav.1,take_length]at enb;refine⟨_,U,nb,xss.flatten,U,SqL.of enb,(by lia),λl hl'=>?_⟩;have s3:=ai hl' (rq w l xss.flatten);refine⟨l,xss.flatten,L,U,ab,hL,pH,λD2 cs hD2 pw mem=>?_⟩;exact q D2 cs _ ((sm.trans s3).trans (ai hD2 _)) (sm.free (s3.free hD2)) ab pw mem
theorem C7(F:Fun K "refuse_counts" "refuse_counts" Y72 f fd) (bl:Bl K mg Y)  : aH P w K mg base CX0 1 f fd ["names","rows"] (dz K Y):=by
 refine F.okA Z73 λcdv A outer s H vs Q E hr h=>?_
 obtain⟨p,r,xs,ys,rfl,hP,hR,h1,h4,uk,q⟩:=h
 refine⟨_,(ak (aN (bI (gd eG eG ag (aq au U bl.len_ boot_len (aa (pv 0) ae)) (km U bl.MOST_COLUMNS_)))
  (af bO)
  aD)
  (af (aN (aE ir (aq au U bl.len_ boot_len (aa (pv 1) ae)) (km U bl.MOST_ROWS_) (aG _))
  (af bO)
  aD))),?_⟩
 refine⟨_,U,p,_,U,.inl (hP),_,_,U,U,_,U,fW (by lia) ?_⟩;refine⟨_,_,U,U,_,U,?_⟩;rw[decide_eq_true (show((xs.length:Nat):Int)<=4 by lia)];refine bA ?_;exact⟨_,U,r,_,U,.inl (hR),_,_,U,U,_,U,ck (by lia) q⟩
theorem C8(F:Fun K "own_row" "own_row" Y71 f fd) (bl:Bl K mg Y)  : aH P w K mg base CX0 1 f fd ["cells","code"] (iR K Y):=by
 refine F.okA Z72 λcdv A outer s H vs Q E hr h=>?_
 obtain⟨cl,xs,w_,rfl,hC,hcl,E8,q⟩:=h;refine⟨_,(af (av (bh (aa (bP (aV (pv 0)) (dB U (by decide+kernel) (by decide+kernel) (by decide+kernel) U) U (λ_ _ _ _=>bw) (λ_ _ _ _=>(bL (mH (K:=K) U) U bl.list_ PyProof.Rows.boot_list (aa (pv 0) ae)))) (aa (pv 1) ae))))),?_⟩
 refine⟨_,U,cl,U,⟨_,SqL.of hC⟩,cY (xs:=xs) (λD i zs H'=>ar H H'/\H' D=some (.lst zs)/\CL (Fr H D) H' zs (w_.1.take i))
  (λD hD=>⟨ai hD _,ab,aI.nil⟩) (λD i zs H' hD _ h=>SqL.of (h.1 _ _ hC)) (λD i x zs H' hD e h=>?_) (λD zs H' hD h=>?_)⟩
 ·obtain⟨sm,eD,hz⟩:=h;obtain⟨l,ps,rfl,ep,hl⟩:=aI.get hcl e;obtain⟨_,ys,el,hp⟩:=hl.same sm;have hi:i<xs.length:=(Fo.mp e).1;have hlz:zs.length<sizeLine:=by
   have h1:=hz.1;rw[length_take]at h1;exact ay (by lia)
  refine⟨_,U,l,_,U,.inl (SqL.of el),λl2 hl2=>?_⟩;have s2:=ai hl2 (.lst ys);have e2:upd H' l2 (.lst ys) l2=some (.lst ys):=ab;have eD2:=s2 _ _ eD;generalize upd H' l2 (.lst ys)=H2 at s2 e2 eD2⊢;have n2:H l2=none:=sm.free hl2;have nD:l2≠D:=λz=>by rw[z,eD]at hl2;cases hl2
  refine cF.mk hi eD2 hlz ⟨(sm.trans s2).upd hD,ab,?_⟩;rw[take_snoc ep];exact CL.updN (aI.snoc (hz.same s2) ⟨⟨n2,nD⟩,ys,e2,hp.mono s2.tups⟩) Fr.out eD2
 ·obtain⟨sm,eD,hz⟩:=h;rw[hcl.1,take_length]at hz;refine⟨_,U,bu,λr hr'=>q r _ (sm.trans (ai hr' _)) (sm.free hr') ⟨D,zs,ab,hD,ai hr' _ _ _ eD,?_⟩⟩;exact(hz.same (ai hr' _)).wk λa h=>h.1
theorem C9(F:Fun K "table_bounds" "table_bounds" Y78 f fd) (bl:Bl K mg Y)  : aH P w K mg base CX0 1 f fd ["table"] (dH K Y):=by
 refine F.okA Z80 λcdv A outer s H vs Q E hr h=>?_
 obtain⟨t,dv,bs,rws,rfl,⟨rl,dx,dl,fs,xs,ht,f1,f2,edl,hdv,erl,hR⟩,hb,q⟩:=h;refine⟨_,(af (av (bP (aV (bJ (pv 0) U)) (dB U (by decide+kernel) (by decide+kernel) (by decide+kernel) U) U (λ_ _ _ _=>bw) (λ_ _ _ _=>(bh (aa (kE (K:=K) U (pv 0) U) (aa (kE (K:=K) U (pv 0) U) ae))))))),?_⟩;have hdl:dv.length=bs.length:=hdv.1;refine⟨_,U,t,_,_,_,_,U,ht,bl.k_Table,bl.na_Table_domains,f2,dl,U,⟨_,SqL.of edl⟩,cY (xs:=dv) (λD i zs H'=>ar H H'/\H' D=some (.lst zs)/\PL H' zs (bs.take i)) (λD hD=>⟨ai hD _,ab,.nil⟩) (λD i zs H' hD _ h=>SqL.of (h.1 _ _ edl)) (λD i y zs H' hD e h=>?_) (λD zs H' hD h=>?_)⟩
 ·obtain⟨sm,eD,hz⟩:=h;obtain⟨a,b,rfl,eb,C,hC,dx',fs',ha,g1,g2,_⟩:=aI.get hdv e;have hi:i<dv.length:=(Fo.mp e).1;have hk:Cls K C/\NoAttr K C (Str.ofString "low")/\NoAttr K C (Str.ofString "high"):=by
   rcases hC with rfl|rfl
   ·exact⟨bl.k_Numbers,bl.na_Numbers_low,bl.na_Numbers_high⟩
   ·exact⟨bl.k_Words,bl.na_Words_low,bl.na_Words_high⟩
  refine⟨_,U,a,_,_,_,_,U,sm _ _ ha,hk.1,hk.2.1,g1,_,U,a,_,_,_,_,U,sm _ _ ha,hk.1,hk.2.2,g2,bu,λtt_ htt=>?_⟩;have s4:=ai htt (.tup [.int b.1,.int b.2]);have eT:upd H' tt_ (.tup [.int b.1,.int b.2]) tt_=some (.tup [.int b.1,.int b.2]):=ab;have eD4:=s4 _ _ eD;have hz4:=hz.mono s4.tups;generalize upd H' tt_ (.tup [.int b.1,.int b.2])=H4 at s4 eT eD4 hz4⊢;have hzl:=hz.length;rw[length_take]at hzl;refine cF.mk hi eD4 (ay (by lia)) ⟨(sm.trans s4).upd hD,ab,?_⟩;rw[take_snoc eb];exact(hz4.mono (aO eD4)).snoc (aO eD4 _ _ eT)
 ·obtain⟨sm,eD,hz⟩:=h;rw[hdl,take_length]at hz;exact q D zs H' sm hD eD hz
theorem Dc(F:Fun K "_law_cell" "_law_cell" Y49 f fd) (bl:Bl K mg Y)  : aH P w K mg base CX0 1 f fd ["script","k"] (dD K Y):=by
 refine F.okA Z50 λcdv A outer s H vs Q E hr h=>?_
 obtain⟨a,ns,k,rfl,hS,h0,q⟩:=h
 refine⟨_,(ak (aN (aE jt (pv 1) (aq au U bl.len_ boot_len (aa (pv 0) ae)) (aG _))
  (af (av (az aF (pv 0) (pv 1) (λ_ _=>U))))
  aD)
  (af (av ag))),?_⟩
 refine⟨_,U,_,U,a,_,U,.inl hS,_,_,U,U,_,U,?_⟩;refine bV (λc=>?_) (λc=>?_)
 ·have c':k<(((ns.map V.int).length:Nat):Int):=kQ c;rw[length_map]at c';have hk:k.toNat<ns.length:=by lia
  have hc:di ns k=ns[k.toNat]:=by unfold di;rw[getD_eq_getElem?_getD,Fn hk];rfl
  have hv:atI (ns.map V.int) k=some (.int ns[k.toNat]):=by
   have z:atI (ns.map V.int) ((k.toNat:Nat):Int)=some (.int ns[k.toNat]):=aZ (by rw[getElem?_map,Fn hk];rfl);rw[show((k.toNat:Nat):Int)=k by lia]at z;exact z
  rw[hc]at q;exact⟨_,U,_,U,a,_,_,_,U,U,hS,hv,q⟩
 ·have c':=pj c;rw[length_map]at c';have hc:di ns k=0:=by unfold di;rw[getD_eq_getElem?_getD,getElem?_eq_none (by lia)];rfl
  rw[hc]at q;exact q
theorem Dd(F:Fun K "_law_points" "_law_points" Y60 f fd) (bl:Bl K mg Y)  : aH P w K mg base CX0 1 f fd ["cell","count"] (eW K Y):=by
 refine F.okA Z61 λcdv A outer s H vs Q E hr h=>?_
 obtain⟨c,n,rfl,n1,n12,q⟩:=h
 refine⟨_,(ak (aN (aE bU (ax aX (pv 0) ag) ag (aG _))
  (af (av (bP (aP U bl.range_ (aa (ax cc (pv 1) ag) ae)) (dB U (by decide+kernel) (by decide+kernel) (by decide+kernel) U) U (λ_ _ _ _=>bw) (λ_ _ _ _=>(pv 0)))))
  aD)
  (ak (aJ (i:=2) Z61.nd U (Or.inl U) (ax bY (ax aX (ax cq (pv 0) ag) ag) ag))
  (aM (aN (aE ir (ax aX (ax cq (pv 0) ag) ag) ag (aG _))
  (af (aJ (i:=2) Z61.nd U (Or.inl U) (ax bY (ax aX (ax cq (pv 0) ag) (ax fC ag (ax jR ag ag))) (ax jR ag ag))))
  aD)
  (ak (aJ (i:=3) Z61.nd U (Or.inl U) (aW (aa (pv 2) ae)))
  (ak (aY PassesOwn.never U (aP U bl.range_ (aa (pv 1) ae)) (aC (i:=4) Z61.nd U (Or.inl U))
  (aM (aJ (i:=5) Z61.nd U (Or.inl U) (ax aX (ax fC (ax cc (ax cq (pv 0) ag) (pv 4)) (ax cc (ax fC ag (pv 4)) ag)) (az aF (aW (aa ag (aa ag (aa ag (aa ag (aa ag ae)))))) (ax aX (pv 4) ag) (λ_ _=>U))))
  (aM (aJ (i:=6) Z61.nd U (Or.inl U) ag)
  (aM (aN (aE bU (ax aX (pv 5) ag) ag (aG _))
  (af (aJ (i:=6) Z61.nd U (Or.inl U) (ax cc ag (ax aX (pv 5) ag))))
  aD)
  (aM (aN (aE bU (ax aX (pv 5) ag) ag (aG _))
  (af (aJ (i:=6) Z61.nd U (Or.inl U) (ax cc ag (ax aX (ax cq (pv 0) (ax cc (pv 4) ag)) (ax jR ag ag)))))
  aD)
  (ak (aJ (i:=2) Z61.nd U (Or.inl U) (ax cc (pv 2) (pv 6)))
  (af (aU (dP PySem.F.plainAttrs_list PySem.F.slot_list_append PySem.F.type_list_append bp (pv 3) (aa (pv 2) ae))))))))))
  (af (av (pv 3)))))))),?_⟩
 refine⟨_,U,_,_,U,U,(by show(0:Int)<3;decide),U,_,U,?_⟩;refine bV (λg=>?_) (λg=>?_)
 ·refine⟨_,U,_,_,U,U,_,U,(by show -(2^62)<=n+1;lia),(by show n+1<2^62;lia),bD (λD i zs H'=>ar H H'/\H' D=some (.lst zs)/\zs=(cA i).map V.int) (λD hD=>⟨ai hD _,ab,U⟩) (λD i zs H' hD hi hh=>?_) (λD zs H' hD hh=>?_)⟩
  ·obtain⟨sm,eD,rfl⟩:=hh;refine⟨_,U,cF.mk hi eD (ay (by rw[length_map,cg];lia)) ⟨sm.upd hD,ab,?_⟩⟩;rw[pV,map_append];rfl
  ·obtain⟨sm,eD,rfl⟩:=hh;rw[show(n+1).toNat=n.toNat+1 by lia]at eD;exact q D _ H' sm hD eD (rG (by lia) (by lia)) (λ_=>⟨n.toNat,by lia,by lia,U⟩) (by rw[cg];lia) (λx hx y hy=>by have h1:=nZ hx;have h2:=nZ hy;lia)
 have g':c%3≠1:=m9 g;refine⟨_,U,_,_,U,U,⟨by decide,by decide⟩,_,_,U,U,(by show(0:Int)<41;decide),_,_,U,U,?_⟩;refine⟨λσ' H'=>H'=H/\∃at_:Int,σ'=[some (.int c),some (.int n),some (.int at_),none,none,none,none],?_,?_⟩
 ·refine⟨_,U,_,_,U,U,⟨by decide,by decide⟩,_,_,U,U,(by show(0:Int)<3;decide),_,_,U,U,_,U,?_⟩;exact bV (λ_=>⟨_,U,_,_,U,U,⟨by decide,by decide⟩,_,_,U,U,⟨by decide,by decide,by decide⟩,_,_,U,U,.inl ⟨by decide,by decide⟩,_,_,U,U,Int.mul_pos (by decide) (p10 _),_,_,U,U,⟨by decide,by decide,by decide⟩,_,_,U,U,U,_,U⟩) (λ_=>⟨U,_,U⟩)
 rintro σ1 H1 ⟨rfl,mO,rfl⟩;refine⟨_,U,(by show 1<=sizeLine;decide),λl hl=>?_⟩;have s0:ar H1 (upd H1 l (.lst ([mO].map V.int))):=ai hl _;have e0:upd H1 l (.lst ([mO].map V.int)) l=some (.lst ([mO].map V.int)):=ab;have ee:upd H1 l (.lst [.int mO])=upd H1 l (.lst ([mO].map V.int)):=rfl;rw[ee];generalize upd H1 l (.lst ([mO].map V.int))=H0 at s0 e0⊢;clear ee;refine⟨_,U,_,U,(by show -(2^62)<=n;lia),(by show n<2^62;lia),bK (λi σ H'=>ar H1 H'/\∃(ps:List Int)(at_:Int)(c4 c5 c6:Option V),H' l=some (.lst (ps.map V.int))/\ps.length=i+1/\ps.Pairwise (· < ·)/\(∀p∈ps,p<=at_)/\(∀p∈ps,at_-p<=(i:Int)*10^56)/\σ=[some (.int c),some (.int n),some (.int at_),some (.ref l),c4,c5,c6]) ⟨s0,[mO],mO,_,_,_,e0,U,pairwise_singleton _ _,(λp hp=>by rw[show p=mO by simpa using hp];exact Int.le_refl _),(λp hp=>by rw[show p=mO by simpa using hp];lia),U⟩ (λi σ H' hi hh=>?_) (λσ H' hh=>?_)⟩
 ·obtain⟨sm,ps,at_,c4,c5,c6,el,hlen,uB,hle,hwd,rfl⟩:=hh;have E9:i<12:=by lia
  refine⟨λσ' H2=>ar H' H2/\∃pt:Int,σ'=[some (.int c),some (.int n),some (.int at_),some (.ref l),some (.int (0+(i:Int))),some (.int pt),c6],?_,?_⟩
  ·refine⟨_,U,_,_,U,U,⟨by decide,by decide⟩,_,U,_,_,U,U,_,U,_,_,U,U,.inl ⟨by decide,by decide⟩,_,_,U,U,_,_,U,U,.inr ⟨by show -(2^64)<2*(0+(i:Int))+5;lia,by show 2*(0+(i:Int))+5<2^64;lia⟩,(by show 5<=sizeLine;decide),λp hp=>?_⟩;obtain⟨v,hv,hv0⟩:=CS (k:=(0+(i:Int))%5) (emod_nonneg _ (by decide)) (emod_lt_of_pos _ (by decide));exact⟨_,U,_,_,U,U,(by show(0:Int)<5;decide),p,_,_,_,U,U,SqL.of ab,hv,_,_,U,U,hv0,ai hp _,_,U⟩
  rintro σ2 H2 ⟨s2_,pt,rfl⟩;refine⟨λσ' H3=>H3=H2/\σ'=[some (.int c),some (.int n),some (.int at_),some (.ref l),some (.int (0+(i:Int))),some (.int pt),some (.int 1)],⟨U,U⟩,?_⟩;rintro σ3 H3 ⟨rfl,rfl⟩;have t0:=emod_nonneg pt (show(50:Int)≠0 by decide);have t1:=emod_lt_of_pos pt (show(0:Int)<50 by decide);have p56:(51:Int)<=10^56:=by decide
  refine⟨λσ' H4=>H4=H3/\∃st:Int,1<=st/\st<=10^56/\σ'=[some (.int c),some (.int n),some (.int at_),some (.ref l),some (.int (0+(i:Int))),some (.int pt),some (.int st)],?_,?_⟩
  ·refine⟨_,U,_,_,U,U,(by show(0:Int)<3;decide),U,_,U,?_⟩;exact bV (λ_=>⟨_,U,_,_,U,U,(by show(0:Int)<50;decide),_,_,U,U,U,_,by lia,by lia,U⟩) (λ_=>⟨U,1,Int.le_refl _,by lia,U⟩)
  rintro σ4 H4 ⟨rfl,st0,De,Df,rfl⟩;refine⟨λσ' H5=>H5=H4/\∃st:Int,1<=st/\st<=10^56/\σ'=[some (.int c),some (.int n),some (.int at_),some (.ref l),some (.int (0+(i:Int))),some (.int pt),some (.int st)],?_,?_⟩
  ·refine⟨_,U,_,_,U,U,(by show(0:Int)<3;decide),U,_,U,?_⟩;refine bV (λ_=>?_) (λ_=>⟨U,st0,De,Df,U⟩);have u0:=emod_nonneg (c / (0+(i:Int)+4)) (Int.ne_of_gt (p10 (55:Int).toNat));have u1:=emod_lt_of_pos (c / (0+(i:Int)+4)) (p10 (55:Int).toNat);have u2:(10:Int)^(55:Int).toNat+1<=10^56:=by decide
   exact⟨_,U,_,U,_,_,U,U,_,_,U,U,⟨by show 0<0+(i:Int)+4;lia,by show 0+(i:Int)+4<1073741824;lia⟩,_,_,U,U,⟨by decide,by decide,by decide⟩,_,_,U,U,p10 _,_,_,U,U,U,_,by lia,by lia,U⟩
  rintro σ5 H5 ⟨rfl,st,hst,Fb,rfl⟩;have el2:=s2_ _ _ el;refine⟨_,U,_,U,_,_,U,U,_,U,.inl ⟨U,_,SqL.of el2⟩,_,U,l,_,_,U,U,el2,ay (by rw[length_map];lia),?_⟩;refine⟨(sm.trans s2_).upd hl,ps++[at_+st],at_+st,_,_,_,?_,by simp[hlen],?_,λp hp=>?_,λp hp=>?_,U⟩
  ·rw[ab,map_append];rfl
  ·rw[pairwise_append];refine⟨uB,pairwise_singleton _ _,λp hp p' hp'=>?_⟩;rw[show p'=at_+st by simpa using hp'];have:=hle p hp;lia
  ·rcases mem_append.mp hp with hp|hp
   ·have:=hle p hp;lia
   ·rw[show p=at_+st by simpa using hp];exact Int.le_refl _
  ·rcases mem_append.mp hp with hp|hp
   ·have:=hwd p hp;rw[Int.natCast_succ,Int.add_mul];lia
   ·rw[show p=at_+st by simpa using hp];lia
 ·obtain⟨sm,ps,at_,c4,c5,c6,el,hlen,uB,hle,hwd,rfl⟩:=hh;exact⟨_,U,q l ps H' sm hl el ⟨by lia,by lia,uB⟩ (λe=>absurd e g') (by lia) (λx hx y hy=>by have h1:=hle y hy;have h2:=hwd x hx;have h3:((n.toNat:Nat):Int)*10^56<=12*10^56:=Int.mul_le_mul_of_nonneg_right (by lia) (by decide);lia)⟩
theorem Dg(F:Fun K "_law_word" "_law_word" Y67 f fd) (bl:Bl K mg Y)  : aH P w K mg base CX0 1 f fd ["cell","k"] (dE K Y):=by
 refine F.okA Z68 λcdv A outer s H vs Q E hr h=>?_
 obtain⟨c,k,rfl,k0,k1,q⟩:=h
 refine⟨_,(aM (aJ (i:=2) Z68.nd U (Or.inl U) (ax iI (az qS aQ (ax aX (pv 0) ag) (λ_ _=>U)) (az qS aQ (ax aX (ax cq (pv 0) ag) ag) (λ_ _=>U))))
  (ak (aJ (i:=3) Z68.nd U (Or.inl U) (ax aX (ax cq (pv 0) ag) ag))
  (af (av (ax iI (ax iI (gg vn (pv 2) kD (gK (pv 3))) (az qS aQ (pv 1) (λ_ _=>U))) (gg vn (pv 2) (gK (pv 3)) kD)))))),?_⟩
 have a0:=emod_nonneg c (show(8:Int)≠0 by decide);have a1:=emod_lt_of_pos c (show(0:Int)<8 by decide);have b0:=emod_nonneg (c / 8) (show(2:Int)≠0 by decide);have b1:=emod_lt_of_pos (c / 8) (show(0:Int)<2 by decide);have t0:=emod_nonneg (c / 16) (show(3:Int)≠0 by decide);have t1:=emod_lt_of_pos (c / 16) (show(0:Int)<3 by decide);have o1:∀x:Nat,(⟨#[x]⟩:Str).length=1:=λ_=>U
 refine⟨λσ' H'=>H'=H/\σ'=[some (.int c),some (.int k),some (.str ⟨#[113+(c%8).toNat,121+(c / 8%2).toNat]⟩),none],?_,?_⟩
 ·refine⟨_,U,_,_,U,U,(by show(0:Int)<8;decide),_,_,_,U,U,(by decide),qx8 a0 a1,_,U,_,_,U,U,⟨by decide,by decide⟩,_,_,U,U,(by show(0:Int)<2;decide),_,_,_,U,U,(by decide),yz2 b0 b1,_,_,U,U,big (by rw[o1,o1];decide),U,U⟩
 rintro σ1 H1 ⟨rfl,rfl⟩;refine⟨_,U,_,_,U,U,⟨by decide,by decide⟩,_,_,U,U,(by show(0:Int)<3;decide),?_⟩;have h2:(⟨#[113+(c%8).toNat,121+(c / 8%2).toNat]⟩:Str).length=2:=rfl;refine⟨_,U,_,U,_,U,_,U,(by rw[h2];decide),?_⟩;rw[A8 _ _ t0 t1];refine⟨_,U,_,_,_,U,U,(by decide),xH Ba k0 k1,_,_,U,U,big (by rw[o1];simp[Str.length];lia),_,U,_,U,_,U,_,U,(by rw[h2];decide),?_⟩;rw[A9 _ _ t0 t1];have e:∀(A B:List Nat)(x:Nat),(⟨A.toArray⟩:Str)++(⟨#[x]⟩:Str)++(⟨B.toArray⟩:Str)=⟨(A++([x]++B)).toArray⟩:=λA B x=>by
  show Str.append (Str.append _ _) _=_;unfold Str.append;simp
 refine⟨_,_,U,U,big (by rw[len_app,o1];simp[Str.length];lia),?_⟩;rw[e];exact q
theorem Dh(F:Fun K "_law_outs" "_law_outs" Y58 f fd) (bl:Bl K mg Y)  : aH P w K mg base CX0 1 f fd ["cell"] (gw K Y):=by
 refine F.okA Z59 λcdv A outer s H vs Q E hr h=>?_
 obtain⟨c,rfl,q⟩:=h
 refine⟨_,(ak (aN (aE bU (ax aX (pv 0) ag) ag (aG _))
  (af (av (aW (aa ag (aa ag (aa ag (aa ag (aa ag ae))))))))
  aD)
  (aM (aJ (i:=1) Z59.nd U (Or.inr U) (ax cc ag (ax aX (ax cq (pv 0) ag) ag)))
  (aM (aN (aE bU (ax aX (ax cq (pv 0) ag) ag) ag (aG _))
  (af (aJ (i:=1) Z59.nd U (Or.inr U) (ax cc ag (ax aX (ax cq (pv 0) ag) (ax jR ag ag)))))
  aD)
  (aM (aJ (i:=2) Z59.nd U (Or.inr U) (ax fC (iq eR ag) (pv 1)))
  (aM (aN (aE bU (ax aX (ax cq (pv 0) ag) ag) ag (aG _))
  (af (aJ (i:=2) Z59.nd U (Or.inr U) (ax bY (ax aX (pv 0) (ax fC ag (ax jR ag ag))) (ax jR ag ag))))
  aD)
  (af (av (bP (aP U bl.range_ (aa ag ae)) (bo (N:=["k","gap","low"]) (fr:=[1,2]) (cl:=[("low",s.heap.objs.size+1+1),("gap",s.heap.objs.size+1)]) U U (by decide+kernel) (by decide+kernel) U (by decide+kernel) U U U (forall_mem_cons.mpr ⟨U,forall_mem_cons.mpr ⟨U,forall_mem_nil _⟩⟩) U) U (λ_ _ _ _=>bw) (λ_ _ _ _=>(ax cc (pv 2) (ax fC (pv 0) (pv 1)))))))))))),?_⟩
 refine⟨_,U,_,_,U,U,(by show(0:Int)<3;decide),U,_,U,?_⟩;refine bV (λg=>?_) (λg=>?_)
 ·exact⟨(by show 5<=sizeLine;decide),λl hl=>q l [0,1,2,3,4] _ (ai hl _) ab ⟨0,1,2,3,4,U,by decide,by decide,by decide,by decide,λ_=>⟨U,U⟩⟩⟩
 have g':c%3≠1:=m9 g;have u0:=emod_nonneg (c / 3) (show(3:Int)≠0 by decide);have u1:=emod_nonneg (c / 18) (Int.ne_of_gt (p10 (56:Int).toNat));refine⟨λσ' H'=>H'=H/\σ'=[some (.int c),some (.int (1+c / 3%3)),none],⟨_,U,_,_,U,U,⟨by decide,by decide⟩,_,_,U,U,(by show(0:Int)<3;decide),_,_,U,U,U,U⟩,?_⟩;rintro σ1 H1 ⟨rfl,rfl⟩;refine⟨λσ' H'=>H'=H1/\∃gp:Int,1<=gp/\σ'=[some (.int c),some (.int gp),none],?_,?_⟩
 ·refine⟨_,U,_,_,U,U,⟨by decide,by decide⟩,_,_,U,U,(by show(0:Int)<2;decide),U,_,U,?_⟩;exact bV (λ_=>⟨_,U,_,_,U,U,⟨by decide,by decide⟩,_,_,U,U,⟨by decide,by decide,by decide⟩,_,_,U,U,p10 _,_,_,U,U,U,_,by lia,U⟩) (λ_=>⟨U,_,by lia,U⟩)
 rintro σ2 H2 ⟨rfl,gp,hgp,rfl⟩;refine⟨λσ' H'=>H'=H2/\∃lo:Int,σ'=[some (.int c),some (.int gp),some (.int lo)],⟨_,U,_,U,_,_,U,U,.inl ⟨by decide,by decide⟩,U,_,U⟩,?_⟩;rintro σ3 H3 ⟨rfl,lo0,rfl⟩;refine⟨λσ' H'=>H'=H3/\∃lo:Int,σ'=[some (.int c),some (.int gp),some (.int lo)],?_,?_⟩
 ·refine⟨_,U,_,_,U,U,⟨by decide,by decide⟩,_,_,U,U,(by show(0:Int)<4;decide),U,_,U,?_⟩;exact bV (λ_=>⟨_,U,_,_,U,U,⟨by decide,by decide,by decide⟩,_,_,U,U,.inl ⟨by decide,by decide⟩,_,_,U,U,Int.mul_pos (by decide) (p10 _),_,_,U,U,⟨by decide,by decide,by decide⟩,_,_,U,U,U,_,U⟩) (λ_=>⟨U,_,U⟩)
 rintro σ4 H4 ⟨rfl,lo,rfl⟩;refine⟨_,U,(by decide),(by decide),bD (λD i zs H'=>ar H4 H'/\H' D=some (.lst zs)/\zs=((List.range i).map λj:Nat=>lo+(0+(j:Int))*gp).map V.int) (λD hD=>⟨ai hD _,ab,U⟩) (λD i zs H' hD hi hh=>?_) (λD zs H' hD hh=>?_)⟩
 ·obtain⟨sm,eD,rfl⟩:=hh;have hi5:i<5:=hi;refine⟨_,U,_,U,_,U,_,_,U,U,.inl ⟨by show -(2^64)<0+(i:Int);lia,by show 0+(i:Int)<2^64;lia⟩,_,_,U,U,cF.mk hi eD (ay (by simp;lia)) ⟨sm.upd hD,ab,?_⟩⟩;rw[range_succ,map_append,map_append];rfl
 ·obtain⟨sm,eD,rfl⟩:=hh;refine q D _ H' sm eD ⟨_,_,_,_,_,U,?_,?_,?_,?_,λe=>absurd e g'⟩
  ·show lo+(0+0)*gp<=lo+(0+1)*gp;lia
  ·show lo+(0+1)*gp<=lo+(0+2)*gp;lia
  ·show lo+(0+2)*gp<=lo+(0+3)*gp;lia
  ·show lo+(0+3)*gp<=lo+(0+4)*gp;lia
theorem Di(F:Fun K "_law_way" "_law_way" Y65 f fd) (bl:Bl K mg Y)  : aH P w K mg base CX0 1 f fd ["cell","words"] (iS K Y):=by
 refine F.okA Z66 λcdv A outer s H vs Q E hr h=>?_
 obtain⟨c,b,rfl,q⟩:=h
 refine⟨_,(ak (aN (aE ir (ax aX (ax cq (pv 0) ag) ag) ag (aG _))
  (af (av (az aF (aW (aa aQ (aa aQ ae))) (ax aX (pv 0) ag) (λ_ _=>U))))
  aD)
  (ak (aN (cb (pv 1))
  (af (av (az aF (aW (aa aQ (aa aQ (aa aQ ae)))) (ax aX (pv 0) ag) (λ_ _=>U))))
  aD)
  (af (av (az aF (aW (aa aQ (aa aQ (aa aQ (aa aQ ae))))) (ax aX (pv 0) ag) (λ_ _=>U)))))),?_⟩
 refine⟨_,U,_,_,U,U,⟨by decide,by decide⟩,_,_,U,U,(by show(0:Int)<5;decide),_,_,U,U,_,U,?_⟩;refine bV (λ_=>?_) (λ_=>?_)
 ·refine⟨(by show 2<=sizeLine;decide),λp hp=>?_⟩;obtain⟨wy,wi,hv,hw1,hw2⟩:=CV (k:=c%2) (emod_nonneg _ (by decide)) (emod_lt_of_pos _ (by decide));exact⟨_,U,_,_,U,U,(by show(0:Int)<2;decide),p,_,_,_,U,U,SqL.of ab,hv,q wy wi _ (ai hp _) hw1 λ_=>hw2⟩
 refine⟨_,U,_,U,?_⟩;cases b with
 |true =>
  refine f6 ⟨(by show 3<=sizeLine;decide),λp hp=>?_⟩;obtain⟨wy,wi,hv,hw1,hw2⟩:=CW (k:=c%3) (emod_nonneg _ (by decide)) (emod_lt_of_pos _ (by decide));exact⟨_,U,_,_,U,U,(by show(0:Int)<3;decide),p,_,_,_,U,U,SqL.of ab,hv,q wy wi _ (ai hp _) hw1 λ_=>hw2⟩
 |false =>
  refine bA ⟨(by show 4<=sizeLine;decide),λp hp=>?_⟩;obtain⟨wy,wi,hv,hw1⟩:=CY (k:=c%4) (emod_nonneg _ (by decide)) (emod_lt_of_pos _ (by decide));exact⟨_,U,_,_,U,U,(by show(0:Int)<4;decide),p,_,_,_,U,U,SqL.of ab,hv,q wy wi _ (ai hp _) hw1 λe=>by cases e⟩
theorem Dj(F:Fun K "_law_row" "_law_row" Y61 f fd) (bl:Bl K mg Y)  : aH P w K mg base CX0 1 f fd ["cell","points","outs"] (iT K Y):=by
 refine F.okA Z62 λcdv A outer s H vs Q E hr h=>?_
 obtain⟨c,pl,ol,xs,pss,os,oc,rfl,epl,hpl,h4,hpt,eol,hos,q⟩:=h
 refine⟨_,(ak (aJ (i:=3) Z62.nd U (Or.inl U) (aW ae))
  (aM (aY PassesOwn.never U (aP U bl.range_ (aa (aq au U bl.len_ boot_len (aa (pv 1) ae)) ae)) (aC (i:=4) Z62.nd U (Or.inl U))
  (aM (aJ (i:=5) Z62.nd U (Or.inl U) (ax bY (aq au U bl.len_ boot_len (aa (az aF (pv 1) (pv 4) (λ_ _=>U)) ae)) ag))
  (aM (aJ (i:=6) Z62.nd U (Or.inl U) (ax aX (ax fC (pv 0) (az aF (aW (aa ag (aa ag (aa ag (aa ag ae))))) (pv 4) (λ_ _=>U))) (az aF (aW (aa ag (aa ag (aa ag (aa ag ae))))) (pv 4) (λ_ _=>U))))
  (af (aN (aE bU (ax aX (pv 6) ag) ag (aG _))
  (af (aU (dP PySem.F.plainAttrs_list PySem.F.slot_list_append PySem.F.type_list_append bp (pv 3) (aa (ax bY (ax oh ag (pv 5)) ag) ae))))
  (af (aU (dP PySem.F.plainAttrs_list PySem.F.slot_list_append PySem.F.type_list_append bp (pv 3) (aa (ax aX (ax cq (pv 6) ag) (ax oh ag (pv 5))) ae)))))))))
  (af (av (bh (aa (pv 3) (aa (az aF (pv 2) (ax aX (ax aX (ax fC (pv 0) ag) ag) ag) (λ_ _=>U)) ae))))))),?_⟩
 have hxl:xs.length=pss.length:=hpl.1;refine⟨(by show 0<=sizeLine;decide),λl hl=>?_⟩;have s0:ar H (upd H l (.lst ([].map V.int))):=ai hl _;have e0:upd H l (.lst ([].map V.int)) l=some (.lst ([].map V.int)):=ab;have ee:upd H l (.lst [])=upd H l (.lst ([].map V.int)):=rfl;rw[ee];generalize upd H l (.lst ([].map V.int))=H0 at s0 e0⊢;clear ee;refine⟨λσ' H'=>ar H H'/\∃(ms:List Int)(c4 c5 c6:Option V),H' l=some (.lst (ms.map V.int))/\ms.length=pss.length/\(∀x∈ms,0<=x)/\σ'=[some (.int c),some (.ref pl),some (.ref ol),some (.ref l),c4,c5,c6],?_,?_⟩
 ·refine⟨_,U,pl,_,U,.inl (SqL.of (s0 _ _ epl)),_,U,(by show -(2^62)<=((xs.length:Nat):Int);lia),(by show((xs.length:Nat):Int)<2^62;lia),bK (λi σ H'=>ar H H'/\∃(ms:List Int)(c4 c5 c6:Option V),H' l=some (.lst (ms.map V.int))/\ms.length=i/\(∀x∈ms,0<=x)/\σ=[some (.int c),some (.ref pl),some (.ref ol),some (.ref l),c4,c5,c6]) ⟨s0,[],_,_,_,e0,U,(λx h=>by cases h),U⟩ (λi σ H' hi hh=>?_) (λσ H' hh=>?_)⟩
  ·obtain⟨sm,ms,c4,c5,c6,el,hlen,hnn,rfl⟩:=hh;have hi2:i<pss.length:=by lia
   have hi4:i<4:=by lia
   obtain⟨ps,eps⟩:∃ps,pss[i]?=some ps:=⟨_,Fn hi2⟩;obtain⟨r,er,hr_⟩:=hpl.2 i ps eps;have hp:=hpt ps (Fp eps);have h2:=hp.two;have h13:=hp.few;have hr':=sm _ _ hr_;refine⟨λσ' H2=>H2=H'/\σ'=[some (.int c),some (.ref pl),some (.ref ol),some (.ref l),some (.int (0+(i:Int))),some (.int ((ps.length:Int)-1)),c6],?_,?_⟩
   ·refine⟨_,U,_,U,pl,_,_,_,U,U,SqL.of (sm _ _ epl),mL er,r,_,U,.inl (SqL.of hr'),_,_,U,U,U,?_⟩;rw[length_map];rfl
   rintro σ2 H2 ⟨rfl,rfl⟩;have k4:(0:Int)<=0+(i:Int)/\0+(i:Int)<4:=by lia
   refine⟨λσ' H3=>ar H2 H3/\∃mx:Int,σ'=[some (.int c),some (.ref pl),some (.ref ol),some (.ref l),some (.int (0+(i:Int))),some (.int ((ps.length:Int)-1)),some (.int mx)],?_,?_⟩
   ·refine⟨_,U,(by show 4<=sizeLine;decide),λp hp_=>?_⟩;have u1:=ai hp_ (.lst [.int 48271,.int 69621,.int 16807,.int 39373]);obtain⟨v,hv,hv1,hv2⟩:∃v:Int,atI [V.int 48271,.int 69621,.int 16807,.int 39373] (0+(i:Int))=some (.int v)/\0<v/\v<2^64:=by
     generalize 0+(i:Int)=k at k4⊢;have:k=0\/k=1\/k=2\/k=3:=by lia
     rcases this with rfl|rfl|rfl|rfl
     ·exact⟨_,U,by decide,by decide⟩
     ·exact⟨_,U,by decide,by decide⟩
     ·exact⟨_,U,by decide,by decide⟩
     ·exact⟨_,U,by decide,by decide⟩
    obtain⟨v',hv',Dk⟩:∃v:Int,atI [V.int 1000003,.int 1000033,.int 1000037,.int 1000039] (0+(i:Int))=some (.int v)/\0<v:=by
     generalize 0+(i:Int)=k at k4⊢;have:k=0\/k=1\/k=2\/k=3:=by lia
     rcases this with rfl|rfl|rfl|rfl
     ·exact⟨_,U,by decide⟩
     ·exact⟨_,U,by decide⟩
     ·exact⟨_,U,by decide⟩
     ·exact⟨_,U,by decide⟩
    refine⟨_,U,p,_,_,_,U,U,SqL.of ab,hv,_,_,U,U,.inr ⟨by lia,hv2⟩,(by show 4<=sizeLine;decide),λp2 hp2=>?_⟩;exact⟨_,U,p2,_,_,_,U,U,SqL.of ab,hv',_,_,U,U,Dk,u1.trans (ai hp2 _),_,U⟩
   rintro σ3 H3 ⟨s3,mx,rfl⟩;have el3:=s3 _ _ el;have hsz:(0:Int)<=(ps.length:Int)-1/\(ps.length:Int)-1<=1000000:=by lia
   have pw:(0:Int)<1*2^((ps.length:Int)-1).toNat:=by
    rw[one_mul];exact pow_pos (by decide)
   have put:∀v:Int,0<=v->ar H (upd H3 l (.lst (ms.map V.int++[.int v])))/\∃(ms':List Int)(c4 c5 c6:Option V),upd H3 l (.lst (ms.map V.int++[.int v])) l=some (.lst (ms'.map V.int))/\ms'.length=i+1/\(∀x∈ms',0<=x)/\([some (.int c),some (.ref pl),some (.ref ol),some (.ref l),some (.int (0+(i:Int))),some (.int ((ps.length:Int)-1)),some (.int mx)]:St)=[some (.int c),some (.ref pl),some (.ref ol),some (.ref l),c4,c5,c6]:=λv hv =>
    ⟨(sm.trans s3).upd hl,ms++[v],_,_,_,by rw[ab,map_append];rfl,by simp[hlen],(λx hx=>by rcases mem_append.mp hx with hx|hx;exact hnn x hx;rw[mem_singleton.mp hx];exact hv),U⟩
   refine⟨_,U,_,_,U,U,(by show(0:Int)<5;decide),U,_,U,?_⟩;refine bV (λ_=>?_) (λ_=>?_)
   ·exact⟨_,U,.inl ⟨U,_,SqL.of el3⟩,_,U,_,_,U,U,⟨hsz.1,hsz.2,by decide⟩,_,_,U,U,l,_,_,U,U,el3,ay (by rw[length_map];lia),put _ (Int.le_sub_one_of_lt pw)⟩
   ·exact⟨_,U,.inl ⟨U,_,SqL.of el3⟩,_,U,_,_,U,U,⟨by decide,by decide⟩,_,U,_,_,U,U,⟨hsz.1,hsz.2,by decide⟩,_,_,U,U,pw,l,_,_,U,U,el3,ay (by rw[length_map];lia),put _ (emod_nonneg _ (Int.ne_of_gt pw))⟩
  ·obtain⟨sm,ms,c4,c5,c6,el,hlen,hnn,rfl⟩:=hh;exact⟨sm,ms,c4,c5,c6,el,by lia,hnn,U⟩
 rintro σ9 H9 ⟨s9,ms,c4,c5,c6,el,hlen,hnn,rfl⟩;obtain⟨x0,x1,x2,x3,x4,rfl,_⟩:=hos;obtain⟨v,hv,hm⟩:∃v:Int,atI ([x0,x1,x2,x3,x4].map V.int) (c*40014%1000081%5)=some (.int v)/\v∈[x0,x1,x2,x3,x4]:=by
  have h0:=emod_nonneg (c*40014%1000081) (show(5:Int)≠0 by decide);have h1:=emod_lt_of_pos (c*40014%1000081) (show(0:Int)<5 by decide);generalize c*40014%1000081%5=k at h0 h1⊢;have:k=0\/k=1\/k=2\/k=3\/k=4:=by lia
  rcases this with rfl|rfl|rfl|rfl|rfl
  ·exact⟨x0,U,by simp⟩
  ·exact⟨x1,U,by simp⟩
  ·exact⟨x2,U,by simp⟩
  ·exact⟨x3,U,by simp⟩
  ·exact⟨x4,U,by simp⟩
 refine⟨_,U,_,U,_,U,_,_,U,U,.inr ⟨by decide,by decide⟩,_,_,U,U,(by show(0:Int)<1000081;decide),_,_,U,U,(by show(0:Int)<5;decide),ol,_,_,_,U,U,SqL.of (s9 _ _ eol),hv,bu,λr hr_=>?_⟩;exact q r l ms v _ (s9.trans (ai hr_ _)) (s9.free hr_) hl ab (cz el hr_) hlen hnn hm
theorem Dl(F:Fun K "_law_spans" "_law_spans" Y63 f fd) (bl:Bl K mg Y)  : aH P w K mg base CX0 1 f fd ["points","bits"] (fP K Y):=by
 refine F.okA Z64 λcdv A outer s H vs Q E hr h=>?_
 obtain⟨l,ps,m,rfl,el,hp,hm0,q⟩:=h
 refine⟨_,(ak (aJ (i:=2) Z64.nd U (Or.inl U) (aW ae))
  (ak (aY PassesOwn.never U (aP U bl.range_ (aa (ax bY (aq au U bl.len_ boot_len (aa (pv 0) ae)) ag) ae)) (aC (i:=3) Z64.nd U (Or.inl U))
  (af (aN (aE bU (ax qK (ax qJ (pv 1) (pv 3)) ag) ag (aG _))
  (af (aN (PW.pt (iG (aE ir (aq au U bl.len_ boot_len (aa (pv 2) ae)) ag (aG _)) (fB (aE bU (az aR (az aF (pv 2) (iq eR ag) (λ_ _=>U)) ag (λ_ _=>U)) (ax bY (az aF (pv 0) (pv 3) (λ_ _=>U)) ag) (aG _)))))
  (af (qE (bh (aa (az aR (az aF (pv 2) (iq eR ag) (λ_ _=>U)) ag (λ_ _=>U)) (aa (ax bY (az aF (pv 0) (ax cc (pv 3) ag) (λ_ _=>U)) ag) ae))) (qD (pv 2) (iq eR ag) set_list)))
  (af (aU (dP PySem.F.plainAttrs_list PySem.F.slot_list_append PySem.F.type_list_append bp (pv 2) (aa (bh (aa (az aF (pv 0) (pv 3) (λ_ _=>U)) (aa (ax bY (az aF (pv 0) (ax cc (pv 3) ag) (λ_ _=>U)) ag) ae))) ae))))))
  aD)))
  (af (av (pv 2))))),?_⟩
 have h2:=hp.two;have h13:=hp.few;refine⟨(by show 0<=sizeLine;decide),λsp hsp=>?_⟩;have s0:ar H (upd H sp (.lst [])):=ai hsp _;have e0:upd H sp (.lst []) sp=some (.lst []):=ab;generalize upd H sp (.lst [])=H0 at s0 e0⊢;have hlm:(ps.map V.int).length=ps.length:=length_map _;refine⟨_,U,l,_,U,.inl (SqL.of (s0 _ _ el)),_,_,U,U,_,U,(by rw[hlm];lia),(by rw[hlm];lia),bK (λi σ H'=>ar H H'/\∃(ys:List V)(qs:Prs)(c3:Option V),H' sp=some (.lst ys)/\PL H' ys qs/\ys.length<=i/\(∀p∈qs,loP ps<=p.1/\p.2<=hiP ps)/\SpG ps m i qs/\σ=[some (.ref l),some (.int m),some (.ref sp),c3]) ⟨s0,[],[],_,e0,.nil,le_refl _,(λp h=>by cases h),SpG.nil,U⟩ (λi σ H' hi hh=>?_) (λσ H' hh=>?_)⟩
 ·obtain⟨sm,ys,qs,c3,es,hP,hly,hin,hG,rfl⟩:=hh;rw[hlm]at hi;have hi1:i+1<ps.length:=by lia
  obtain⟨a0,ea0⟩:∃x,ps[i]?=some x:=⟨_,Fn (by lia)⟩;obtain⟨a1,ea1⟩:∃x,ps[i+1]?=some x:=⟨_,Fn hi1⟩;have lo0:=hp.lo ea0;have hi0:=hp.hi ea1;have ix0:atI (ps.map V.int) (0+(i:Int))=some (.int a0):=mL (get_map ea0);have ix1:atI (ps.map V.int) (0+(i:Int)+1)=some (.int a1):=by
   have:=mL (get_map ea1);rw[show(0:Int)+((i+1:Nat):Int)=0+(i:Int)+1 by lia]at this;exact this
  have el':=sm _ _ el;refine⟨_,U,_,U,_,_,U,U,(by show(0:Int)<=0+(i:Int);lia),_,_,U,U,U,_,U,?_⟩;have hbo:=wz hm0 i;refine bV (λg0=>?_) (λg0=>⟨sm,ys,qs,_,es,hP,by lia,hin,hG.skip hp ea0 ea1 (by rw[←hbo];exact eq_false_iff.mpr g0),U⟩);have gb:bH m i=true:=by rw[←hbo];exact g0
  refine⟨_,U,sp,_,U,.inl (SqL.of es),_,_,U,U,_,U,?_⟩;refine bV (λg1=>?_) (λg1=>bA ?e1);have g1':(0:Int)<((ys.length:Nat):Int):=kQ g1;obtain⟨ys',r,qs',p,ey,eq,hP',er⟩:=hP.last (by intro z;rw[z]at g1';simp at g1');have il:atI ys (-1)=some (.ref r):=by rw[ey];exact ju _ _
  refine⟨_,U,_,U,sp,_,_,_,U,U,SqL.of es,il,r,_,_,_,U,U,SqT.of er,z1 _ _,_,U,_,U,l,_,_,_,U,U,SqL.of el',ix0,_,_,U,U,U,_,U,?_⟩;refine bV (λg2=>?_) (λg2=>?e2);have hl2:p.2=a0-1:=by have z:=of_decide_eq_true g2;injection z
  subst ey eq;refine⟨_,U,_,U,sp,_,_,_,U,U,SqL.of es,ju _ _,r,_,_,_,U,U,SqT.of er,z0 _ _,_,U,_,U,_,_,U,U,l,_,_,_,U,U,SqL.of el',ix1,_,_,U,U,bu,λt ht=>?_⟩;have x1:upd H' t (.tup [.int p.1,.int (a1-1)]) sp=some (.lst (ys'++[.ref r])):=cz es ht;refine⟨_,U,_,U,sp,_,_,_,U,U,x1,gq (by simp),?_⟩;rw[pT];have st:cj H' (upd (upd H' t (.tup [.int p.1,.int (a1-1)])) sp (.lst (ys'++[.ref t]))):=(gL ht).trans (aO x1);refine⟨(sm.trans (ai ht _)).upd hsp,ys'++[.ref t],qs'++[(p.1,a1-1)],_,ab,(hP'.mono st).snoc (aO x1 _ _ ab),?_,λp2 hp2=>?_,hG.join hp ea0 ea1 gb hl2,U⟩
  ·rw[length_append,length_singleton]at hly⊢;lia
  ·rcases mem_append.mp hp2 with hp2|hp2
   ·exact hin p2 (mem_append_left _ hp2)
   ·rw[show p2=(p.1,a1-1) by simpa using hp2];exact⟨(hin p (by simp)).1,hi0⟩
  all_goals
   have hno:∀p∈qs,p.2≠a0-1:=by
    first
    |exact λp_ hp_ z=>(mem_append.mp (show p_∈_++[p] by rw[←eq];exact hp_)).elim (λhp_=>by rw[eq]at hG;have h1:=(pairwise_append.mp hG.pw).2.2 p_ hp_ p (mem_singleton.mpr U);have h2:=hG.le p (mem_append_right _ (mem_singleton.mpr U));have h3:=hG.bel a0 ea0 p (mem_append_right _ (mem_singleton.mpr U));lia) λhp_=>by rw[mem_singleton.mp hp_]at z;exact g2 (decide_eq_true (by rw[z]))
    |exact λp_ hp_=>absurd (show 0<ys.length by rw[hP.length];exact List.length_pos_of_mem hp_) λz=>g1 (decide_eq_true (by lia))
   refine⟨_,U,.inl ⟨U,_,SqL.of es⟩,_,U,_,U,l,_,_,_,U,U,SqL.of el',ix0,_,U,_,U,_,_,U,U,l,_,_,_,U,U,SqL.of el',ix1,_,_,U,U,bu,λt ht=>?_⟩;have x1:upd H' t (.tup [.int a0,.int (a1-1)]) sp=some (.lst ys):=cz es ht;refine⟨sp,_,_,U,U,x1,ay (by lia),?_⟩;have st:cj H' (upd (upd H' t (.tup [.int a0,.int (a1-1)])) sp (.lst (ys++[.ref t]))):=(gL ht).trans (aO x1);refine⟨(sm.trans (ai ht _)).upd hsp,ys++[.ref t],qs++[(a0,a1-1)],_,ab,(hP.mono st).snoc (aO x1 _ _ ab),by rw[length_append,length_singleton];lia,λp2 hp2=>?_,hG.put hp ea0 ea1 gb hno,U⟩;rcases mem_append.mp hp2 with hp2|hp2
   ·exact hin p2 hp2
   ·rw[show p2=(a0,a1-1) by simpa using hp2];exact⟨lo0,hi0⟩
 ·obtain⟨sm,ys,qs,c3,es,hP,hly,hin,hG,rfl⟩:=hh;rw[show(((ps.map V.int).length:Int)-1).toNat=ps.length-1 by rw[hlm];lia]at hG;exact⟨_,U,q sp qs H' sm ⟨hsp,ys,es,hP⟩ hin hG⟩
theorem Dm(F:Fun K "_law_places" "_law_places" Y59 f fd) (bl:Bl K mg Y)  : aH P w K mg base CX0 1 f fd ["points"] (eX K Y):=by
 refine F.okA Z60 λcdv A outer s H vs Q E hr h=>?_
 obtain⟨cl,xs,cs,rfl,hcl,hcs,hok,h4,q⟩:=h
 refine⟨_,(ak (aJ (i:=1) Z60.nd U (Or.inl U) (aW (aa (aW ae) ae)))
  (ak (aY PassesOwn.never U (aV (pv 0)) (aC (i:=2) Z60.nd U (Or.inl U))
  (ak (aJ (i:=3) Z60.nd U (Or.inl U) (aW ae))
  (aM (aY PassesOwn.never U (aV (pv 1)) (aC (i:=4) Z60.nd U (Or.inl U))
  (af (aY PassesOwn.never U (aP U bl.range_ (aa (ax bY (aq au U bl.len_ boot_len (aa (pv 2) ae)) ag) ae)) (aC (i:=5) Z60.nd U (Or.inl U))
  (af (aU (dP PySem.F.plainAttrs_list PySem.F.slot_list_append PySem.F.type_list_append bp (pv 3) (aa (ax kO (pv 4) (aW (aa (pv 5) ae))) ae)))))))
  (af (aJ (i:=1) Z60.nd U (Or.inl U) (pv 3))))))
  (af (av (pv 1))))),?_⟩
 have hxl:xs.length=cs.length:=hcs.1;refine⟨(by show 0<=sizeLine;decide),λa0 ha0=>?_⟩;have s0:=ai ha0 (.lst (vN []));have e0:upd H a0 (.lst (vN [])) a0=some (.lst (vN [])):=ab;have ee:upd H a0 (.lst [])=upd H a0 (.lst (vN [])):=rfl;rw[ee];clear ee;generalize upd H a0 (.lst (vN []))=H0 at s0 e0⊢;refine⟨(by show 1<=sizeLine;decide),λp0 hp0=>?_⟩;have s1:=s0.trans (ai hp0 (.lst [.ref a0]));have e1:upd H0 p0 (.lst [.ref a0]) p0=some (.lst [.ref a0]):=ab;have e1a:=ai hp0 (.lst [.ref a0]) _ _ e0;generalize upd H0 p0 (.lst [.ref a0])=H1 at s1 e1 e1a⊢;have st0:PtL NT H1 [.ref a0] [[]]:=⟨U,λj p e=>by
  match j,e with
  |0,e=>cases e;exact⟨a0,U,trivial,e1a⟩
  |j+1,e=>simp at e⟩
 refine⟨_,U,cl,U,⟨_,SqL.of (s1 _ _ hcl)⟩,bB (xs:=xs) (λi σ H'=>ar H H'/\∃(pl:Addr)(zs:List V)(c2 c3 c4 c5:Option V),H' pl=some (.lst zs)/\PtL NT H' zs (cm ((gls cs).take i))/\zs.length<=12^i/\σ=[some (.ref cl),some (.ref pl),c2,c3,c4,c5]) ⟨s1,p0,_,_,_,_,_,e1,st0,by show 1<=12^0;decide,U⟩ (λi σ H' _ h=>SqL.of (h.1 _ _ hcl)) (λi y σ H' ey hh=>?_) (λσ H' hh=>?_)⟩
 ·obtain⟨sm,pl,zs,c2,c3,c4,c5,epl,hpt,hsz,rfl⟩:=hh;obtain⟨lc,c,rfl,ec,g1⟩:=aI.get hcs ey;have g1:=sm _ _ g1;have hi:i<cs.length:=(Fo.mp ec).1;have ok:=hok c (Fp ec);have k6:c.length-1<=12:=by have:=ok.few;lia
  have h2_:=ok.two;have Fc:=ok.few;have Dn:12^i<=1728:=by
   have:i<=3:=by lia
   exact le_trans (Nat.pow_le_pow_right (by decide) this) (by decide)
  refine⟨(by show 0<=sizeLine;decide),λM hM=>?_⟩;have u1:=ai hM (.lst []);have eM:upd H' M (.lst []) M=some (.lst []):=ab;generalize upd H' M (.lst [])=H2 at u1 eM⊢;have Bm:zs.length=(cm ((gls cs).take i)).length:=hpt.1;refine⟨λσ' H3=>ar H' H3/\∃(ys:List V)(c4 c5:Option V),H3 M=some (.lst ys)/\PtL (· ≠ M) H3 ys (grow (cm ((gls cs).take i)) (c.length-1))/\σ'=[some (.ref cl),some (.ref pl),some (.ref lc),some (.ref M),c4,c5],?_,?_⟩
  ·refine⟨_,U,pl,U,⟨_,SqL.of (u1 _ _ epl)⟩,bB (xs:=zs) (λa σ H3=>ar H' H3/\∃(ys:List V)(c4 c5:Option V),H3 M=some (.lst ys)/\PtL (· ≠ M) H3 ys (grow ((cm ((gls cs).take i)).take a) (c.length-1))/\σ=[some (.ref cl),some (.ref pl),some (.ref lc),some (.ref M),c4,c5]) ⟨u1,[],_,_,eM,aI.nil,U⟩ (λa σ H3 _ h=>SqL.of (h.1 _ _ epl)) (λa y σ H3 ey2 h3=>?_) (λσ H3 h3=>?_)⟩
   ·obtain⟨t3,ys,c4,c5,eM3,hy,rfl⟩:=h3;obtain⟨r,p,rfl,ep,_,hr3⟩:=aI.get (hpt.same t3) ey2;have ha:a<zs.length:=(Fo.mp ey2).1;refine⟨_,U,lc,_,U,.inl (SqL.of (t3 _ _ g1)),_,_,U,U,_,U,(by rw[length_map];lia),(by rw[length_map];lia),bK (λb σ H4=>ar H' H4/\∃(ys:List V)(c5:Option V),H4 M=some (.lst ys)/\PtL (· ≠ M) H4 ys (grow ((cm ((gls cs).take i)).take a) (c.length-1)++(List.range b).map λk=>p++[k])/\σ=[some (.ref cl),some (.ref pl),some (.ref lc),some (.ref M),some (.ref r),c5]) ⟨t3,ys,_,eM3,by simpa using hy,U⟩ (λb σ H4 hb h4_=>?_) (λσ H4 h4_=>?_)⟩
    ·obtain⟨t4,ys4,c5',eM4,hy4,rfl⟩:=h4_;have hr4:H4 r=some (.lst (vN p)):=by
      obtain⟨r',p',er',ep',_,hr'⟩:=aI.get hpt ey2;cases er';rw[ep]at ep';cases ep';exact t4 _ _ hr'
     have hb2:b<(c.length-1):=by rw[length_map]at hb;lia
     have hys:ys4.length<=30000:=by
      have h1:=hy4.1;rw[length_append,lP,length_take,length_map,length_range]at h1;have h2:min a (cm ((gls cs).take i)).length*(c.length-1)<=1728*12:=mul_le_mul (by lia) k6;lia
     have hpl:p.length<=4:=by
      have:=(kx.iff.mp (Fp ep)).1;rw[length_take]at this;unfold gls at this;rw[length_map]at this;lia
     refine⟨_,U,.inl ⟨U,_,SqL.of eM4⟩,_,U,_,U,(by show 1<=sizeLine;decide),λk1 hk1=>?_⟩;have v1:=ai hk1 (.lst (vN [b]));have f1:upd H4 k1 (.lst (vN [b])) k1=some (.lst (vN [b])):=ab;have ee:upd H4 k1 (.lst [V.int (0+(b:Int))])=upd H4 k1 (.lst (vN [b])):=by rw[zero_add];rfl
     rw[ee];clear ee;generalize upd H4 k1 (.lst (vN [b]))=H5 at v1 f1⊢;refine⟨r,k1,_,_,U,U,v1 _ _ hr4,f1,le_of_lt (ay (by rw[cU,cU];simp;lia)),λk2 hk2=>?_⟩;rw[wA];have v2:=ai hk2 (.lst (vN (p++[b])));have f2:upd H5 k2 (.lst (vN (p++[b]))) k2=some (.lst (vN (p++[b]))):=ab;have eM5:=v1 _ _ eM4;have nk:k2≠M:=λz=>by rw[z,eM5]at hk2;cases hk2
     generalize upd H5 k2 (.lst (vN (p++[b])))=H6 at v2 f2⊢;have eM6:=v2 _ _ eM5;refine⟨M,_,_,U,U,eM6,(lt_of_le_of_lt hys (by decide)),?_⟩;have hy6:PtL (· ≠ M) H6 (ys4++[.ref k2]) (grow ((cm ((gls cs).take i)).take a) (c.length-1)++((List.range b).map λk=>p++[k])++[p++[b]]):=aI.snoc (hy4.same (v1.trans v2)) ⟨nk,f2⟩;refine⟨((t4.trans v1).trans v2).upd hM,ys4++[.ref k2],_,ab,?_,U⟩;rw[range_succ,map_append,List.map_singleton,←append_assoc];exact hy6.updN (λz=>z U)
    ·obtain⟨t4,ys4,c5',eM4,hy4,rfl⟩:=h4_;refine⟨t4,ys4,_,_,eM4,?_,U⟩;rw[uv ep];rw[show(((c.map V.int).length:Int)-1).toNat=c.length-1 by rw[length_map];lia]at hy4;exact hy4
   ·obtain⟨t3,ys,c4,c5,eM3,hy,rfl⟩:=h3;rw[Bm,take_length]at hy;exact⟨t3,ys,_,_,eM3,hy,U⟩
  rintro σ3 H3 ⟨t3,ys,c4',c5',eM3,hy,rfl⟩;have el:(gls cs)[i]?=some (c.length-1):=by unfold gls;rw[getElem?_map,ec];rfl
  have hyl:=hy.1;rw[lP]at hyl;refine⟨_,U,sm.trans t3,M,ys,_,_,_,_,eM3,?_,?_,U⟩
  ·rw[take_snoc el,fL];exact hy.any
  ·rw[hyl,←Bm,pow_succ];exact mul_le_mul hsz k6
 ·obtain⟨sm,pl,zs,c2,c3,c4,c5,epl,hpt,hsz,rfl⟩:=hh;have:(gls cs).length=cs.length:=by unfold gls;rw[length_map]
  rw[hxl,←this,take_length]at hpt;exact⟨_,U,q pl zs H' sm epl hpt⟩
theorem Dp(F:Fun K "_law_box" "_law_box" Y48 f fd) (bl:Bl K mg Y)  : aH P w K mg base CX0 1 f fd ["points","at"] (iU K Y):=by
 refine F.okA Z49 λcdv A outer s H vs Q E hr h=>?_
 obtain⟨pl,at_,xs,pss,ps,rfl,epl,hpl,h4,hps,eat,q⟩:=h;refine⟨_,(af (av (bL iu U bl.tuple_ PyProof.Rows.boot_tuple (aa (bP (aP U bl.range_ (aa (aq au U bl.len_ boot_len (aa (pv 1) ae)) ae)) (bo (N:=["k","points","at"]) (fr:=[0,1]) (cl:=[("points",s.heap.objs.size+1),("at",s.heap.objs.size+1+1)]) U U (by decide+kernel) (by decide+kernel) U (by decide+kernel) U U U (forall_mem_cons.mpr ⟨U,forall_mem_cons.mpr ⟨U,forall_mem_nil _⟩⟩) U) U (λ_ _ _ _=>bw) (λ_ _ _ _=>(bh (aa (az (b7 (K:=K) U) (az (b7 (K:=K) U) (pv 1) (pv 0) (λ_ _=>U)) (az (b7 (K:=K) U) (pv 2) (pv 0) (λ_ _=>U)) (λ_ _=>U)) (aa (ax bY (az (b7 (K:=K) U) (az (b7 (K:=K) U) (pv 1) (pv 0) (λ_ _=>U)) (ax cc (az (b7 (K:=K) U) (pv 2) (pv 0) (λ_ _=>U)) ag) (λ_ _=>U)) ag) ae))))) ae)))),?_⟩;have hxl:xs.length=pss.length:=hpl.1;have hk:=kx.iff.mp hps;have hl:ps.length=pss.length:=by rw[hk.1];unfold gls;rw[length_map]
 have hpb:(dn pss ps).length=pss.length:=by unfold dn;rw[length_zipWith];lia
 refine⟨_,U,at_,_,U,.inl (SqL.of eat),_,U,(by show -(2^62)<=(((vN ps).length:Nat):Int);rw[cU];lia),(by show(((vN ps).length:Nat):Int)<2^62;rw[cU];lia),bD (λD i zs H'=>ar H H'/\H' D=some (.lst zs)/\PL H' zs ((dn pss ps).take i)) (λD hD=>⟨ai hD _,ab,.nil⟩) (λD i zs H' hD hi hh=>?_) (λD zs H' hD hh=>?_)⟩
 ·obtain⟨sm,eD,hz⟩:=hh;rw[cU]at hi;have hi':i<ps.length:=by lia
  have e1:=Fn hi';have e2:=Fn (l:=pss) (i:=i) (by lia);obtain⟨pa,epa,hpa⟩:=hpl.2 i _ e2;have a1:atI xs (0+(i:Int))=some (.ref pa):=by rw[zero_add];exact aZ epa
  have a2:atI (vN ps) (0+(i:Int))=some (.int (ps[i]:Int)):=by rw[zero_add];exact aZ (yL e1)
  have ha:ps[i]<pss[i].length-1:=hk.2 i _ _ e1 (by unfold gls;rw[getElem?_map,e2];rfl);have ep:(dn pss ps)[i]?=some (pss[i].getD ps[i] 0,pss[i].getD (ps[i]+1) 0-1):=by unfold dn;rw[getElem?_zipWith,e1,e2]
  generalize pss[i]=qs at hpa ha ep;generalize ps[i]=n_ at a2 ha ep;have f0:=Fn (l:=qs) (i:=n_) (by lia);have f1:=Fn (l:=qs) (i:=n_+1) (by lia);have b0:atI (qs.map V.int) (n_:Int)=some (.int (qs.getD n_ 0)):=by rw[getD_eq_getElem?_getD,f0];exact aZ (get_map f0)
  have b1:atI (qs.map V.int) ((n_:Int)+1)=some (.int (qs.getD (n_+1) 0)):=by
   rw[getD_eq_getElem?_getD,f1];exact aZ (j:=n_+1) (get_map f1)
  have wV:=sm _ _ epl;have Bo:=sm _ _ eat;have Bp:=sm _ _ hpa;refine⟨_,U,_,U,pl,_,_,_,U,U,SqL.of wV,a1,_,U,_,U,at_,_,_,_,U,U,SqL.of Bo,a2,pa,_,_,_,U,U,SqL.of Bp,b0,_,U,_,U,pl,_,_,_,U,U,SqL.of wV,a1,_,U,_,U,at_,_,_,_,U,U,SqL.of Bo,a2,_,_,U,U,pa,_,_,_,U,U,SqL.of Bp,b1,_,_,U,U,bu,λtt_ htt=>?_⟩;have s4:=ai htt (.tup [.int (qs.getD n_ 0),.int (qs.getD (n_+1) 0-1)]);have eT:upd H' tt_ (.tup [.int (qs.getD n_ 0),.int (qs.getD (n_+1) 0-1)]) tt_=some (.tup [.int (qs.getD n_ 0),.int (qs.getD (n_+1) 0-1)]):=ab;have eD4:=s4 _ _ eD;have hz4:=hz.mono s4.tups;generalize upd H' tt_ (.tup [.int (qs.getD n_ 0),.int (qs.getD (n_+1) 0-1)])=H4 at s4 eT eD4 hz4⊢;have hzl:=hz.length;rw[length_take]at hzl;refine cF.mk (by rw[cU];lia) eD4 (ay (by lia)) ⟨(sm.trans s4).upd hD,ab,?_⟩;rw[take_snoc ep];exact(hz4.mono (aO eD4)).snoc (aO eD4 _ _ eT)
 ·obtain⟨sm,eD,hz⟩:=hh;refine⟨D,_,U,.inl ⟨SqL.of eD,λl hl_=>?_⟩⟩;have s5:=ai hl_ (.tup zs);refine q l _ (sm.trans s5) ⟨zs,ab,?_⟩;rw[show(((vN ps).length:Nat):Int).toNat=(dn pss ps).length by rw[toNat_natCast,cU,hl,hpb],take_length]at hz;exact hz.mono s5.tups
theorem Dq(F:Fun K "_law_fitting" "_law_fitting" Y52 f fd) (bl:Bl K mg Y)  : aH P w K mg base CX0 1 f fd ["rows","at"] (dX K Y):=by
 refine F.okA Z53 λcdv A outer s H vs Q E hr h=>?_
 obtain⟨rl,al,rx,bms,at_,rfl,erl,hR,h60,eal,ha4,hb,q⟩:=h
 refine⟨_,(ak (aJ (i:=2) Z53.nd U (Or.inl U) (aW ae))
  (ak (aY PassesOwn.never U (aP U bl.range_ (aa (aq au U bl.len_ boot_len (aa (pv 0) ae)) ae)) (aC (i:=3) Z53.nd U (Or.inl U))
  (ak (aJ (i:=4) Z53.nd U (Or.inl U) cP)
  (ak (aY PassesOwn.never U (aP U bl.range_ (aa (aq au U bl.len_ boot_len (aa (pv 1) ae)) ae)) (aC (i:=5) Z53.nd U (Or.inl U))
  (af (aN (aE bU (ax qK (ax qJ (az aF (az aR (az aF (pv 0) (pv 3) (λ_ _=>U)) ag (λ_ _=>U)) (pv 5) (λ_ _=>U)) (az aF (pv 1) (pv 5) (λ_ _=>U))) ag) ag (aG _))
  (af (aJ (i:=4) Z53.nd U (Or.inl U) cP))
  aD)))
  (af (aN (cb (pv 4))
  (af (aU (dP PySem.F.plainAttrs_list PySem.F.slot_list_append PySem.F.type_list_append bp (pv 2) (aa (pv 3) ae))))
  aD)))))
  (af (av (pv 2))))),?_⟩
 have hrl:rx.length=bms.length:=hR.1;refine⟨(by show 0<=sizeLine;decide),λtl htl=>?_⟩;have s0:=ai htl (.lst (vN []));have e0:upd H tl (.lst (vN [])) tl=some (.lst (vN [])):=ab;have ee:upd H tl (.lst [])=upd H tl (.lst (vN [])):=rfl;rw[ee];clear ee;generalize upd H tl (.lst (vN []))=H0 at s0 e0⊢;refine⟨_,U,rl,_,U,.inl (SqL.of (s0 _ _ erl)),_,U,(by show -(2^62)<=((rx.length:Nat):Int);lia),(by show((rx.length:Nat):Int)<2^62;lia),bK (λi σ H'=>ar H H'/\∃(c3 c4 c5:Option V),H' tl=some (.lst (vN ((List.range i).filter λk=>gY at_ (bms.getD k ([],0)))))/\σ=[some (.ref rl),some (.ref al),some (.ref tl),c3,c4,c5]) ⟨s0,_,_,_,e0,U⟩ (λi σ H' hi hh=>?_) (λσ H' hh=>?_)⟩
 ·obtain⟨sm,c3,c4,c5,etl,rfl⟩:=hh;have hi':i<bms.length:=by lia
  obtain⟨b,eb⟩:∃b,bms[i]?=some b:=⟨_,Fn hi'⟩;have hgb:bms.getD i ([],0)=b:=by rw[getD_eq_getElem?_getD,eb];rfl
  obtain⟨r,er,bl_,g1,g2⟩:=hR.2 i b eb;obtain⟨hb1,hb2⟩:=hb b (Fp eb);have hfl:((List.range i).filter λk=>gY at_ (bms.getD k ([],0))).length<=i:=le_trans (length_filter_le _ _) (by rw[length_range];exact le_refl _);have hsn:((List.range (i+1)).filter λk=>gY at_ (bms.getD k ([],0)))=((List.range i).filter λk=>gY at_ (bms.getD k ([],0)))++(if gY at_ b=true then[i] else[]):=by
   rw[range_succ,filter_append,List.filter_cons,hgb];rfl
  refine⟨_,U,al,_,U,.inl (SqL.of (sm _ _ eal)),_,U,(by rw[cU];lia),(by rw[cU];lia),bK (λj σ H2=>H2=H'/\∃c5:Option V,σ=[some (.ref rl),some (.ref al),some (.ref tl),some (.int (0+(i:Int))),some (.bl ((List.range j).all λj=>bH (b.1.getD j 0) (at_.getD j 0))),c5]) ⟨U,_,U⟩ (λj σ H2 hj h2=>?_) (λσ H2 h2=>?_)⟩
  ·obtain⟨rfl,c5',rfl⟩:=h2;rw[cU]at hj;have hj':j<at_.length:=by lia
   obtain⟨m,em⟩:∃m,b.1[j]?=some m:=⟨_,Fn (by lia)⟩;obtain⟨p,ep⟩:∃p,at_[j]?=some p:=⟨_,Fn hj'⟩;have hm0:=hb2 m (Fp em);have e1:b.1.getD j 0=m:=by rw[getD_eq_getElem?_getD,em];rfl
   have e2:at_.getD j 0=p:=by rw[getD_eq_getElem?_getD,ep];rfl
   have hal:=lQ (λj=>bH (b.1.getD j 0) (at_.getD j 0)) j;rw[e1,e2]at hal;refine⟨_,U,_,U,rl,_,_,_,U,U,SqL.of (sm _ _ erl),mL er,r,_,_,_,U,U,SqT.of (sm _ _ g1),U,_,U,bl_,_,_,_,U,U,SqL.of (sm _ _ g2),mL (get_map em),_,U,_,U,al,_,_,_,U,U,SqL.of (sm _ _ eal),mL (yL ep),_,_,U,U,(by show(0:Int)<=(p:Int);lia),_,_,U,U,U,_,U,?_⟩;have hbo:=xO hm0 p;refine bV (λg=>?_) (λg=>?_)
   ·refine⟨U,some (.int (0+(j:Int))),?_⟩;have:bH m p=false:=by rw[hbo]at g;simpa using g
    rw[hal,this,Bool.and_false];rfl
   ·refine⟨U,some (.int (0+(j:Int))),?_⟩;have:bH m p=true:=by rw[hbo]at g;simpa using g
    rw[hal,this,Bool.and_true];rfl
  ·obtain⟨rfl,c5',rfl⟩:=h2;have hg:((List.range (((vN at_).length:Nat):Int).toNat).all λj=>bH (b.1.getD j 0) (at_.getD j 0))=gY at_ b:=by rw[cU,toNat_natCast];rfl
   rw[hg];refine⟨_,U,_,U,?_⟩;refine bV (λg=>?_) (λg=>?_)
   ·rw[if_pos g]at hsn;refine⟨_,U,.inl ⟨U,_,SqL.of etl⟩,_,U,tl,_,_,U,U,etl,ay (by rw[cU];lia),?_⟩;refine⟨sm.upd htl,_,_,_,?_,U⟩;rw[ab,hsn,←wA,zero_add];rfl
   ·rw[if_neg g,append_nil]at hsn;exact⟨sm,_,_,_,by rw[hsn];exact etl,U⟩
 ·obtain⟨sm,c3,c4,c5,etl,rfl⟩:=hh;rw[toNat_natCast,hrl]at etl;exact⟨_,U,q tl H' sm htl etl⟩
theorem Dr(F:Fun K "_law_due" "_law_due" Y51 f fd) (bl:Bl K mg Y)  : aH P w K mg base CX0 1 f fd ["codes","way","outs"] (iV K Y):=by
 refine F.okA Z52 λcdv A outer s H vs Q E hr h=>?_
 obtain⟨cl,ol,wy,i,cs,os,oc,rfl,ecl,h60,hwi,eol,⟨x0,x1,x2,x3,x4,rfl,h01,h12,h23,h34,_⟩,q⟩:=h
 refine⟨_,(ak (aN (aE bU (aq au U bl.len_ boot_len (aa (pv 0) ae)) ag (aG _))
  (af (av (bh (aa aQ (aa ag ae)))))
  aD)
  (ak (aN (aE bU (pv 1) aQ (aG _))
  (af (av (bh (aa aQ (aa (aq (eU U) U bl.min_ PyProof.Rows.boot_min (aa (pv 0) ae)) ae)))))
  aD)
  (ak (aN (aE bU (pv 1) aQ (aG _))
  (af (av (bh (aa aQ (aa (aq (eV U) U bl.max_ PyProof.Rows.boot_max (aa (pv 0) ae)) ae)))))
  aD)
  (ak (aN (aE bU (pv 1) aQ (aG _))
  (af (av (bh (aa aQ (aa (aq (mY U) U bl.max_ PyProof.Rows.boot_max (aa (az aF (pv 2) ag (λ_ _=>U)) (aa (aq (mZ U) U bl.min_ PyProof.Rows.boot_min (aa (az aF (pv 2) ag (λ_ _=>U)) (aa (aq (cQ U) U bl.sum_ PyProof.Rows.boot_sum (aa (pv 0) ae)) ae))) ae))) ae)))))
  aD)
  (ak (aN (PW.pt (iG (aE bU (pv 1) aQ (aG _)) (fB (aE ir (aq au U bl.len_ boot_len (aa (pv 0) ae)) ag (aG _)))))
  (af (av (bh (aa aQ (aa ag ae)))))
  aD)
  (ak (aN (PW.pt (iG (aE bU (pv 1) aQ (aG _)) (fB (aE kf (aq (eU U) U bl.min_ PyProof.Rows.boot_min (aa (pv 0) ae)) (aq (eV U) U bl.max_ PyProof.Rows.boot_max (aa (pv 0) ae)) (aG _)))))
  (af (av (bh (aa aQ (aa ag ae)))))
  aD)
  (af (av (bh (aa aQ (aa (az aF (pv 0) ag (λ_ _=>U)) ae))))))))))),?_⟩
 have hlm:(cs.map V.int).length=cs.length:=length_map _;refine⟨_,U,cl,_,U,.inl (SqL.of ecl),U,_,U,?_⟩
 match cs,ecl,h60,q,hlm with
 | [],ecl,h60,q,hlm =>
  exact bV (λ_=>⟨bu,λt ht=>q t _ (ai ht _) (by rw[ab];rfl)⟩) (λg=>absurd (by exact decide_eq_true U) g)
 |n :: ns,ecl,h60,q,hlm =>
 refine bV (λg=>absurd (of_decide_eq_true g) (by rw[hlm,length_cons];intro z;injection z with z;lia)) (λ_=>?_)
 match i,hwi with
 |0,e =>
  cases e;refine⟨_,U,U,_,U,ck (by intro e;injection e with e;exact absurd e (by decide)) ?_⟩;refine⟨_,U,U,_,U,ck (by intro e;injection e with e;exact absurd e (by decide)) ?_⟩;refine⟨_,U,U,_,U,ck (by intro e;injection e with e;exact absurd e (by decide)) ?_⟩;refine⟨_,U,U,_,U,ck (by intro e;injection e with e;exact absurd e (by decide)) (bA ?_)⟩;refine⟨_,U,U,_,U,ck (by intro e;injection e with e;exact absurd e (by decide)) (bA ?_)⟩;exact⟨_,U,cl,_,_,_,U,U,SqL.of ecl,at0 n ns,bu,λt ht=>q t _ (ai ht _) (by rw[ab];show _=some (HO.tup (tp (vT (n :: ns))));rfl)⟩
 |1,e =>
  cases e;refine⟨_,U,U,_,U,ck (by intro e;injection e with e;exact absurd e (by decide)) ?_⟩;refine⟨_,U,U,_,U,ck (by intro e;injection e with e;exact absurd e (by decide)) ?_⟩;refine⟨_,U,U,_,U,ck (by intro e;injection e with e;exact absurd e (by decide)) ?_⟩;refine⟨_,U,U,_,U,fW U ?_⟩;refine⟨_,U,cl,_,U,.inl (SqL.of ecl),_,_,U,U,_,U,?_⟩;refine bV (λg=>?_) (λg=>?_)
  ·have hl:(n :: ns).length≠1:=λz=>by rw[hlm,z]at g;exact absurd (of_decide_eq_true g) (by decide)
   refine⟨bu,λt ht=>q t _ (ai ht _) (by rw[ab];show _=some (HO.tup (tp (fY (n :: ns))));unfold fY;rw[if_neg hl];rfl)⟩
  ·have hl:(n :: ns).length=1:=by
    have:¬ ((1:Int)<((((n :: ns).map V.int).length:Nat):Int)):=λz=>g (decide_eq_true z)
    rw[hlm]at this;rw[length_cons]at this⊢;lia
   refine⟨_,U,U,_,U,ck (by intro e;injection e with e;exact absurd e (by decide)) (bA ?_)⟩;exact⟨_,U,cl,_,_,_,U,U,SqL.of ecl,at0 n ns,bu,λt ht=>q t _ (ai ht _) (by rw[ab];show _=some (HO.tup (tp (fY (n :: ns))));unfold fY;rw[if_pos hl];rfl)⟩
 |2,e =>
  cases e;refine⟨_,U,U,_,U,ck (by intro e;injection e with e;exact absurd e (by decide)) ?_⟩;refine⟨_,U,U,_,U,ck (by intro e;injection e with e;exact absurd e (by decide)) ?_⟩;refine⟨_,U,U,_,U,ck (by intro e;injection e with e;exact absurd e (by decide)) ?_⟩;refine⟨_,U,U,_,U,ck (by intro e;injection e with e;exact absurd e (by decide)) (bA ?_)⟩;refine⟨_,U,U,_,U,fW U ?_⟩;refine⟨_,U,cl,_,U,SqL.of ecl,succ_pos _,λm h1 h2=>⟨_,U,cl,_,U,SqL.of ecl,succ_pos _,λm' h3 h4=>⟨U,_,U,?_⟩⟩⟩;have e1:=lK h1 h2;have e2:=lL h3 h4;subst e1 e2;refine bV (λg=>?_) (λg=>?_)
  ·have hl:least (n :: ns)≠great (n :: ns):=λz=>by rw[z]at g;simp at g
   exact⟨bu,λt ht=>q t _ (ai ht _) (by rw[ab];show _=some (HO.tup (tp (fX (n :: ns))));unfold fX;rw[if_neg hl];rfl)⟩
  ·have hl:least (n :: ns)=great (n :: ns):=by
    by_cases z:least (n :: ns)=great (n :: ns)
    ·exact z
    ·exfalso;exact g (by simp;exact z)
   have hh:least (n :: ns)=n:=by
    have a1:=dS.2 n (mem_cons_self (l:=ns));have a2:=fj.2 n (mem_cons_self (l:=ns));lia
   exact⟨_,U,cl,_,_,_,U,U,SqL.of ecl,at0 n ns,bu,λt ht=>q t _ (ai ht _) (by rw[ab];show _=some (HO.tup (tp (fX (n :: ns))));unfold fX;rw[if_pos hl,hh];rfl)⟩
 |3,e =>
  cases e;refine⟨_,U,U,_,U,fW U ?_⟩;refine⟨_,U,cl,_,U,SqL.of ecl,succ_pos _,λm h1 h2=>⟨bu,λt ht=>q t _ (ai ht _) ?_⟩⟩;rw[ab,lK h1 h2];rfl
 |4,e =>
  cases e;refine⟨_,U,U,_,U,ck (by intro e;injection e with e;exact absurd e (by decide)) ?_⟩;refine⟨_,U,U,_,U,fW U ?_⟩;refine⟨_,U,cl,_,U,SqL.of ecl,succ_pos _,λm h1 h2=>⟨bu,λt ht=>q t _ (ai ht _) ?_⟩⟩;rw[ab,lL h1 h2];rfl
 |5,e =>
  cases e;refine⟨_,U,U,_,U,ck (by intro e;injection e with e;exact absurd e (by decide)) ?_⟩;refine⟨_,U,U,_,U,ck (by intro e;injection e with e;exact absurd e (by decide)) ?_⟩;refine⟨_,U,U,_,U,fW U ?_⟩;refine⟨_,U,ol,_,_,_,U,U,SqL.of eol,U,_,U,ol,_,_,_,U,U,SqL.of eol,U,_,U,cl,_,U,SqL.of ecl,_,_,U,_,_,U,?_⟩;refine⟨bu,λt ht=>q t _ (ai ht _) ?_⟩;rw[ab];have e:near x0 x4 (n :: ns).sum=if (if (n :: ns).sum<x4 then(n :: ns).sum else x4)>x0 then(if (n :: ns).sum<x4 then(n :: ns).sum else x4)else x0:=by
   unfold near;generalize (n :: ns).sum=t;split <;> split <;> split <;> first|rfl|lia|(split <;> lia)
  show _=some (HO.tup (tp (say (near x0 x4 (n :: ns).sum))));rw[e];rfl
 |i+6,e=>simp[six]at e
theorem Ds(F:Fun K "_law_whole" "_law_whole" Y66 f fd) (bl:Bl K mg Y)  : aH P w K mg base CX0 1 f fd ["found"] (dN K Y):=by
 refine F.okA Z67 λcdv A outer s H vs Q E hr h=>?_
 obtain⟨i,rfl,q⟩:=h;refine⟨_,(af (av (jO (aq cH U bl.isinstance_ PyProof.Rows.boot_isinstance (aa (pv 0) (aa (eF (v:=.ty "int") U bl.int_ PyProof.Rows.boot_int U) ae))) (kJ (uP (aq cH U bl.isinstance_ PyProof.Rows.boot_isinstance (aa (pv 0) (aa (eF (v:=.ty "bool") U bl.bool_ PyProof.Rows.boot_bool U) ae)))))))),?_⟩;exact⟨_,U,_,_,_,_,true,U,.ty _,.inl (.int _),(by first|rfl|with_unfolding_all rfl|decide+kernel),_,U,f6 ⟨_,U,_,_,_,_,false,U,.ty _,.inl (.int _),(by first|rfl|with_unfolding_all rfl|decide+kernel),_,U,q⟩⟩
theorem Dt(F:Fun K "_law_meet" "_law_meet" Y56 f fd) (bl:Bl K mg Y)  : aH P w K mg base CX0 1 f fd ["one","other"] (gx K Y):=by
 refine F.okA Z57 λcdv A outer s H vs Q E hr h=>?_
 obtain⟨a,b,A_,B_,rfl,⟨xs,ea,hA⟩,⟨ys,eb,hB⟩,hl,h6,q⟩:=h
 refine⟨_,(ak (aY PassesOwn.never U (aP U bl.range_ (aa (aq au U bl.len_ boot_len (aa (pv 0) ae)) ae)) (aC (i:=2) Z57.nd U (Or.inl U))
  (af (aN (PW.pt (ij (aE jt (az aR (az aR (pv 0) (pv 2) (λ_ _=>U)) ag (λ_ _=>U)) (az aR (az aR (pv 1) (pv 2) (λ_ _=>U)) ag (λ_ _=>U)) (aG _)) (gc (aE jt (az aR (az aR (pv 1) (pv 2) (λ_ _=>U)) ag (λ_ _=>U)) (az aR (az aR (pv 0) (pv 2) (λ_ _=>U)) ag (λ_ _=>U)) (aG _)))))
  (af (av cP))
  aD)))
  (af (av cP))),?_⟩
 have hxl:=hA.length;have hyl:=hB.length;refine⟨_,U,a,_,U,.inr (SqT.of ea),_,U,(by show -(2^62)<=((xs.length:Nat):Int);lia),(by show((xs.length:Nat):Int)<2^62;lia),bK (λi σ H'=>H'=H/\(∀k,k<i->rN A_ B_ k=false)/\∃c2:Option V,σ=[some (.ref a),some (.ref b),c2]) ⟨U,(λk hk=>absurd hk (not_lt_zero _)),none,U⟩ (λi σ H' hi h=>?_) (λσ H' h=>?_)⟩
 ·obtain⟨rfl,hno,c2,rfl⟩:=h;have hi':i<A_.length:=by lia
  have e1:=Fn (l:=xs) (i:=i) (by lia);have e2:=Fn (l:=ys) (i:=i) (by lia);obtain⟨p,t,ep,ex,ht⟩:=hA.get e1;obtain⟨r,u,er,ey,hu⟩:=hB.get e2;rw[ex]at e1;rw[ey]at e2;have hs:=zZ ep er;have a1:atI xs (0+(i:Int))=some (.ref t):=by rw[zero_add];exact aZ e1
  have a2:atI ys (0+(i:Int))=some (.ref u):=by rw[zero_add];exact aZ e2
  refine⟨_,U,_,U,a,_,_,_,U,U,SqT.of ea,a1,t,_,_,_,U,U,SqT.of ht,U,_,U,_,U,b,_,_,_,U,U,SqT.of eb,a2,u,_,_,_,U,U,SqT.of hu,U,_,_,U,U,_,U,?_⟩;refine bV (λg=>?_) (λg=>?_)
  ·have g:p.2<r.1:=of_decide_eq_true g;rw[wK hi' (by rw[hs,decide_eq_true g];rfl)]at q;exact q
  ·have g:¬ p.2<r.1:=of_decide_eq_false (eq_false_iff.mpr g);refine⟨_,U,_,U,b,_,_,_,U,U,SqT.of eb,a2,u,_,_,_,U,U,SqT.of hu,U,_,U,_,U,a,_,_,_,U,U,SqT.of ea,a1,t,_,_,_,U,U,SqT.of ht,U,_,_,U,U,_,U,?_⟩;refine bV (λg2=>?_) (λg2=>?_)
   ·have g2:r.2<p.1:=of_decide_eq_true g2;rw[wK hi' (by rw[hs,decide_eq_true g2,Bool.or_true])]at q;exact q
   ·have g2:¬ r.2<p.1:=of_decide_eq_false (eq_false_iff.mpr g2);refine⟨U,λk hk=>?_,_,U⟩;rcases Nat.lt_succ_iff_lt_or_eq.mp hk with z|z
    ·exact hno k z
    ·rw[z,hs,decide_eq_false g,decide_eq_false g2];rfl
 ·obtain⟨rfl,hno,c2,rfl⟩:=h;rw[zY λk hk=>hno k (by lia)]at q;exact q
theorem Du(F:Fun K "_law_size" "_law_size" Y62 f fd) (bl:Bl K mg Y)  : aH P w K mg base CX0 1 f fd ["box"] (gy K Y):=by
 refine F.okA Z63 λcdv A outer s H vs Q E hr h=>?_
 obtain⟨b,B,rfl,⟨xs,hb,hP⟩,h4,hw,q⟩:=h
 refine⟨_,(ak (aJ (i:=1) Z63.nd U (Or.inl U) ag)
  (ak (aY PassesOwn.never U (qH (pv 0)) (aC (i:=2) Z63.nd U (Or.inl U))
  (af (aJ (i:=1) Z63.nd U (Or.inl U) (ax xw (pv 1) (ax cc (ax bY (az aR (pv 2) ag (λ_ _=>U)) (az aR (pv 2) ag (λ_ _=>U))) ag)))))
  (af (av (pv 1))))),?_⟩
 have hxl:=hP.length;refine⟨_,U,b,U,⟨_,SqT.of hb⟩,sh (xs:=xs) (λi σ H'=>H'=H/\∃c2:Option V,σ=[some (.ref b),some (.int (vol (B.take i))),c2]) ⟨U,none,U⟩ (λi σ H' _ h=>by rw[h.1];exact SqT.of hb) (λi x σ H' e h=>?_) (λσ H' h=>?_)⟩
 ·obtain⟨e1,c2,rfl⟩:=h;rw[e1];obtain⟨p,t,ep,rfl,ht⟩:=hP.get e;refine⟨_,U,_,U,t,_,_,_,U,U,SqT.of ht,U,_,U,t,_,_,_,U,U,SqT.of ht,U,_,_,U,U,_,_,U,U,_,_,U,U,xT h4 hw ep,U,some (.ref t),?_⟩;rw[p5 ep];rfl
 ·obtain⟨e1,c2,rfl⟩:=h;rw[e1,hxl,take_length];exact⟨_,U,q⟩
theorem Dv(F:Fun K "__init__" "Way.__init__" Y18 f fd) (bl:Bl K mg Y)  : aH P w K mg base CX0 1 f fd ["self","called"] (cn K Y):=by
 refine F.okA Z18 λcdv A outer s H vs Q E hr h=>?_
 obtain⟨x,dx,z,rfl,hx,q⟩:=h;refine⟨_,(af (cx (pv 0) (pv 1) U)),?_⟩;exact⟨_,U,_,U,x,_,dx,_,U,hx,bl.k_First,bl.na_First_called,(by show 0<1000;decide),q⟩
theorem Dw(F:Fun K "__init__" "Way.__init__" Y22 f fd) (bl:Bl K mg Y)  : aH P w K mg base CX0 1 f fd ["self","called"] (cB K Y):=by
 refine F.okA Z22 λcdv A outer s H vs Q E hr h=>?_
 obtain⟨x,dx,z,rfl,hx,q⟩:=h;refine⟨_,(af (cx (pv 0) (pv 1) U)),?_⟩;exact⟨_,U,_,U,x,_,dx,_,U,hx,bl.k_Only,bl.na_Only_called,(by show 0<1000;decide),q⟩
theorem Dx(F:Fun K "__init__" "Way.__init__" Y20 f fd) (bl:Bl K mg Y)  : aH P w K mg base CX0 1 f fd ["self","called"] (cC K Y):=by
 refine F.okA Z20 λcdv A outer s H vs Q E hr h=>?_
 obtain⟨x,dx,z,rfl,hx,q⟩:=h;refine⟨_,(af (cx (pv 0) (pv 1) U)),?_⟩;exact⟨_,U,_,U,x,_,dx,_,U,hx,bl.k_Like,bl.na_Like_called,(by show 0<1000;decide),q⟩
theorem Dy(F:Fun K "__init__" "Way.__init__" Y21 f fd) (bl:Bl K mg Y)  : aH P w K mg base CX0 1 f fd ["self","called"] (cM K Y):=by
 refine F.okA Z21 λcdv A outer s H vs Q E hr h=>?_
 obtain⟨x,dx,z,rfl,hx,q⟩:=h;refine⟨_,(af (cx (pv 0) (pv 1) U)),?_⟩;exact⟨_,U,_,U,x,_,dx,_,U,hx,bl.k_Low,bl.na_Low_called,(by show 0<1000;decide),q⟩
theorem Dz(F:Fun K "__init__" "Way.__init__" Y19 f fd) (bl:Bl K mg Y)  : aH P w K mg base CX0 1 f fd ["self","called"] (cD K Y):=by
 refine F.okA Z19 λcdv A outer s H vs Q E hr h=>?_
 obtain⟨x,dx,z,rfl,hx,q⟩:=h;refine⟨_,(af (cx (pv 0) (pv 1) U)),?_⟩;exact⟨_,U,_,U,x,_,dx,_,U,hx,bl.k_High,bl.na_High_called,(by show 0<1000;decide),q⟩
theorem DA(F:Fun K "__init__" "Way.__init__" Y23 f fd) (bl:Bl K mg Y)  : aH P w K mg base CX0 1 f fd ["self","called"] (cO K Y):=by
 refine F.okA Z23 λcdv A outer s H vs Q E hr h=>?_
 obtain⟨x,dx,z,rfl,hx,q⟩:=h;refine⟨_,(af (cx (pv 0) (pv 1) U)),?_⟩;exact⟨_,U,_,U,x,_,dx,_,U,hx,bl.k_Sum,bl.na_Sum_called,(by show 0<1000;decide),q⟩
theorem O_0(F:Fun K "__init__" "Domain.__init__" Y0 f fd) (bl:Bl K mg Y)  : aH P w K mg base CX0 1 f fd ["self","low","high"] (bE K Y):=by
 refine F.okA Z0 λcdv A outer s H vs Q E hr h=>?_
 obtain⟨x,dx,lo,hi,rfl,hx,q⟩:=h
 refine⟨_,(ak (cx (pv 0) (pv 1) U)
  (af (cx (pv 0) (pv 2) U))),?_⟩
 refine⟨_,U,_,U,x,_,dx,_,U,hx,bl.k_Numbers,bl.na_Numbers_low,(by show 0<1000;decide),_,U,_,U,x,_,dx,_,U,ab,bl.k_Numbers,bl.na_Numbers_high,(by show 1<1000;decide),?_⟩;show Q .non (upd (upd H x (.ins Y.i dx [("low",.int lo)])) x (.ins Y.i dx (bq "high" (.int hi) [("low",.int lo)])));rw[put2];exact q
theorem O_1(F:Fun K "__init__" "Domain.__init__" Y1 f fd) (bl:Bl K mg Y)  : aH P w K mg base CX0 1 f fd ["self","low","high"] (bR K Y):=by
 refine F.okA Z1 λcdv A outer s H vs Q E hr h=>?_
 obtain⟨x,dx,lo,hi,rfl,hx,q⟩:=h
 refine⟨_,(ak (cx (pv 0) (pv 1) U)
  (af (cx (pv 0) (pv 2) U))),?_⟩
 refine⟨_,U,_,U,x,_,dx,_,U,hx,bl.k_Words,bl.na_Words_low,(by show 0<1000;decide),_,U,_,U,x,_,dx,_,U,ab,bl.k_Words,bl.na_Words_high,(by show 1<1000;decide),?_⟩;show Q .non (upd (upd H x (.ins Y.j dx [("low",.int lo)])) x (.ins Y.j dx (bq "high" (.int hi) [("low",.int lo)])));rw[put2];exact q
theorem O_5(F:Fun K "chosen" "First.chosen" Y5 f fd) (bl:Bl K mg Y)  : aH P w K mg base CX0 1 f fd ["self","codes","outcome"] (J1 K Y):=by
 refine F.ok Z5 (λvs H Q E h=>?_) (λcdv A outer s H vs Q E hr h=>?_)
 ·obtain⟨x,c,o,n,ns,b,rfl,⟨dx,z,hx⟩,ho,hle,hS,hn,q⟩:=h;rfl
 obtain⟨x,c,o,n,ns,b,rfl,⟨dx,z,hx⟩,ho,hle,hS,hn,q⟩:=h;refine⟨_,(af (av (bh (aa aQ (aa (az aF (pv 1) ag (λ_ _=>U)) ae))))),?_⟩;exact⟨_,U,c,_,_,_,U,U,hS,at0 n ns,bu,λt ht=>q t _ (ai ht _) (SqT.of ab)⟩
theorem DB(F:Fun K "chosen" "Only.chosen" Y14 f fd) (bl:Bl K mg Y)  : aH P w K mg base CX0 1 f fd ["self","codes","outcome"] (J9 K Y):=by
 refine F.ok Z14 (λvs H Q E h=>?_) (λcdv A outer s H vs Q E hr h=>?_)
 ·obtain⟨x,c,o,n,ns,b,rfl,⟨dx,z,hx⟩,ho,hle,hS,hn,q⟩:=h;rfl
 obtain⟨x,c,o,n,ns,b,rfl,⟨dx,z,hx⟩,ho,hle,hS,hn,q⟩:=h;refine⟨_,(af (av (kK (aE bU (aq au U bl.len_ boot_len (aa (pv 1) ae)) ag (aG _)) (bh (aa aQ (aa (az aF (pv 1) ag (λ_ _=>U)) ae))) (dc (v:=.ref Y.m) U bl.CLASH_ U)))),?_⟩;refine⟨_,U,c,_,U,.inl (hS),U,_,U,?_⟩;refine bV (λg=>?_) (λg=>?_)
 ·have e:wf 1 b.1 b.2 (n :: ns)=say n:=by
   have g':=kQ g;simp at g';show fY _=_;unfold fY;rw[if_pos (by rw[length_cons];lia)];rfl
  rw[e]at q;exact⟨_,U,c,_,_,_,U,U,hS,at0 n ns,bu,λt ht=>q t _ (ai ht _) (SqT.of ab)⟩
 ·have e:wf 1 b.1 b.2 (n :: ns)=sP:=by
   have g':=pj g;simp at g';show fY _=_;unfold fY;rw[if_neg (by rw[length_cons];lia)]
  rw[e]at q;exact q _ _ (ar.refl _) (bl.q_CLASH.sq _)
theorem O_9(F:Fun K "chosen" "Like.chosen" Y9 f fd) (bl:Bl K mg Y)  : aH P w K mg base CX0 1 f fd ["self","codes","outcome"] (J5 K Y):=by
 refine F.ok Z9 (λvs H Q E h=>?_) (λcdv A outer s H vs Q E hr h=>?_)
 ·obtain⟨x,c,o,n,ns,b,rfl,⟨dx,z,hx⟩,ho,hle,hS,hn,q⟩:=h;rfl
 obtain⟨x,c,o,n,ns,b,rfl,⟨dx,z,hx⟩,ho,hle,hS,hn,q⟩:=h;refine⟨_,(af (av (kK (aE bU (aq mG U bl.len_ boot_len (aa (bL (mF U) U bl.set_ PyProof.Rows.boot_set (aa (pv 1) ae)) ae)) ag (aG _)) (bh (aa aQ (aa (az aF (pv 1) ag (λ_ _=>U)) ae))) (dc (v:=.ref Y.m) U bl.CLASH_ U)))),?_⟩;refine⟨_,U,c,_,U,hS,(by rw[length_cons];lia),λl hl=>?_⟩;refine⟨l,_,U,ab,(by rw[length_cons];lia),U,_,U,?_⟩;have sl:ar H (upd H l (xC P w l (n :: ns))):=ai hl _;refine bV (λg=>?_) (λg=>?_)
 ·have g':V.int _=V.int _:=kQ g;have g2:cntK (n :: ns) (n :: ns).length=1:=by injection g' with g';lia
  have g3:=nE.mp g2;have e:wf 2 b.1 b.2 (n :: ns)=say n:=by
   show fX _=_;unfold fX;rw[if_pos (nL.mp g3),uh g3]
  rw[e]at q;exact⟨_,U,c,_,_,_,U,U,sl.seq hS,at0 n ns,bu,λt ht=>q t _ (sl.trans (ai ht _)) (SqT.of ab)⟩
 ·have g2:¬ cntK (n :: ns) (n :: ns).length=1:=λz=>(pj g) (by rw[z];rfl)
  have e:wf 2 b.1 b.2 (n :: ns)=sP:=by
   show fX _=_;unfold fX;rw[if_neg λz=>g2 (nE.mpr (nL.mpr z))]
  rw[e]at q;exact q _ _ sl (bl.q_CLASH.sq _)
theorem DC(F:Fun K "chosen" "Low.chosen" Y11 f fd) (bl:Bl K mg Y)  : aH P w K mg base CX0 1 f fd ["self","codes","outcome"] (J7 K Y):=by
 refine F.ok Z11 (λvs H Q E h=>?_) (λcdv A outer s H vs Q E hr h=>?_)
 ·obtain⟨x,c,o,n,ns,b,rfl,⟨dx,z,hx⟩,ho,hle,hS,hn,q⟩:=h;rfl
 obtain⟨x,c,o,n,ns,b,rfl,⟨dx,z,hx⟩,ho,hle,hS,hn,q⟩:=h;refine⟨_,(af (av (bh (aa aQ (aa (aq (eU U) U bl.min_ PyProof.Rows.boot_min (aa (pv 1) ae)) ae))))),?_⟩;refine⟨_,U,c,_,U,hS,succ_pos _,λm h1 h2=>⟨bu,λt ht=>q t _ (ai ht _) (SqT.of ?_)⟩⟩;rw[ab,lK h1 h2];rfl
theorem O_7(F:Fun K "chosen" "High.chosen" Y7 f fd) (bl:Bl K mg Y)  : aH P w K mg base CX0 1 f fd ["self","codes","outcome"] (J3 K Y):=by
 refine F.ok Z7 (λvs H Q E h=>?_) (λcdv A outer s H vs Q E hr h=>?_)
 ·obtain⟨x,c,o,n,ns,b,rfl,⟨dx,z,hx⟩,ho,hle,hS,hn,q⟩:=h;rfl
 obtain⟨x,c,o,n,ns,b,rfl,⟨dx,z,hx⟩,ho,hle,hS,hn,q⟩:=h;refine⟨_,(af (av (bh (aa aQ (aa (aq (eV U) U bl.max_ PyProof.Rows.boot_max (aa (pv 1) ae)) ae))))),?_⟩;refine⟨_,U,c,_,U,hS,succ_pos _,λm h1 h2=>⟨bu,λt ht=>q t _ (ai ht _) (SqT.of ?_)⟩⟩;rw[ab,lL h1 h2];rfl
theorem DD(F:Fun K "chosen" "Sum.chosen" Y16 f fd) (bl:Bl K mg Y)  : aH P w K mg base CX0 1 f fd ["self","codes","outcome"] (J11 K Y):=by
 refine F.ok Z16 (λvs H Q E h=>?_) (λcdv A outer s H vs Q E hr h=>?_)
 ·obtain⟨x,c,o,n,ns,b,rfl,⟨dx,z,hx⟩,⟨C,hC,dy,fs,ho,hlo,hhi,_⟩,hle,hS,hn,q⟩:=h;rfl
 obtain⟨x,c,o,n,ns,b,rfl,⟨dx,z,hx⟩,⟨C,hC,dy,fs,ho,hlo,hhi,_⟩,hle,hS,hn,q⟩:=h;refine⟨_,(af (av (bh (aa aQ (aa (aq (mY U) U bl.max_ PyProof.Rows.boot_max (aa (bJ (pv 2) U) (aa (aq (mZ U) U bl.min_ PyProof.Rows.boot_min (aa (bJ (pv 2) U) (aa (aq (cQ U) U bl.sum_ PyProof.Rows.boot_sum (aa (pv 1) ae)) ae))) ae))) ae))))),?_⟩;have hk:Cls K C/\NoAttr K C (Str.ofString "low")/\NoAttr K C (Str.ofString "high"):=by
  rcases hC with rfl|rfl
  ·exact⟨bl.k_Numbers,bl.na_Numbers_low,bl.na_Numbers_high⟩
  ·exact⟨bl.k_Words,bl.na_Words_low,bl.na_Words_high⟩
 refine⟨_,U,o,_,_,_,_,U,ho,hk.1,hk.2.1,hlo,_,U,o,_,_,_,_,U,ho,hk.1,hk.2.2,hhi,_,U,c,_,U,hS,_,_,U,_,_,U,?_⟩;refine⟨bu,λt ht=>q t _ (ai ht _) (SqT.of ?_)⟩;rw[ab];have e:near b.1 b.2 (n :: ns).sum=if (if (n :: ns).sum<b.2 then(n :: ns).sum else b.2)>b.1 then(if (n :: ns).sum<b.2 then(n :: ns).sum else b.2)else b.1:=by
  unfold near;generalize (n :: ns).sum=t;split <;> split <;> split <;> first|rfl|lia|(split <;> lia)
 show _=some (HO.tup (tp (say (near b.1 b.2 (n :: ns).sum))));rw[e];rfl
theorem DE(F:Fun K "is_word" "is_word" Y45 f fd) (bl:Bl K mg Y)(qk:Callee P w K mg base 1 "all_among" ["text","signs"] (fN K Y)):aH P w K mg base CX0 2 f fd ["text"] (fQ K Y):=by
 refine F.okA Z46 λcdv A outer s H vs Q E hr h=>?_
 obtain⟨z,rfl,hz,q⟩:=h;refine⟨_,(af (av (jO (kL eG eG ag (aq ot U bl.len_ boot_len (aa (pv 0) ae)) (km U bl.MOST_SIGNS_)) (jO (kB kf (pv 0) aQ (aG _)) (kJ (aL qk hr U (aa (pv 0) (aa (km U bl.SMALL_LETTERS_) ae)))))))),?_⟩;refine⟨_,U,_,U,big hz,_,_,U,U,_,U,?_⟩;refine bV (λg1=>?_) (λg1=>?_)
 ·refine⟨_,_,U,U,_,U,?_⟩;refine bV (λg2=>?_) (λg2=>?_)
  ·refine⟨_,U,U,_,U,?_⟩;refine bV (λg3=>?_) (λg3=>?_)
   ·refine⟨_,U,z,lets,U,?_⟩;have e:isw z=kY z lets:=by unfold isw;rw[g1,g2,g3];rfl
    rw[e]at q;exact q
   ·have e:isw z=false:=by unfold isw;rw[eq_false_iff.mpr g3,Bool.false_and,Bool.and_false,Bool.and_false]
    rw[e]at q;exact q
  ·have e:isw z=false:=by unfold isw;rw[eq_false_iff.mpr g2,Bool.false_and,Bool.and_false]
   rw[e]at q;exact q
 ·have e:isw z=false:=by unfold isw;rw[eq_false_iff.mpr g1,Bool.false_and]
  rw[e]at q;exact⟨_,U,bA q⟩
theorem DF(F:Fun K "cut_columns" "cut_columns" Y38 f fd) (bl:Bl K mg Y)(qm:Callee P w K mg base 1 "stretches" ["low","high","marks"] (fO K Y)):aH P w K mg base CX0 2 f fd ["bounds","marks"] (dj K Y):=by
 refine F.okA Z39 λcdv A outer s H vs Q E hr h=>?_
 obtain⟨a,b,ys,ps,as,mss,rfl,ha,hP,hb,hM,hok,q⟩:=h;refine⟨_,(af (av (fg (rj U bl.zip_ (aa (pv 0) (aa (pv 1) ae))) (fF (N:=["bound","cuts"]) (k:=2) U U (by decide+kernel) (by decide+kernel) (by decide+kernel)) U (λ_ _ _ _=>(kW (K:=K) (n:=2) U U (aK (aC (i:=0) (show(["bound","cuts"]:List Str).Nodup by decide+kernel) U (Or.inl U) (Or.inr U)) (aK (aC (i:=1) (show(["bound","cuts"]:List Str).Nodup by decide+kernel) U (Or.inl U) (Or.inr U)) bW)))) (λ_ _ _ _=>bw) (λ_ _ _ _=>(aL qm hr U (aa (az (jv (K:=K) U) (pv 0) ag (λ_ _=>U)) (aa (az (jv (K:=K) U) (pv 0) ag (λ_ _=>U)) (aa (pv 1) ae)))))))),?_⟩;obtain⟨ok1,ok2,ok3⟩:=hok;have hyl:=hP.length;have hal:=hM.1
 refine⟨_,U,_,U,a,b,U,⟨_,SqL.of ha⟩,⟨_,SqL.of hb⟩,t9 (xs:=ys) (ys:=as.map V.ref) (λD i zs H'=>ar H H'/\H' D=some (.lst zs)/\∃css:List (List Int),css.length=i/\(∀(j:Nat)(p:Int×Int)(ms cs:List Int),ps[j]?=some p->mss[j]?=some ms->css[j]?=some cs->cs.Pairwise (· < ·)/\(∀c,c∈cs↔(c∈ms/\p.1<c/\c<=p.2))/\cs.length<64)/\aI zs (List.zipWith (λp cs=>b9 p.1 p.2 cs) (ps.take i) css) (λr c=>r≠D/\∃ts,H' r=some (.lst ts)/\PL H' ts c))
  (λD hD=>⟨ai hD _,ab,[],U,(λj p ms cs _ _ e=>by simp at e),aI.nil⟩) (λD i zs H' hD _ h=>⟨SqL.of (h.1 _ _ ha),SqL.of (h.1 _ _ hb)⟩) (λD i x y zs H' T hD ex ey h hT ts hts=>?_) (λD zs H' hD h=>?_)⟩
 ·obtain⟨sm,eD,css,hcs,hpr,hz⟩:=h;obtain⟨p,t,ep,rfl,ht⟩:=hP.get ex;obtain⟨r,rfl,er⟩:=vZ ey;have hi:i<as.length:=(Fo.mp er).1;obtain⟨ms,em⟩:∃ms,mss[i]?=some ms:=⟨_,Fn (by lia)⟩;obtain⟨r',er',hr⟩:=hM.2 i ms em;rw[er]at er';cases er';have s2:=sm.trans (ai hT (.tup [.ref t,.ref r]));have eT:upd H' T (.tup [.ref t,.ref r]) T=some (.tup [.ref t,.ref r]):=ab;have u2:=ai hT (.tup [.ref t,.ref r]);have eD2:=u2 _ _ eD;generalize upd H' T (.tup [.ref t,.ref r])=H2 at s2 eT eD2 u2⊢;obtain⟨t0,t1,rfl⟩:∃t0 t1,ts=[t0,t1]:=by
   match ts,hts with
   | [t0,t1],_=>exact⟨t0,t1,U⟩
  refine⟨T,_,U,SqT.of eT,U,_,_,U,_,_,U,U,⟨[some (.ref t),some (.ref r)],U,U⟩,?_⟩;have hml:=ok3 ms (Fp em);refine⟨_,U,t,_,_,_,U,U,SqT.of (s2 _ _ ht),U,_,U,t,_,_,_,U,U,SqT.of (s2 _ _ ht),U,_,U,r,ms,ms,p.1,p.2,U,SqL.of (s2 _ _ hr),by lia,by lia,λm hm _ _=>hm,λr2 H3 cs ts2 s3 hr2 er2 hp2 hpw lG hcl=>?_⟩;have eD3:=s3 _ _ eD2;have hlz:zs.length=i:=by rw[hz.1,length_zipWith,length_take];lia
  have DG:i<min ys.length (as.map V.ref).length:=by rw[length_map];lia
  have nrD:r2≠D:=λz=>by rw[z,eD2]at hr2;cases hr2
  refine cF.mk DG eD3 (ay (by lia)) ⟨(s2.trans s3).upd hD,ab,css++[cs],by rw[length_append,hcs];rfl,λj p' ms' cs' ep' em' ec'=>?_,?_⟩
  ·by_cases hj:j<css.length
   ·rw[getElem?_append_left hj]at ec';exact hpr j p' ms' cs' ep' em' ec'
   ·have hj2:j=css.length:=by
     have:=(Fo.mp ec').1;simp at this;lia
    subst hj2;simp at ec';subst ec';rw[hcs]at ep' em';rw[ep]at ep';cases ep';rw[em]at em';cases em';exact⟨hpw,lG,hcl⟩
  ·rw[take_snoc ep,List.zipWith_append (by rw[length_take];lia)];have hz2:aI (zs++[.ref r2]) (List.zipWith (λp cs=>b9 p.1 p.2 cs) (ps.take i) css++[b9 p.1 p.2 cs]) (λr c=>r≠D/\∃ts,H3 r=some (.lst ts)/\PL H3 ts c) :=
    aI.snoc (aI.mono hz λx c k=>⟨k.1,let ⟨ts,e1,e2⟩:=k.2;⟨ts,s3 _ _ (u2 _ _ e1),PL.mono e2 (u2.trans s3).tups⟩⟩) ⟨nrD,ts2,er2,hp2⟩
   have st:cj H3 (upd H3 D (.lst (zs++[.ref r2]))):=aO eD3;exact aI.mono hz2 λx c k=>⟨k.1,let ⟨ts,e1,e2⟩:=k.2;⟨ts,(aw k.1).trans e1,PL.mono e2 st⟩⟩
 ·obtain⟨sm,eD,css,hcs,hpr,hz⟩:=h;have e:min ys.length (as.map V.ref).length=ps.length:=by rw[length_map];lia
  rw[e]at hcs;rw[e,take_length]at hz;exact q D zs H' css sm eD hcs hpr (aI.mono hz λx c k=>k.2)
theorem DH(F:Fun K "fits" "fits" Y40 f fd) (bl:Bl K mg Y)(xW:Callee P w K mg base 1 "holds" ["spans","number"] (lZ K Y)):aH P w K mg base CX0 2 f fd ["table","k","codes"] (oP K Y):=by
 refine F.okA Z41 λcdv A outer s H vs Q E hr h=>?_
 obtain⟨t,rl,c,dx,fs,xs,rws,k,w_,cs,rfl,ht,hf,hl,hR,ek,hS,hlen,q⟩:=h
 refine⟨_,(ak (aJ (i:=3) Z41.nd U (Or.inl U) (az aR (az aF (bJ (pv 0) U) (pv 1) (λ_ _=>U)) ag (λ_ _=>U)))
  (ak (aY PassesOwn.never U (rj U bl.zip_ (aa (pv 3) (aa (pv 2) ae))) (eQ U (aK (aC (i:=4) Z41.nd U (Or.inl U)) (aK (aC (i:=5) Z41.nd U (Or.inl U)) bW)))
  (af (aN (bI (cb (aL xW hr U (aa (pv 4) (aa (pv 5) ae)))))
  (af (av cP))
  aD)))
  (af (av cP)))),?_⟩
 obtain⟨r,er,ce,cv,e1,_,e2,hcl⟩:=hR.2 k w_ ek;refine⟨_,U,t,_,_,_,_,U,ht,bl.k_Table,bl.na_Table_rows,hf,_,U,rl,_,_,_,U,U,SqL.of hl,aZ er,r,_,_,_,U,U,SqT.of e1,U,?_⟩;refine⟨_,U,_,U,ce,c,U,⟨_,SqL.of e2⟩,⟨_,hS⟩,sI (xs:=cv) (ys:=cs.map V.int) (λi σ H'=>ar H H'/\(∀j,j<i->inP (w_.1.getD j []) (cs.getD j 0)=true)/\∃c4 c5:Option V,σ=[some (.ref t),some (.int k),some (.ref c),some (.ref ce),c4,c5]) ⟨ar.refl _,(λj h=>absurd h (not_lt_zero j)),_,_,U⟩ (λi σ H' h=>⟨SqL.of (h.1 _ _ e2),h.1.seq hS⟩) (λi x y σ H' T ex ey h hT=>?_) (λσ H' h=>?_)⟩
 ·obtain⟨sm,fD,c4,c5,rfl⟩:=h;have s2:=sm.trans (ai hT (.tup [x,y]));have eT:upd H' T (.tup [x,y]) T=some (.tup [x,y]):=ab;generalize upd H' T (.tup [x,y])=H2 at s2 eT⊢;obtain⟨l,ps,rfl,ep,hl'⟩:=aI.get hcl ex;obtain⟨_,ys,el,hp⟩:=hl'.same s2;obtain⟨n,rfl,en⟩:=of_map ey;refine⟨T,_,U,SqT.of eT,U,_,_,U,_,_,U,U,?_⟩;refine⟨_,U,_,U,l,ys,ps,n,U,SqL.of el,hp,_,U,?_⟩;have g1:w_.1.getD i []=ps:=by rw[getD_eq_getElem?_getD,ep];rfl
  have g2:cs.getD i 0=n:=by rw[getD_eq_getElem?_getD,en];rfl
  cases hin:inP ps n with
  |true =>
   refine bA ⟨s2,λj hj=>?_,_,_,U⟩;by_cases hji:j<i
   ·exact fD j hji
   ·have:j=i:=by lia
    subst this;rw[g1,g2];exact hin
  |false =>
   refine f6 ?_;have e:mM w_.1 cs=false:=by
    unfold mM;rw[List.all_eq_false];refine⟨i,mem_range.mpr (Fo.mp en).1,?_⟩;rw[g1,g2,hin];decide
   have q2:=q H2 s2;rw[e]at q2;exact q2
 ·obtain⟨sm,fD,c4,c5,rfl⟩:=h;have e:mM w_.1 cs=true:=by
   unfold mM;rw[all_eq_true];intro j hj;refine fD j ?_;have h1:=hcl.1;rw[length_map];have:=mem_range.mp hj;lia
  have q2:=q H' sm;rw[e]at q2;exact q2
theorem DI(F:Fun K "column_marks" "column_marks" Y37 f fd) (bl:Bl K mg Y)(rP:Callee P w K mg base 1 "gathered" ["lists"] (gv K Y)) (xX:Callee P w K mg base 1 "edges" ["spans","low","high"] (l0 K Y)):aH P w K mg base CX0 2 f fd ["table","column"] (dI K Y):=by
 refine F.okA Z38 λcdv A outer s H vs Q E hr h=>?_
 obtain⟨t,c,dv,bs,rws,b,L,rfl,⟨rl,dx,dl,fs,xs,ht,f1,f2,edl,hdv,erl,hR⟩,eb,h60,j4,hL,hLm,q⟩:=h
 refine⟨_,(ak (aJ (i:=2) Z38.nd U (Or.inr U) (az aF (bJ (pv 0) U) (pv 1) (λ_ _=>U)))
  (af (av (aL rP hr U (aa (fg (aV (bJ (pv 0) U)) (eJ (N:=["cells","code","column","domain"]) (k:=2) (fr:=[1,2]) (cl:=[("domain",s.heap.objs.size+1+1),("column",s.heap.objs.size+1)]) U U (by decide+kernel) (by decide+kernel) U U (forall_mem_cons.mpr ⟨U,forall_mem_cons.mpr ⟨U,forall_mem_nil _⟩⟩) U) U (λ_ _ _ _=>(kW (K:=K) (n:=2) U U (aK (aC (i:=0) (show(["cells","code","column","domain"]:List Str).Nodup by decide+kernel) U (Or.inl U) (Or.inr U)) (aK (aC (i:=1) (show(["cells","code","column","domain"]:List Str).Nodup by decide+kernel) U (Or.inl U) (Or.inr U)) bW)))) (λ_ _ _ _=>bw) (λ_ _ _ _=>(aL xX hr U (aa (az (b7 (K:=K) U) (pv 0) (pv 2) (λ_ _=>U)) (aa (kE (K:=K) U (pv 3) U) (aa (kE (K:=K) U (pv 3) U) ae)))))) ae))))),?_⟩
 obtain⟨da,eda,C,hC,dx',fs',ha,g1,g2,_⟩:=hdv.2 c b eb;have hk:Cls K C/\NoAttr K C (Str.ofString "low")/\NoAttr K C (Str.ofString "high"):=by
  rcases hC with rfl|rfl
  ·exact⟨bl.k_Numbers,bl.na_Numbers_low,bl.na_Numbers_high⟩
  ·exact⟨bl.k_Words,bl.na_Words_low,bl.na_Words_high⟩
 have hrx:xs.length=rws.length:=hR.1;refine⟨_,U,t,_,_,_,_,U,ht,bl.k_Table,bl.na_Table_domains,f2,_,U,dl,_,_,_,U,U,SqL.of edl,aZ eda,?_⟩;refine⟨_,U,t,_,_,_,_,U,ht,bl.k_Table,bl.na_Table_rows,f1,rl,U,⟨_,SqL.of erl⟩,fG (xs:=xs) (λD i zs H'=>ar H H'/\H' D=some (.lst zs)/\∃as:List Addr,zs=as.map V.ref/\MLs (hide H' D) as ((rws.take i).map (rmk c b))) (λD hD=>⟨ai hD _,ab,[],U,MLs.nil⟩) (λD i zs H' hD _ h=>SqL.of (h.1 _ _ erl)) (λD i y zs H' hD e h ts hts=>?_) (λD zs H' hD h=>?_)⟩
 ·obtain⟨sm,eD,as,rfl,hz⟩:=h;obtain⟨r,x,rfl,ex,ce,cs,k1,_,k2,k3⟩:=aI.get hR e;have hi:i<xs.length:=(Fo.mp e).1;obtain⟨hcx,h6⟩:=j4 x (Fp ex);obtain⟨t0,t1,rfl⟩:∃t0 t1,ts=[t0,t1]:=by
   match ts,hts with
   | [t0,t1],_=>exact⟨t0,t1,U⟩
  refine⟨r,_,U,SqT.of (sm _ _ k1),U,_,_,U,_,_,U,U,⟨[some (.ref ce),some (.int x.2)],U,U⟩,?_⟩;obtain⟨ol,eol,_,yo,eyo,pyo⟩:=k3.2 c _ (Fn hcx);have hA:x.1[c]=x.1.getD c []:=by rw[getD_eq_getElem?_getD,Fn hcx];rfl
  rw[hA]at pyo;have hyl:=pyo.length;refine⟨_,U,_,U,ce,_,_,_,U,U,SqL.of (sm _ _ k2),aZ eol,_,U,da,_,_,_,_,U,sm _ _ ha,hk.1,hk.2.1,g1,_,U,da,_,_,_,_,U,sm _ _ ha,hk.1,hk.2.2,g2,?_⟩;refine⟨ol,yo,_,b.1,b.2,U,SqL.of (sm _ _ eyo),pyo.mono sm.tups,by lia,λr3 H3 es s3 nr3 er3 ees=>?_⟩;have eD3:=s3 _ _ eD;have nD:r3≠D:=λz=>by rw[z,eD]at nr3;cases nr3
  have hal:=hz.1;rw[length_map,length_take]at hal;refine cF.mk hi eD3 (ay (by rw[length_map];lia)) ⟨(sm.trans s3).upd hD,ab,as++[r3],by rw[map_append];rfl,?_⟩;rw[p9,take_snoc ex,map_append];exact MLs.snoc (hz.same (nQ s3)) (dM (by rw[er3,ees];rfl) nD)
 ·obtain⟨sm,eD,as,rfl,hz⟩:=h;rw[hrx,take_length]at hz;have hfl:=qd c b (rws:=rws) λw hw=>(j4 w hw).2
  refine⟨D,as,_,L,U,eD,hz.same (sX H' D),by lia,hL,λx hx=>hLm x (sY.mp hx),λl cs H2 s2 nl el pw hm=>q l cs H2 (sm.trans s2) (sm.free nl) el pw λx=>(hm x).trans sY⟩
theorem DJ(F:Fun K "_law_grid_points" "_law_grid_points" Y53 f fd) (bl:Bl K mg Y)(bQ:Callee P w K mg base 1 "_law_cell" ["script","k"] (dD K Y)) (mP:Callee P w K mg base 1 "_law_points" ["cell","count"] (eW K Y)):aH P w K mg base CX0 2 f fd ["script","most"] (cV K Y):=by
 refine F.okA Z54 λcdv A outer s H vs Q E hr h=>?_
 obtain⟨a,m,ns,qs,rfl,hS,hM,hq,h4,q⟩:=h
 refine⟨_,(ak (aJ (i:=2) Z54.nd U (Or.inl U) (aW ae))
  (ak (aY PassesOwn.never U (aP U bl.range_ (aa (aq au U bl.len_ boot_len (aa (pv 1) ae)) ae)) (aC (i:=3) Z54.nd U (Or.inl U))
  (ak (aJ (i:=4) Z54.nd U (Or.inl U) (aL bQ hr U (aa (pv 0) (aa (ax cc ag (pv 3)) ae))))
  (af (aU (dP PySem.F.plainAttrs_list PySem.F.slot_list_append PySem.F.type_list_append bp (pv 2) (aa (aL mP hr U (aa (pv 4) (aa (ax cc ag (ax aX (ax cc (ax aX (ax fC (pv 4) ag) ag) ag) (az aF (pv 1) (pv 3) (λ_ _=>U)))) ae))) ae))))))
  (af (av (pv 2))))),?_⟩
 refine⟨(by show 0<=sizeLine;decide),λl hl=>?_⟩;have s0:ar H (upd H l (.lst [])):=ai hl _;have e0:upd H l (.lst []) l=some (.lst []):=ab;generalize upd H l (.lst [])=H0 at s0 e0⊢;have hml:(qs.map V.int).length=qs.length:=length_map _;refine⟨_,U,m,_,U,.inl (s0.seq hM),_,U,(by show -(2^62)<=(((qs.map V.int).length:Nat):Int);lia),(by show(((qs.map V.int).length:Nat):Int)<2^62;lia),bK (λi σ H'=>ar H H'/\∃(xs:List V)(pss:List (List Int))(c3 c4:Option V),H' l=some (.lst xs)/\aI xs pss (λr ps=>r≠l/\H' r=some (.lst (ps.map V.int)))/\oG ns pss/\pss.length=i/\(∀(j:Nat)(ps:List Int)(x:Int),pss[j]?=some ps->qs[j]?=some x->(ps.length:Int)<=x+1)/\(∀ps∈pss,∀x∈ps,∀y∈ps,y-x<=12*10^56)/\σ=[some (.ref a),some (.ref m),some (.ref l),c3,c4]) ⟨s0,[],[],_,_,e0,aI.nil,⟨(λps h=>by cases h),(λj ps e=>by simp at e)⟩,U,(λj ps x e=>by simp at e),(λps h=>by cases h),U⟩ (λi σ H' hi hh=>?_) (λσ H' hh=>?_)⟩
 ·obtain⟨sm,xs,pss,c3,c4,el,hx,hg,hlen,hsz,hwd,rfl⟩:=hh;have hiq:i<qs.length:=by lia
  have hm2:=hq _ (getElem_mem hiq);have hmx:atI (qs.map V.int) (0+(i:Int))=some (.int qs[i]):=mL (get_map (Fn hiq));refine⟨_,U,_,U,_,_,U,U,a,ns,_,U,sm.seq hS,(by show 0<=1+(0+(i:Int));lia),?_⟩;have hcv:∃cv,cv=di ns (1+(0+(i:Int))):=⟨_,U⟩;obtain⟨cv,hcv⟩:=hcv;rw[←hcv];have hp:(0:Int)<qs[i]:=by lia
  have y0:=emod_nonneg (cv*48271%1009+1) (Int.ne_of_gt hp);have y1:=emod_lt_of_pos (cv*48271%1009+1) hp;refine⟨_,U,.inl ⟨U,_,SqL.of el⟩,_,U,_,U,_,_,U,U,.inr ⟨by decide,by decide⟩,_,_,U,U,(by show(0:Int)<1009;decide),_,_,U,U,_,U,_,U,m,_,_,_,U,U,sm.seq hM,hmx,_,_,U,U,hp,_,_,U,U,cv,_,U,by lia,by lia,λr ps H2 s2_ nr er hpt hw hpz hpw=>?_⟩;have el2:=s2_ _ _ el;have hlx:xs.length=i:=by rw[hx.1,hlen]
  have nrl:r≠l:=λz=>by rw[z,el]at nr;cases nr
  refine⟨l,_,_,U,U,el2,ay (by lia),?_⟩;refine⟨(sm.trans s2_).upd hl,xs++[.ref r],pss++[ps],_,_,ab,aI.snoc (aI.mono hx λr' p' h=>⟨h.1,(aw h.1).trans (s2_ _ _ h.2)⟩) ⟨nrl,(aw nrl).trans er⟩,⟨λp' hp'=>?_,λj p' e hc=>?_⟩,by simp[hlen],(λj p' x e1 e2=>?_),(λp' hp'=>(mem_append.mp hp').elim (hwd p') λz=>by rw[mem_singleton.mp z];exact hpw),U⟩
  ·rcases mem_append.mp hp' with hp' | hp'
   ·exact hg.pts p' hp'
   ·rw[show p'=ps by simpa using hp'];exact hpt
  ·by_cases hj:j<pss.length
   ·rw[getElem?_append_left hj]at e;exact hg.wrd j p' e hc
   ·have hj2:j=pss.length:=by
     have:=(Fo.mp e).1;simp at this;lia
    subst hj2;simp at e;subst e;rw[hlen,←hcv]at hc;exact hw hc
  ·by_cases hj:j<pss.length
   ·rw[getElem?_append_left hj]at e1;exact hsz j p' x e1 e2
   ·have hj2:j=pss.length:=by
     have:=(Fo.mp e1).1;simp at this;lia
    subst hj2;simp at e1;subst e1;rw[hlen,Fn hiq]at e2;cases e2;lia
 ·obtain⟨sm,xs,pss,c3,c4,el,hx,hg,hlen,hsz,hwd,rfl⟩:=hh;exact⟨_,U,q l xs pss H' sm el (aI.mono hx λ_ _ h=>h.2) hg (by lia) hsz hwd⟩
theorem DK(F:Fun K "_law_is_box" "_law_is_box" Y54 f fd) (bl:Bl K mg Y)(dO:Callee P w K mg base 1 "_law_whole" ["found"] (dN K Y)):aH P w K mg base CX0 2 f fd ["box","points"] (eY K Y):=by
 refine F.okA Z55 λcdv A outer s H vs Q E hr h=>?_
 obtain⟨b,pl,B_,xs,pss,rfl,⟨ys,eb,hB⟩,epl,hpl,hpt,hin,h4,q⟩:=h
 refine⟨_,(ak (aN (PW.pt (ij (bI (cb (aq cH U bl.isinstance_ PyProof.Rows.boot_isinstance (aa (pv 0) (aa (eF (v:=.ty "tuple") U bl.tuple_ PyProof.Rows.boot_tuple U) ae))))) (gc (aE kf (aq au U bl.len_ boot_len (aa (pv 0) ae)) (aq au U bl.len_ boot_len (aa (pv 1) ae)) (aG _)))))
  (af (av cP))
  aD)
  (ak (aY PassesOwn.never U (aP U bl.range_ (aa (aq au U bl.len_ boot_len (aa (pv 0) ae)) ae)) (aC (i:=2) Z55.nd U (Or.inl U))
  (ak (aN (PW.pt (ij (bI (cb (aq cH U bl.isinstance_ PyProof.Rows.boot_isinstance (aa (az aR (pv 0) (pv 2) (λ_ _=>U)) (aa (eF (v:=.ty "tuple") U bl.tuple_ PyProof.Rows.boot_tuple U) ae))))) (gc (aE kf (aq au U bl.len_ boot_len (aa (az aR (pv 0) (pv 2) (λ_ _=>U)) ae)) ag (aG _)))))
  (af (av cP))
  aD)
  (ak (aN (PW.pt (ij (bI (cb (aL dO hr U (aa (az aR (az aR (pv 0) (pv 2) (λ_ _=>U)) ag (λ_ _=>U)) ae)))) (gc (bI (cb (aL dO hr U (aa (az aR (az aR (pv 0) (pv 2) (λ_ _=>U)) ag (λ_ _=>U)) ae)))))))
  (af (av cP))
  aD)
  (af (aN (PW.pt (ij (aE jt (az aR (az aR (pv 0) (pv 2) (λ_ _=>U)) ag (λ_ _=>U)) (az aF (az aF (pv 1) (pv 2) (λ_ _=>U)) ag (λ_ _=>U)) (aG _)) (ij (aE ir (az aR (az aR (pv 0) (pv 2) (λ_ _=>U)) ag (λ_ _=>U)) (az aR (az aR (pv 0) (pv 2) (λ_ _=>U)) ag (λ_ _=>U)) (aG _)) (gc (aE AE (az aR (az aR (pv 0) (pv 2) (λ_ _=>U)) ag (λ_ _=>U)) (az aF (az aF (pv 1) (pv 2) (λ_ _=>U)) (iq eR ag) (λ_ _=>U)) (aG _))))))
  (af (av cP))
  aD)))))
  (af (av cP)))),?_⟩
 have hyl:=hB.length;have hxl:xs.length=pss.length:=hpl.1;have hbl:=hin.len;rw[length_map]at hbl;refine⟨_,U,_,_,_,_,true,U,.ty _,.inl (.tup eb),(by first|rfl|with_unfolding_all rfl|decide+kernel),_,U,bA ?_⟩;refine⟨_,U,b,_,U,.inr (SqT.of eb),_,U,pl,_,U,.inl (SqL.of epl),U,false,by rw[decide_eq_true (show V.int ((ys.length:Nat):Int)=V.int ((xs.length:Nat):Int) by rw[hyl,hxl,hbl])];rfl,bA ?_⟩;refine⟨_,U,b,_,U,.inr (SqT.of eb),_,U,(by show -(2^62)<=((ys.length:Nat):Int);lia),(by show((ys.length:Nat):Int)<2^62;lia),bK (λi σ H'=>H'=H/\∃c2:Option V,σ=[some (.ref b),some (.ref pl),c2]) ⟨U,none,U⟩ (λi σ H' hi h=>?_) (λσ H' h=>?_)⟩
 ·obtain⟨rfl,c2,rfl⟩:=h;have e1:=Fn (l:=ys) (i:=i) (by lia);obtain⟨p,t,ep,ey,ht⟩:=hB.get e1;rw[ey]at e1;have a1:atI ys (0+(i:Int))=some (.ref t):=by rw[zero_add];exact aZ e1
  have ip:=(Fo.mp ep).1;have eps:=Fn (l:=pss) (i:=i) (by lia);obtain⟨pa,epa,hpa⟩:=hpl.2 i _ eps;have a2:atI xs (0+(i:Int))=some (.ref pa):=by rw[zero_add];exact aZ epa
  have hp:=hpt _ (Fp eps);have h2:=hp.two;obtain⟨k1,k2,k3⟩:=hin.get i p _ ep (by rw[getElem?_map,eps];rfl);generalize pss[i]=ps at hpa hp h2 k1 k2 k3;have f0:=Fn (l:=ps) (i:=0) (by lia);have f1:=Fn (l:=ps) (i:=ps.length-1) (by lia);have g0:loP ps=ps[0]:=by unfold loP;rw[getD_eq_getElem?_getD,f0];rfl
  have g1:hiP ps=ps[ps.length-1]-1:=by unfold hiP;rw[getD_eq_getElem?_getD,f1];rfl
  have k1:loP ps<=p.1:=k1;have k3:p.2<=hiP ps:=k3;have b0:atI (ps.map V.int) 0=some (.int ps[0]):=aZ (get_map f0);have b1:atI (ps.map V.int) (-1)=some (.int ps[ps.length-1]):=by
   unfold atI;rw[gq (by rw[length_map];lia),length_map];exact get_map f1
  refine⟨_,U,_,U,b,_,_,_,U,U,SqT.of eb,a1,_,_,_,_,true,U,.ty _,.inl (.tup ht),(by first|rfl|with_unfolding_all rfl|decide+kernel),_,U,bA ?_⟩;refine⟨_,U,_,U,b,_,_,_,U,U,SqT.of eb,a1,t,_,U,.inr (SqT.of ht),U,false,U,bA ?_⟩;refine⟨_,U,_,U,b,_,_,_,U,U,SqT.of eb,a1,t,_,_,_,U,U,SqT.of ht,U,_,U,_,U,bA ?_⟩;refine⟨_,U,_,U,b,_,_,_,U,U,SqT.of eb,a1,t,_,_,_,U,U,SqT.of ht,U,_,U,_,U,bA ?_⟩;refine⟨_,U,_,U,b,_,_,_,U,U,SqT.of eb,a1,t,_,_,_,U,U,SqT.of ht,U,_,U,_,U,pl,_,_,_,U,U,SqL.of epl,a2,pa,_,_,_,U,U,SqL.of hpa,b0,_,_,U,U,false,by rw[decide_eq_false (by lia)],bA ?_⟩;refine⟨_,U,_,U,b,_,_,_,U,U,SqT.of eb,a1,t,_,_,_,U,U,SqT.of ht,U,_,U,_,U,b,_,_,_,U,U,SqT.of eb,a1,t,_,_,_,U,U,SqT.of ht,U,_,_,U,U,false,by rw[decide_eq_false (by lia)],bA ?_⟩;refine⟨_,U,_,U,b,_,_,_,U,U,SqT.of eb,a1,t,_,_,_,U,U,SqT.of ht,U,_,U,_,U,pl,_,_,_,U,U,SqL.of epl,a2,_,U,pa,_,_,_,U,U,SqL.of hpa,b1,_,_,U,U,false,by rw[decide_eq_false (by lia)],bA ⟨U,_,U⟩⟩
 ·obtain⟨rfl,c2,rfl⟩:=h;exact q
theorem O_4(F:Fun K "__init__" "First.__init__" Y4 f fd) (bl:Bl K mg Y)(gC:bX CX0 P w K mg base 1 "Way" "__init__" ["self","called"] (cn K Y)):aH P w K mg base CX0 2 f fd ["self"] (J0 K Y):=by
 refine F.ok Z4 (λvs H Q E h=>?_) (λcdv A outer s H vs Q E hr h=>?_)
 ·obtain⟨x,dx,rfl,hx,q⟩:=h;rfl
 obtain⟨x,dx,rfl,hx,q⟩:=h;refine⟨_,(af (aU (eH gC bG hr U (aa (pv 0) (aa aQ ae))))),?_⟩;exact⟨_,U,x,dx,_,U,hx,q⟩
theorem DL(F:Fun K "__init__" "Only.__init__" Y13 f fd) (bl:Bl K mg Y)(gZ:bX CX0 P w K mg base 1 "Way" "__init__" ["self","called"] (cB K Y)):aH P w K mg base CX0 2 f fd ["self"] (J8 K Y):=by
 refine F.ok Z13 (λvs H Q E h=>?_) (λcdv A outer s H vs Q E hr h=>?_)
 ·obtain⟨x,dx,rfl,hx,q⟩:=h;rfl
 obtain⟨x,dx,rfl,hx,q⟩:=h;refine⟨_,(af (aU (eH gZ bG hr U (aa (pv 0) (aa aQ ae))))),?_⟩;exact⟨_,U,x,dx,_,U,hx,q⟩
theorem O_8(F:Fun K "__init__" "Like.__init__" Y8 f fd) (bl:Bl K mg Y)(hU:bX CX0 P w K mg base 1 "Way" "__init__" ["self","called"] (cC K Y)):aH P w K mg base CX0 2 f fd ["self"] (J4 K Y):=by
 refine F.ok Z8 (λvs H Q E h=>?_) (λcdv A outer s H vs Q E hr h=>?_)
 ·obtain⟨x,dx,rfl,hx,q⟩:=h;rfl
 obtain⟨x,dx,rfl,hx,q⟩:=h;refine⟨_,(af (aU (eH hU bG hr U (aa (pv 0) (aa aQ ae))))),?_⟩;exact⟨_,U,x,dx,_,U,hx,q⟩
theorem DM(F:Fun K "__init__" "Low.__init__" Y10 f fd) (bl:Bl K mg Y)(iX:bX CX0 P w K mg base 1 "Way" "__init__" ["self","called"] (cM K Y)):aH P w K mg base CX0 2 f fd ["self"] (J6 K Y):=by
 refine F.ok Z10 (λvs H Q E h=>?_) (λcdv A outer s H vs Q E hr h=>?_)
 ·obtain⟨x,dx,rfl,hx,q⟩:=h;rfl
 obtain⟨x,dx,rfl,hx,q⟩:=h;refine⟨_,(af (aU (eH iX bG hr U (aa (pv 0) (aa aQ ae))))),?_⟩;exact⟨_,U,x,dx,_,U,hx,q⟩
theorem O_6(F:Fun K "__init__" "High.__init__" Y6 f fd) (bl:Bl K mg Y)(hV:bX CX0 P w K mg base 1 "Way" "__init__" ["self","called"] (cD K Y)):aH P w K mg base CX0 2 f fd ["self"] (J2 K Y):=by
 refine F.ok Z6 (λvs H Q E h=>?_) (λcdv A outer s H vs Q E hr h=>?_)
 ·obtain⟨x,dx,rfl,hx,q⟩:=h;rfl
 obtain⟨x,dx,rfl,hx,q⟩:=h;refine⟨_,(af (aU (eH hV bG hr U (aa (pv 0) (aa aQ ae))))),?_⟩;exact⟨_,U,x,dx,_,U,hx,q⟩
theorem DN(F:Fun K "__init__" "Sum.__init__" Y15 f fd) (bl:Bl K mg Y)(iY:bX CX0 P w K mg base 1 "Way" "__init__" ["self","called"] (cO K Y)):aH P w K mg base CX0 2 f fd ["self"] (J10 K Y):=by
 refine F.ok Z15 (λvs H Q E h=>?_) (λcdv A outer s H vs Q E hr h=>?_)
 ·obtain⟨x,dx,rfl,hx,q⟩:=h;rfl
 obtain⟨x,dx,rfl,hx,q⟩:=h;refine⟨_,(af (aU (eH iY bG hr U (aa (pv 0) (aa aQ ae))))),?_⟩;exact⟨_,U,x,dx,_,U,hx,q⟩
theorem O_2(F:Fun K "has_code" "Domain.has_code" Y2 f fd) (bl:Bl K mg Y)(iZ:Callee P w K mg base 1 "is_whole" ["value"] (eP K Y)):aH P w K mg base CX0 2 f fd ["self","value"] (bF K Y):=by
 refine F.okA Z2 λcdv A outer s H vs Q E hr h=>?_
 obtain⟨a,b,i,rfl,⟨dx,fs,ha,hl,hh,_⟩,h1,h2,q⟩:=h;refine⟨_,(af (av (jO (aL iZ hr U (aa (pv 1) ae)) (kJ (kL eG eG (bJ (pv 0) U) (pv 1) (bJ (pv 0) U)))))),?_⟩;refine⟨_,U,i,U,_,U,f6 ?_⟩;refine⟨_,U,a,_,_,_,_,U,ha,bl.k_Numbers,bl.na_Numbers_low,hl,_,U,_,_,U,U,_,U,fW h1 ?_⟩;refine⟨_,U,a,_,_,_,_,U,ha,bl.k_Numbers,bl.na_Numbers_high,hh,_,_,U,U,?_⟩;show Q (.bl (decide (i<=b.2))) H;rw[decide_eq_true h2];exact q
theorem O_3(F:Fun K "has_code" "Domain.has_code" Y3 f fd) (bl:Bl K mg Y)(iZ:Callee P w K mg base 1 "is_whole" ["value"] (eP K Y)):aH P w K mg base CX0 2 f fd ["self","value"] (bT K Y):=by
 refine F.okA Z3 λcdv A outer s H vs Q E hr h=>?_
 obtain⟨a,b,i,rfl,⟨dx,fs,ha,hl,hh,_⟩,h1,h2,q⟩:=h;refine⟨_,(af (av (jO (aL iZ hr U (aa (pv 1) ae)) (kJ (kL eG eG (bJ (pv 0) U) (pv 1) (bJ (pv 0) U)))))),?_⟩;refine⟨_,U,i,U,_,U,f6 ?_⟩;refine⟨_,U,a,_,_,_,_,U,ha,bl.k_Words,bl.na_Words_low,hl,_,U,_,_,U,U,_,U,fW h1 ?_⟩;refine⟨_,U,a,_,_,_,_,U,ha,bl.k_Words,bl.na_Words_high,hh,_,_,U,U,?_⟩;show Q (.bl (decide (i<=b.2))) H;rw[decide_eq_true h2];exact q
theorem DO(F:Fun K "__init__" "Numbers.__init__" Y12 f fd) (bl:Bl K mg Y)(d8:bX CX0 P w K mg base 1 "Domain" "__init__" ["self","low","high"] (bE K Y)):aH P w K mg base CX0 2 f fd ["self","low","high"] (bg K Y):=by
 refine F.okA Z12 λcdv A outer s H vs Q E hr h=>?_
 obtain⟨x,dx,lo,hi,rfl,hx,hle,q⟩:=h
 refine⟨_,(ak (aN (aE ir (pv 1) (pv 2) (aG _))
  (af bO)
  aD)
  (af (aU (eH d8 bG hr U (aa (pv 0) (aa (pv 1) (aa (pv 2) ae))))))),?_⟩
 exact⟨_,U,_,U,_,_,U,U,_,U,ck (by lia) ⟨_,U,_,U,_,U,x,dx,lo,hi,U,hx,q⟩⟩
theorem DP(F:Fun K "verdict" "Way.verdict" Y24 f fd) (bl:Bl K mg Y)(gD:bf CX0 P w K mg base 1 Y.b "chosen" ["self","codes","outcome"] (J1 K Y)):aH P w K mg base CX0 2 f fd ["self","codes","outcome"] (J12 K Y):=by
 refine F.ok Z24 (λvs H Q E h=>?_) (λcdv A outer s H vs Q E hr h=>?_)
 ·obtain⟨x,c,o,ns,b,rfl,⟨dx,z,hx⟩,ho,hle,hS,hn,q⟩:=h;rfl
 obtain⟨x,c,o,ns,b,rfl,⟨dx,z,hx⟩,ho,hle,hS,hn,q⟩:=h
 refine⟨_,(ak (aN (bI (df (pv 1) (by intro _;rfl)))
  (af (av (dc (v:=.ref Y.l) U bl.NONE_ U)))
  aD)
  (af (av (nt gD bG bl.k_First hr (pv 0) (aa (pv 1) (aa (pv 2) ae)))))),?_⟩
 refine⟨_,U,!(ns.map V.int).isEmpty,.inl ⟨_,hS,U⟩,?_⟩;cases ns with
 |nil=>exact f6 (q _ _ (ar.refl _) (bl.q_NONE.sq _))
 |cons n ns=>exact bA ⟨_,U,x,_,_,U,hx,U,_,U,_,U,x,c,o,n,ns,b,U,⟨dx,z,hx⟩,ho,hle,hS,lt_of_succ_lt hn,q⟩
theorem DQ(F:Fun K "verdict" "Way.verdict" Y28 f fd) (bl:Bl K mg Y)(i5:bf CX0 P w K mg base 1 Y.c "chosen" ["self","codes","outcome"] (J9 K Y)):aH P w K mg base CX0 2 f fd ["self","codes","outcome"] (J16 K Y):=by
 refine F.ok Z28 (λvs H Q E h=>?_) (λcdv A outer s H vs Q E hr h=>?_)
 ·obtain⟨x,c,o,ns,b,rfl,⟨dx,z,hx⟩,ho,hle,hS,hn,q⟩:=h;rfl
 obtain⟨x,c,o,ns,b,rfl,⟨dx,z,hx⟩,ho,hle,hS,hn,q⟩:=h
 refine⟨_,(ak (aN (bI (df (pv 1) (by intro _;rfl)))
  (af (av (dc (v:=.ref Y.l) U bl.NONE_ U)))
  aD)
  (af (av (nt i5 bG bl.k_Only hr (pv 0) (aa (pv 1) (aa (pv 2) ae)))))),?_⟩
 refine⟨_,U,!(ns.map V.int).isEmpty,.inl ⟨_,hS,U⟩,?_⟩;cases ns with
 |nil=>exact f6 (q _ _ (ar.refl _) (bl.q_NONE.sq _))
 |cons n ns=>exact bA ⟨_,U,x,_,_,U,hx,U,_,U,_,U,x,c,o,n,ns,b,U,⟨dx,z,hx⟩,ho,hle,hS,lt_of_succ_lt hn,q⟩
theorem DR(F:Fun K "verdict" "Way.verdict" Y26 f fd) (bl:Bl K mg Y)(i6:bf CX0 P w K mg base 1 Y.d "chosen" ["self","codes","outcome"] (J5 K Y)):aH P w K mg base CX0 2 f fd ["self","codes","outcome"] (J14 K Y):=by
 refine F.ok Z26 (λvs H Q E h=>?_) (λcdv A outer s H vs Q E hr h=>?_)
 ·obtain⟨x,c,o,ns,b,rfl,⟨dx,z,hx⟩,ho,hle,hS,hn,q⟩:=h;rfl
 obtain⟨x,c,o,ns,b,rfl,⟨dx,z,hx⟩,ho,hle,hS,hn,q⟩:=h
 refine⟨_,(ak (aN (bI (df (pv 1) (by intro _;rfl)))
  (af (av (dc (v:=.ref Y.l) U bl.NONE_ U)))
  aD)
  (af (av (nt i6 bG bl.k_Like hr (pv 0) (aa (pv 1) (aa (pv 2) ae)))))),?_⟩
 refine⟨_,U,!(ns.map V.int).isEmpty,.inl ⟨_,hS,U⟩,?_⟩;cases ns with
 |nil=>exact f6 (q _ _ (ar.refl _) (bl.q_NONE.sq _))
 |cons n ns=>exact bA ⟨_,U,x,_,_,U,hx,U,_,U,_,U,x,c,o,n,ns,b,U,⟨dx,z,hx⟩,ho,hle,hS,lt_of_succ_lt hn,q⟩
theorem DS(F:Fun K "verdict" "Way.verdict" Y27 f fd) (bl:Bl K mg Y)(j5:bf CX0 P w K mg base 1 Y.e "chosen" ["self","codes","outcome"] (J7 K Y)):aH P w K mg base CX0 2 f fd ["self","codes","outcome"] (J15 K Y):=by
 refine F.ok Z27 (λvs H Q E h=>?_) (λcdv A outer s H vs Q E hr h=>?_)
 ·obtain⟨x,c,o,ns,b,rfl,⟨dx,z,hx⟩,ho,hle,hS,hn,q⟩:=h;rfl
 obtain⟨x,c,o,ns,b,rfl,⟨dx,z,hx⟩,ho,hle,hS,hn,q⟩:=h
 refine⟨_,(ak (aN (bI (df (pv 1) (by intro _;rfl)))
  (af (av (dc (v:=.ref Y.l) U bl.NONE_ U)))
  aD)
  (af (av (nt j5 bG bl.k_Low hr (pv 0) (aa (pv 1) (aa (pv 2) ae)))))),?_⟩
 refine⟨_,U,!(ns.map V.int).isEmpty,.inl ⟨_,hS,U⟩,?_⟩;cases ns with
 |nil=>exact f6 (q _ _ (ar.refl _) (bl.q_NONE.sq _))
 |cons n ns=>exact bA ⟨_,U,x,_,_,U,hx,U,_,U,_,U,x,c,o,n,ns,b,U,⟨dx,z,hx⟩,ho,hle,hS,lt_of_succ_lt hn,q⟩
theorem DT(F:Fun K "verdict" "Way.verdict" Y25 f fd) (bl:Bl K mg Y)(i7:bf CX0 P w K mg base 1 Y.f "chosen" ["self","codes","outcome"] (J3 K Y)):aH P w K mg base CX0 2 f fd ["self","codes","outcome"] (J13 K Y):=by
 refine F.ok Z25 (λvs H Q E h=>?_) (λcdv A outer s H vs Q E hr h=>?_)
 ·obtain⟨x,c,o,ns,b,rfl,⟨dx,z,hx⟩,ho,hle,hS,hn,q⟩:=h;rfl
 obtain⟨x,c,o,ns,b,rfl,⟨dx,z,hx⟩,ho,hle,hS,hn,q⟩:=h
 refine⟨_,(ak (aN (bI (df (pv 1) (by intro _;rfl)))
  (af (av (dc (v:=.ref Y.l) U bl.NONE_ U)))
  aD)
  (af (av (nt i7 bG bl.k_High hr (pv 0) (aa (pv 1) (aa (pv 2) ae)))))),?_⟩
 refine⟨_,U,!(ns.map V.int).isEmpty,.inl ⟨_,hS,U⟩,?_⟩;cases ns with
 |nil=>exact f6 (q _ _ (ar.refl _) (bl.q_NONE.sq _))
 |cons n ns=>exact bA ⟨_,U,x,_,_,U,hx,U,_,U,_,U,x,c,o,n,ns,b,U,⟨dx,z,hx⟩,ho,hle,hS,lt_of_succ_lt hn,q⟩
theorem DU(F:Fun K "verdict" "Way.verdict" Y29 f fd) (bl:Bl K mg Y)(j6:bf CX0 P w K mg base 1 Y.g "chosen" ["self","codes","outcome"] (J11 K Y)):aH P w K mg base CX0 2 f fd ["self","codes","outcome"] (J17 K Y):=by
 refine F.ok Z29 (λvs H Q E h=>?_) (λcdv A outer s H vs Q E hr h=>?_)
 ·obtain⟨x,c,o,ns,b,rfl,⟨dx,z,hx⟩,ho,hle,hS,hn,q⟩:=h;rfl
 obtain⟨x,c,o,ns,b,rfl,⟨dx,z,hx⟩,ho,hle,hS,hn,q⟩:=h
 refine⟨_,(ak (aN (bI (df (pv 1) (by intro _;rfl)))
  (af (av (dc (v:=.ref Y.l) U bl.NONE_ U)))
  aD)
  (af (av (nt j6 bG bl.k_Sum hr (pv 0) (aa (pv 1) (aa (pv 2) ae)))))),?_⟩
 refine⟨_,U,!(ns.map V.int).isEmpty,.inl ⟨_,hS,U⟩,?_⟩;cases ns with
 |nil=>exact f6 (q _ _ (ar.refl _) (bl.q_NONE.sq _))
 |cons n ns=>exact bA ⟨_,U,x,_,_,U,hx,U,_,U,_,U,x,c,o,n,ns,b,U,⟨dx,z,hx⟩,ho,hle,hS,lt_of_succ_lt hn,q⟩
theorem DV(F:Fun K "grain" "grain" Y42 f fd) (bl:Bl K mg Y)(fe:Callee P w K mg base 2 "cut_columns" ["bounds","marks"] (dj K Y)):aH P w K mg base CX0 3 f fd ["bounds","marks"] (l7 K Y):=by
 refine F.okA Z43 λcdv A outer s H vs Q E hr h=>?_
 obtain⟨a,b,ys,ps,as,mss,rfl,ha,hP,hb,hM,hok,q⟩:=h
 refine⟨_,(ak (aJ (i:=2) Z43.nd U (Or.inl U) ag)
  (ak (aY PassesOwn.never U (aV (aL fe hr U (aa (pv 0) (aa (pv 1) ae)))) (aC (i:=3) Z43.nd U (Or.inl U))
  (af (yX (i:=2) Z43.nd U (Or.inl U) (aq au U bl.len_ boot_len (aa (pv 3) ae)) zC)))
  (af (av (pv 2))))),?_⟩
 refine⟨_,U,_,U,a,b,ys,ps,as,mss,U,ha,hP,hb,hM,hok,λl xs H1 css s1 el hcs hpr hx=>?_⟩;obtain⟨ok1,ok2,ok3⟩:=hok;have hxl:xs.length=ps.length:=by rw[hx.1,length_zipWith];lia
 refine⟨l,U,⟨_,SqL.of el⟩,bB (xs:=xs) (λi σ H'=>H'=H1/\∃c3:Option V,σ=[some (.ref a),some (.ref b),some (.int ((gr ps mss i:Nat):Int)),c3]) ⟨U,none,U⟩ (λi σ H' _ h=>by rw[h.1];exact SqL.of el) (λi y σ H' e h=>?_) (λσ H' h=>?_)⟩
 ·obtain⟨e1,c3,rfl⟩:=h;rw[e1];obtain⟨r,n,rfl,en,ts,hr,hp⟩:=aI.get hx e;have hi:i<xs.length:=(Fo.mp e).1;obtain⟨p,ep⟩:∃p,ps[i]?=some p:=⟨_,Fn (by lia)⟩;obtain⟨cs,ec⟩:∃cs,css[i]?=some cs:=⟨_,Fn (by lia)⟩;obtain⟨ms,em⟩:∃ms,mss[i]?=some ms:=⟨_,Fn (by lia)⟩;obtain⟨hpw,lG,_⟩:=hpr i p ms cs ep em ec;rw[getElem?_zipWith,ep,ec]at en;have en:b9 p.1 p.2 cs=n:=Option.some.inj en;have hl:ts.length=gl ps mss i:=by
   rw[hp.length,←en,gu,zM hpw lG];unfold gl;rw[getD_eq_getElem?_getD,ep,getD_eq_getElem?_getD,em];rfl
  have b1:=yJ (ps:=ps) ok3 i;have b2:(58:Nat)^i<=58^6:=Nat.pow_le_pow_right (by decide) (by lia);have b3:(58:Nat)^3<2^64:=by decide
  refine⟨_,U,_,U,r,_,U,.inl (SqL.of hr),_,_,U,U,xk.ok (.inl ⟨by lia,by lia⟩),U,some (.ref r),?_⟩;rw[hl];show[some (V.ref a),some (.ref b),some (.int (((gr ps mss i:Nat):Int)*((gl ps mss i:Nat):Int))),some (.ref r)]=_;rw[show gr ps mss (i+1)=gr ps mss i*gl ps mss i from U,Int.natCast_mul]
 ·obtain⟨e1,c3,rfl⟩:=h;rw[e1,hxl];exact⟨_,U,q H1 s1⟩
theorem DW(F:Fun K "refuse_names" "refuse_names" Y73 f fd) (bl:Bl K mg Y)(ka:Callee P w K mg base 2 "is_word" ["text"] (fQ K Y)):aH P w K mg base CX0 3 f fd ["names"] (dJ K Y):=by
 refine F.okA Z74 λcdv A outer s H vs Q E hr h=>?_
 obtain⟨p,zs,rfl,hS,hw,hn,hl,q⟩:=h
 refine⟨_,(aM (aY PassesOwn.never U (aV (pv 0)) (aC (i:=1) Z74.nd U (Or.inl U))
  (af (aN (bI (cb (aL ka hr U (aa (pv 1) ae))))
  (af bO)
  aD)))
  (af (aN (aE jt (aq iC U bl.len_ boot_len (aa (bL (iA U) U bl.set_ PyProof.Rows.boot_set (aa (pv 0) ae)) ae)) (aq au U bl.len_ boot_len (aa (pv 0) ae)) (aG _))
  (af bO)
  aD))),?_⟩
 have hlen:(zs.map V.str).length=zs.length:=length_map _;refine⟨λσ' H'=>H'=H/\∃c1:Option V,σ'=[some (.ref p),c1],?_,?_⟩
 ·refine⟨_,U,p,U,⟨_,hS⟩,bB (xs:=zs.map V.str) (λi σ H'=>H'=H/\∃c1:Option V,σ=[some (.ref p),c1]) ⟨U,_,U⟩ (λi σ H' _ h=>by rw[h.1];exact hS) (λi y σ H' e h=>?_) (λσ H' h=>h)⟩;obtain⟨e0,c1,rfl⟩:=h;rw[e0];obtain⟨z,rfl,ez⟩:=pU e;have hz1:=hw z (Fp ez);have hz:z.length<=1000:=by
   have hw2:=hz1;unfold isw at hw2;simp only[and_eq_true,decide_eq_true_eq]at hw2;lia
  refine⟨_,U,z,U,hz,_,U,?_⟩;rw[hz1];exact bA ⟨U,_,U⟩
 rintro σ2 H2 ⟨e2,c1,rfl⟩;rw[e2];refine⟨_,U,p,zs,U,hS,by lia,λl hl2=>⟨l,zs,U,ab,by lia,_,U,p,_,U,.inl ((ai hl2 _).seq hS),_,_,U,U,_,U,?_⟩⟩;have cf:=jW zs zs.length (le_refl _);rw[take_length]at cf;exact ck (by rw[hlen,cf.mpr hn];lia) (q _ (ai hl2 _))
theorem DX(F:Fun K "refuse_row" "refuse_row" Y74 f fd) (bl:Bl K mg Y)(d9:bf CX0 P w K mg base 2 Y.i "has_code" ["self","value"] (bF K Y)) (fu:bf CX0 P w K mg base 2 Y.j "has_code" ["self","value"] (bT K Y)):aH P w K mg base CX0 3 f fd ["domains","outcome","cells","code"] (eZ K Y):=by
 refine F.okA Z75 λcdv A outer s H vs Q E hr h=>?_
 obtain⟨dl,ou,cl,dv,xs,bs,o,w_,rfl,hD,hdv,hO,hC,hcl,ok,q⟩:=h
 refine⟨_,(ak (aN (aE kf (aq au U bl.len_ boot_len (aa (pv 2) ae)) (aq au U bl.len_ boot_len (aa (pv 0) ae)) (aG _))
  (af bO)
  aD)
  (aM (aY PassesOwn.never U (rj U bl.zip_ (aa (pv 0) (aa (pv 2) ae))) (eQ U (aK (aC (i:=4) Z75.nd U (Or.inl U)) (aK (aC (i:=5) Z75.nd U (Or.inl U)) bW)))
  (af (aY PassesOwn.never U (aV (pv 5)) (eQ U (aK (aC (i:=6) Z75.nd U (Or.inl U)) (aK (aC (i:=7) Z75.nd U (Or.inl U)) bW)))
  (af (aN (PW.pt (ij (aE jt (pv 6) (bJ (pv 4) U) (aG _)) (gc (aE ir (pv 7) (bJ (pv 4) U) (aG _)))))
  (af bO)
  aD)))))
  (af (aN (bI (cb (vz (pM d9 bl.k_Numbers (pM fu bl.k_Words AV)) bG hr (pv 1) (aa (pv 3) ae))))
  (af bO)
  aD)))),?_⟩
 have hdf:∀(C:Addr),(C=Y.i\/C=Y.j)->Cls K C/\NoAttr K C (Str.ofString "low")/\NoAttr K C (Str.ofString "high"):=λC h=>by
  rcases h with rfl|rfl
  ·exact⟨bl.k_Numbers,bl.na_Numbers_low,bl.na_Numbers_high⟩
  ·exact⟨bl.k_Words,bl.na_Words_low,bl.na_Words_high⟩
 have hlen:xs.length=dv.length:=by rw[hcl.1,ok.len,hdv.1]
 refine⟨_,U,cl,_,U,.inl (SqL.of hC),_,U,dl,_,U,.inl (hD),U,_,U,AN (by rw[hlen]) ?_⟩;refine⟨λσ' H'=>ar H H'/\∃c4 c5 c6 c7:Option V,σ'=[some (.ref dl),some (.ref ou),some (.ref cl),some (.int w_.2),c4,c5,c6,c7],?_,?_⟩
 ·refine⟨_,U,_,U,dl,cl,U,⟨_,hD⟩,⟨_,SqL.of hC⟩,sI (xs:=dv) (ys:=xs) (λi σ H'=>ar H H'/\∃c4 c5 c6 c7:Option V,σ=[some (.ref dl),some (.ref ou),some (.ref cl),some (.int w_.2),c4,c5,c6,c7]) ⟨ar.refl _,_,_,_,_,U⟩ (λi σ H' h=>⟨h.1.seq hD,SqL.of (h.1 _ _ hC)⟩) (λi x y σ H' T ex ey h hT=>?_) (λσ H' h=>h)⟩;obtain⟨sm,c4,c5,c6,c7,rfl⟩:=h;have s2:=sm.trans (ai hT (.tup [x,y]));have eT:upd H' T (.tup [x,y]) T=some (.tup [x,y]):=ab;generalize upd H' T (.tup [x,y])=H2 at s2 eT⊢;obtain⟨a,b,rfl,eb,hb⟩:=hdv.get ex;obtain⟨l,ps,rfl,ep,hl⟩:=aI.get hcl ey;obtain⟨C,hC',dx,fs,ha,f1,f2,_⟩:=hb.same s2;obtain⟨k1,k2,k3⟩:=hdf C hC';obtain⟨_,ys,el,hp⟩:=hl.same s2;refine⟨T,_,U,SqT.of eT,U,_,_,U,_,_,U,U,?_⟩;refine⟨_,U,l,U,⟨_,SqL.of el⟩,bB (xs:=ys) (λj σ H'=>H'=H2/\∃c6 c7:Option V,σ=[some (.ref dl),some (.ref ou),some (.ref cl),some (.int w_.2),some (.ref a),some (.ref l),c6,c7]) ⟨U,_,_,U⟩ (λj σ H' _ h=>by rw[h.1];exact SqL.of el) (λj y σ H' e h=>?_) (λσ H' h=>?_)⟩
  ·obtain⟨e0,c6,c7,rfl⟩:=h;rw[e0];obtain⟨p,r,e1,rfl,hr'⟩:=hp.get e;obtain⟨i1,i2⟩:=ok.inn i ps b ep eb p (Fp e1);refine⟨r,_,U,SqT.of hr',U,_,_,U,_,_,U,U,?_⟩;refine⟨_,U,_,U,a,_,_,_,_,U,ha,k1,k2,f1,_,_,U,U,_,U,ck (by lia) ?_⟩;exact⟨_,U,_,U,a,_,_,_,_,U,ha,k1,k3,f2,_,_,U,U,_,U,ck (by lia) ⟨U,_,_,U⟩⟩
  ·obtain⟨e0,c6,c7,rfl⟩:=h;rw[e0];exact⟨s2,_,_,_,_,U⟩
 rintro σ3 H3 ⟨s3,c4,c5,c6,c7,rfl⟩;obtain⟨C,hC',hd⟩:=hO.same s3;obtain⟨dx,fs,ha,f1,f2,f3⟩:=id hd;rcases hC' with rfl|rfl
 ·exact⟨_,U,ou,_,dx,fs,U,.head _,ha,f3,_,U,ou,o,w_.2,U,hd,ok.lo,ok.hi,_,U,bA (q _ s3)⟩
 ·exact⟨_,U,ou,_,dx,fs,U,.tail _ (.head _),ha,f3,_,U,ou,o,w_.2,U,hd,ok.lo,ok.hi,_,U,bA (q _ s3)⟩
theorem DY(F:Fun K "mask" "mask" Y70 f fd) (bl:Bl K mg Y)(Ab:Callee P w K mg base 2 "fits" ["table","k","codes"] (oP K Y)):aH P w K mg base CX0 3 f fd ["table","codes"] (jE K Y):=by
 refine F.okA Z71 λcdv A outer s H vs Q E hr h=>?_
 obtain⟨t,c,rws,wi,o,cs,rfl,⟨rl,ou,dx,fs,xs,wy,ht,hf,hfw,hfo,erl,hR,hwi,hou,hole,uk⟩,hS,hlen,q⟩:=h;refine⟨_,(af (av (aq (cQ U) U bl.sum_ PyProof.Rows.boot_sum (aa (bP (aP U bl.range_ (aa (aq au U bl.len_ boot_len (aa (bJ (pv 0) U) ae)) ae)) (bo (N:=["k","table","codes"]) (fr:=[0,1]) (cl:=[("table",s.heap.objs.size+1),("codes",s.heap.objs.size+1+1)]) U U (by decide+kernel) (by decide+kernel) U (by decide+kernel) U U U (forall_mem_cons.mpr ⟨U,forall_mem_cons.mpr ⟨U,forall_mem_nil _⟩⟩) U) U (λ_ _ _ _=>(gM (cb (aL Ab hr U (aa (pv 1) (aa (pv 0) (aa (pv 2) ae))))))) (λ_ _ _ _=>(ax oh ag (pv 0)))) ae)))),?_⟩;have hxl:xs.length=rws.length:=hR.1
 refine⟨_,U,t,_,_,_,_,U,ht,bl.k_Table,bl.na_Table_rows,hf,rl,_,U,.inl (SqL.of erl),_,U,(by show -(2^62)<=((xs.length:Nat):Int);lia),(by show((xs.length:Nat):Int)<2^62;lia),bD (λD i zs H'=>ar H H'/\H' D=some (.lst zs)/\∃ys:List Int,zs=ys.map V.int/\ys.sum=((msk (gX rws cs) i:Nat):Int)/\ys.length<=i)
  (λD hD=>⟨ai hD _,ab,[],U,U,zero_le _⟩) (λD i zs H' hD hi h=>?_) (λD zs H' hD h=>?_)⟩
 ·obtain⟨sm,eD,ys,rfl,qo,hl⟩:=h;have hi2:i<rws.length:=by first|lia|(rw[←hxl];lia)
  obtain⟨w_,ew⟩:∃w_,rws[i]?=some w_:=⟨_,Fn hi2⟩;have hg:rws.getD i ([],0)=w_:=getD_at ew;refine⟨_,U,_,U,_,U,t,rl,c,dx,fs,xs,rws,i,w_,cs,by rw[zero_add],sm _ _ ht,hf,sm _ _ erl,hR.same sm,ew,sm.seq hS,hlen w_ (Fp ew),λH3 s3=>⟨_,U,?_⟩⟩;have sA:=sm.trans s3;have eD3:=s3 _ _ eD;cases hb:mM w_.1 cs with
  |true =>
   refine f6 ⟨_,U,_,_,U,U,⟨by lia,by lia,by decide⟩,cF.mk hi eD3 (ay (by rw[length_map];lia)) ⟨sA.upd hD,ab,ys++[1*2^(0+(i:Int)).toNat],by simp,?_,by simp;lia⟩⟩;have e2:(0+(i:Int)).toNat=i:=by lia
   rw[e2,List.sum_append,qo,fk,show gX rws cs i=true by unfold gX;rw[hg];exact hb];simp;lia
  |false =>
   refine bA (dC.mk (zs:=ys.map V.int) hi ⟨sA,eD3,ys,U,?_,by lia⟩);rw[qo,fk,show gX rws cs i=false by unfold gX;rw[hg];exact hb];simp
 ·obtain⟨sm,eD,ys,rfl,qo,hl⟩:=h;rw[toNat_natCast]at qo;refine⟨D,ys,U,SqL.of eD,?_⟩;have q2:=q H' sm;rw[←hxl,←qo]at q2;exact q2
theorem DZ(F:Fun K "table_marks" "table_marks" Y79 f fd) (bl:Bl K mg Y)(l9:Callee P w K mg base 2 "column_marks" ["table","column"] (dI K Y)):aH P w K mg base CX0 3 f fd ["table"] (dY K Y):=by
 refine F.okA Z81 λcdv A outer s H vs Q E hr h=>?_
 obtain⟨t,dv,bs,rws,L,rfl,hTD,hb,h60,j4,hL,q⟩:=h;refine⟨_,(af (av (bP (aP U bl.range_ (aa (aq au U bl.len_ boot_len (aa (bJ (pv 0) U) ae)) ae)) (bo (N:=["column","table"]) (fr:=[0]) (cl:=[("table",s.heap.objs.size+1)]) U U (by decide+kernel) (by decide+kernel) U (by decide+kernel) U U U (forall_mem_cons.mpr ⟨U,forall_mem_nil _⟩) U) U (λ_ _ _ _=>bw) (λ_ _ _ _=>(aL l9 hr U (aa (pv 1) (aa (pv 0) ae))))))),?_⟩;obtain⟨rl,dx,dl,fs,xs,ht,f1,f2,edl,hdv,erl,hR⟩:=id hTD;have hdl:dv.length=bs.length:=hdv.1;refine⟨_,U,t,_,_,_,_,U,ht,bl.k_Table,bl.na_Table_domains,f2,dl,_,U,.inl (SqL.of edl),_,U,(by show -(2^62)<=((dv.length:Nat):Int);lia),(by show((dv.length:Nat):Int)<2^62;lia),bD (λD i zs H'=>ar H H'/\H' D=some (.lst zs)/\∃(as:List Addr)(mss:List (List Int)),zs=as.map V.ref/\MLs (hide H' D) as mss/\mss.length=i/\∀(c:Nat)(b:Int×Int)(ms:List Int),bs[c]?=some b->mss[c]?=some ms->ms.Pairwise (· < ·)/\∀x,x∈ms↔MkC rws c b x) (λD hD=>⟨ai hD _,ab,[],[],U,MLs.nil,U,λc b ms _ e=>by simp at e⟩) (λD i zs H' hD hi h=>?_) (λD zs H' hD h=>?_)⟩
 ·obtain⟨sm,eD,as,mss,rfl,hz,hml,hmm⟩:=h;have hi':i<bs.length:=by lia
  obtain⟨b,eb⟩:∃b,bs[i]?=some b:=⟨_,Fn hi'⟩;obtain⟨hL1,hL2⟩:=hL i b eb;refine⟨_,U,_,U,t,i,dv,bs,rws,b,L i,by rw[zero_add],hTD.same sm,eb,h60,λw hw=>⟨by rw[(j4 w hw).1];exact hi',(j4 w hw).2 i⟩,hL1,hL2,λl cs H2 s2 nl el pw hm=>?_⟩;have eD2:=s2 _ _ eD;have nD:l≠D:=λz=>by rw[z,eD]at nl;cases nl
  have hal:=hz.1;refine cF.mk hi eD2 (ay (by rw[length_map];lia)) ⟨(sm.trans s2).upd hD,ab,as++[l],mss++[cs],by rw[map_append];rfl,?_,by rw[length_append,length_singleton,hml],λc b' ms e1 e2=>?_⟩
  ·rw[p9];exact MLs.snoc (hz.same (nQ s2)) (dM el nD)
  ·by_cases hc:c<mss.length
   ·rw[getElem?_append_left hc]at e2;exact hmm c b' ms e1 e2
   ·rw[getElem?_append_right (by lia)]at e2;have h0:=(Fo.mp e2).1;rw[length_singleton]at h0;have hci:c=i:=by lia
    subst hci;rw[eb]at e1;cases e1;rw[show c-mss.length=0 by lia]at e2;cases e2;exact⟨pw,hm⟩
 ·obtain⟨sm,eD,as,mss,rfl,hz,hml,hmm⟩:=h;exact q D as mss H' sm hD eD (hz.same (sX H' D)) (by lia) hmm
theorem D1(F:Fun K "_law_just" "_law_just" Y55 f fd) (bl:Bl K mg Y)(ko:Callee P w K mg base 2 "_law_size" ["box"] (gy K Y)) (kq:Callee P w K mg base 2 "_law_meet" ["one","other"] (gx K Y)) (mQ:Callee P w K mg base 2 "_law_is_box" ["box","points"] (eY K Y)):aH P w K mg base CX0 3 f fd ["told","tiles","due","points"] (gz K Y):=by
 refine F.okA Z56 λcdv A outer s H vs Q E hr h=>?_
 obtain⟨tl,il,dl,pl,lv,tx,TL,ix,IL,xs,pss,rfl,etl,hTL,eil,hIL,edl,epl,hpl,hpt,h4,hlv,uB,hin,hsz,hmt,hvs,ht3,hi3,q⟩:=h
 refine⟨_,(ak (aJ (i:=4) Z56.nd U (Or.inl U) (aq (cQ U) U bl.sum_ PyProof.Rows.boot_sum (aa (bP (aP U bl.range_ (aa (aq au U bl.len_ boot_len (aa (pv 1) ae)) ae)) (bo (N:=["k","tiles","due"]) (fr:=[1,2]) (cl:=[("tiles",s.heap.objs.size+1),("due",s.heap.objs.size+1+1)]) U U (by decide+kernel) (by decide+kernel) U (by decide+kernel) U U U (forall_mem_cons.mpr ⟨U,forall_mem_cons.mpr ⟨U,forall_mem_nil _⟩⟩) U) U (λ_ _ _ _=>(gM (aE xl (az (b7 (K:=K) U) (pv 2) (pv 0) (λ_ _=>U)) uM (aG _)))) (λ_ _ _ _=>(aL ko hr U (aa (az (b7 (K:=K) U) (pv 1) (pv 0) (λ_ _=>U)) ae)))) ae)))
  (ak (aY PassesOwn.never U (aP U bl.range_ (aa (aq au U bl.len_ boot_len (aa (pv 0) ae)) ae)) (aC (i:=5) Z56.nd U (Or.inl U))
  (ak (aJ (i:=6) Z56.nd U (Or.inl U) (az aR (az aF (pv 0) (pv 5) (λ_ _=>U)) ag (λ_ _=>U)))
  (aM (aN (PW.pt (ij (bI (cb (aL mQ hr U (aa (pv 6) (aa (pv 3) ae))))) (gc (PW.pt (iG (aE ir (pv 5) ag (aG _)) (fB (aE (zx hr) (az aR (az aF (pv 0) (ax bY (pv 5) ag) (λ_ _=>U)) ag (λ_ _=>U)) (pv 6) (aG _))))))))
  (af (av cP))
  aD)
  (aM (aY PassesOwn.never U (aP U bl.range_ (aa (pv 5) ae)) (aC (i:=7) Z56.nd U (Or.inl U))
  (af (aN (cb (aL kq hr U (aa (az aR (az aF (pv 0) (pv 7) (λ_ _=>U)) ag (λ_ _=>U)) (aa (pv 6) ae))))
  (af (av cP))
  aD)))
  (ak (aJ (i:=4) Z56.nd U (Or.inl U) (ax bY (pv 4) (aL ko hr U (aa (pv 6) ae))))
  (af (aY PassesOwn.never U (aP U bl.range_ (aa (aq au U bl.len_ boot_len (aa (pv 1) ae)) ae)) (aC (i:=7) Z56.nd U (Or.inl U))
  (af (aN (PW.pt (iG (cb (aL kq hr U (aa (pv 6) (aa (az aF (pv 1) (pv 7) (λ_ _=>U)) ae)))) (fB (aE kf (az aF (pv 2) (pv 7) (λ_ _=>U)) (az aR (az aF (pv 0) (pv 5) (λ_ _=>U)) ag (λ_ _=>U)) (aG _)))))
  (af (av cP))
  aD)))))))))
  (af (av (kB bU (pv 4) ag (aG _)))))),?_⟩
 have htl:=hTL.length;have hil:ix.length=IL.length:=by have:=hIL.1;rw[length_map]at this;exact this
 have hI:∀(j:Nat)(r:List (Int×Int)×Int),IL[j]?=some r->∃b,ix[j]?=some (.ref b)/\BxA H b r.1:=λj r e=>hIL.2 j _ (by rw[getElem?_map,e];rfl)
 have hdl:∀(j:Nat)(r:List (Int×Int)×Int),IL[j]?=some r->(IL.map λx=>if x.2=0 then V.non else lv x.2)[j]?=some (if r.2=0 then V.non else lv r.2):=λj r e=>by rw[getElem?_map,e];rfl
 have hT:∀(k:Nat)(x:List (Int×Int)×Int),TL[k]?=some x->∃t b,tx[k]?=some (.ref t)/\H t=some (.tup [.ref b,lv x.2])/\BxA H b x.1:=λk x e=>by
  have hk:=(Fo.mp e).1;have e1:=Fn (l:=tx) (i:=k) (by lia);obtain⟨x',e2,t,b,ex,g1,g2⟩:=dW hTL e1;rw[e]at e2;cases e2;exact⟨t,b,by rw[e1,ex],g1,g2⟩
 refine⟨_,U,il,_,U,.inl (SqL.of eil),_,U,(by show -(2^62)<=((ix.length:Nat):Int);lia),(by show((ix.length:Nat):Int)<2^62;lia),bD (λD i zs H'=>ar H H'/\H' D=some (.lst zs)/\zs=(oO (IL.take i)).map V.int) (λD hD=>⟨ai hD _,ab,U⟩) (λD i zs H' hD hi hh=>?_) (λD zs H' hD hh=>?_)⟩
 ·obtain⟨sm,eD,rfl⟩:=hh;have hi':i<IL.length:=by lia
  have er:=Fn hi';generalize IL[i]=r at er;obtain⟨b,eb,hb⟩:=hI i r er;have a1:atI (IL.map λx=>if x.2=0 then V.non else lv x.2) (0+(i:Int))=some (if r.2=0 then V.non else lv r.2):=by rw[zero_add];exact aZ (hdl i r er)
  have a2:atI ix (0+(i:Int))=some (.ref b):=by rw[zero_add];exact aZ eb
  have hdn:=wL (IL.take i);rw[length_take]at hdn;refine⟨_,U,_,U,dl,_,_,_,U,U,SqL.of (sm _ _ edl),a1,U,?_⟩;by_cases h0:r.2=0
  ·rw[if_pos h0];refine⟨false,U,bA (dC.mk hi ⟨sm,eD,?_⟩)⟩;rw[nY er,if_pos h0,append_nil]
  ·rw[if_neg h0];refine⟨true,by rw[decide_eq_false (hlv r.2).2];rfl,f6 ?_⟩;obtain⟨w1,w2⟩:=hsz r (.inr (Fp er));refine⟨_,U,_,U,il,_,_,_,U,U,SqL.of (sm _ _ eil),a2,b,_,U,hb.mono sm.tups,by lia,w2,?_⟩;refine cF.mk hi eD (ay (by rw[length_map];lia)) ⟨sm.upd hD,ab,?_⟩;rw[nY er,if_neg h0,map_append];rfl
 ·obtain⟨sm,eD,rfl⟩:=hh;rw[show(((ix.length:Nat):Int)).toNat=IL.length by lia,take_length]at eD;refine⟨D,_,U,SqL.of eD,?_⟩;rw[←hvs];have wW:=sm _ _ etl;have Bq:=sm _ _ eil;have D3:=sm _ _ edl;have D4:=sm _ _ epl;have D5:=hpl.same sm;refine⟨_,U,tl,_,U,.inl (SqL.of wW),_,U,(by show -(2^62)<=((tx.length:Nat):Int);lia),(by show((tx.length:Nat):Int)<2^62;lia),bK (λi σ H2=>H2=H'/\∃c5 c6 c7:Option V,σ=[some (.ref tl),some (.ref il),some (.ref dl),some (.ref pl),some (.int (d7 TL-d7 (TL.take i))),c5,c6,c7]) ⟨U,none,none,none,by rw[List.take_zero,show d7 []=0 from U,Int.sub_zero];rfl⟩ (λi σ H2 hi h=>?_) (λσ H2 h=>?_)⟩
  ·obtain⟨rfl,c5,c6,c7,rfl⟩:=h;have hi':i<TL.length:=by lia
   have ex:=Fn hi';generalize TL[i]=x at ex;obtain⟨t,b,et,ht,hb⟩:=hT i x ex;have hxm:=Fp ex;have ht1:=sm _ _ ht;have hb1:=hb.mono sm.tups;have a1:atI tx (0+(i:Int))=some (.ref t):=by rw[zero_add];exact aZ et
   obtain⟨w1,w2⟩:=hsz x (.inl hxm);refine⟨_,U,_,U,tl,_,_,_,U,U,SqL.of wW,a1,t,_,_,_,U,U,SqT.of ht1,U,?_⟩;generalize hlf:d7 TL-d7 (TL.take i)=lf;refine⟨λσ' H3=>H3=H2/\σ'=[some (.ref tl),some (.ref il),some (.ref dl),some (.ref pl),some (.int lf),some (.int (0+(i:Int))),some (.ref b),c7],?_,?_⟩
   ·refine⟨_,U,_,U,b,pl,_,xs,pss,U,hb1,D4,D5,hpt,(hin x hxm).1,h4,_,U,bA ?_⟩;refine⟨_,U,_,_,U,U,_,U,?_⟩;refine bV (λg=>?_) (λg=>?_)
    ·have hi0:0<0+(i:Int):=of_decide_eq_true g;obtain⟨i0,rfl⟩:∃i0,i=i0+1:=⟨i-1,by lia⟩;have ey:=Fn (l:=TL) (i:=i0) (by lia);generalize TL[i0]=y at ey;obtain⟨t',b',et',ht',hb'⟩:=hT i0 y ey;have a2:atI tx (0+((i0+1:Nat):Int)-1)=some (.ref t'):=by rw[show 0+((i0+1:Nat):Int)-1=(i0:Int) by lia];exact aZ et'
     exact⟨_,U,_,U,_,_,U,U,tl,_,_,_,U,U,SqL.of wW,a2,t',_,_,_,U,U,SqT.of (sm _ _ ht'),U,_,U,BxA.ge_to (hb'.mono sm.tups) hb1 (wq uB (lt_succ_self _) ey ex) ⟨_,U,bA ⟨U,U⟩⟩⟩
    ·exact⟨U,U⟩
   rintro σ3 H3 ⟨rfl,rfl⟩;refine⟨λσ' H2=>H2=H3/\∃c7:Option V,σ'=[some (.ref tl),some (.ref il),some (.ref dl),some (.ref pl),some (.int lf),some (.int (0+(i:Int))),some (.ref b),c7],?_,?_⟩
   ·refine⟨_,U,_,U,(by show -(2^62)<=0+(i:Int);lia),(by show 0+(i:Int)<2^62;lia),bK (λj σ H2=>H2=H3/\∃c7:Option V,σ=[some (.ref tl),some (.ref il),some (.ref dl),some (.ref pl),some (.int lf),some (.int (0+(i:Int))),some (.ref b),c7]) ⟨U,_,U⟩ (λj σ H2 hj h=>?_) (λσ H2 h=>h)⟩;obtain⟨rfl,c7',rfl⟩:=h;have hji:j<i:=by lia
    have ey:=Fn (l:=TL) (i:=j) (by lia);generalize TL[j]=y at ey;obtain⟨t',b',et',ht',hb'⟩:=hT j y ey;have a2:atI tx (0+(j:Int))=some (.ref t'):=by rw[zero_add];exact aZ et'
    refine⟨_,U,_,U,tl,_,_,_,U,U,SqL.of wW,a2,t',_,_,_,U,U,SqT.of (sm _ _ ht'),U,_,U,b',b,_,_,U,hb'.mono sm.tups,hb1,(hsz y (.inl (Fp ey))).1.trans w1.symm,by rw[(hsz y (.inl (Fp ey))).1];lia,?_⟩;rw[wH (wq uB hji ey ex)];exact⟨_,U,bA ⟨U,_,U⟩⟩
   rintro σ4 H4 ⟨rfl,c8,rfl⟩;refine⟨_,U,_,U,b,_,U,hb1,by lia,w2,_,_,U,U,?_⟩;have D6:lf-vol x.1=d7 TL-d7 (TL.take (i+1)):=by rw[uu ex,←hlf];lia
   rw[D6];refine⟨_,U,il,_,U,.inl (SqL.of Bq),_,U,(by show -(2^62)<=((ix.length:Nat):Int);lia),(by show((ix.length:Nat):Int)<2^62;lia),bK (λj σ H2=>H2=H4/\∃c7:Option V,σ=[some (.ref tl),some (.ref il),some (.ref dl),some (.ref pl),some (.int (d7 TL-d7 (TL.take (i+1)))),some (.int (0+(i:Int))),some (.ref b),c7]) ⟨U,_,U⟩ (λj σ H2 hj h=>?_) (λσ H2 h=>?_)⟩
   ·obtain⟨rfl,c7',rfl⟩:=h;have er:=Fn (l:=IL) (i:=j) (by lia);generalize IL[j]=r at er;obtain⟨b',eb',hb'⟩:=hI j r er;have hrm:=Fp er;have a2:atI ix (0+(j:Int))=some (.ref b'):=by rw[zero_add];exact aZ eb'
    have a3:atI (IL.map λx=>if x.2=0 then V.non else lv x.2) (0+(j:Int))=some (if r.2=0 then V.non else lv r.2):=by rw[zero_add];exact aZ (hdl j r er)
    refine⟨_,U,_,U,_,U,il,_,_,_,U,U,SqL.of Bq,a2,b,b',_,_,U,hb1,hb'.mono sm.tups,w1.trans (hsz r (.inr hrm)).1.symm,by lia,_,U,?_⟩;cases hm:iE x.1 r.1 with
    |false=>exact bA ⟨U,_,U⟩
    |true =>
     have hrx:=hmt x hxm r hrm hm;rw[hrx,if_neg (hin x hxm).2]at a3;refine f6 ⟨_,U,_,U,dl,_,_,_,U,U,SqL.of D3,a3,_,U,_,U,tl,_,_,_,U,U,SqL.of wW,a1,t,_,_,_,U,U,SqT.of ht1,U,(hlv x.2).1,false,by rw[decide_eq_true U];rfl,bA ⟨U,_,U⟩⟩
   ·obtain⟨rfl,c7',rfl⟩:=h;exact⟨U,_,_,_,U⟩
  ·obtain⟨rfl,c5,c6,c7,rfl⟩:=h;rw[show(((tx.length:Nat):Int)).toNat=TL.length by lia,take_length,Int.sub_self];exact⟨_,U,U,q _ sm⟩
theorem D7(F:Fun K "__init__" "Words.__init__" Y30 f fd) (bl:Bl K mg Y)(fv:bX CX0 P w K mg base 2 "Domain" "__init__" ["self","low","high"] (bR K Y)) (ka:Callee P w K mg base 2 "is_word" ["text"] (fQ K Y)):aH P w K mg base CX0 3 f fd ["self","words"] (bz K Y):=by
 refine F.okA Z30 λcdv A outer s H vs Q E hr h=>?_
 obtain⟨x,dx,p,zs,rfl,hx,hP,hg,q⟩:=h
 refine⟨_,(ak (aN (bI (gd eG eG ag (aq au U bl.len_ boot_len (aa (pv 1) ae)) (km U bl.MOST_WORDS_)))
  (af bO)
  aD)
  (aM (aY PassesOwn.never U (aV (pv 1)) (aC (i:=2) Z30.nd U (Or.inl U))
  (af (aN (bI (cb (aL ka hr U (aa (pv 2) ae))))
  (af bO)
  aD)))
  (ak (aN (aE jt (aq iC U bl.len_ boot_len (aa (bL (iA U) U bl.set_ PyProof.Rows.boot_set (aa (pv 1) ae)) ae)) (aq au U bl.len_ boot_len (aa (pv 1) ae)) (aG _))
  (af bO)
  aD)
  (ak (aU (eH fv bG hr U (aa (pv 0) (aa ag (aa (ax bY (aq au U bl.len_ boot_len (aa (pv 1) ae)) ag) ae)))))
  (af (cx (pv 0) (bL dg U bl.list_ PyProof.Rows.boot_list (aa (pv 1) ae)) U)))))),?_⟩
 have hS:SqL K H p (zs.map V.str):=SqL.of hP;have hpx:p≠x:=dA hP hx (by intro z;cases z);have hlen:(zs.map V.str).length=zs.length:=length_map _;have h1:=hg.some_;have h40:=hg.few;refine⟨_,U,p,_,U,.inl hS,_,_,U,U,_,U,fW (by rw[hlen];lia) ?_⟩;refine⟨_,_,U,U,_,U,?_⟩;rw[decide_eq_true (show(((zs.map V.str).length:Nat):Int)<=40 by rw[hlen];lia)];refine bA ?_;refine⟨λσ' H'=>H'=H/\∃c2:Option V,σ'=[some (.ref x),some (.ref p),c2],?_,?_⟩
 ·refine⟨_,U,p,U,⟨_,hS⟩,bB (xs:=zs.map V.str) (λi σ H'=>H'=H/\∃c2:Option V,σ=[some (.ref x),some (.ref p),c2]) ⟨U,_,U⟩ (λi σ H' _ h=>by rw[h.1];exact hS) (λi y σ H' e h=>?_) (λσ H' h=>h)⟩;obtain⟨e0,c2,rfl⟩:=h;rw[e0];obtain⟨z,rfl,ez⟩:=pU e;have hw:=hg.words z (Fp ez);have hz:z.length<=1000:=by
   have hw2:=hw;unfold isw at hw2;simp only[and_eq_true,decide_eq_true_eq]at hw2;lia
  refine⟨_,U,z,U,hz,_,U,?_⟩;rw[hw];exact bA ⟨U,_,U⟩
 rintro σ2 H2 ⟨e2,c2,rfl⟩;rw[e2];refine⟨_,U,p,zs,U,hS,by lia,λl hl=>⟨l,zs,U,ab,by lia,_,U,p,_,U,.inl ((ai hl _).seq hS),_,_,U,U,_,U,?_⟩⟩;have s1:=ai hl (mD P w l zs);have cf:=jW zs zs.length (le_refl _);rw[take_length]at cf;refine ck (by rw[hlen,cf.mpr hg.once];lia) ?_;have hx1:=s1 _ _ hx;have hP1:=s1 _ _ hP;refine⟨_,U,_,U,p,_,U,.inl (SqL.of hP1),_,_,U,U,x,dx,0,_,U,hx1,?_⟩;have e1:mkd Y.j (upd H l (mD P w l zs)) x dx 0 ((((zs.map V.str).length:Nat):Int)-1) x=some (.ins Y.j dx [("low",.int 0),("high",.int ((((zs.map V.str).length:Nat):Int)-1))]):=ab;have e2:mkd Y.j (upd H l (mD P w l zs)) x dx 0 ((((zs.map V.str).length:Nat):Int)-1) p=some (.lst (zs.map V.str)):=by unfold mkd;rw[aw hpx,aw hpx];exact hP1
 have e3:∀b o,b≠x->H b=some o->mkd Y.j (upd H l (mD P w l zs)) x dx 0 ((((zs.map V.str).length:Nat):Int)-1) b=some o:=λb o hb h=>by unfold mkd;rw[aw hb,aw hb];exact s1 b o h
 have eh:(((zs.map V.str).length:Nat):Int)-1=hiW zs:=by rw[hlen];rfl
 refine⟨_,U,p,_,U,.inl (SqL.of e2),λl2 hl2=>⟨_,U,x,_,dx,_,U,cz e1 hl2,bl.k_Words,bl.na_Words_words,(by show 2<1000;decide),?_⟩⟩;show Q .non (upd (upd (mkd Y.j (upd H l (mD P w l zs)) x dx 0 ((((zs.map V.str).length:Nat):Int)-1)) l2 (.lst (zs.map V.str))) x (.ins Y.j dx (bq (Str.ofString "words") (.ref l2) [(Str.ofString "low",.int 0),(Str.ofString "high",.int ((((zs.map V.str).length:Nat):Int)-1))])));rw[put3];have hl3:mkd Y.j (upd H l (mD P w l zs)) x dx 0 ((((zs.map V.str).length:Nat):Int)-1) l2=none:=hl2;clear hl2;generalize mkd Y.j (upd H l (mD P w l zs)) x dx 0 ((((zs.map V.str).length:Nat):Int)-1)=H2 at e1 e2 e3 hl3⊢;rw[eh];exact q _ l2 (λb o hb h=>(aw hb).trans (cz (e3 b o hb h) hl3)) ab
theorem D8(F:Fun K "way_by" "way_by" Y80 f fd) (bl:Bl K mg Y)(k_First:bc CX0 P w K mg base 2 "First" Y.b ["self"] (J0 K Y)) (k_Only:bc CX0 P w K mg base 2 "Only" Y.c ["self"] (J8 K Y)) (k_Like:bc CX0 P w K mg base 2 "Like" Y.d ["self"] (J4 K Y)) (k_Low:bc CX0 P w K mg base 2 "Low" Y.e ["self"] (J6 K Y)) (k_High:bc CX0 P w K mg base 2 "High" Y.f ["self"] (J2 K Y)) (k_Sum:bc CX0 P w K mg base 2 "Sum" Y.g ["self"] (J10 K Y)):aH P w K mg base CX0 4 f fd ["name"] (gW K Y):=by
 refine F.okA Z82 λcdv A outer s H vs Q E hr h=>?_
 obtain⟨z,rfl,hz,q⟩:=h
 refine⟨_,(ak (aY PassesOwn.never U (aV (aW (aa (jZ k_First bG hr U) (aa (jZ k_Only bG hr U) (aa (jZ k_Like bG hr U) (aa (jZ k_Low bG hr U) (aa (jZ k_High bG hr U) (aa (jZ k_Sum bG hr U) ae)))))))) (aC (i:=1) Z82.nd U (Or.inl U))
  (af (aN (aE bU (bJ (pv 1) U) (pv 0) (aG _))
  (af (av (pv 1)))
  aD)))
  (af bO)),?_⟩
 refine λw0 d0 hw hdw hnw=>⟨w0,d0,U,ab,U,?_⟩
 have t0:ar H (upd (upd (upd H d0 (.own w0)) w0 (.ins Y.b d0 [])) w0 (.ins Y.b d0 [("called",.str (Str.ofString "first"))])):=((ai hdw _).upd hw).upd hw;have y0:WyN Y.b (upd (upd (upd H d0 (.own w0)) w0 (.ins Y.b d0 [])) w0 (.ins Y.b d0 [("called",.str (Str.ofString "first"))])) w0 (Str.ofString "first"):=⟨d0,ab⟩;generalize upd (upd (upd H d0 (.own w0)) w0 (.ins Y.b d0 [])) w0 (.ins Y.b d0 [("called",.str (Str.ofString "first"))])=H0 at t0 y0⊢;clear hw hdw hnw;refine λw1 d1 hw hdw hnw=>⟨w1,d1,U,ab,U,?_⟩
 have t1:ar H0 (upd (upd (upd H0 d1 (.own w1)) w1 (.ins Y.c d1 [])) w1 (.ins Y.c d1 [("called",.str (Str.ofString "only"))])):=((ai hdw _).upd hw).upd hw;have y1:WyN Y.c (upd (upd (upd H0 d1 (.own w1)) w1 (.ins Y.c d1 [])) w1 (.ins Y.c d1 [("called",.str (Str.ofString "only"))])) w1 (Str.ofString "only"):=⟨d1,ab⟩;generalize upd (upd (upd H0 d1 (.own w1)) w1 (.ins Y.c d1 [])) w1 (.ins Y.c d1 [("called",.str (Str.ofString "only"))])=H1 at t1 y1⊢;clear hw hdw hnw;have y0:=y0.same t1;refine λw2 d2 hw hdw hnw=>⟨w2,d2,U,ab,U,?_⟩
 have t2:ar H1 (upd (upd (upd H1 d2 (.own w2)) w2 (.ins Y.d d2 [])) w2 (.ins Y.d d2 [("called",.str (Str.ofString "like"))])):=((ai hdw _).upd hw).upd hw;have y2:WyN Y.d (upd (upd (upd H1 d2 (.own w2)) w2 (.ins Y.d d2 [])) w2 (.ins Y.d d2 [("called",.str (Str.ofString "like"))])) w2 (Str.ofString "like"):=⟨d2,ab⟩;generalize upd (upd (upd H1 d2 (.own w2)) w2 (.ins Y.d d2 [])) w2 (.ins Y.d d2 [("called",.str (Str.ofString "like"))])=H2 at t2 y2⊢;clear hw hdw hnw;have y0:=y0.same t2;have y1:=y1.same t2;refine λw3 d3 hw hdw hnw=>⟨w3,d3,U,ab,U,?_⟩
 have t3:ar H2 (upd (upd (upd H2 d3 (.own w3)) w3 (.ins Y.e d3 [])) w3 (.ins Y.e d3 [("called",.str (Str.ofString "low"))])):=((ai hdw _).upd hw).upd hw;have y3:WyN Y.e (upd (upd (upd H2 d3 (.own w3)) w3 (.ins Y.e d3 [])) w3 (.ins Y.e d3 [("called",.str (Str.ofString "low"))])) w3 (Str.ofString "low"):=⟨d3,ab⟩;generalize upd (upd (upd H2 d3 (.own w3)) w3 (.ins Y.e d3 [])) w3 (.ins Y.e d3 [("called",.str (Str.ofString "low"))])=H3 at t3 y3⊢;clear hw hdw hnw;have y0:=y0.same t3;have y1:=y1.same t3;have y2:=y2.same t3;refine λw4 d4 hw hdw hnw=>⟨w4,d4,U,ab,U,?_⟩
 have t4:ar H3 (upd (upd (upd H3 d4 (.own w4)) w4 (.ins Y.f d4 [])) w4 (.ins Y.f d4 [("called",.str (Str.ofString "high"))])):=((ai hdw _).upd hw).upd hw;have y4:WyN Y.f (upd (upd (upd H3 d4 (.own w4)) w4 (.ins Y.f d4 [])) w4 (.ins Y.f d4 [("called",.str (Str.ofString "high"))])) w4 (Str.ofString "high"):=⟨d4,ab⟩;generalize upd (upd (upd H3 d4 (.own w4)) w4 (.ins Y.f d4 [])) w4 (.ins Y.f d4 [("called",.str (Str.ofString "high"))])=H4 at t4 y4⊢;clear hw hdw hnw;have y0:=y0.same t4;have y1:=y1.same t4;have y2:=y2.same t4;have y3:=y3.same t4;refine λw5 d5 hw hdw hnw=>⟨w5,d5,U,ab,U,?_⟩
 have t5:ar H4 (upd (upd (upd H4 d5 (.own w5)) w5 (.ins Y.g d5 [])) w5 (.ins Y.g d5 [("called",.str (Str.ofString "sum"))])):=((ai hdw _).upd hw).upd hw;have y5:WyN Y.g (upd (upd (upd H4 d5 (.own w5)) w5 (.ins Y.g d5 [])) w5 (.ins Y.g d5 [("called",.str (Str.ofString "sum"))])) w5 (Str.ofString "sum"):=⟨d5,ab⟩;generalize upd (upd (upd H4 d5 (.own w5)) w5 (.ins Y.g d5 [])) w5 (.ins Y.g d5 [("called",.str (Str.ofString "sum"))])=H5 at t5 y5⊢;clear hw hdw hnw;have y0:=y0.same t5;have y1:=y1.same t5;have y2:=y2.same t5;have y3:=y3.same t5;have y4:=y4.same t5;have s5:ar H H5:=((((t0.trans t1).trans t2).trans t3).trans t4).trans t5;refine⟨(by show 6<=sizeLine;decide),λl hl=>?_⟩;have sl:ar H5 (upd H5 l (.lst [V.ref w0,.ref w1,.ref w2,.ref w3,.ref w4,.ref w5])):=ai hl _;have el:upd H5 l (.lst [V.ref w0,.ref w1,.ref w2,.ref w3,.ref w4,.ref w5]) l=some (.lst [V.ref w0,.ref w1,.ref w2,.ref w3,.ref w4,.ref w5]):=ab;generalize upd H5 l (.lst [V.ref w0,.ref w1,.ref w2,.ref w3,.ref w4,.ref w5])=H6 at sl el⊢;have y0:=y0.same sl;have y1:=y1.same sl;have y2:=y2.same sl;have y3:=y3.same sl;have y4:=y4.same sl;have y5:=y5.same sl;have sA:=s5.trans sl;have key:∀(i:Nat)(x:V),[V.ref w0,.ref w1,.ref w2,.ref w3,.ref w4,.ref w5][i]?=some x->∃(a C:Addr)(y:Str),x=.ref a/\(cl6 Y.b Y.c Y.d Y.e Y.f Y.g)[i]?=some C/\six[i]?=some y/\WyN C H6 a y/\Cls K C/\NoAttr K C (Str.ofString "called"):=λi x e=>by
  match i,e with
  |0,e=>cases e;exact⟨w0,Y.b,_,U,U,U,y0,bl.k_First,bl.na_First_called⟩
  |1,e=>cases e;exact⟨w1,Y.c,_,U,U,U,y1,bl.k_Only,bl.na_Only_called⟩
  |2,e=>cases e;exact⟨w2,Y.d,_,U,U,U,y2,bl.k_Like,bl.na_Like_called⟩
  |3,e=>cases e;exact⟨w3,Y.e,_,U,U,U,y3,bl.k_Low,bl.na_Low_called⟩
  |4,e=>cases e;exact⟨w4,Y.f,_,U,U,U,y4,bl.k_High,bl.na_High_called⟩
  |5,e=>cases e;exact⟨w5,Y.g,_,U,U,U,y5,bl.k_Sum,bl.na_Sum_called⟩
  |n+6,e=>simp at e
 refine⟨l,U,⟨_,SqL.of el⟩,bB (xs:=[V.ref w0,.ref w1,.ref w2,.ref w3,.ref w4,.ref w5]) (λi σ H'=>(∃c1:Option V,σ=[some (.str z),c1])/\H'=H6/\∀j:Nat,j<i->six[j]?≠some z) ⟨⟨_,U⟩,U,(λj h=>absurd h (not_lt_zero j))⟩ (λi σ H' _ h=>by rw[h.2.1];exact SqL.of el) (λi x σ H' e h=>?_) (λσ H' h=>?_)⟩
 ·obtain⟨⟨c1,rfl⟩,e0,hno⟩:=h;rw[e0];obtain⟨a,C,y,rfl,eC,ey,⟨dx,ha⟩,hc,hn⟩:=key i x e;refine⟨_,U,a,_,_,_,_,U,ha,hc,hn,U,_,U,U,_,U,?_⟩;refine bV (λg=>?_) (λg=>?_)
  ·have g':V.str y=V.str z:=kQ g;injection g' with g';subst g';exact⟨_,U,q i ey a C H6 sA eC ⟨dx,ha⟩⟩
  ·refine⟨⟨_,U⟩,U,λj hj=>?_⟩;by_cases hji:j<i
   ·exact hno j hji
   ·have:j=i:=by lia
    subst this;rw[ey];intro q2;exact(pj g) (by injection q2 with q2;rw[q2])
 ·obtain⟨⟨c1,rfl⟩,e0,hno⟩:=h;rw[e0];obtain⟨j,hj,ej⟩:=List.getElem_of_mem hz;exact absurd (by rw[Fn hj,ej]) (hno j hj)
theorem Ea(F:Fun K "refuse_way" "refuse_way" Y75 f fd) (bl:Bl K mg Y)(ma:Callee P w K mg base 4 "way_by" ["name"] (gW K Y)):aH P w K mg base CX0 5 f fd ["way","outcome"] (fb K Y):=by
 refine F.okA Z76 λcdv A outer s H vs Q E hr h=>?_
 obtain⟨z,ou,rfl,hz,hne,q⟩:=h
 refine⟨_,(af (aN (PW.pt (iG (aE bU (bJ (aL ma hr U (aa (pv 0) ae)) U) aQ (aG _)) (fB (cb (aq cH U bl.isinstance_ PyProof.Rows.boot_isinstance (aa (pv 1) (aa (dc (v:=.ref Y.j) U bl.Words_ U) ae)))))))
  (af bO)
  aD)),?_⟩
 refine⟨_,U,z,U,hz,λi ei x C H' s' eC hw=>?_⟩;have hF:Cls K C/\NoAttr K C (Str.ofString "called"):=by
  match i,eC with
  |0,eC=>cases eC;exact⟨bl.k_First,bl.na_First_called⟩
  |1,eC=>cases eC;exact⟨bl.k_Only,bl.na_Only_called⟩
  |2,eC=>cases eC;exact⟨bl.k_Like,bl.na_Like_called⟩
  |3,eC=>cases eC;exact⟨bl.k_Low,bl.na_Low_called⟩
  |4,eC=>cases eC;exact⟨bl.k_High,bl.na_High_called⟩
  |5,eC=>cases eC;exact⟨bl.k_Sum,bl.na_Sum_called⟩
  |n+6,eC=>simp[cl6]at eC
 obtain⟨dx,hx⟩:=hw;refine⟨x,_,_,_,_,U,hx,hF.1,hF.2,U,U,_,U,?_⟩;by_cases hs:z=Str.ofString "sum"
 ·obtain⟨dy,fs,ho⟩:=hne hs;exact fW (by rw[hs]) ⟨_,U,_,_,_,_,false,U,.ref _,bl.t_Numbers.ty (s' _ _ ho),bl.f_nw,_,U,bA (q _ s')⟩
 ·exact ck (λe=>by injection e with e;exact hs e) (bA (q _ s'))
theorem Eb(F:Fun K "judged" "judged" Y46 f fd) (bl:Bl K mg Y)(hX:bf CX0 P w K mg base 4 Y.b "verdict" ["self","codes","outcome"] (J12 K Y)) (ja:bf CX0 P w K mg base 4 Y.c "verdict" ["self","codes","outcome"] (J16 K Y)) (jb:bf CX0 P w K mg base 4 Y.d "verdict" ["self","codes","outcome"] (J14 K Y)) (jF:bf CX0 P w K mg base 4 Y.e "verdict" ["self","codes","outcome"] (J15 K Y)) (jc:bf CX0 P w K mg base 4 Y.f "verdict" ["self","codes","outcome"] (J13 K Y)) (jG:bf CX0 P w K mg base 4 Y.g "verdict" ["self","codes","outcome"] (J17 K Y)) (ma:Callee P w K mg base 4 "way_by" ["name"] (gW K Y)):aH P w K mg base CX0 5 f fd ["table","rows"] (fm K Y):=by
 refine F.okA Z47 λcdv A outer s H vs Q E hr h=>?_
 obtain⟨t,rws,wi,o,m,rfl,⟨rl,ou,dx,fs,xs,wy,ht,hf,hfw,hfo,erl,hR,hwi,hou,hole,uk⟩,q⟩:=h
 refine⟨_,(ak (vF (i:=2) Z47.nd U (Or.inl U) (xE U bl.enumerate_ (aa (bJ (pv 0) U) ae)) (eJ (N:=["k","row","rows"]) (k:=2) (fr:=[1]) (cl:=[("rows",s.heap.objs.size+1)]) U U (by decide+kernel) (by decide+kernel) U U (forall_mem_cons.mpr ⟨U,forall_mem_nil _⟩) U) U (λ_ _ _ _=>(kW (K:=K) (n:=2) U U (aK (aC (i:=0) (show(["k","row","rows"]:List Str).Nodup by decide+kernel) U (Or.inl U) (Or.inr U)) (aK (aC (i:=1) (show(["k","row","rows"]:List Str).Nodup by decide+kernel) U (Or.inl U) (Or.inr U)) bW)))) (λ_ _ _ _=>(gM (ua (K:=K) U (ax qK (ax qJ (pv 2) (pv 0)) ag)))) (λ_ _ _ _=>(az (jv (K:=K) U) (pv 1) ag (λ_ _=>U))))
  (af (av (vz (pM hX bl.k_First (pM ja bl.k_Only (pM jb bl.k_Like (pM jF bl.k_Low (pM jc bl.k_High (pM jG bl.k_Sum AV)))))) bG hr (aL ma hr U (aa (bJ (pv 0) U) ae)) (aa (pv 2) (aa (bJ (pv 0) U) ae)))))),?_⟩
 have hxl:xs.length=rws.length:=hR.1
 refine⟨_,U,t,_,_,_,_,U,ht,bl.k_Table,bl.na_Table_rows,hf,rl,U,⟨_,SqL.of erl⟩,rA (xs:=xs) (λD i zs H'=>ar H H'/\H' D=some (.lst zs)/\zs=(pkF rws (bH m) i).map V.int)
  (λD hD=>⟨ai hD _,ab,U⟩) (λD i zs H' hD _ h=>SqL.of (h.1 _ _ erl)) (λD i x zs H' T hD ex h hT ts hts=>?_) (λD zs H' hD h=>?_)⟩
 ·obtain⟨sm,eD,rfl⟩:=h;have s2:=sm.trans (ai hT (.tup [.int i,x]));have eT:upd H' T (.tup [.int i,x]) T=some (.tup [.int i,x]):=ab;have eD2:=ai hT (.tup [.int i,x]) _ _ eD;generalize upd H' T (.tup [.int i,x])=H2 at s2 eT eD2⊢;obtain⟨r,w_,rfl,ew,ce,cv,g1,_,g2,g3⟩:=aI.get (hR.same s2) ex;have hi:i<xs.length:=(Fo.mp ex).1;have hg:rws.getD i ([],0)=w_:=getD_at ew;have hpl:=sR rws (bH m) i;obtain⟨t0,t1,rfl⟩:∃t0 t1,ts=[t0,t1]:=by
   match ts,hts with
   | [t0,t1],_=>exact⟨t0,t1,U⟩
  refine⟨T,_,U,SqT.of eT,U,_,_,U,_,_,U,U,⟨[some (.int i),some (.ref r)],U,U⟩,?_⟩;refine⟨_,U,_,U,_,_,U,U,Int.natCast_nonneg _,_,_,U,U,bH m i,U,?_⟩;have hs:=vU rws (bH m) i;rw[hg]at hs;cases hb:bH m i with
  |true =>
   rw[hb]at hs;refine f6 ⟨_,U,r,_,_,_,U,U,SqT.of g1,U,cF.mk hi eD2 (ay (by rw[length_map];lia)) ⟨s2.upd hD,ab,?_⟩⟩;rw[hs,map_append];rfl
  |false =>
   rw[hb]at hs;refine bA (dC.mk (zs:=(pkF rws (bH m) i).map V.int) hi ⟨s2,eD2,?_⟩);rw[hs];simp
 ·obtain⟨sm,eD,rfl⟩:=h;rw[hxl]at eD;have hwy:wy∈six:=Fp hwi;refine⟨_,U,t,_,_,_,_,U,sm _ _ ht,bl.k_Table,bl.na_Table_way,hfw,wy,U,hwy,λi2 ei2 x C H2 s2 eC hw=>?_⟩;have ii:i2=wi:=xG ei2 hwi;subst ii;have sA:=sm.trans s2;obtain⟨dw,hx⟩:=hw;have hpl:=sR rws (bH m) rws.length;have key:(C,jB K C Y.i Y.j i2)∈[(Y.b,jB K Y.b Y.i Y.j 0),(Y.c,jB K Y.c Y.i Y.j 1),(Y.d,jB K Y.d Y.i Y.j 2),(Y.e,jB K Y.e Y.i Y.j 3),(Y.f,jB K Y.f Y.i Y.j 4),(Y.g,jB K Y.g Y.i Y.j 5)]:=by
   match i2,eC with
   |0,eC=>cases eC;exact .head _
   |1,eC=>cases eC;exact .tail _ (.head _)
   |2,eC=>cases eC;exact .tail _ (.tail _ (.head _))
   |3,eC=>cases eC;exact .tail _ (.tail _ (.tail _ (.head _)))
   |4,eC=>cases eC;exact .tail _ (.tail _ (.tail _ (.tail _ (.head _))))
   |5,eC=>cases eC;exact .tail _ (.tail _ (.tail _ (.tail _ (.tail _ (.head _)))))
   |n+6,eC=>simp[cl6]at eC
  refine⟨x,(C,jB K C Y.i Y.j i2),dw,_,U,key,hx,U,_,U,_,U,t,_,_,_,_,U,sA _ _ ht,bl.k_Table,bl.na_Table_outcome,hfo,x,D,ou,_,o,U,⟨dw,_,hx⟩,hou.same sA,hole,SqL.of (s2 _ _ eD),by lia,λr H3 s3 h3=>q r H3 (sA.trans s3) h3⟩
theorem Ec(F:Fun K "_law_domain" "_law_domain" Y50 f fd) (bl:Bl K mg Y)(k_Numbers:bc CX0 P w K mg base 3 "Numbers" Y.i ["self","low","high"] (bg K Y)) (k_Words:bc CX0 P w K mg base 3 "Words" Y.j ["self","words"] (bz K Y)) (dF:Callee P w K mg base 4 "_law_word" ["cell","k"] (dE K Y)):aH P w K mg base CX0 5 f fd ["cell","points"] (fc K Y):=by
 refine F.okA Z51 λcdv A outer s H vs Q E hr h=>?_
 obtain⟨c,l,ps,rfl,el,hp,hw,q⟩:=h
 refine⟨_,(ak (aN (aE bU (ax aX (pv 0) ag) ag (aG _))
  (af (av (pA k_Words bG hr U (aa (bP (aP U bl.range_ (aa (ax bY (aq au U bl.len_ boot_len (aa (pv 1) ae)) ag) ae)) (bo (N:=["k","cell"]) (fr:=[0]) (cl:=[("cell",s.heap.objs.size+1)]) U U (by decide+kernel) (by decide+kernel) U (by decide+kernel) U U U (forall_mem_cons.mpr ⟨U,forall_mem_nil _⟩) U) U (λ_ _ _ _=>bw) (λ_ _ _ _=>(aL dF hr U (aa (pv 1) (aa (pv 0) ae))))) ae))))
  aD)
  (af (av (pA k_Numbers bG hr U (aa (az aF (pv 1) ag (λ_ _=>U)) (aa (ax bY (az aF (pv 1) (iq eR ag) (λ_ _=>U)) ag) ae)))))),?_⟩
 have h2:=hp.two;refine⟨_,U,_,_,U,U,(by show(0:Int)<3;decide),U,_,U,?_⟩;refine bV (λg=>?_) (λg=>?_)
 ·obtain⟨m,m1,m12,rfl⟩:=hw (jV g);have hl:((cA (m+1)).map V.int).length=m+1:=by rw[length_map,cg]
  have hn:((((cA (m+1)).map V.int).length:Nat):Int)-1=(m:Int):=by rw[hl];lia
  refine⟨_,U,l,_,U,.inl (SqL.of el),_,_,U,U,_,U,(by rw[hn];lia),(by rw[hn];lia),bD (λD i zs H'=>ar H H'/\H' D=some (.lst zs)/\zs=(w3s c i).map V.str) (λD hD=>⟨ai hD _,ab,U⟩) (λD i zs H' hD hi hh=>?_) (λD zs H' hD hh=>?_)⟩
  ·obtain⟨sm,eD,rfl⟩:=hh;rw[hn]at hi;refine⟨_,U,_,U,c,_,U,(by lia),(by lia),cF.mk (by rw[hn];exact hi) eD (ay (by rw[length_map,eN];lia)) ⟨sm.upd hD,ab,?_⟩⟩;rw[lM,map_append];rfl
  ·obtain⟨sm,eD,rfl⟩:=hh;rw[hn]at eD;refine λx dx hx hdx hne=>?_
   have s5:ar H' (upd (upd H' dx (.own x)) x (.ins Y.j dx [])):=(ai hdx _).upd hx;refine⟨x,dx,D,w3s c m,U,ab,s5 _ _ eD,pW m1 m12,λH6 l6 k1 k2=>⟨U,q x H6 (sm.trans λb u e=>k1 b u (bj e hx) (s5 _ _ e)) ?_⟩⟩;refine⟨Y.j,.inr U,dx,_,k2,?_,?_,U⟩
   ·rw[um m1];rfl
   ·rw[uo];show some (V.int (hiW (w3s c m)))=_;unfold hiW;rw[eN]
 ·have e0:ps[0]?=some (loP ps):=by
   unfold loP;rw[getD_eq_getElem?_getD,Fn (by lia)];rfl
  have ix0:atI (ps.map V.int) 0=some (.int (loP ps)):=aZ (j:=0) (get_map e0);have ixl:atI (ps.map V.int) (-1)=some (.int (hiP ps+1)):=by
   unfold atI;rw[gq (by rw[length_map];lia),length_map];exact get_map hp.last
  refine⟨_,U,l,_,_,_,U,U,SqL.of el,ix0,_,U,_,U,l,_,_,_,U,U,SqL.of el,ixl,_,_,U,U,λx dx hx hdx hne=>⟨x,dx,loP ps,hiP ps,?_,ab,hp.le,U,?_⟩⟩
  ·show[V.ref x,V.int (loP ps),V.int (hiP ps+1-1)]=_;rw[show hiP ps+1-1=hiP ps by lia]
  refine q x _ ?_ ⟨Y.i,.inl U,dx,_,ab,U,U,U⟩;unfold mkd;exact(((ai hdx _).upd hx).upd hx).upd hx
theorem Ed(F:Fun K "_law_outcome" "_law_outcome" Y57 f fd) (bl:Bl K mg Y)(k_Numbers:bc CX0 P w K mg base 3 "Numbers" Y.i ["self","low","high"] (bg K Y)) (k_Words:bc CX0 P w K mg base 3 "Words" Y.j ["self","words"] (bz K Y)) (dF:Callee P w K mg base 4 "_law_word" ["cell","k"] (dE K Y)):aH P w K mg base CX0 5 f fd ["cell","outs"] (dZ K Y):=by
 refine F.okA Z58 λcdv A outer s H vs Q E hr h=>?_
 obtain⟨c,l,os,rfl,el,ho,q⟩:=h
 refine⟨_,(ak (aN (aE bU (ax aX (pv 0) ag) ag (aG _))
  (af (av (pA k_Words bG hr U (aa (bP (aP U bl.range_ (aa ag ae)) (bo (N:=["k","cell"]) (fr:=[0]) (cl:=[("cell",s.heap.objs.size+1)]) U U (by decide+kernel) (by decide+kernel) U (by decide+kernel) U U U (forall_mem_cons.mpr ⟨U,forall_mem_nil _⟩) U) U (λ_ _ _ _=>bw) (λ_ _ _ _=>(aL dF hr U (aa (pv 1) (aa (pv 0) ae))))) ae))))
  aD)
  (af (av (pA k_Numbers bG hr U (aa (az aF (pv 1) ag (λ_ _=>U)) (aa (az aF (pv 1) ag (λ_ _=>U)) ae)))))),?_⟩
 obtain⟨x0,x1,x2,x3,x4,rfl,h1,h2,h3,h4,h5⟩:=ho;refine⟨_,U,_,_,U,U,(by show(0:Int)<3;decide),U,_,U,?_⟩;refine bV (λg=>?_) (λg=>?_)
 ·obtain⟨e0,e4⟩:=h5 (jV g);subst e0 e4;refine⟨_,U,(by decide),(by decide),bD (λD i zs H'=>ar H H'/\H' D=some (.lst zs)/\zs=(w3s c i).map V.str) (λD hD=>⟨ai hD _,ab,U⟩) (λD i zs H' hD hi hh=>?_) (λD zs H' hD hh=>?_)⟩
  ·obtain⟨sm,eD,rfl⟩:=hh;have hi5:i<5:=hi;refine⟨_,U,_,U,c,_,U,(by lia),(by lia),cF.mk hi eD (ay (by rw[length_map,eN];lia)) ⟨sm.upd hD,ab,?_⟩⟩;rw[lM,map_append];rfl
  ·obtain⟨sm,eD,rfl⟩:=hh;refine λx dx hx hdx hne=>?_
   have s5:ar H' (upd (upd H' dx (.own x)) x (.ins Y.j dx [])):=(ai hdx _).upd hx;refine⟨x,dx,D,w3s c 5,U,ab,s5 _ _ eD,pW (by decide) (by decide),λH6 l6 k1 k2=>⟨U,q x H6 (sm.trans λb u e=>k1 b u (bj e hx) (s5 _ _ e)) ?_ λn=>absurd (jV g) n⟩⟩;refine⟨Y.j,.inr U,dx,_,k2,U,?_,U⟩;show some (V.int (hiW (w3s c 5)))=some (.int 4);unfold hiW;rw[eN];rfl
 ·refine⟨_,U,l,_,_,_,U,U,SqL.of el,U,_,U,l,_,_,_,U,U,SqL.of el,U,λx dx hx hdx hne=>⟨x,dx,x0,x4,U,ab,by lia,U,?_⟩⟩;refine q x _ ?_ ⟨Y.i,.inl U,dx,_,ab,U,U,U⟩ λ_=>⟨dx,_,ab⟩
  unfold mkd;exact(((ai hdx _).upd hx).upd hx).upd hx
theorem Ee(F:Fun K "__init__" "Table.__init__" Y17 f fd) (bl:Bl K mg Y)(mf:Callee P w K mg base 5 "refuse_names" ["names"] (dJ K Y)) (kz:Callee P w K mg base 5 "refuse_counts" ["names","rows"] (dz K Y)) (oQ:Callee P w K mg base 5 "refuse_way" ["way","outcome"] (fb K Y)) (oR:Callee P w K mg base 5 "refuse_row" ["domains","outcome","cells","code"] (eZ K Y)) (uC:Callee P w K mg base 5 "own_row" ["cells","code"] (iR K Y)):aH P w K mg base CX0 6 f fd ["self","name","names","domains","outcome","way","rows"] (b8 K Y):=by
 refine F.okA Z17 λcdv A outer s H vs Q E hr h=>?_
 obtain⟨x,dx,na,dl,ou,rl,nm,wy,zs,dv,rx,bs,o,rws,rfl,hx,hna,hw,hnd,h1,h4,hwy,hws,hdl,hdv,hou,hrl,hR,uk,hb4,hok,q⟩:=h
 refine⟨_,(ak (aU (aL mf hr U (aa (ax kO (aW (aa (pv 1) ae)) (pv 2)) ae)))
  (ak (aU (aL kz hr U (aa (pv 2) (aa (pv 6) ae))))
  (ak (aU (aL oQ hr U (aa (pv 5) (aa (pv 4) ae))))
  (aM (aY PassesOwn.never U (aV (pv 6)) (eQ U (aK (aC (i:=7) Z17.nd U (Or.inl U)) (aK (aC (i:=8) Z17.nd U (Or.inl U)) bW)))
  (af (aU (aL oR hr U (aa (pv 3) (aa (pv 4) (aa (pv 7) (aa (pv 8) ae))))))))
  (ak (cx (pv 0) (pv 1) U)
  (ak (cx (pv 0) (bL dg U bl.list_ PyProof.Rows.boot_list (aa (pv 2) ae)) U)
  (ak (cx (pv 0) (bL dg U bl.list_ PyProof.Rows.boot_list (aa (pv 3) ae)) U)
  (ak (cx (pv 0) (pv 4) U)
  (ak (cx (pv 0) (pv 5) U)
  (af (cx (pv 0) (fg (aV (pv 6)) (fF (N:=["cells","code"]) (k:=2) U U (by decide+kernel) (by decide+kernel) (by decide+kernel)) U (λ_ _ _ _=>(kW (K:=K) (n:=2) U U (aK (aC (i:=0) (show(["cells","code"]:List Str).Nodup by decide+kernel) U (Or.inl U) (Or.inr U)) (aK (aC (i:=1) (show(["cells","code"]:List Str).Nodup by decide+kernel) U (Or.inl U) (Or.inr U)) bW)))) (λ_ _ _ _=>bw) (λ_ _ _ _=>(aL uC hr U (aa (pv 0) (aa (pv 1) ae))))) U))))))))))),?_⟩
 have hzl:(zs.map V.str).length=zs.length:=length_map _;refine⟨_,U,(by show 1<=sizeLine;decide),λl1 hl1=>?_⟩;have s1:=ai hl1 (.lst [.str nm]);have e1:upd H l1 (.lst [.str nm]) l1=some (.lst [.str nm]):=ab;generalize upd H l1 (.lst [.str nm])=H1 at s1 e1⊢;refine⟨_,U,l1,na,_,_,U,U,e1,s1 _ _ hna,(by rw[hzl];show 1+zs.length<=sizeLine;exact big (by lia)),λl2 hl2=>?_⟩;have s2:=s1.trans (ai hl2 (.lst ([V.str nm]++zs.map V.str)));have e2:upd H1 l2 (.lst ([V.str nm]++zs.map V.str)) l2=some (.lst ((nm :: zs).map V.str)):=ab;generalize upd H1 l2 (.lst ([V.str nm]++zs.map V.str))=H2 at s2 e2⊢;refine⟨l2,nm :: zs,U,SqL.of e2,hw,hnd,by rw[length_cons];lia,λH3 t3=>?_⟩;have s3:=s2.trans t3;refine⟨_,U,_,U,na,rl,_,_,U,SqL.of (s3 _ _ hna),SqL.of (s3 _ _ hrl),by rw[hzl];exact h1,by rw[hzl];exact h4,uk,?_⟩;refine⟨_,U,_,U,wy,ou,U,hwy,(λz=>let ⟨dx',fs',e'⟩:=hws z;⟨dx',fs',s3 _ _ e'⟩),λH4 t4=>?_⟩;have s4:=s3.trans t4;refine⟨λσ' H'=>ar H H'/\∃c7 c8:Option V,σ'=[some (.ref x),some (.str nm),some (.ref na),some (.ref dl),some (.ref ou),some (.str wy),some (.ref rl),c7,c8],?_,?_⟩
 ·refine⟨_,U,rl,U,⟨_,SqL.of (s4 _ _ hrl)⟩,bB (xs:=rx) (λi σ H'=>ar H H'/\∃c7 c8:Option V,σ=[some (.ref x),some (.str nm),some (.ref na),some (.ref dl),some (.ref ou),some (.str wy),some (.ref rl),c7,c8]) ⟨s4,_,_,U⟩ (λi σ H' _ h=>SqL.of (h.1 _ _ hrl)) (λi y σ H' e h=>?_) (λσ H' h=>h)⟩;obtain⟨sm,c7,c8,rfl⟩:=h;obtain⟨r,w_,rfl,ew,ce,cv,g1,_,g2,g3⟩:=aI.get (hR.same sm) e;refine⟨r,_,U,SqT.of g1,U,_,_,U,_,_,U,U,?_⟩;exact⟨_,U,_,U,_,U,_,U,dl,ou,ce,dv,cv,bs,o,w_,U,SqL.of (sm _ _ hdl),aI.mono hdv λ_ _ p=>p.same sm,hou.same sm,g2,g3,hok w_ (Fp ew),λH2 t2=>⟨sm.trans t2,_,_,U⟩⟩
 rintro σ5 H5 ⟨s5,c7,c8,rfl⟩;have x5:=s5 _ _ hx;have nax:na≠x:=dA hna hx (by intro z;cases z);have dlx:dl≠x:=dA hdl hx (by intro z;cases z);have rlx:rl≠x:=dA hrl hx (by intro z;cases z);have k5:∀b o,b≠x->H b=some o->H5 b=some o:=λb o _ e=>s5 b o e
 have R5:=RL.hide x5 (hR.same s5);refine⟨_,U,_,U,x,_,dx,_,U,x5,bl.k_Table,bl.na_Table_name,(by show 0<1000;decide),?_⟩;have k6:∀b o,b≠x->H5 b=some o->upd H5 x (.ins Y.k dx [(Str.ofString "name",.str nm)]) b=some o:=λb o hb e=>(aw hb).trans e
 have x6:upd H5 x (.ins Y.k dx [(Str.ofString "name",.str nm)]) x=some (.ins Y.k dx [(Str.ofString "name",.str nm)]):=ab;have g6:upd H5 x (.ins Y.k dx (bq (Str.ofString "name") (.str nm) []))=upd H5 x (.ins Y.k dx [(Str.ofString "name",.str nm)]):=rfl;rw[g6];clear g6;generalize upd H5 x (.ins Y.k dx [(Str.ofString "name",.str nm)])=H6 at k6 x6⊢;refine⟨_,U,na,_,U,.inl (SqL.of (k6 _ _ nax (s5 _ _ hna))),λm1 hm1=>⟨_,U,x,_,dx,_,U,cz x6 hm1,bl.k_Table,bl.na_Table_names,(by show 1<1000;decide),?_⟩⟩;have g7:upd (upd H6 m1 (.lst (zs.map V.str))) x (.ins Y.k dx (bq (Str.ofString "names") (V.ref m1) [(Str.ofString "name",V.str nm)]))=upd (upd H6 m1 (.lst (zs.map V.str))) x (.ins Y.k dx [(Str.ofString "name",V.str nm),(Str.ofString "names",V.ref m1)]):=by rw[pf1]
 rw[g7];clear g7;have k7:∀b o,b≠x->H5 b=some o->upd (upd H6 m1 (.lst (zs.map V.str))) x (.ins Y.k dx [(Str.ofString "name",V.str nm),(Str.ofString "names",V.ref m1)]) b=some o:=λb o hb e=>(aw hb).trans (cz (k6 b o hb e) hm1)
 have x7:upd (upd H6 m1 (.lst (zs.map V.str))) x (.ins Y.k dx [(Str.ofString "name",V.str nm),(Str.ofString "names",V.ref m1)]) x=some (.ins Y.k dx [(Str.ofString "name",V.str nm),(Str.ofString "names",V.ref m1)]):=ab;have m1x:m1≠x:=λz=>by rw[z,x6]at hm1;cases hm1
 have j7:upd (upd H6 m1 (.lst (zs.map V.str))) x (.ins Y.k dx [(Str.ofString "name",V.str nm),(Str.ofString "names",V.ref m1)]) m1=some (.lst (zs.map V.str)):=(aw m1x).trans ab;generalize upd (upd H6 m1 (.lst (zs.map V.str))) x (.ins Y.k dx [(Str.ofString "name",V.str nm),(Str.ofString "names",V.ref m1)])=H7 at k7 x7 j7⊢;refine⟨_,U,dl,_,U,.inl (SqL.of (k7 _ _ dlx (s5 _ _ hdl))),λm2 hm2=>⟨_,U,x,_,dx,_,U,cz x7 hm2,bl.k_Table,bl.na_Table_domains,(by show 2<1000;decide),?_⟩⟩;have g8:upd (upd H7 m2 (.lst dv)) x (.ins Y.k dx (bq (Str.ofString "domains") (V.ref m2) [(Str.ofString "name",V.str nm),(Str.ofString "names",V.ref m1)]))=upd (upd H7 m2 (.lst dv)) x (.ins Y.k dx [(Str.ofString "name",V.str nm),(Str.ofString "names",V.ref m1),(Str.ofString "domains",V.ref m2)]):=by rw[pf2]
 rw[g8];clear g8;have k8:∀b o,b≠x->H5 b=some o->upd (upd H7 m2 (.lst dv)) x (.ins Y.k dx [(Str.ofString "name",V.str nm),(Str.ofString "names",V.ref m1),(Str.ofString "domains",V.ref m2)]) b=some o:=λb o hb e=>(aw hb).trans (cz (k7 b o hb e) hm2)
 have x8:upd (upd H7 m2 (.lst dv)) x (.ins Y.k dx [(Str.ofString "name",V.str nm),(Str.ofString "names",V.ref m1),(Str.ofString "domains",V.ref m2)]) x=some (.ins Y.k dx [(Str.ofString "name",V.str nm),(Str.ofString "names",V.ref m1),(Str.ofString "domains",V.ref m2)]):=ab;have m2x:m2≠x:=λz=>by rw[z,x7]at hm2;cases hm2
 have j8:upd (upd H7 m2 (.lst dv)) x (.ins Y.k dx [(Str.ofString "name",V.str nm),(Str.ofString "names",V.ref m1),(Str.ofString "domains",V.ref m2)]) m1=some (.lst (zs.map V.str)):=(aw m1x).trans (cz j7 hm2);have i8:upd (upd H7 m2 (.lst dv)) x (.ins Y.k dx [(Str.ofString "name",V.str nm),(Str.ofString "names",V.ref m1),(Str.ofString "domains",V.ref m2)]) m2=some (.lst dv):=(aw m2x).trans ab;generalize upd (upd H7 m2 (.lst dv)) x (.ins Y.k dx [(Str.ofString "name",V.str nm),(Str.ofString "names",V.ref m1),(Str.ofString "domains",V.ref m2)])=H8 at k8 x8 j8 i8⊢;refine⟨_,U,_,U,x,_,dx,_,U,x8,bl.k_Table,bl.na_Table_outcome,(by show 3<1000;decide),?_⟩;have g9:upd H8 x (.ins Y.k dx (bq (Str.ofString "outcome") (V.ref ou) [(Str.ofString "name",V.str nm),(Str.ofString "names",V.ref m1),(Str.ofString "domains",V.ref m2)]))=upd H8 x (.ins Y.k dx [(Str.ofString "name",V.str nm),(Str.ofString "names",V.ref m1),(Str.ofString "domains",V.ref m2),(Str.ofString "outcome",V.ref ou)]):=by rw[pf3]
 rw[g9];clear g9;have k9:∀b o,b≠x->H5 b=some o->upd H8 x (.ins Y.k dx [(Str.ofString "name",V.str nm),(Str.ofString "names",V.ref m1),(Str.ofString "domains",V.ref m2),(Str.ofString "outcome",V.ref ou)]) b=some o:=λb o hb e=>(aw hb).trans (k8 b o hb e)
 have x9:upd H8 x (.ins Y.k dx [(Str.ofString "name",V.str nm),(Str.ofString "names",V.ref m1),(Str.ofString "domains",V.ref m2),(Str.ofString "outcome",V.ref ou)]) x=some (.ins Y.k dx [(Str.ofString "name",V.str nm),(Str.ofString "names",V.ref m1),(Str.ofString "domains",V.ref m2),(Str.ofString "outcome",V.ref ou)]):=ab;have j9:upd H8 x (.ins Y.k dx [(Str.ofString "name",V.str nm),(Str.ofString "names",V.ref m1),(Str.ofString "domains",V.ref m2),(Str.ofString "outcome",V.ref ou)]) m1=some (.lst (zs.map V.str)):=(aw m1x).trans j8;have i9:upd H8 x (.ins Y.k dx [(Str.ofString "name",V.str nm),(Str.ofString "names",V.ref m1),(Str.ofString "domains",V.ref m2),(Str.ofString "outcome",V.ref ou)]) m2=some (.lst dv):=(aw m2x).trans i8;generalize upd H8 x (.ins Y.k dx [(Str.ofString "name",V.str nm),(Str.ofString "names",V.ref m1),(Str.ofString "domains",V.ref m2),(Str.ofString "outcome",V.ref ou)])=H9 at k9 x9 j9 i9⊢;refine⟨_,U,_,U,x,_,dx,_,U,x9,bl.k_Table,bl.na_Table_way,(by show 4<1000;decide),?_⟩;have g10:upd H9 x (.ins Y.k dx (bq (Str.ofString "way") (V.str wy) [(Str.ofString "name",V.str nm),(Str.ofString "names",V.ref m1),(Str.ofString "domains",V.ref m2),(Str.ofString "outcome",V.ref ou)]))=upd H9 x (.ins Y.k dx [(Str.ofString "name",V.str nm),(Str.ofString "names",V.ref m1),(Str.ofString "domains",V.ref m2),(Str.ofString "outcome",V.ref ou),(Str.ofString "way",V.str wy)]):=by rw[pf4]
 rw[g10];clear g10;have k10:∀b o,b≠x->H5 b=some o->upd H9 x (.ins Y.k dx [(Str.ofString "name",V.str nm),(Str.ofString "names",V.ref m1),(Str.ofString "domains",V.ref m2),(Str.ofString "outcome",V.ref ou),(Str.ofString "way",V.str wy)]) b=some o:=λb o hb e=>(aw hb).trans (k9 b o hb e)
 have x10:upd H9 x (.ins Y.k dx [(Str.ofString "name",V.str nm),(Str.ofString "names",V.ref m1),(Str.ofString "domains",V.ref m2),(Str.ofString "outcome",V.ref ou),(Str.ofString "way",V.str wy)]) x=some (.ins Y.k dx [(Str.ofString "name",V.str nm),(Str.ofString "names",V.ref m1),(Str.ofString "domains",V.ref m2),(Str.ofString "outcome",V.ref ou),(Str.ofString "way",V.str wy)]):=ab;have j10:upd H9 x (.ins Y.k dx [(Str.ofString "name",V.str nm),(Str.ofString "names",V.ref m1),(Str.ofString "domains",V.ref m2),(Str.ofString "outcome",V.ref ou),(Str.ofString "way",V.str wy)]) m1=some (.lst (zs.map V.str)):=(aw m1x).trans j9;have i10:upd H9 x (.ins Y.k dx [(Str.ofString "name",V.str nm),(Str.ofString "names",V.ref m1),(Str.ofString "domains",V.ref m2),(Str.ofString "outcome",V.ref ou),(Str.ofString "way",V.str wy)]) m2=some (.lst dv):=(aw m2x).trans i9;generalize upd H9 x (.ins Y.k dx [(Str.ofString "name",V.str nm),(Str.ofString "names",V.ref m1),(Str.ofString "domains",V.ref m2),(Str.ofString "outcome",V.ref ou),(Str.ofString "way",V.str wy)])=H10 at k10 x10 j10 i10⊢;have R10:RL NT H10 rx rws:=RL.same R5 (hide_same k10);have yN:=k10 _ _ rlx (s5 _ _ hrl)
 refine⟨_,U,rl,U,⟨_,SqL.of yN⟩,fG (xs:=rx) (λD i zs H'=>ar H10 H'/\H' D=some (.lst zs)/\RL (Fr H10 D) H' zs (rws.take i))
  (λD hD=>⟨ai hD _,ab,aI.nil⟩) (λD i zs H' hD _ h=>SqL.of (h.1 _ _ yN)) (λD i y zs H' hD e h ts hts=>?_) (λD zs H' hD h=>?_)⟩
 ·obtain⟨sm,eD,hz⟩:=h;obtain⟨r,w_,rfl,ew,ce,cv,g1,_,g2,g3⟩:=aI.get (R10.same sm) e;have hi:i<rx.length:=(Fo.mp e).1;obtain⟨t0,t1,rfl⟩:∃t0 t1,ts=[t0,t1]:=by
   match ts,hts with
   | [t0,t1],_=>exact⟨t0,t1,U⟩
  refine⟨r,_,U,SqT.of g1,U,_,_,U,_,_,U,U,⟨[some (.ref ce),some (.int w_.2)],U,U⟩,?_⟩;refine⟨_,U,_,U,ce,cv,w_,U,g2,g3,by rw[(hok w_ (Fp ew)).len];lia,λr2 H2 t2 hr2 j4=>?_⟩;have eD2:=t2 _ _ eD;have hlz:zs.length<=200:=by
   have:=hz.1;rw[length_take]at this;lia
  refine cF.mk hi eD2 (ay (by lia)) ⟨(sm.trans t2).upd hD,ab,?_⟩;rw[take_snoc ew];exact RL.updN (aI.snoc (hz.same t2) (j4.wk λa h=>⟨sm.free h,λz=>by rw[z,eD]at h;cases h⟩)) Fr.out eD2
 ·obtain⟨sm,eD,hz⟩:=h;rw[hR.1,take_length]at hz;refine⟨_,U,x,_,dx,_,U,sm _ _ x10,bl.k_Table,bl.na_Table_rows,(by show 5<1000;decide),?_⟩;have g11:upd H' x (.ins Y.k dx (bq (Str.ofString "rows") (V.ref D) [(Str.ofString "name",V.str nm),(Str.ofString "names",V.ref m1),(Str.ofString "domains",V.ref m2),(Str.ofString "outcome",V.ref ou),(Str.ofString "way",V.str wy)]))=upd H' x (.ins Y.k dx [(Str.ofString "name",V.str nm),(Str.ofString "names",V.ref m1),(Str.ofString "domains",V.ref m2),(Str.ofString "outcome",V.ref ou),(Str.ofString "way",V.str wy),(Str.ofString "rows",V.ref D)]):=by rw[pf5]
  rw[g11];have nDx:D≠x:=λz=>by rw[z,x10]at hD;cases hD
  have Br:∀a,H10 a=none->H a=none:=λa ha=>by
   cases hh:H a with
   |none=>rfl
   |some o =>
    have nx:a≠x:=λz=>by rw[z,x10]at ha;cases ha
    rw[k10 a o nx (s5 _ _ hh)]at ha;cases ha
  have fm1:H m1=none:=by
   cases hh:H m1 with
   |none=>rfl
   |some o=>rw[k6 m1 o m1x (s5 _ _ hh)]at hm1;cases hm1
  have fm2:H m2=none:=by
   cases hh:H m2 with
   |none=>rfl
   |some o=>rw[k7 m2 o m2x (s5 _ _ hh)]at hm2;cases hm2
  refine q _ _ D zs (λb o hb e=>(aw hb).trans (sm _ _ (k10 b o hb (s5 _ _ e)))) ab U U U U ⟨m1,m2,U,U,(aw m1x).trans (sm _ _ j10),(aw m2x).trans (sm _ _ i10),fm1,fm2⟩ (Br D hD) ((aw nDx).trans eD) ?_;exact RL.same (RL.hideN (sm _ _ x10) (aI.mono hz λr w h=>h.wk λa ha=>Br a ha.1)) (hide_same λb o hb e=>(aw hb).trans e)
theorem Ef{k n:Nat}(F:Fun K "boxes" "boxes" Y32 f fd) (bl:Bl K mg Y)(oS:Callee P w K mg base k "boxes" ["form","deep"] (gA K Y n)):aH P w K mg base CX0 (k+1) f fd ["form","deep"] (gA K Y (n+1)):=by
 refine F.okA Z32 λcdv A outer s H vs Q E hr h=>?_
 obtain⟨d,f_,v,rfl,hf,hn,hlen,h6,q⟩:=h
 refine⟨_,(ak (aN (aE bU (pv 1) ag (aG _))
  (af (av (aW (aa (bh (aa (bh ae) (aa (pv 0) ae))) ae))))
  aD)
  (ak (aJ (i:=2) Z32.nd U (Or.inl U) (aW ae))
  (ak (aY PassesOwn.never U (qH (pv 0)) (eQ U (aK (aC (i:=3) Z32.nd U (Or.inl U)) (aK (aC (i:=4) Z32.nd U (Or.inl U)) (aK (aC (i:=5) Z32.nd U (Or.inl U)) bW))))
  (af (aY PassesOwn.never U (aV (aL oS hr U (aa (pv 5) (aa (ax bY (pv 1) ag) ae)))) (eQ U (aK (aC (i:=6) Z32.nd U (Or.inl U)) (aK (aC (i:=7) Z32.nd U (Or.inl U)) bW)))
  (af (aU (dP PySem.F.plainAttrs_list PySem.F.slot_list_append PySem.F.type_list_append bp (pv 2) (aa (bh (aa (ax vp (bh (aa (bh (aa (pv 3) (aa (pv 4) ae))) ae)) (pv 6)) (aa (pv 7) ae))) ae)))))))
  (af (av (pv 2)))))),?_⟩
 cases d with
 |zero =>
  have hf:v=.int f_:=hf;subst hf;refine⟨_,U,U,_,U,fW U ?_⟩;refine⟨(by show 0<=sizeLine;decide),λb hb=>?_⟩;have s1:=ai hb (.tup []);have e1:upd H b (.tup []) b=some (.tup []):=ab;generalize upd H b (.tup [])=H1 at s1 e1⊢;refine⟨_,U,bu,λt ht=>?_⟩;have s2:=ai ht (.tup [.ref b,.int f_]);have e2:upd H1 t (.tup [.ref b,.int f_]) t=some (.tup [.ref b,.int f_]):=ab;generalize upd H1 t (.tup [.ref b,.int f_])=H2 at s2 e2⊢;refine⟨(by show 1<=sizeLine;decide),λl hl=>?_⟩;have s3:=ai hl (.lst [V.ref t]);have s:=(s1.trans s2).trans s3;exact q l _ _ s ((s1.trans s2).free hl) ab (.cons ⟨t,b,U,s3 _ _ e2,⟨[],s3 _ _ (s2 _ _ e1),.nil⟩⟩ .nil)
 |succ d =>
  obtain⟨r,xs,rfl,er,hp⟩:=hf;obtain⟨L,hL⟩:∃L:List (T3a (Fm Int d)),L=f_:=⟨f_,U⟩;have hp:FmL (FmV mJ H d) H L xs:=by rw[hL];exact hp
  have hlen:(bxs (d+1) (show Fm Int (d+1)from L)).length<=2000:=by rw[hL];exact hlen
  have h6:∀q∈bxs (d+1) (show Fm Int (d+1)from L),q.1.length<=6:=by rw[hL];exact h6
  have q:∀(l:Addr)(xs:List V)(H':Hp),ar H H'->H l=none->H' l=some (.lst xs)->BxL H' xs (bxs (d+1) (show Fm Int (d+1)from L))->Q (.ref l) H':=by rw[hL];exact q
  have hxl:xs.length=L.length:=hp.1;refine⟨_,U,U,_,U,ck (λz=>by have:=V.int.inj z;lia) ?_⟩;refine⟨(by show 0<=sizeLine;decide),λl hl=>?_⟩;have s0:ar H (upd H l (.lst [])):=ai hl _;have e0:upd H l (.lst []) l=some (.lst []):=ab;generalize upd H l (.lst [])=H0 at s0 e0⊢;refine⟨_,U,r,U,⟨_,SqT.of (s0 _ _ er)⟩,sh (xs:=xs) (λi σ H'=>ar H H'/\∃(ys:List V)(c3 c4 c5 c6 c7:Option V),H' l=some (.lst ys)/\BxL H' ys (bxs (d+1) (show Fm Int (d+1)from L.take i))/\σ=[some (.ref r),some (.int ((d+1:Nat):Int)),some (.ref l),c3,c4,c5,c6,c7]) ⟨s0,[],_,_,_,_,_,e0,.nil,U⟩ (λi σ H' _ h=>SqT.of (h.1 _ _ er)) (λi x σ H' ex hh=>?_) (λσ H' hh=>?_)⟩
  ·obtain⟨sm,ys,c3,c4,c5,c6,c7,el,hy,rfl⟩:=hh;obtain⟨e,ee⟩:∃e,L[i]?=some e:=⟨_,Fn (by have:=(Fo.mp ex).1;lia)⟩;obtain⟨t,u,ex',et,hu⟩:=hp.2 i e ee;rw[ex]at ex';cases ex';have es:bxs (d+1) (show Fm Int (d+1)from L.take (i+1))=bxs (d+1) (show Fm Int (d+1)from L.take i)++((bxs d e.2.2).map λq=>((e.1,e.2.1) :: q.1,q.2)):=by
    rw[take_snoc ee,oK,sU]
   have pH:∀q∈(bxs d e.2.2).map (λq=>((e.1,e.2.1) :: q.1,q.2)),q∈bxs (d+1) (show Fm Int (d+1)from L):=λq hq=>mem_flatMap.mpr ⟨e,Fp ee,hq⟩
   have hl1:(bxs (d+1) (show Fm Int (d+1)from L.take i)).length+(bxs d e.2.2).length<=2000:=by
    have e3:bxs (d+1) (show Fm Int (d+1)from L)=bxs (d+1) (show Fm Int (d+1)from L.take (i+1))++bxs (d+1) (show Fm Int (d+1)from L.drop (i+1)):=by rw[←oK,List.take_append_drop]
    have:=congrArg List.length e3;rw[es,length_append,length_append,length_map]at this;lia
   have h6':∀q∈bxs d e.2.2,q.1.length<=6:=λq hq=>by
    have:=h6 _ (pH _ (mem_map.mpr ⟨q,hq,U⟩));have:q.1.length+1<=6:=this;lia
   have h5':∀q∈bxs d e.2.2,q.1.length<=5:=λq hq=>by
    have:=h6 _ (pH _ (mem_map.mpr ⟨q,hq,U⟩));have:q.1.length+1<=6:=this;lia
   refine⟨t,_,U,SqT.of (sm _ _ et),U,_,_,U,_,_,U,_,_,U,U,?_⟩;refine⟨_,U,_,U,_,_,U,U,d,e.2.2,u,(by show[u,V.int (((d+1:Nat):Int)-1)]=[u,V.int (d:Int)];rw[show((d+1:Nat):Int)-1=(d:Int) by lia]),FmV.mono sm.tups hu,by lia,by lia,h6',λl2 zs H2 s2 f2 e2 hz=>?_⟩;have el2:=s2 _ _ el;have nl:l≠l2:=λz=>by rw[←z,el]at f2;cases f2
   refine⟨l2,U,⟨_,SqL.of e2⟩,bB (xs:=zs) (λk σ H3=>ar H H3/\cj H2 H3/\H3 l2=some (.lst zs)/\∃(ys:List V)(c6 c7:Option V),H3 l=some (.lst ys)/\BxL H3 ys (bxs (d+1) (show Fm Int (d+1)from L.take i)++((bxs d e.2.2).take k).map λq=>((e.1,e.2.1) :: q.1,q.2))/\σ=[some (.ref r),some (.int ((d+1:Nat):Int)),some (.ref l),some (.int e.1),some (.int e.2.1),some u,c6,c7]) ⟨sm.trans s2,(λ_ _ h=>h),e2,ys,_,_,el2,by rw[List.take_zero,map_nil,append_nil];exact hy.mono s2.tups,U⟩ (λk σ H3 _ h=>SqL.of h.2.2.1) (λk x σ H3 ex2 hh=>?_) (λσ H3 hh=>?_)⟩
   ·obtain⟨sm3,st3,el3,ys3,c6,c7,ey3,hy3,rfl⟩:=hh;obtain⟨q2,eq2,t2,b2,rfl,et2,hb2⟩:=dW (hz.mono st3) ex2;have hk:k<(bxs d e.2.2).length:=(Fo.mp eq2).1;have hq3:=h5' q2 (Fp eq2);refine⟨t2,_,U,SqT.of et2,U,_,_,U,_,_,U,U,?_⟩;refine⟨_,U,.inl ⟨U,_,SqL.of ey3⟩,_,U,_,U,bu,λp hp_=>?_⟩;have u1:=ai hp_ (.tup [.int e.1,.int e.2.1]);have g1:upd H3 p (.tup [.int e.1,.int e.2.1]) p=some (.tup [.int e.1,.int e.2.1]):=ab;generalize upd H3 p (.tup [.int e.1,.int e.2.1])=H4 at u1 g1⊢;refine⟨(by show 1<=sizeLine;decide),λp2 hp2=>?_⟩;have u2:=ai hp2 (.tup [V.ref p]);have g2:upd H4 p2 (.tup [V.ref p]) p2=some (.tup [V.ref p]):=ab;generalize upd H4 p2 (.tup [V.ref p])=H5 at u2 g2⊢;obtain⟨bs,ebs,hbs⟩:=hb2;have u12:=u1.trans u2;refine⟨_,U,wb g2 (u12 _ _ ebs) (le_of_lt (ay (by rw[hbs.length,length_singleton];lia))) λp3 H6 u3 g3=>?_⟩;have u13:=u12.trans u3;refine⟨_,U,bu,λtt_ htt=>?_⟩;have u4:=ai htt (.tup [.ref p3,.int q2.2]);have g4:upd H6 tt_ (.tup [.ref p3,.int q2.2]) tt_=some (.tup [.ref p3,.int q2.2]):=ab;generalize upd H6 tt_ (.tup [.ref p3,.int q2.2])=H7 at u4 g4⊢;have u14:=u13.trans u4;have ey7:=u14 _ _ ey3;refine⟨l,_,_,U,U,ey7,ur (by rw[hy3.length,length_append,length_map,length_take];lia),?_⟩;have st7:cj H7 (upd H7 l (.lst (ys3++[.ref tt_]))):=aO ey7;refine⟨(sm3.trans u14).upd hl,(st3.trans u14.tups).trans st7,(aw nl.symm).trans (u14 _ _ el3),ys3++[.ref tt_],_,_,ab,?_,U⟩;rw[take_snoc eq2,map_append,←append_assoc];refine lO (hy3.mono (u14.tups.trans st7)) (.cons ⟨tt_,p3,U,st7 _ _ g4,⟨_,st7 _ _ (u4 _ _ g3),?_⟩⟩ .nil);have pl1:PL H7 [V.ref p] [(e.1,e.2.1)]:=.cons ⟨p,U,u4 _ _ (u3 _ _ (u2 _ _ g1))⟩ .nil;exact(PL.app pl1 (hbs.mono u14.tups)).mono st7
   ·obtain⟨sm3,st3,el3,ys3,c6,c7,ey3,hy3,rfl⟩:=hh;rw[hz.length,take_length]at hy3;exact⟨sm3,ys3,_,_,_,_,_,ey3,by rw[es];exact hy3,U⟩
  ·obtain⟨sm,ys,c3,c4,c5,c6,c7,el,hy,rfl⟩:=hh;rw[hxl,take_length]at hy;exact⟨_,U,q l ys H' sm hl el hy⟩
theorem Eg(F:Fun K "boxes_with_leaf" "boxes_with_leaf" Y33 f fd) (bl:Bl K mg Y)(oS:Callee P w K mg base 7 "boxes" ["form","deep"] (gA K Y 7)):aH P w K mg base CX0 8 f fd ["form","deep"] (cX K Y):=by
 refine F.okA Z33 λcdv A outer s H vs Q E hr h=>?_
 obtain⟨d,F_,v,rfl,hF,hd,xY,h6,q⟩:=h;refine⟨_,(af (av (fg (aV (aL oS hr U (aa (pv 0) (aa (pv 1) ae)))) (fF (N:=["box","leaf"]) (k:=2) U U (by decide+kernel) (by decide+kernel) (by decide+kernel)) U (λ_ _ _ _=>(kW (K:=K) (n:=2) U U (aK (aC (i:=0) (show(["box","leaf"]:List Str).Nodup by decide+kernel) U (Or.inl U) (Or.inr U)) (aK (aC (i:=1) (show(["box","leaf"]:List Str).Nodup by decide+kernel) U (Or.inl U) (Or.inr U)) bW)))) (λ_ _ _ _=>(gM (aE kf (pv 1) (km U bl.NOTHING_) (aG _)))) (λ_ _ _ _=>(bh (aa (pv 0) (aa (pv 1) ae))))))),?_⟩;refine⟨_,U,_,U,d,F_,v,U,hF,by lia,by lia,h6,λl xs H1 s1 nl el hB=>?_⟩;have hxl:xs.length=(bxs d F_).length:=Paired.length hB;generalize hBX:bxs d F_=BX at hB xY hxl q;refine⟨l,U,⟨_,SqL.of el⟩,fG (xs:=xs) (λD j zs H'=>ar H1 H'/\H' D=some (.lst zs)/\BxL H' zs (eO (BX.take j))) (λD hD=>⟨ai hD _,ab,.nil⟩) (λD j zs H' hD _ hh=>SqL.of (hh.1 _ _ el)) (λD j y zs H' hD e hh ts hts=>?_) (λD zs H' hD hh=>?_)⟩
 ·obtain⟨sm,eD,hz⟩:=hh;obtain⟨qx,tx,bx,eq,rfl,g1,g2⟩:=hB.get e;have hj:j<xs.length:=(Fo.mp e).1;obtain⟨t0,t1,rfl⟩:∃t0 t1,ts=[t0,t1]:=by
   match ts,hts with
   | [t0,t1],_=>exact⟨t0,t1,U⟩
  have hzl:=hz.length;have Fd:(eO (BX.take j)).length<=300:=le_trans (length_filter_le _ _) (by rw[length_take];lia);have hts:eO (BX.take (j+1))=eO (BX.take j)++if qx.2=0 then[] else[qx]:=by
   unfold eO;rw[take_snoc eq,filter_append];by_cases h:qx.2=0
   ·rw[if_pos h,filter_cons_of_neg (by simpa using h)];rfl
   ·rw[if_neg h,filter_cons_of_pos (by simpa using h)];rfl
  refine⟨tx,_,U,SqT.of (sm _ _ g1),U,_,_,U,_,_,U,U,⟨[some (.ref bx),some (.int qx.2)],U,U⟩,?_⟩;refine⟨_,U,U,_,U,?_⟩;refine bV (λg=>?_) (λg=>?_)
  ·have h0:qx.2≠0:=λz=>by rw[z]at g;exact absurd g (by decide)
   refine⟨_,U,_,U,bu,λtt_ htt=>?_⟩;have s3:=ai htt (.tup [.ref bx,.int qx.2]);have eT:upd H' tt_ (.tup [.ref bx,.int qx.2]) tt_=some (.tup [.ref bx,.int qx.2]):=ab;have eD3:=s3 _ _ eD;have hz3:=hz.mono s3.tups;have g23:=(g2.mono sm.tups).mono s3.tups;generalize upd H' tt_ (.tup [.ref bx,.int qx.2])=H3 at s3 eT eD3 hz3 g23⊢;refine cF.mk hj eD3 (ay (by lia)) ⟨(sm.trans s3).upd hD,ab,?_⟩;rw[hts,if_neg h0];exact lO (hz3.mono (aO eD3)) (.cons ⟨tt_,bx,U,aO eD3 _ _ eT,g23.mono (aO eD3)⟩ .nil)
  ·have h0:qx.2=0:=by
    by_cases z:qx.2=0
    ·exact z
    ·exact absurd (show(!decide (V.int qx.2=V.int 0))=true by rw[decide_eq_false (λe=>z (V.int.inj e))];rfl) g
   refine dC.mk hj ⟨sm,eD,?_⟩;rw[hts,if_pos h0,append_nil];exact hz
 ·obtain⟨sm,eD,hz⟩:=hh;rw[hxl,take_length]at hz;exact q D zs H' (s1.trans sm) (s1.free hD) eD hz
theorem Eh(F:Fun K "_law_table" "_law_table" Y64 f fd) (bl:Bl K mg Y)(bQ:Callee P w K mg base 7 "_law_cell" ["script","k"] (dD K Y)) (rQ:Callee P w K mg base 7 "_law_way" ["cell","words"] (iS K Y)) (k_Table:bc CX0 P w K mg base 6 "Table" Y.k ["self","name","names","domains","outcome","way","rows"] (b8 K Y)) (mR:Callee P w K mg base 7 "_law_domain" ["cell","points"] (fc K Y)) (dF:Callee P w K mg base 7 "_law_word" ["cell","k"] (dE K Y)) (mh:Callee P w K mg base 7 "_law_outcome" ["cell","outs"] (dZ K Y)) (oU:Callee P w K mg base 7 "_law_spans" ["points","bits"] (fP K Y)):aH P w K mg base CX0 8 f fd ["script","points","outs","rows"] (fR K Y):=by
 refine F.okA Z65 λcdv A outer s H vs Q E hr h=>?_
 obtain⟨a,pl,ol,rl,ns,xs,pss,os,rx,bms,rfl,hS,epl,hpl,hg,hp1,hp4,eol,hos,erl,hrl,h60,hbm,q⟩:=h
 refine⟨_,(aM (sD (i:=4) Z65.nd U (Or.inl U) (aP U bl.range_ (aa (aq au U bl.len_ boot_len (aa (pv 1) ae)) ae)) (bo (N:=["k","script","points"]) (fr:=[0,1]) (cl:=[("script",s.heap.objs.size+1),("points",s.heap.objs.size+1+1)]) U U (by decide+kernel) (by decide+kernel) U (by decide+kernel) U U U (forall_mem_cons.mpr ⟨U,forall_mem_cons.mpr ⟨U,forall_mem_nil _⟩⟩) U) U (λ_ _ _ _=>bw) (λ_ _ _ _=>(aL mR hr U (aa (aL bQ hr U (aa (pv 1) (aa (ax cc ag (pv 0)) ae))) (aa (az (b7 (K:=K) U) (pv 2) (pv 0) (λ_ _=>U)) ae)))))
  (aM (sD (i:=5) Z65.nd U (Or.inl U) (aP U bl.range_ (aa ag ae)) (bo (N:=["k","script"]) (fr:=[0]) (cl:=[("script",s.heap.objs.size+1)]) U U (by decide+kernel) (by decide+kernel) U (by decide+kernel) U U U (forall_mem_cons.mpr ⟨U,forall_mem_nil _⟩) U) U (λ_ _ _ _=>bw) (λ_ _ _ _=>(aL dF hr U (aa (ax cq (aL bQ hr U (aa (pv 1) (aa ag ae))) ag) (aa (pv 0) ae)))))
  (ak (aJ (i:=6) Z65.nd U (Or.inl U) (aL bQ hr U (aa (pv 0) (aa ag ae))))
  (ak (aJ (i:=7) Z65.nd U (Or.inl U) (aW ae))
  (aM (aY PassesOwn.never U (aV (pv 3)) (aC (i:=8) Z65.nd U (Or.inr U))
  (af (aU (dP PySem.F.plainAttrs_list PySem.F.slot_list_append PySem.F.type_list_append bp (pv 7) (aa (bh (aa (bP (aP U bl.range_ (aa (aq au U bl.len_ boot_len (aa (pv 1) ae)) ae)) (bo (N:=["k","points","row"]) (fr:=[1,8]) (cl:=[("row",s.heap.objs.size+1+1+1),("points",s.heap.objs.size+1+1)]) U U (by decide+kernel) (by decide+kernel) U (by decide+kernel) U U U (forall_mem_cons.mpr ⟨U,forall_mem_cons.mpr ⟨U,forall_mem_nil _⟩⟩) U) U (λ_ _ _ _=>bw) (λ_ _ _ _=>(aL oU hr U (aa (az (b7 (K:=K) U) (pv 1) (pv 0) (λ_ _=>U)) (aa (az (b7 (K:=K) U) (az (jv (K:=K) U) (pv 2) ag (λ_ _=>U)) (pv 0) (λ_ _=>U)) ae))))) (aa (az aR (pv 8) ag (λ_ _=>U)) ae))) ae)))))
  (aM (aJ (i:=9) Z65.nd U (Or.inl U) (aL rQ hr U (aa (aL bQ hr U (aa (pv 0) (aa ag ae))) (aa (kB bU (ax aX (pv 6) ag) ag (aG _)) ae))))
  (af (av (pA k_Table bG hr U (aa (az aF (pv 5) ag (λ_ _=>U)) (aa (gg oq (pv 5) kD (gK (aq au U bl.len_ boot_len (aa (pv 1) ae)))) (aa (pv 4) (aa (aL mh hr U (aa (pv 6) (aa (pv 2) ae))) (aa (pv 9) (aa (pv 7) ae))))))))))))))),?_⟩
 have hxl:xs.length=pss.length:=hpl.1;obtain⟨bs,hbs⟩:∃bs,bs=pss.map λps=>(loP ps,hiP ps):=⟨_,U⟩
 have hbl:bs.length=pss.length:=by rw[hbs];simp
 refine⟨λσ' H'=>ar H H'/\∃(dl:Addr)(dv:List V),H' dl=some (.lst dv)/\aI dv bs (Dom Y.i Y.j H')/\σ'=[some (.ref a),some (.ref pl),some (.ref ol),some (.ref rl),some (.ref dl),none,none,none,none,none],?_,?_⟩
 ·refine⟨_,U,pl,_,U,.inl (SqL.of epl),_,U,(by show -(2^62)<=((xs.length:Nat):Int);lia),(by show((xs.length:Nat):Int)<2^62;lia),bD (λD i zs H'=>ar H H'/\H' D=some (.lst zs)/\aI zs (bs.take i) (Dom Y.i Y.j H')) (λD hD=>⟨ai hD _,ab,aI.nil⟩) (λD i zs H' hD hi hh=>?_) (λD zs H' hD hh=>?_)⟩
  ·obtain⟨sm,eD,hz⟩:=hh;have hi2:i<pss.length:=by lia
   obtain⟨ps,eps⟩:∃ps,pss[i]?=some ps:=⟨_,Fn hi2⟩;obtain⟨r,er,hr_⟩:=hpl.2 i ps eps;have eb:bs[i]?=some (loP ps,hiP ps):=by rw[hbs,getElem?_map,eps];rfl
   refine⟨_,U,_,U,_,_,U,U,a,ns,_,U,sm.seq hS,(by show 0<=1+(0+(i:Int));lia),_,U,_,U,pl,_,_,_,U,U,SqL.of (sm _ _ epl),mL er,_,r,ps,U,sm _ _ hr_,hg.pts ps (Fp eps),hg.wrd i ps eps,λd H2 s2_ hd=>?_⟩;have eD2:=s2_ _ _ eD;have hlz:zs.length<=4:=by have:=hz.1;rw[length_take]at this;lia
   refine cF.mk hi eD2 (ay (by lia)) ⟨(sm.trans s2_).upd hD,ab,?_⟩;rw[take_snoc eb];exact aI.mono (aI.snoc (aI.mono hz λ_ _ p=>p.same s2_) hd) λ_ _ p=>p.upd eD2
  ·obtain⟨sm,eD,hz⟩:=hh;rw[toNat_natCast,hxl,←hbl,take_length]at hz;exact⟨sm,D,zs,eD,hz,U⟩
 rintro σ1 H1 ⟨s1,dl,dv,edl,hdl,rfl⟩;obtain⟨c0,hc0⟩:∃c0,c0=di ns 0 / 4:=⟨_,U⟩;refine⟨λσ' H'=>ar H1 H'/\∃na:Addr,H' na=some (.lst ((w3s c0 5).map V.str))/\σ'=[some (.ref a),some (.ref pl),some (.ref ol),some (.ref rl),some (.ref dl),some (.ref na),none,none,none,none],?_,?_⟩
 ·refine⟨_,U,(by decide),(by decide),bD (λD i zs H'=>ar H1 H'/\H' D=some (.lst zs)/\zs=(w3s c0 i).map V.str) (λD hD=>⟨ai hD _,ab,U⟩) (λD i zs H' hD hi hh=>?_) (λD zs H' hD hh=>?_)⟩
  ·obtain⟨sm,eD,rfl⟩:=hh;have hi5:i<5:=hi;refine⟨_,U,a,ns,0,U,(s1.trans sm).seq hS,Int.le_refl _,_,_,U,U,⟨by decide,by decide⟩,_,U,_,_,U,(by lia),(by lia),?_⟩;rw[←hc0];refine cF.mk hi eD (ay (by rw[length_map,eN];lia)) ⟨sm.upd hD,ab,?_⟩;rw[lM,map_append];rfl
  ·obtain⟨sm,eD,rfl⟩:=hh;exact⟨sm,D,eD,U⟩
 rintro σ2 H2 ⟨s2_,na,ena,rfl⟩;have s02:=s1.trans s2_;refine⟨_,U,a,ns,5,U,s02.seq hS,by decide,?_⟩;refine⟨(by show 0<=sizeLine;decide),λmd hmd=>?_⟩;have u3:=ai hmd (.lst []);have emd:upd H2 md (.lst []) md=some (.lst []):=ab;generalize upd H2 md (.lst [])=H3 at u3 emd⊢;have s03:=s02.trans u3;refine⟨λσ' H'=>ar H2 H'/\∃(mx:List V)(rws:List Rw)(c8:Option V),H' md=some (.lst mx)/\RL NT H' mx rws/\rws.length=bms.length/\(∀w∈rws,nK bs (o0 os,o4 os) w)/\(∀(k:Nat)(b:List Int×Int)(x:Rw),bms[k]?=some b->rws[k]?=some x->GrR pss b x)/\σ'=[some (.ref a),some (.ref pl),some (.ref ol),some (.ref rl),some (.ref dl),some (.ref na),some (.int (di ns 5)),some (.ref md),c8,none],?_,?_⟩
 ·refine⟨_,U,rl,U,⟨_,SqL.of (s03 _ _ erl)⟩,bB (xs:=rx) (λi σ H'=>ar H2 H'/\∃(mx:List V)(rws:List Rw)(c8:Option V),H' md=some (.lst mx)/\RL (Fr H2 md) H' mx rws/\rws.length=i/\(∀w∈rws,nK bs (o0 os,o4 os) w)/\(∀(k:Nat)(b:List Int×Int)(x:Rw),bms[k]?=some b->rws[k]?=some x->GrR pss b x)/\σ=[some (.ref a),some (.ref pl),some (.ref ol),some (.ref rl),some (.ref dl),some (.ref na),some (.int (di ns 5)),some (.ref md),c8,none]) ⟨u3,[],[],_,emd,aI.nil,U,(λw h=>by cases h),(λk b x _ e=>by simp at e),U⟩ (λi σ H' _ hh=>SqL.of ((s02.trans hh.1) _ _ erl)) (λi y σ H' e hh=>?_) (λσ H' hh=>?_)⟩
  ·obtain⟨sm,mx,rws,c8,em,hR,hlen,hok,hGr,rfl⟩:=hh;have sA:=s02.trans sm;obtain⟨r,b,rfl,eb,bl_,e1,e2⟩:=aI.get hrl e;have hi:i<rx.length:=(Fo.mp e).1;obtain⟨hb1,hb2,hb3⟩:=hbm b (Fp eb);have e1':=sA _ _ e1;have e2':=sA _ _ e2;have Ei:=sA _ _ epl;refine⟨_,U,.inl ⟨U,_,SqL.of em⟩,_,U,pl,_,U,.inl (SqL.of Ei),_,U,(by show -(2^62)<=((xs.length:Nat):Int);lia),(by show((xs.length:Nat):Int)<2^62;lia),bD (λD j zs H''=>ar H' H''/\H'' D=some (.lst zs)/\∃qss:List Prs,CL (Fr H' D) H'' zs qss/\qss.length=j/\(∀(i:Nat)(qs:Prs)(b:Int×Int),qss[i]?=some qs->bs[i]?=some b->∀p∈qs,b.1<=p.1/\p.2<=b.2)/\(∀(i:Nat)(qs:Prs)(ps:List Int)(m:Int),qss[i]?=some qs->pss[i]?=some ps->b.1[i]?=some m->SpG ps m (ps.length-1) qs)) (λD hD=>⟨ai hD _,ab,[],aI.nil,U,(λi qs b e=>by simp at e),(λi qs ps m e=>by simp at e)⟩) (λD j zs H'' hD hj hh=>?_) (λD zs H'' hD hh=>?_)⟩
   ·obtain⟨sm2,eD,qss,hz,hql,hqi,hqg⟩:=hh;have hj2:j<pss.length:=by lia
    obtain⟨ps,eps⟩:∃ps,pss[j]?=some ps:=⟨_,Fn hj2⟩;obtain⟨rp,erp,hrp⟩:=hpl.2 j ps eps;have sB:=sA.trans sm2;have hbj:atI (b.1.map V.int) (0+(j:Int))=some (.int (b.1[j]'(by lia))):=mL (get_map (Fn (by lia)));refine⟨_,U,_,U,pl,_,_,_,U,U,SqL.of (sB _ _ epl),mL erp,_,U,r,_,_,_,U,U,SqT.of (sB _ _ e1),U,_,U,bl_,_,_,_,U,U,SqL.of (sB _ _ e2),hbj,rp,ps,_,U,sB _ _ hrp,hg.pts ps (Fp eps),hb3 _ (getElem_mem _),λsp qs H3' s3' hsp hin hsg=>?_⟩;have eD2:=s3' _ _ eD;have hlz:zs.length=j:=by rw[hz.1,hql]
    have nsp:H'' sp=none:=hsp.1;have nD:sp≠D:=λz=>by rw[z,eD]at nsp;cases nsp
    refine cF.mk hj eD2 (ay (by lia)) ⟨(sm2.trans s3').upd hD,ab,qss++[qs],CL.updN (aI.snoc (hz.same s3') ⟨⟨sm2.free nsp,nD⟩,hsp.2⟩) Fr.out eD2,by simp[hql],(λi' qs' b' f1 f2=>?_),λi' qs' ps' m' f1 f2 f3=>?_⟩
    rotate_left
    ·by_cases hij:i'<qss.length
     ·rw[getElem?_append_left hij]at f1;exact hqg i' qs' ps' m' f1 f2 f3
     ·have hj3:i'=qss.length:=by
       have:=(Fo.mp f1).1;simp at this;lia
      subst hj3;simp at f1;subst f1;rw[hql]at f2 f3;rw[eps]at f2;cases f2;rw[Fn (by lia)]at f3;cases f3;exact hsg
    by_cases hij:i'<qss.length
    ·rw[getElem?_append_left hij]at f1;exact hqi i' qs' b' f1 f2
    ·have hj3:i'=qss.length:=by
      have:=(Fo.mp f1).1;simp at this;lia
     subst hj3;simp at f1;subst f1;rw[hql,hbs,getElem?_map,eps]at f2;cases f2;exact hin
   ·obtain⟨sm2,eD,qss,hz,hql,hqi,hqg⟩:=hh;rw[toNat_natCast]at hql;have em2:=sm2 _ _ em;refine⟨_,U,r,_,_,_,U,U,SqT.of (sm2 _ _ e1'),U,bu,λt ht=>?_⟩;have ut:=ai ht (.tup [.ref D,.int b.2]);have sC:=sm2.trans ut;have hlm:mx.length=i:=by rw[hR.1,hlen]
    refine⟨md,_,_,U,U,ut _ _ em2,ay (by lia),?_⟩;have hn1:H2 D=none:=sm.free hD;have hn2:D≠md:=λz=>by rw[z,em]at hD;cases hD
    have Bs:iO (Fr H2 md) (upd H'' t (.tup [.ref D,.int b.2])) t (qss,b.2):=⟨D,zs,ab,⟨hn1,hn2⟩,ut _ _ eD,(hz.same ut).wk λx hx=>⟨sm.free hx.1,λz=>by have h1:=hx.1;rw[z,em]at h1;cases h1⟩⟩;have hz2:RL (Fr H2 md) (upd H'' t (.tup [.ref D,.int b.2])) (mx++[.ref t]) (rws++[(qss,b.2)]):=aI.snoc (hR.same sC) Bs;refine⟨(sm.trans sC).upd hmd,mx++[.ref t],rws++[(qss,b.2)],_,ab,RL.updN hz2 Fr.out (ut _ _ em2),by simp[hlen],(λw hw=>?_),(λk b' x f1 f2=>?_),U⟩
    rotate_left
    ·by_cases hk:k<rws.length
     ·rw[getElem?_append_left hk]at f2;exact hGr k b' x f1 f2
     ·have hk3:k=rws.length:=by
       have:=(Fo.mp f2).1;simp at this;lia
      subst hk3;simp at f2;subst f2;rw[hlen,eb]at f1;cases f1;exact⟨U,by show qss.length=pss.length;lia,λj ps qs m g1 g2 g3=>hqg j qs ps m g2 g1 g3⟩
    rcases mem_append.mp hw with hw|hw
    ·exact hok w hw
    ·rw[show w=(qss,b.2) by simpa using hw];have ho:=xJ hos b.2 hb2;exact⟨by show qss.length=bs.length;lia,hqi,ho.1,ho.2⟩
  ·obtain⟨sm,mx,rws,c8,em,hR,hlen,hok,hGr,rfl⟩:=hh;have:rx.length=bms.length:=hrl.1;exact⟨sm,mx,rws,c8,em,hR.any,by lia,hok,hGr,U⟩
 rintro σ4 H4 ⟨t4,mx,rws,c8,em,hR,hlen,hok,hGr,rfl⟩;have s04:=s02.trans t4;refine⟨λσ' H'=>ar H4 H'/\∃(wy:Str)(wi:Nat),six[wi]?=some wy/\(di ns 5%3=1->wy≠Str.ofString "sum")/\σ'=[some (.ref a),some (.ref pl),some (.ref ol),some (.ref rl),some (.ref dl),some (.ref na),some (.int (di ns 5)),some (.ref md),c8,some (.str wy)],?_,?_⟩
 ·refine⟨_,U,a,ns,6,U,s04.seq hS,by decide,_,U,_,_,U,U,(by show(0:Int)<3;decide),U,_,_,U,λwy wi H5 s5 hw1 hw2=>⟨s5,wy,wi,hw1,λe=>hw2 ?_,U⟩⟩;show decide (V.int (di ns 5%3)=V.int 1)=true;rw[e];rfl
 rintro σ5 H5 ⟨t5,wy,wi,hwy,hws,rfl⟩;have t25:=t4.trans t5;have ix4:atI ((w3s c0 5).map V.str) 4=some (.str (w3 c0 (0+4))):=rfl;have Bt:=t25 _ _ ena;refine⟨_,U,na,_,_,_,U,U,SqL.of Bt,ix4,_,U,_,U,pl,_,U,.inl (SqL.of ((s04.trans t5) _ _ epl)),_,U,na,_,U,SqL.of Bt,λnn hnn=>?_⟩;have Ej:oj ((w3s c0 5).map V.str) none (some ((xs.length:Nat):Int))=(w3s c0 pss.length).map V.str:=by
  rw[hxl];have:pss.length=1\/pss.length=2\/pss.length=3\/pss.length=4:=by lia
  rcases this with h|h|h|h <;> rw[h] <;> rfl
 rw[Ej];have u6:=ai hnn (.lst ((w3s c0 pss.length).map V.str));have enn:upd H5 nn (.lst ((w3s c0 pss.length).map V.str)) nn=some (.lst ((w3s c0 pss.length).map V.str)):=ab;generalize upd H5 nn (.lst ((w3s c0 pss.length).map V.str))=H6 at u6 enn⊢;have s56:=t5.trans u6;have s06:=s04.trans s56;refine⟨_,U,_,U,_,U,_,ol,os,U,s06 _ _ eol,hos,λou H7 s7 hou Ek=>?_⟩;have s67:=s56.trans s7;refine⟨_,U,_,U,λx dx hx hdx hne=>?_⟩;have s8:ar H7 (upd (upd H7 dx (.own x)) x (.ins Y.k dx [])):=(ai hdx _).upd hx;have s78:=s7.trans s8;have hnm:(w3 c0 (0+4) :: w3s c0 pss.length).Nodup/\∀z∈w3 c0 (0+4) :: w3s c0 pss.length,isw z=true:=by
  constructor
  ·rw[nodup_cons];refine⟨λh=>?_,nM _ _⟩;unfold w3s at h;obtain⟨j,hj,e⟩:=mem_map.mp h;have:=mem_range.mp hj;have:=vY (by lia) (by lia) e;lia
  ·intro z hz;rcases mem_cons.mp hz with rfl|hz
   ·exact vX _ _ (by lia) (by lia)
   ·exact sS (by lia) z hz
 have qo:wy=Str.ofString "sum" -> ∃dx fs,H7 ou=some (.ins Y.i dx fs):=λz=>Ek λe=>hws e z
 have hwl:=eN c0 pss.length;have e27:=(t4.trans s67);refine⟨x,dx,nn,dl,ou,md,_,_,w3s c0 pss.length,dv,mx,bs,(o0 os,o4 os),rws,U,ab,s78 _ _ enn,hnm.2,hnm.1,by lia,by lia,Fp hwy,λz=>?_,s8 _ _ (e27 _ _ (s2_ _ _ edl)),aI.mono hdl λ_ _ p=>((p.same s2_).same e27).same s8,hou.same s8,s8 _ _ (s67 _ _ em),(hR.same s67).same s8,?_,by lia,hok,λH' fs rl' xs' k1 k2 k3 k3a k3b k3c ⟨na',dl',k3d,k3e,k3f,k3g,k3h,k3i⟩ k3j k4 k5=>?_⟩
 ·obtain⟨dx2,fs2,e2⟩:=qo z;exact⟨dx2,fs2,s8 _ _ e2⟩
 ·have h1:=hR.1;have h2:rx.length=bms.length:=hrl.1;lia
 have s9:ar H7 H':=λb u e=>k1 b u (bj e hx) (s8 _ _ e)
 have sT:ar H H7:=s06.trans s7;have fr:∀a,upd (upd H7 dx (.own x)) x (.ins Y.k dx []) a=none->H a=none:=λa ha=>sT.free (s8.free ha)
 refine⟨U,q x rws _ wy ou _ dv wi H' (sT.trans s9) ⟨rl',dx,na',dl',fs,xs',k2,k3,k3c,k3a,k3b,k3d,k3e,k3f,k3g,k4,aI.mono k5 λr w h=>h.wk λa ha=>fr a ha,fr _ k3h,fr _ k3i,fr _ k3j,?_⟩ ?_ (hou.same s9) hwy ?_ hnm.2 hnm.1 hwl hlen ?_ hGr⟩
 ·have h1:=k5.1;have h2:rx.length=bms.length:=hrl.1;lia
 ·rw[←hbs];exact aI.mono hdl λ_ _ p=>((p.same s2_).same e27).same s9
 ·intro z;obtain⟨dx2,fs2,e2⟩:=qo z;exact⟨dx2,fs2,s9 _ _ e2⟩
 ·rw[←hbs];exact hok
theorem El{k n:Nat}(F:Fun K "layered" "layered" Y68 f fd) (bl:Bl K mg Y)(mi:Callee P w K mg base k "closed" ["triples"] (gR K Y)) (kb:Callee P w K mg base k "layered" ["columns","ahead","leaf"] (d6 K Y P w mg base n)) (hk:8<=k):aH P w K mg base CX0 (k+1) f fd ["columns","ahead","leaf"] (d6 K Y P w mg base (n+1)):=by
 refine F.okA Z69 λcdv A outer s H vs Q E hr h=>?_
 obtain⟨c,b,f_,xs,cols,ah,m,L,iL,A,g,J,rfl,hn,hc,hC,hb,h64,ha3,hc3,hm,hL,hJ,q⟩:=h
 refine⟨_,(ak (aN (bI (df (pv 0) (by intro _;rfl)))
  (af (av (sL (k:=8) (i:=2) (hr.mono hk) U (Or.inr (Or.inl U)) (aa (pv 1) ae))))
  aD)
  (af (av (aL mi hr U (aa (fg (aV (az aF (pv 0) ag (λ_ _=>U))) (eJ (N:=["low","high","columns","ahead","leaf"]) (k:=2) (fr:=[0,1,2]) (cl:=[("leaf",s.heap.objs.size+1+1+1),("columns",s.heap.objs.size+1),("ahead",s.heap.objs.size+1+1)]) U U (by decide+kernel) (by decide+kernel) U U (forall_mem_cons.mpr ⟨U,forall_mem_cons.mpr ⟨U,forall_mem_cons.mpr ⟨U,forall_mem_nil _⟩⟩⟩) U) U (λ_ _ _ _=>(kW (K:=K) (n:=2) U U (aK (aC (i:=0) (show(["low","high","columns","ahead","leaf"]:List Str).Nodup by decide+kernel) U (Or.inl U) (Or.inr U)) (aK (aC (i:=1) (show(["low","high","columns","ahead","leaf"]:List Str).Nodup by decide+kernel) U (Or.inl U) (Or.inr U)) bW)))) (λ_ _ _ _=>bw) (λ_ _ _ _=>(bh (aa (pv 0) (aa (pv 1) (aa (aL kb hr U (aa (gg (vG (K:=K) U) (pv 2) (gK ag) kD) (aa (ax kO (pv 3) (aW (aa (pv 0) ae))) (aa (pv 4) ae)))) ae)))))) ae))))),?_⟩
 cases cols with
 |nil =>
  have hx:xs=[]:=List.eq_nil_of_length_eq_zero hC.1;subst hx;obtain⟨sp,hF,hsp⟩:=hL.fn;refine⟨_,U,_,.inl ⟨_,SqL.of hc,U⟩,f6 ?_⟩;exact⟨f_,sp,U,hL.ob H hJ,hF,_,U,hL.ob H hJ,hsp H b ah _ hJ (by rw[hm];rfl) hb λv H' h' hv=>q v H' h' hv⟩
 |cons col cols =>
  obtain⟨r,ex,ts,er,hp⟩:=hC.2 0 col U;obtain⟨xs',rfl⟩:∃xs',xs=.ref r :: xs':=by
   cases xs with
   |nil=>cases ex
   |cons x xs'=>cases ex;exact⟨xs',U⟩
  have hC':CoL H xs' cols:=⟨by simpa using hC.1,λj c e=>by simpa using hC.2 (j+1) c (by simpa using e)⟩;have hcl:col.length<=64:=h64 col mem_cons_self;have htl:ts.length=col.length:=hp.length;have Fe:cols.length<=5:=by rw[length_cons]at hc3;lia
  refine⟨_,U,_,.inl ⟨_,SqL.of hc,U⟩,bA ?_⟩
  refine⟨_,U,c,_,_,_,U,U,SqL.of hc,aZ (j:=0) U,r,U,⟨_,SqL.of er⟩,fG (xs:=ts) (λD i zs H'=>ar H H'/\H' D=some (.lst zs)/\FmL (FmV A H' cols.length) H' ((col.take i).map λp=>(p.1,p.2,lay g cols (ah++[p.1]))) zs/\zs.length<=i)
   (λD hD=>⟨ai hD _,ab,FmL.nil,zero_le _⟩) (λD i zs H' hD _ h=>SqL.of (h.1 _ _ er)) (λD i x zs H' hD e h ss hss=>?_) (λD zs H' hD h=>?_)⟩
  ·obtain⟨sm,eD,hz,hzl⟩:=h;obtain⟨p,t,ep,rfl,ht⟩:=hp.get e;have hi:i<ts.length:=(Fo.mp e).1;obtain⟨t0,t1,rfl⟩:∃t0 t1,ss=[t0,t1]:=by
    match ss,hss with
    | [t0,t1],_=>exact⟨t0,t1,U⟩
   refine⟨t,_,U,SqT.of (sm _ _ ht),U,_,_,U,_,_,U,U,⟨[some (.int p.1),some (.int p.2)],U,U⟩,?_⟩;refine⟨_,U,_,U,_,U,_,U,c,_,U,SqL.of (sm _ _ hc),λc2 hc2=>?_⟩;rw[vV];have s2:ar H' (upd H' c2 (.lst xs')):=ai hc2 _;have ec2:upd H' c2 (.lst xs') c2=some (.lst xs'):=ab;generalize upd H' c2 (.lst xs')=H2 at s2 ec2⊢;refine⟨_,U,_,U,(by show 1<=sizeLine;decide),λt1 ht1=>?_⟩;have s3:ar H2 (upd H2 t1 (.lst [.int p.1])):=ai ht1 _;have e1:upd H2 t1 (.lst [.int p.1]) t1=some (.lst [.int p.1]):=ab;generalize upd H2 t1 (.lst [.int p.1])=H3 at s3 e1⊢;refine⟨b,t1,_,_,U,U,s3 _ _ (s2 _ _ (sm _ _ hb)),e1,le_of_lt (ay (by rw[length_map];show ah.length+1<=1000;lia)),λt2 ht2=>?_⟩;have s4:ar H3 (upd H3 t2 (.lst (ah.map V.int++[.int p.1]))):=ai ht2 _;have e2:upd H3 t2 (.lst (ah.map V.int++[.int p.1])) t2=some (.lst ((ah++[p.1]).map V.int)):=by rw[map_append];exact ab
   generalize upd H3 t2 (.lst (ah.map V.int++[.int p.1]))=H4 at s4 e2⊢;have s24:ar H' H4:=(s2.trans s3).trans s4;have f2:H' t2=none:=(s2.trans s3).free ht2;refine⟨_,U,c2,t2,f_,xs',cols,ah++[p.1],m,L,iL,A,g,J,U,by rw[length_cons]at hn;lia,s4 _ _ (s3 _ _ ec2),hC'.same (sm.trans s24),e2,λz hz=>h64 z (mem_cons_of_mem _ hz),by rw[length_append,length_singleton];rw[length_cons]at ha3;lia,by lia,by rw[length_append,length_singleton];rw[length_cons]at hm;lia,hL,hL.st _ _ hJ (sm.trans s24),λv H5 h5 hv=>?_⟩;have s5:ar H' H5:=λd o ed=>h5 d o (λz=>by rw[z,f2]at ed;cases ed) (s24 _ _ ed)
   refine⟨(by show 3<=sizeLine;decide),λt3 ht3=>?_⟩;have s6:ar H5 (upd H5 t3 (.tup [.int p.1,.int p.2,v])):=ai ht3 _;have e3:upd H5 t3 (.tup [.int p.1,.int p.2,v]) t3=some (.tup [.int p.1,.int p.2,v]):=ab;generalize upd H5 t3 (.tup [.int p.1,.int p.2,v])=H6 at s6 e3⊢;have s56:=s5.trans s6;have eD6:=s56 _ _ eD;refine cF.mk hi eD6 (ay (by lia)) ⟨(sm.trans s56).upd hD,ab,?_,by rw[length_append,length_singleton];lia⟩;have st:cj H6 (upd H6 D (.lst (zs++[.ref t3]))):=aO eD6;rw[take_snoc ep,map_append];exact(hz.mono (λ_ _ z=>FmV.mono (s56.tups.trans st) z) (s56.tups.trans st)).snoc (st _ _ e3) (FmV.mono (s6.tups.trans st) hv)
  ·obtain⟨sm,eD,hz,hzl⟩:=h;rw[htl,take_length]at hz;refine⟨L,iL,A,cols.length,D,zs,_,U,by lia,eD,hz,by rw[length_map];lia,λr2 H2 s2 hf=>?_⟩;exact q _ H2 (λd o _ ed=>(sm.trans s2) _ _ ed) hf
theorem Em{k n:Nat}(F:Fun K "mapped" "mapped" Y69 f fd) (bl:Bl K mg Y)(mi:Callee P w K mg base k "closed" ["triples"] (gR K Y)) (mj:Callee P w K mg base k "mapped" ["form","deep","change"] (fq K Y P w mg base n)) (hk:8<=k):aH P w K mg base CX0 (k+1) f fd ["form","deep","change"] (fq K Y P w mg base (n+1)):=by
 refine F.okA Z70 λcdv A outer s H vs Q E hr h=>?_
 obtain⟨L,M,iL,iM,A,B,h_,J,d,F_,v,f_,rfl,hn,hd3,hv,hsm,hL,hJ,q⟩:=h
 refine⟨_,(ak (aN (aE bU (pv 1) ag (aG _))
  (af (av (sL (k:=8) (i:=2) (hr.mono hk) U (Or.inr (Or.inl U)) (aa (pv 0) ae))))
  aD)
  (af (av (aL mi hr U (aa (fg (qH (pv 0)) (eJ (N:=["low","high","beneath","deep","change"]) (k:=3) (fr:=[1,2]) (cl:=[("deep",s.heap.objs.size+1),("change",s.heap.objs.size+1+1)]) U U (by decide+kernel) (by decide+kernel) U U (forall_mem_cons.mpr ⟨U,forall_mem_cons.mpr ⟨U,forall_mem_nil _⟩⟩) U) U (λ_ _ _ _=>(kW (K:=K) (n:=3) U U (aK (aC (i:=0) (show(["low","high","beneath","deep","change"]:List Str).Nodup by decide+kernel) U (Or.inl U) (Or.inr U)) (aK (aC (i:=1) (show(["low","high","beneath","deep","change"]:List Str).Nodup by decide+kernel) U (Or.inl U) (Or.inr U)) (aK (aC (i:=2) (show(["low","high","beneath","deep","change"]:List Str).Nodup by decide+kernel) U (Or.inl U) (Or.inr U)) bW))))) (λ_ _ _ _=>bw) (λ_ _ _ _=>(bh (aa (pv 0) (aa (pv 1) (aa (aL mj hr U (aa (pv 2) (aa (ax bY (pv 3) ag) (aa (pv 4) ae)))) ae)))))) ae))))),?_⟩
 cases d with
 |zero =>
  obtain⟨sp,hF,hsp⟩:=hL.fn;refine⟨_,U,U,_,U,fW U ?_⟩;exact⟨f_,sp,U,hL.ob H hJ,hF,_,U,hL.ob H hJ,hsp H v F_ _ hJ hv λu H' s' hu=>q u H' s' hu⟩
 |succ d =>
  obtain⟨G,rfl⟩:∃G:List (T3a (Fm L d)),(G:Fm L (d+1))=F_:=⟨F_,U⟩;obtain⟨hlen,En⟩:SmS 300 (SmF 300 d) G:=hsm;obtain⟨a,xs,rfl,ha,hG⟩:∃(a:Addr)(xs:List V),v=.ref a/\H a=some (.tup xs)/\FmL (FmV A H d) H G xs:=hv;have hxl:=hG.1;refine⟨_,U,U,_,U,ck (λz=>by have:=V.int.inj z;lia) ?_⟩
  refine⟨_,U,a,U,⟨_,SqT.of ha⟩,ub (xs:=xs) (λD i zs H'=>ar H H'/\H' D=some (.lst zs)/\FmL (FmV B H' d) H' ((G.take i).map λt=>(t.1,t.2.1,mN h_ d t.2.2)) zs/\zs.length<=i)
   (λD hD=>⟨ai hD _,ab,FmL.nil,zero_le _⟩) (λD i zs H' hD _ h=>SqT.of (h.1 _ _ ha)) (λD i x zs H' hD e h ss hss=>?_) (λD zs H' hD h=>?_)⟩
  ·obtain⟨sm,eD,hz,hzl⟩:=h;have hi:i<xs.length:=(Fo.mp e).1;obtain⟨t,et⟩:∃t,G[i]?=some t:=⟨_,Fn (by lia)⟩;obtain⟨r,u,ex,er,hu⟩:=hG.2 i t et;rw[e]at ex;cases ex;obtain⟨t0,t1,t2,rfl⟩:∃t0 t1 t2,ss=[t0,t1,t2]:=by
    match ss,hss with
    | [t0,t1,t2],_=>exact⟨t0,t1,t2,U⟩
   have er':=sm _ _ er;have hu':=FmV.mono sm.tups hu;refine⟨r,_,U,SqT.of er',U,_,_,U,_,_,U,_,_,U,U,⟨[some (.int t.1),some (.int t.2.1),some u],U,U⟩,?_⟩;refine⟨_,U,_,U,_,U,_,U,_,_,U,U,_,U,L,M,iL,iM,A,B,h_,J,d,t.2.2,u,f_,by simp,by lia,by lia,hu',En t (Fp et),hL,hL.st _ _ hJ sm,λv H5 s5 hv=>?_⟩;refine⟨(by show 3<=sizeLine;decide),λt3 ht3=>?_⟩;have s6:ar H5 (upd H5 t3 (.tup [.int t.1,.int t.2.1,v])):=ai ht3 _;have e3:upd H5 t3 (.tup [.int t.1,.int t.2.1,v]) t3=some (.tup [.int t.1,.int t.2.1,v]):=ab;generalize upd H5 t3 (.tup [.int t.1,.int t.2.1,v])=H6 at s6 e3⊢;have s56:=s5.trans s6;have eD6:=s56 _ _ eD;refine cF.mk hi eD6 (ay (by lia)) ⟨(sm.trans s56).upd hD,ab,?_,by rw[length_append,length_singleton];lia⟩;have st:cj H6 (upd H6 D (.lst (zs++[.ref t3]))):=aO eD6;rw[take_snoc et,map_append];exact(hz.mono (λ_ _ z=>FmV.mono (s56.tups.trans st) z) (s56.tups.trans st)).snoc (st _ _ e3) (FmV.mono (s6.tups.trans st) hv)
  ·obtain⟨sm,eD,hz,hzl⟩:=h;rw[hxl,take_length]at hz;refine⟨M,iM,B,d,D,zs,_,U,by lia,eD,hz,by rw[length_map];lia,λr2 H2 s2 hf=>?_⟩;exact q _ H2 (sm.trans s2) hf
theorem Eo(F:Fun K "built" "built" Y34 f fd) (bl:Bl K mg Y)(kb:Callee P w K mg base 15 "layered" ["columns","ahead","leaf"] (d6 K Y P w mg base 7)) (xZ:Callee P w K mg base 15 "grain" ["bounds","marks"] (l7 K Y)) (fe:Callee P w K mg base 15 "cut_columns" ["bounds","marks"] (dj K Y)):aH P w K mg base CX0 16 f fd ["bounds","marks","leaf"] (l8 K Y P w mg base):=by
 refine F.okA Z34 λcdv A outer s H vs Q E hr h=>?_
 obtain⟨a,b,f_,ys,ps,as,mss,L,iL,A,g,J,rfl,ha,hP,hb,hM,hok,hg,hL,hJ,q⟩:=h
 refine⟨_,(ak (aN (aE ir (aL xZ hr U (aa (pv 0) (aa (pv 1) ae))) (km U bl.MOST_GRAIN_) (aG _))
  (af bO)
  aD)
  (af (av (aL kb hr U (aa (aL fe hr U (aa (pv 0) (aa (pv 1) ae))) (aa (aW ae) (aa (pv 2) ae))))))),?_⟩
 have hyl:=hP.length;obtain⟨ok1,ok2,ok3⟩:=hok;refine⟨_,U,_,U,a,b,ys,ps,as,mss,U,ha,hP,hb,hM,⟨ok1,ok2,ok3⟩,λH1 s1=>?_⟩;refine⟨_,_,U,U,_,U,?_⟩;refine bV (λg=>absurd (kQ g) (by lia)) (λ_=>?_);refine⟨_,U,_,U,a,b,ys,ps,as,mss,U,s1 _ _ ha,hP.mono s1.tups,s1 _ _ hb,hM.same s1,⟨ok1,ok2,ok3⟩,λl xs H2 css s2 el hcs hpr hx=>?_⟩;refine⟨(by show 0<=sizeLine;decide),λt ht=>?_⟩;have s3:ar H2 (upd H2 t (.lst [])):=ai ht _;have et:upd H2 t (.lst []) t=some (.lst []):=ab;generalize upd H2 t (.lst [])=H3 at s3 et⊢;have s13:=(s1.trans s2).trans s3;have hzl:(List.zipWith (λp cs=>b9 p.1 p.2 cs) ps css).length=ps.length:=by rw[length_zipWith];lia
 refine⟨_,U,l,t,f_,xs,_,[],ps.length,L,iL,A,g,J,U,by lia,s3 _ _ el,hx.same s3,et,λcol Ep=>?_,by rw[hzl];show 0+ps.length<=6;lia,by lia,by rw[hzl];show ps.length=0+ps.length;lia,hL,hL.st _ _ hJ s13,λv H4 h4 hv=>?_⟩
 ·obtain⟨j,ej⟩:=getElem?_of_mem Ep;have hj:j<(List.zipWith (λp cs=>b9 p.1 p.2 cs) ps css).length:=(Fo.mp ej).1;obtain⟨p,ep⟩:∃p,ps[j]?=some p:=⟨_,Fn (by lia)⟩;obtain⟨cs,ec⟩:∃cs,css[j]?=some cs:=⟨_,Fn (by lia)⟩;obtain⟨ms,em⟩:∃ms,mss[j]?=some ms:=⟨_,Fn (by lia)⟩;rw[getElem?_zipWith,ep,ec]at ej;have ej:b9 p.1 p.2 cs=col:=Option.some.inj ej;rw[←ej,gu];have:=(hpr j p ms cs ep em ec).2.2;lia
 ·exact q v H4 css (λd o ed=>h4 d o (λz=>by have f:=(s1.trans s2).free ht;rw[z,f]at ed;cases ed) (s13 _ _ ed)) hcs hpr hv
theorem jH{c' c_0:Addr}{doc pm ctv:Value}(bl:Bl K mg Y)(wX:Callee P w K mg base 7 "mask" ["table","codes"] (jE K Y)) (inj:∀x y c,([("table",c_0)]:List (Str×Addr)).lookup x=some c->([("table",c_0)]:List (Str×Addr)).lookup y=some c->x=y):HFn P w K mg base 8 f (ft K Y f c' c_0 doc pm ctv):=by
 have Z78:=@Z78 c_0;refine vQ (qual := "row_form.<locals>.<lambda>") (e:=Y76) (c':=c') (cl:=[("table",c_0)]) (pm:=pm) (ctv:=ctv) Z78 inj (λus hu=>match us,hu with | [u0],_=>rfl) (λvs H Q E h=>?_) (λA outer s H vs Q E hr h=>?_)
 ·obtain⟨a,t,cs,rws,i,o,rfl,ml,hT,ha,hl,q⟩:=h;rfl
 obtain⟨a,t,cs,rws,i,o,rfl,ml,hT,ha,hl,q⟩:=h;refine⟨_,ml,sM U,λhcs=>⟨_,(aL wX hr U (aa (pv 1) (aa (pv 0) ae))),?_⟩⟩;have fz:=ml.2.2.fzs;have so:=So.hide fz;exact⟨_,U,_,U,t,a,rws,i,o,cs,U,Tbl.so so hT,SqL.of (so.lst ha),hl,λH' s' _=>q _ (lE s')⟩
theorem Er(F:Fun K "row_form" "row_form" s_row_form f fd) (bl:Bl K mg Y)(ya:Callee P w K mg base 16 "built" ["bounds","marks","leaf"] (l8 K Y P w mg base)) (mn:Callee P w K mg base 16 "table_bounds" ["table"] (dH K Y)) (mS:Callee P w K mg base 16 "table_marks" ["table"] (dY K Y)) (wX:Callee P w K mg base 16 "mask" ["table","codes"] (jE K Y)) {cL tP:Addr}(hcd:fd.code=.ref cL)(ht:W.tabIn K "row_form" = some (cL,tP)) (hT:W.CodeHd base cL tP/\base.BuiltinsAt mg tP)(Ac:Callee P w K mg base 7 "mask" ["table","codes"] (jE K Y)):aH P w K mg base CX0 17 f fd ["table"] (gB K Y):=by
 refine F.okT hcd Z77 (λvs H Q E h=>?_) (λA outer s H vs Q E hr h=>?_)
 ·obtain⟨t,dv,bs,rws,L,i,o,rfl,hTD,hTb,h4,h60,j4,hL,hgr,htb,q⟩:=h;rfl
 obtain⟨t,dv,bs,rws,L,i,o,rfl,hTD,hTb,h4,h60,j4,hL,hgr,htb,q⟩:=h;refine⟨_,(af (av (vH (zs:=[("table",0,s.heap.objs.size+1)]) ya hr U (aa (aL mn hr U (aa (pv 0) ae)) (aa (aL mS hr U (aa (pv 0) ae)) (aa (vP (clos:=[("table",s.heap.objs.size+1)]) U hT.1 hT.2 U (forall_mem_cons.mpr ⟨U,forall_mem_nil _⟩)) ae))) (forall_mem_cons.mpr ⟨⟨U,Or.inl U,U,Or.inl U⟩,forall_mem_nil _⟩)))),?_⟩;have hL':∀(c:Nat)(b:Int×Int),bs[c]?=some b->(L c).length<64/\∀x,MkC rws c b x->x∈L c:=λc b e=>⟨lt_of_le_of_lt (hL c b e).1 (by decide),(hL c b e).2⟩
 refine⟨_,U,t,dv,bs,rws,U,hTD,by lia,λl1 ys H1 s1 n1 e1 hP1=>?_⟩;refine⟨_,U,t,dv,bs,rws,L,U,hTD.same s1,by lia,h60,j4,hL',λl2 as mss H2 s2 n2 e2 hM hml hmm=>?_⟩;have s12:=s1.trans s2;have Bu:=(htb _ ht).same s12;obtain⟨pst,etP,_⟩:=id Bu;refine⟨[(pS Y76,"row_form.<locals>.<lambda>")],mem_cons_self,?_,Bu,λf_ c' oc pm ctv H3 hf kp ef ec hco vJ inj=>?_⟩
 ·intro p hp _ _;rw[mem_singleton.mp hp];rfl
 have so1:So H2 H3:=λd o p e=>kp d o (λz=>by rw[z,etP]at e;cases e;exact p) e
 refine λos hos hz ho=>?_
 have hfz:=lI hos hz;have fzc:∃o,gm H3 ((([("table",0,s.heap.objs.size+1)]:List (Str×Nat×Addr)).map (·.2.2)).zip os) (s.heap.objs.size+1)=some (.frz o TTh):=by
  obtain⟨o,_,e⟩:=fJ (H:=H3) (fz:=(([("table",0,s.heap.objs.size+1)]:List (Str×Nat×Addr)).map (·.2.2)).zip os) (b:=s.heap.objs.size+1) (by rw[lH hos];exact mem_cons_self);exact⟨o,e⟩
 have hcl:=pQ (H:=H3) (cl:=[("table",s.heap.objs.size+1)]) (ws:=[("table",.ref t)]) hos (by simp) ho (λc hc=>by
  simp only[map_cons,map_nil,mem_cons,not_mem_nil,or_false]at hc;exact⟨_,mem_cons_self,hc.symm⟩) (λx v e=>by
  unfold List.lookup at e;split at e
  ·rename_i hx
   cases e;rw[eq_of_beq hx];exact⟨_,mem_cons_self,U,U⟩
  ·cases e)
 have ml:iD (gm H3 ((([("table",0,s.heap.objs.size+1)]:List (Str×Nat×Addr)).map (·.2.2)).zip os)) f_ c' (W.kla_obj "<lambda>" "row_form.<locals>.<lambda>" (oF Y76) (mK Y76) (jA Y76) [("table",s.heap.objs.size+1)] pm c' ctv) "row_form.<locals>.<lambda>" [("table",s.heap.objs.size+1)] [("table",.ref t)]:=⟨hfz _ _ ef,⟨oc,hfz _ _ ec,hco⟩,hcl⟩;have hN:zN mJ P w K mg base f_ bs.length (λcd=>((msk (gX rws cd) rws.length:Nat):Int)) (λH0=>iD H0 f_ c' (W.kla_obj "<lambda>" "row_form.<locals>.<lambda>" (oF Y76) (mK Y76) (jA Y76) [("table",s.heap.objs.size+1)] pm c' ctv) "row_form.<locals>.<lambda>" [("table",s.heap.objs.size+1)] [("table",.ref t)]/\Tbl Y.k Y.i Y.j H0 t rws i o) :=
  ⟨⟨_,jH (doc:=.none) (pm:=pm) (ctv:=ctv) (c':=c') (c_0:=s.heap.objs.size+1) bl Ac inj,λH0 a cd Q0 hj hl ha k=>⟨a,t,cd,rws,i,o,U,hj.1,hj.2,ha,(λx hx=>by rw[(j4 x hx).1,hl]),λH0' s0=>k _ _ (λb o _ e=>s0 b o e) U⟩⟩,λH0 hj=>⟨_,_,hj.1.1,U⟩,λH0 H0' hj s0=>⟨hj.1.same s0,Tbl.same hj.2 s0⟩⟩
 have Es:MOK bs mss:=⟨hml.symm,by lia,λms hms=>by
  obtain⟨c,ec⟩:=getElem?_of_mem hms;have hc:=(Fo.mp ec).1;obtain⟨b,eb⟩:∃b,bs[c]?=some b:=⟨_,Fn (by lia)⟩;obtain⟨pw,hm⟩:=hmm c b ms eb ec;exact le_trans (wt pw λx hx=>(hL c b eb).2 x ((hm x).mp hx)) (hL c b eb).1⟩
 refine⟨l1,l2,f_,ys,bs,as,mss,Int,inferInstance,mJ,_,_,U,(So.lst so1 (s2 _ _ e1) |> λe=>hfz _ _ e),((hP1.mono s2.tups).mono so1.tups).mono hfz.tups,hfz _ _ (so1.lst e2),(MLs.so so1 hM).same hfz,Es,hgr mss hml hmm,hN,⟨ml,Tbl.same (Tbl.so so1 (Tbl.same hTb s12)) hfz⟩,λv H4 css s4 Et hcs hFm=>?_⟩;have hs:=L2.hide_same hos hz s4;obtain⟨o2,eo2⟩:=fzc;have fz2:Fzs H4 [s.heap.objs.size+1]:=λd hd=>by rw[mem_singleton.mp hd];exact⟨o2,s4 _ _ eo2⟩
 refine q v _ css (((So.of s12).trans so1).trans (So.of hs)) (λz ez=>?_) ⟨_,ht⟩ Et (λj p cs ep ecs=>?_) (hFm.mono (So.hide fz2).tups)
 ·rw[ht]at ez;cases ez;exact⟨vJ.same hs,λd o hd e=>hs _ _ (kp d o hd (s12 _ _ e))⟩
 ·obtain⟨ms,ems⟩:∃ms,mss[j]?=some ms:=⟨_,Fn (by have:=(Fo.mp ep).1;lia)⟩;obtain⟨pw,hm,_⟩:=hcs j p ms cs ep ems ecs;refine⟨pw,λx=>(hm x).trans ⟨λh=>((hmm j p ms ep ems).2 x).mp h.1,λh=>⟨((hmm j p ms ep ems).2 x).mpr h,?_⟩⟩⟩;obtain⟨w_,_,hx⟩:=h;have:=(mem_filter.mp hx).2;rw[and_eq_true,decide_eq_true_iff,decide_eq_true_iff]at this;exact this
theorem kc{c' c_0:Addr}{doc pm ctv:Value}(bl:Bl K mg Y)(qp:Callee P w K mg base 7 "judged" ["table","rows"] (fm K Y)) (inj:∀x y c,([("table",c_0)]:List (Str×Addr)).lookup x=some c->([("table",c_0)]:List (Str×Addr)).lookup y=some c->x=y):HFn P w K mg base 8 f (fZ K Y f c' c_0 doc pm ctv):=by
 have Z36:=@Z36 c_0;refine vQ (qual := "clashes.<locals>.<lambda>") (e:=Y35) (c':=c') (cl:=[("table",c_0)]) (pm:=pm) (ctv:=ctv) Z36 inj (λus hu=>match us,hu with | [u0],_=>rfl) (λvs H Q E h=>?_) (λA outer s H vs Q E hr h=>?_)
 ·obtain⟨m,t,rws,i,o,rfl,ml,hT,q⟩:=h;rfl
 obtain⟨m,t,rws,i,o,rfl,ml,hT,q⟩:=h;refine⟨_,ml,sM U,λhcs=>⟨_,(kK (aE (zt hr) (aL qp hr U (aa (pv 1) (aa (pv 0) ae))) (dc (v:=.ref Y.m) U bl.CLASH_ U) (aG _)) (pv 0) (km U bl.NOTHING_)),?_⟩⟩;have fz:=ml.2.2.fzs;have so:=So.hide fz;refine⟨_,U,_,U,t,rws,i,o,m,U,Tbl.so so hT,λr H' s' hr_=>xV (u:=(Str.ofString "clash",0)) hr_ (bl.q_CLASH.sq _) ⟨_,U,?_⟩⟩;have hb:=lE s';have q':=q _ hb;unfold hC at q';refine bV (λg=>?_) (λg=>?_)
 ·rw[if_pos (of_decide_eq_true g)]at q';exact⟨_,U,λ_=>q'⟩
 ·rw[if_neg (λz=>g (decide_eq_true z))]at q';exact λ_=>q'
theorem Eu(F:Fun K "clashes" "clashes" s_clashes f fd) (bl:Bl K mg Y)(mj:Callee P w K mg base 17 "mapped" ["form","deep","change"] (fq K Y P w mg base 7)) (jI:Callee P w K mg base 17 "boxes_with_leaf" ["form","deep"] (cX K Y)) (rR:Callee P w K mg base 17 "row_form" ["table"] (gB K Y)) (qp:Callee P w K mg base 17 "judged" ["table","rows"] (fm K Y)) {cL tP:Addr}(hcd:fd.code=.ref cL)(ht:W.tabIn K "clashes" = some (cL,tP)) (hT:W.CodeHd base cL tP/\base.BuiltinsAt mg tP)(wY:Callee P w K mg base 7 "judged" ["table","rows"] (fm K Y)):aH P w K mg base CX0 18 f fd ["table"] (iW K Y):=by
 refine F.okT hcd Z35 (λvs H Q E h=>?_) (λA outer s H vs Q E hr h=>?_)
 ·obtain⟨t,dv,bs,rws,L,kk,i,o,rfl,h,htb,hhb,q⟩:=h;rfl
 obtain⟨t,dv,bs,rws,L,kk,i,o,rfl,h,htb,hhb,q⟩:=h
 refine⟨_,(ak (aJ (i:=1) Z35.nd U (Or.inl U) (aq au U bl.len_ boot_len (aa (bJ (pv 0) U) ae)))
  (ak (aJ (i:=2) Z35.nd U (Or.inl U) (vH (zs:=[("table",0,s.heap.objs.size+1)]) mj hr U (aa (aL rR hr U (aa (pv 0) ae)) (aa (pv 1) (aa (vP (clos:=[("table",s.heap.objs.size+1)]) U hT.1 hT.2 U (forall_mem_cons.mpr ⟨U,forall_mem_nil _⟩)) ae))) (forall_mem_cons.mpr ⟨⟨U,Or.inl U,U,Or.inl U⟩,forall_mem_nil _⟩)))
  (af (av (aL jI hr U (aa (pv 2) (aa (pv 1) ae))))))),?_⟩
 have hb4:=h.b4;obtain⟨rl,dx,dl,fs,xs,ht_,f1,f2,edl,hdv,erl,hR⟩:=id h.td;have hdl:dv.length=bs.length:=hdv.1;refine⟨_,U,t,_,_,_,_,U,ht_,bl.k_Table,bl.na_Table_domains,f2,dl,_,U,.inl (SqL.of edl),?_⟩;refine⟨_,U,t,dv,bs,rws,L,i,o,U,h.td,h.tb,h.b4,h.r60,h.row,(λc b e=>⟨le_trans (h.mrk c b e).1 h.k57,(h.mrk c b e).2⟩),h.gr,htb,λv H1 css so1 ht1 hz_ hcl hcs hFm=>?_⟩;generalize tD:List.zipWith (λp cs=>b9 p.1 p.2 cs) bs css=cols at hFm;have hok:gn cols bs:=by
  rw[←tD];exact v9 hcl h.le λj p cs e1 e2=>⟨(hcs j p cs e1 e2).1,λc hc=>wx (((hcs j p cs e1 e2).2 c).mp hc)⟩
 have hcn:cols.length=bs.length:=by rw[←tD,length_zipWith];lia
 have hlen:∀c∈cols,c.length<=kk+1:=λc hc=>by
  rw[←tD]at hc;obtain⟨j,ej⟩:=getElem?_of_mem hc;have hj:=(Fo.mp ej).1;rw[length_zipWith]at hj;obtain⟨p,ep⟩:∃p,bs[j]?=some p:=⟨_,Fn (by lia)⟩;obtain⟨cs,ec⟩:∃cs,css[j]?=some cs:=⟨_,Fn (by lia)⟩;rw[getElem?_zipWith,ep,ec]at ej;have ej:b9 p.1 p.2 cs=c:=Option.some.inj ej;rw[←ej,gu];obtain⟨pw,hm⟩:=hcs j p cs ep ec;have:=wt pw λx hx=>(h.mrk j p ep).2 x ((hm x).mp hx)
  have:=(h.mrk j p ep).1;lia
 have hc:rL bs rws cols:=⟨hok,css,hcl,tD.symm,hcs⟩;refine⟨_,U,?_⟩;obtain⟨z_,ez_⟩:=hz_;obtain⟨htz,hkz⟩:=ht1 z_ ez_;have hne:=bl.nt0 z_ _ ez_ ht;have hh1:c9 H1 tP [(pS Y35,"clashes.<locals>.<lambda>")]:=by
  obtain⟨pz,epz,_⟩:=htb z_ ez_;exact tab_keep (hhb _ ht) hne.symm epz hkz
 obtain⟨pst,etP,_⟩:=id hh1;refine⟨[(pS Y35,"clashes.<locals>.<lambda>")],mem_cons_self,?_,hh1,λf_ c' oc pm ctv H3 hf kp ef ec hco vJ inj=>?_⟩
 ·intro p hp _ _;rw[mem_singleton.mp hp];rfl
 have so3:So H1 H3:=λd o p e=>kp d o (λz=>by rw[z,etP]at e;cases e;exact p) e
 have Ew:c9 H3 z_.2 [(pS Y76,"row_form.<locals>.<lambda>")]:=tab_keep htz hne etP kp;refine λos hos hz ho=>?_
 have hfz:=lI hos hz;have fzc:∃o,gm H3 ((([("table",0,s.heap.objs.size+1)]:List (Str×Nat×Addr)).map (·.2.2)).zip os) (s.heap.objs.size+1)=some (.frz o TTh):=by
  obtain⟨o,_,e⟩:=fJ (H:=H3) (fz:=(([("table",0,s.heap.objs.size+1)]:List (Str×Nat×Addr)).map (·.2.2)).zip os) (b:=s.heap.objs.size+1) (by rw[lH hos];exact mem_cons_self);exact⟨o,e⟩
 have Ex:=pQ (H:=H3) (cl:=[("table",s.heap.objs.size+1)]) (ws:=[("table",.ref t)]) hos (by simp) ho (λc hc=>by
  simp only[map_cons,map_nil,mem_cons,not_mem_nil,or_false]at hc;exact⟨_,mem_cons_self,hc.symm⟩) (λx v e=>by
  unfold List.lookup at e;split at e
  ·rename_i hx
   cases e;rw[eq_of_beq hx];exact⟨_,mem_cons_self,U,U⟩
  ·cases e)
 have ml:iD (gm H3 ((([("table",0,s.heap.objs.size+1)]:List (Str×Nat×Addr)).map (·.2.2)).zip os)) f_ c' (W.kla_obj "<lambda>" "clashes.<locals>.<lambda>" (oF Y35) (mK Y35) (jA Y35) [("table",s.heap.objs.size+1)] pm c' ctv) "clashes.<locals>.<lambda>" [("table",s.heap.objs.size+1)] [("table",.ref t)]:=⟨hfz _ _ ef,⟨oc,hfz _ _ ec,hco⟩,Ex⟩;have hN:Bd mJ mJ P w K mg base f_ (hC rws i o) (λH0=>iD H0 f_ c' (W.kla_obj "<lambda>" "clashes.<locals>.<lambda>" (oF Y35) (mK Y35) (jA Y35) [("table",s.heap.objs.size+1)] pm c' ctv) "clashes.<locals>.<lambda>" [("table",s.heap.objs.size+1)] [("table",.ref t)]/\Tbl Y.k Y.i Y.j H0 t rws i o) :=
  ⟨⟨_,kc (doc:=.none) (pm:=pm) (ctv:=ctv) (c':=c') (c_0:=s.heap.objs.size+1) bl wY inj,λH0 v x Q0 hj hv k=>by
   have hv:v=.int x:=hv;subst hv;exact⟨x,t,rws,i,o,U,hj.1,hj.2,λH0' s0=>k _ _ s0 U⟩⟩,λH0 hj=>⟨_,_,hj.1.1,U⟩,λH0 H0' hj s0=>⟨hj.1.same s0,Tbl.same hj.2 s0⟩⟩
 refine⟨Int,Int,inferInstance,inferInstance,mJ,mJ,hC rws i o,_,cols.length,lay (mkg rws) cols [],v,f_,?_,by lia,by lia,?_,?_,hN,⟨ml,Tbl.same (Tbl.so so3 (Tbl.so so1 h.tb)) hfz⟩,λu H4 s4 hF4=>?_⟩
 ·rw[hdl,←hcn]
 ·exact(hFm.mono so3.tups).mono hfz.tups
 ·exact(v7 hok hlen []).le (by have:=h.few;have:=h.k57;lia)
 rw[xU hok]at hF4;have s4':=L2.hide_same hos hz s4;obtain⟨o2,eo2⟩:=fzc;have fz2:Fzs H4 [s.heap.objs.size+1]:=λd hd=>by rw[mem_singleton.mp hd];exact⟨o2,s4 _ _ eo2⟩
 have hF5:=hF4.mono (So.hide fz2).tups;have Ey:=lJ (g:=λcd=>hC rws i o (mkg rws cd)) hok [];have hbx:(bxs cols.length (lay (λcd=>hC rws i o (mkg rws cd)) cols [])).length<=300:=le_trans (wo hok hlen []) (by rw[hcn];exact h.few);refine⟨_,U,_,U,cols.length,_,u,by rw[hdl,hcn],hF5,by lia,hbx,(λq_ hq=>by rw[(p6 Ey q_ hq).1.len];lia),λl2 ys H6 s6 nl2 el2 hB=>?_⟩;have hyl:ys.length=(eO (bxs cols.length (lay (λcd=>hC rws i o (mkg rws cd)) cols []))).length:=Paired.length hB;have htl:(eO (bxs cols.length (lay (λcd=>hC rws i o (mkg rws cd)) cols []))).length<=300:=le_trans (length_filter_le _ _) hbx;have so5:So H (hideL H4 [s.heap.objs.size+1]):=(so1.trans so3).trans (So.of s4');have s36:=s4'.trans s6;refine q l2 ys cols H6 (so5.trans (So.of s6)) (λo_ po e=>absurd (nl2.symm.trans (so5 l2 o_ po e)) (by intro z;cases z)) (λz e=>?_) (λz e=>?_) el2 hc hB (by lia)
 ·rw[ez_]at e;cases e;exact Ew.same s36
 ·rw[ht]at e;cases e;exact vJ.same s36
theorem Ez(F:Fun K "law" "law" Y47 f fd) (bl:Bl K mg Y)(jd:Callee P w K mg base 18 "_law_grid_points" ["script","most"] (cV K Y)) (qr:Callee P w K mg base 18 "_law_outs" ["cell"] (gw K Y)) (oV:Callee P w K mg base 18 "_law_table" ["script","points","outs","rows"] (fR K Y)) (mT:Callee P w K mg base 18 "_law_places" ["points"] (eX K Y)) (n8:Callee P w K mg base 18 "clashes" ["table"] (iW K Y)) (bQ:Callee P w K mg base 18 "_law_cell" ["script","k"] (dD K Y)) (rS:Callee P w K mg base 18 "_law_row" ["cell","points","outs"] (iT K Y)) (mq:Callee P w K mg base 18 "_law_fitting" ["rows","at"] (dX K Y)) (qt:Callee P w K mg base 18 "_law_just" ["told","tiles","due","points"] (gz K Y)) (rT:Callee P w K mg base 18 "_law_box" ["points","at"] (iU K Y)) (rV:Callee P w K mg base 18 "_law_due" ["codes","way","outs"] (iV K Y)) (dO:Callee P w K mg base 18 "_law_whole" ["found"] (dN K Y)):aH P w K mg base CX0 19 f fd ["script"] (J18 K):=by
 refine F.ok Z48 (λvs H Q E h=>?_) (λcdv A outer s H vs Q E hr h=>?_)
 ·obtain⟨a,ns,rfl,hS,h63,htb,hhb,q⟩:=h;rfl
 obtain⟨a,ns,rfl,hS,h63,htb,hhb,q⟩:=h;refine'⟨?tt,?r0,?rd⟩
 case' r0=>refine' aM ?st0 ?r1
 case' r1=>refine' aM ?st1 ?r2
 case' r2=>refine' aM ?st2 ?r3
 case' r3=>refine' aM ?st3 ?r4
 case' r4=>refine' aM ?st4 ?r5
 case' r5=>refine' aM ?st5 ?r6
 case' r6=>refine' aM ?st6 ?r7
 case' r7=>refine' aM ?st7 ?r8
 case' r8=>refine' aM ?st8 ?r9
 case' r9=>refine' aM ?st9 ?r10
 case' r10=>refine' aM ?wZ ?r11
 case' r11=>refine' aM ?w6 ?r12
 case' r12=>refine' aM ?st12 ?r13
 case' r13=>refine' af ?st13
 case' st0 =>
  refine' aJ (i:=1) ?u2a ?u2b ?u2c ?h1 ?u2d ?u2e
  case' u2a=>exact Z48.nd
  case' u2b=>exact U
  case' u2c=>exact(Or.inr U)
  case' h1=>refine' aL jd hr U ?h3
  case' h3=>refine' aa ?h4 ?h5 ?h6
  case' h4=>exact(pv 0)
  case' h5=>refine' aa ?h7 ?h8 ?h9
  case' h7=>refine' az aF ?h10 ?h11 (λ_ _=>U)
  case' h10=>refine' aW ?h12
  case' h12=>refine' aa ?h13 ?h14 ?h15
  case' h13=>refine' aW ?h16
  case' h16=>refine' aa ?h17 ?h18 ?h19
  case' h17=>exact ag
  case' h18=>exact ae
  case' h19=>exact U
  case' h14=>refine' aa ?h20 ?h21 ?h22
  case' h20=>refine' aW ?h23
  case' h23=>refine' aa ?h24 ?h25 ?h26
  case' h24=>exact ag
  case' h25=>refine' aa ?h27 ?h28 ?h29
  case' h27=>exact ag
  case' h28=>exact ae
  case' h29=>exact U
  case' h26=>exact U
  case' h21=>refine' aa ?h30 ?h31 ?h32
  case' h30=>refine' aW ?h33
  case' h33=>refine' aa ?h34 ?h35 ?h36
  case' h34=>exact ag
  case' h35=>refine' aa ?h37 ?h38 ?h39
  case' h37=>exact ag
  case' h38=>refine' aa ?h40 ?h41 ?h42
  case' h40=>exact ag
  case' h41=>exact ae
  case' h42=>exact U
  case' h39=>exact U
  case' h36=>exact U
  case' h31=>refine' aa ?h43 ?h44 ?h45
  case' h43=>refine' aW ?h46
  case' h46=>refine' aa ?h47 ?h48 ?h49
  case' h47=>exact ag
  case' h48=>refine' aa ?h50 ?h51 ?h52
  case' h50=>exact ag
  case' h51=>refine' aa ?h53 ?h54 ?h55
  case' h53=>exact ag
  case' h54=>refine' aa ?h56 ?h57 ?h58
  case' h56=>exact ag
  case' h57=>exact ae
  case' h58=>exact U
  case' h55=>exact U
  case' h52=>exact U
  case' h49=>exact U
  case' h44=>exact ae
  case' h45=>exact U
  case' h32=>exact U
  case' h22=>exact U
  case' h15=>exact U
  case' h11=>refine' ax ?h59 ?h60 ?h61
  case' h59=>exact aX
  case' h60=>refine' aL bQ hr U ?h62
  case' h62=>refine' aa ?h63 ?h64 ?h65
  case' h63=>exact(pv 0)
  case' h64=>refine' aa ?h66 ?h67 ?h68
  case' h66=>exact ag
  case' h67=>exact ae
  case' h68=>exact U
  case' h65=>exact U
  case' h61=>exact ag
  case' h8=>exact ae
  case' h9=>exact U
  case' h6=>exact U
  case' u2d=>exact U
  case' u2e=>first|exact .inl U|exact .inr U
 case' st1=>exact(aJ (i:=2) Z48.nd U (Or.inr U) (aL qr hr U (aa (aL bQ hr U (aa (pv 0) (aa ag ae))) ae)))
 case' st2=>exact(aJ (i:=3) Z48.nd U (Or.inr U) (bP (aV (gg oq (pv 0) (gK ag) (gK ag))) (bo (N:=["cell","points","outs"]) (fr:=[1,2]) (cl:=[("points",s.heap.objs.size+1),("outs",s.heap.objs.size+1+1)]) U U (by decide+kernel) (by decide+kernel) U (by decide+kernel) U U U (forall_mem_cons.mpr ⟨U,forall_mem_cons.mpr ⟨U,forall_mem_nil _⟩⟩) U) U (λ_ _ _ _=>bw) (λ_ _ _ _=>(aL rS hr U (aa (pv 0) (aa (pv 1) (aa (pv 2) ae)))))))
 case' st3=>exact(aJ (i:=4) Z48.nd U (Or.inl U) (aL oV hr U (aa (pv 0) (aa (pv 1) (aa (pv 2) (aa (pv 3) ae))))))
 case' st4=>exact(aJ (i:=5) Z48.nd U (Or.inl U) (aW ae))
 case' st5=>exact(aJ (i:=6) Z48.nd U (Or.inl U) (aW ae))
 case' st6=>exact(aY PassesOwn.never U (aV (aL mT hr U (aa (pv 1) ae))) (aC (i:=7) Z48.nd U (Or.inl U))
 (aM (aJ (i:=8) Z48.nd U (Or.inl U) (aL mq hr U (aa (pv 3) (aa (pv 7) ae))))
 (ak (aU (dP PySem.F.plainAttrs_list PySem.F.slot_list_append PySem.F.type_list_append bp (pv 6) (aa (aL rT hr U (aa (pv 1) (aa (pv 7) ae))) ae)))
 (ak (aU (dP PySem.F.plainAttrs_list PySem.F.slot_list_append PySem.F.type_list_append bp (pv 5) (aa uM ae)))
 (af (aN (aE bU (az aR (aL rV hr U (aa (bP (aV (pv 8)) (bo (N:=["k","rows"]) (fr:=[3]) (cl:=[("rows",s.heap.objs.size+1+1+1)]) U U (by decide+kernel) (by decide+kernel) U (by decide+kernel) U U U (forall_mem_cons.mpr ⟨U,forall_mem_nil _⟩) U) U (λ_ _ _ _=>bw) (λ_ _ _ _=>(az (jv (K:=K) U) (az (b7 (K:=K) U) (pv 1) (pv 0) (λ_ _=>U)) ag (λ_ _=>U)))) (aa (bJ (pv 4) U) (aa (pv 2) ae)))) ag (λ_ _=>U)) aQ (aG _))
 (af (qE (aq (cQ U) U bl.sum_ PyProof.Rows.boot_sum (aa (bP (aV (pv 8)) (dB U (by decide+kernel) (by decide+kernel) (by decide+kernel) U) U (λ_ _ _ _=>bw) (λ_ _ _ _=>(ax oh ag (pv 0)))) ae)) (qD (pv 5) (iq eR ag) set_list)))
 aD))))))
 case' st7=>exact(aJ (i:=9) Z48.nd U (Or.inl U) (aL n8 hr U (aa (pv 4) ae)))
 case' st8=>exact(aN (bI (cb (aq cH U bl.isinstance_ PyProof.Rows.boot_isinstance (aa (pv 9) (aa (eF (v:=.ty "list") U bl.list_ PyProof.Rows.boot_list U) ae)))))
 (af (av cP))
 aD)
 case' st9=>exact(aY PassesOwn.never U (aV (pv 9)) (aC (i:=10) Z48.nd U (Or.inl U))
 (af (aN (PW.pt (ij (bI (cb (aq cH U bl.isinstance_ PyProof.Rows.boot_isinstance (aa (pv 10) (aa (eF (v:=.ty "tuple") U bl.tuple_ PyProof.Rows.boot_tuple U) ae))))) (ij (aE kf (aq au U bl.len_ boot_len (aa (pv 10) ae)) ag (aG _)) (gc (bI (cb (aL dO hr U (aa (az aR (pv 10) ag (λ_ _=>U)) ae))))))))
 (af (av cP))
 aD)))
 case' wZ=>exact(aN (bI (cb (aL qt hr U (aa (pv 9) (aa (pv 6) (aa (pv 5) (aa (pv 1) ae)))))))
 (af (av cP))
 aD)
 case' w6=>exact(aJ (i:=11) Z48.nd U (Or.inl U) (bL dg U bl.list_ PyProof.Rows.boot_list (aa (pv 9) ae)))
 case' st12=>exact(aU (zj PySem.F.plainAttrs_list PySem.F.slot_list_clear PySem.F.type_list_clear vf (pv 9)))
 case' st13=>exact(av (kB (xx hr) (aL n8 hr U (aa (pv 4) ae)) (pv 11) (aG _)))
 case rd =>
  refine⟨λσ' H'=>ar H H'/\∃(pl:Addr)(xs:List V)(pss:List (List Int))(kk:Nat),H' pl=some (.lst xs)/\PTL H' xs pss/\oG ns pss/\1<=pss.length/\pss.length<=4/\(∀ps∈pss,ps.length<=kk)/\(kk+1)^pss.length<=300/\kk<=57/\(∀ps∈pss,∀x∈ps,∀y∈ps,y-x<=12*10^56)/\σ'=[some (.ref a),some (.ref pl),none,none,none,none,none,none,none,none,none,none],?_,?_⟩
  ·refine⟨_,U,(by show 1<=sizeLine;decide),λp1 h1=>?_⟩;have s1:=ai h1 (.lst ([12].map V.int));have e1:upd H p1 (.lst ([12].map V.int)) p1=some (.lst ([12].map V.int)):=ab;have ee:upd H p1 (.lst [.int 12])=upd H p1 (.lst ([12].map V.int)):=rfl;rw[ee];generalize upd H p1 (.lst ([12].map V.int))=H1 at s1 e1⊢;clear ee;refine⟨(by show 2<=sizeLine;decide),λp2 h2=>?_⟩;have s2:=ai h2 (.lst ([5,5].map V.int));have e2:upd H1 p2 (.lst ([5,5].map V.int)) p2=some (.lst ([5,5].map V.int)):=ab;have ee:upd H1 p2 (.lst [.int 5,.int 5])=upd H1 p2 (.lst ([5,5].map V.int)):=rfl;rw[ee];generalize upd H1 p2 (.lst ([5,5].map V.int))=H2 at s2 e2⊢;clear ee;refine⟨(by show 3<=sizeLine;decide),λp3 h3=>?_⟩;have s3:=ai h3 (.lst ([3,3,3].map V.int));have e3:upd H2 p3 (.lst ([3,3,3].map V.int)) p3=some (.lst ([3,3,3].map V.int)):=ab;have ee:upd H2 p3 (.lst [.int 3,.int 3,.int 3])=upd H2 p3 (.lst ([3,3,3].map V.int)):=rfl;rw[ee];generalize upd H2 p3 (.lst ([3,3,3].map V.int))=H3 at s3 e3⊢;clear ee;refine⟨(by show 4<=sizeLine;decide),λp4 h4=>?_⟩;have s4:=ai h4 (.lst ([2,2,2,2].map V.int));have e4:upd H3 p4 (.lst ([2,2,2,2].map V.int)) p4=some (.lst ([2,2,2,2].map V.int)):=ab;have ee:upd H3 p4 (.lst [.int 2,.int 2,.int 2,.int 2])=upd H3 p4 (.lst ([2,2,2,2].map V.int)):=rfl;rw[ee];generalize upd H3 p4 (.lst ([2,2,2,2].map V.int))=H4 at s4 e4⊢;clear ee;refine⟨(by show 4<=sizeLine;decide),λp hp=>?_⟩;have s5:=ai hp (.lst [.ref p1,.ref p2,.ref p3,.ref p4]);have e5:upd H4 p (.lst [.ref p1,.ref p2,.ref p3,.ref p4]) p=some (.lst [.ref p1,.ref p2,.ref p3,.ref p4]):=ab;generalize upd H4 p (.lst [.ref p1,.ref p2,.ref p3,.ref p4])=H5 at s5 e5⊢;have s45:=s4.trans s5;have s35:=s3.trans s45;have s25:=s2.trans s35;have Ad:=s1.trans s25;refine⟨_,U,a,ns,0,U,Ad.seq hS,Int.le_refl _,_,_,U,U,(by show(0:Int)<4;decide),?_⟩;obtain⟨m,qs,kk,hv,em,hq,hl1,hl4,hkq,hk3,Ae⟩:∃(m:Addr)(qs:List Int)(kk:Nat),atI [V.ref p1,.ref p2,.ref p3,.ref p4] (di ns 0%4)=some (.ref m)/\H5 m=some (.lst (qs.map V.int))/\(∀x∈qs,1<=x/\x<=12)/\1<=qs.length/\qs.length<=4/\(∀x∈qs,x+1<=(kk:Int))/\(kk+1)^qs.length<=300/\kk<=57:=by
    have x0:=emod_nonneg (di ns 0) (show(4:Int)≠0 by decide);have x1:=emod_lt_of_pos (di ns 0) (show(0:Int)<4 by decide);generalize di ns 0%4=k at x0 x1⊢;have:k=0\/k=1\/k=2\/k=3:=by lia
    rcases this with rfl|rfl|rfl|rfl
    ·exact⟨p1,_,13,U,s25 _ _ e1,by decide,by decide,by decide,by decide,by decide,by decide⟩
    ·exact⟨p2,_,6,U,s35 _ _ e2,by decide,by decide,by decide,by decide,by decide,by decide⟩
    ·exact⟨p3,_,4,U,s45 _ _ e3,by decide,by decide,by decide,by decide,by decide,by decide⟩
    ·exact⟨p4,_,3,U,s5 _ _ e4,by decide,by decide,by decide,by decide,by decide,by decide⟩
   refine⟨p,_,_,_,U,U,SqL.of e5,hv,a,m,ns,qs,U,Ad.seq hS,SqL.of em,hq,hl4,λl xs pss H' s' el hx hg hlen hsz hwd=>⟨Ad.trans s',l,xs,pss,kk,el,hx,hg,by lia,by lia,(λps hps=>?_),by rw[hlen];exact hk3,Ae,hwd,U⟩⟩;obtain⟨j,ej⟩:=getElem?_of_mem hps;have hj:=(Fo.mp ej).1;have ex:=Fn (l:=qs) (i:=j) (by lia);have:=hsz j ps _ ej ex;have:=hkq _ (Fp ex);lia
  rintro σ1 H1 ⟨s1,pl,xs,pss,kk,epl,hpl,hg,hp1,hp4,hsz,hk3,Ae,hwd,rfl⟩;have hxl:xs.length=pss.length:=hpl.1;refine⟨λσ' H'=>ar H1 H'/\∃(ol:Addr)(os:List Int),H' ol=some (.lst (os.map V.int))/\iP (di ns 5) os/\σ'=[some (.ref a),some (.ref pl),some (.ref ol),none,none,none,none,none,none,none,none,none],?_,?_⟩
  ·exact⟨_,U,a,ns,5,U,s1.seq hS,by decide,_,U,λl os H' s' el ho=>⟨s',l,os,el,ho,U⟩⟩
  rintro σ2 H2 ⟨t2,ol,os,eol,hos,rfl⟩;have s2:=s1.trans t2;have wV:=t2 _ _ epl;have Bv:=hpl.same t2;refine⟨λσ' H'=>ar H2 H'/\∃(rl:Addr)(rx:List V)(bms:List (List Int×Int)),H' rl=some (.lst rx)/\BRL H' rx bms/\rx.length<=56/\(∀b∈bms,b.1.length=pss.length/\b.2∈os/\∀x∈b.1,0<=x)/\σ'=[some (.ref a),some (.ref pl),some (.ref ol),some (.ref rl),none,none,none,none,none,none,none,none],?_,?_⟩
  ·obtain⟨ms,em,lm⟩:=vR ns 7 (some 64);have hlm:(ms.map V.int).length=ms.length:=length_map _;refine⟨_,U,_,U,_,U,a,_,U,s2.seq hS,λc1 hc1=>?_⟩;rw[show(some (7:Int))=some ((7:Nat):Int)from U,em];have u1:=ai hc1 (.lst (ms.map V.int));have e1:upd H2 c1 (.lst (ms.map V.int)) c1=some (.lst (ms.map V.int)):=ab;generalize upd H2 c1 (.lst (ms.map V.int))=H3 at u1 e1⊢;refine⟨c1,U,⟨_,SqL.of e1⟩,cY (xs:=ms.map V.int) (λD i zs H'=>ar H3 H'/\H' D=some (.lst zs)/\zs.length=i/\∃bms:List (List Int×Int),aI zs bms (λr b=>∃bl:Addr,bl≠D/\H' r=some (.tup [.ref bl,.int b.2])/\H' bl=some (.lst (b.1.map V.int)))/\∀b∈bms,b.1.length=pss.length/\b.2∈os/\∀x∈b.1,0<=x) (λD hD=>⟨ai hD _,ab,U,[],aI.nil,(λb h=>by cases h)⟩) (λD i zs H' hD _ hh=>SqL.of (hh.1 _ _ e1)) (λD i y zs H' hD e hh=>?_) (λD zs H' hD hh=>?_)⟩
   ·obtain⟨sm,eD,hl,bms,hz,hb⟩:=hh;obtain⟨c,rfl⟩:=rD e;have hi:i<(ms.map V.int).length:=(Fo.mp e).1;have sA:=u1.trans sm;refine⟨_,U,_,U,_,U,c,pl,ol,xs,pss,os,_,U,sA _ _ wV,Bv.same sA,hp4,hg.pts,sA _ _ eol,hos,λr bl_ mm cd H'' s' nr nb er eb hmm hmn hcd=>?_⟩;have eD2:=s' _ _ eD;have nbD:bl_≠D:=λz=>by rw[z,eD]at nb;cases nb
    refine cF.mk hi eD2 (ay (by lia)) ⟨(sm.trans s').upd hD,ab,by rw[length_append,length_singleton,hl],bms++[(mm,cd)],?_,λb hb'=>?_⟩
    ·have hz2:aI (zs++[.ref r]) (bms++[(mm,cd)]) (λr b=>∃bl:Addr,bl≠D/\H'' r=some (.tup [.ref bl,.int b.2])/\H'' bl=some (.lst (b.1.map V.int))):=aI.snoc (aI.mono hz λr b ⟨bl,n,e,f⟩=>⟨bl,n,s' _ _ e,s' _ _ f⟩) ⟨bl_,nbD,er,eb⟩;exact aI.mono hz2 λr b ⟨bl,n,e,f⟩=>⟨bl,n,(aw (dA e eD2 (by intro z;cases z))).trans e,(aw n).trans f⟩
    ·rcases mem_append.mp hb' with hb' | hb'
     ·exact hb b hb'
     ·rw[show b=(mm,cd) by simpa using hb'];exact⟨hmm,hcd,hmn⟩
   ·obtain⟨sm,eD,hl,bms,hz,hb⟩:=hh;exact⟨u1.trans sm,D,zs,bms,eD,aI.mono hz λr b ⟨bl,_,e,f⟩=>⟨bl,e,f⟩,by lia,hb,U⟩
  rintro σ4 H4 ⟨t4,rl,rx,bms,Bw,Af,Ff,hbm,rfl⟩;have s4:=s2.trans t4;have Bx:=t4 _ _ wV;have By:=Bv.same t4;have Bz:=t4 _ _ eol;have hrb:rx.length=bms.length:=Af.1;obtain⟨bs,hbs⟩:∃bs,bs=pss.map λps=>(loP ps,hiP ps):=⟨_,U⟩
  have hbl:bs.length=pss.length:=by rw[hbs];simp
  refine⟨λσ' H'=>ar H4 H'/\∃(t ou:Addr)(rws:List Rw)(nm wy:Str)(zs:List Str)(dv:List V)(wi:Nat),rF (λ_=>True) Y.k H' t rws nm wy ou zs dv/\aI dv bs (Dom Y.i Y.j H')/\Dom Y.i Y.j H' ou (o0 os,o4 os)/\six[wi]?=some wy/\rws.length=bms.length/\(∀w∈rws,nK bs (o0 os,o4 os) w)/\(∀(k:Nat)(b:List Int×Int)(x:Rw),bms[k]?=some b->rws[k]?=some x->GrR pss b x)/\σ'=[some (.ref a),some (.ref pl),some (.ref ol),some (.ref rl),some (.ref t),none,none,none,none,none,none,none],?_,?_⟩
  ·refine⟨_,U,_,U,_,U,_,U,a,pl,ol,rl,ns,xs,pss,os,rx,bms,U,s4.seq hS,Bx,By,hg,hp1,hp4,Bz,hos,Bw,Af,by lia,hbm,λt rws nm wy ou zs dv wi H' s' hT hdv hou hw1 hw2 hw3 hw4 hzl EA hok hgr=>?_⟩;rw[←hbs]at hdv hok;exact⟨s',t,ou,rws,nm,wy,zs,dv,wi,hT.wk,hdv,hou,hw1,EA,hok,hgr,U⟩
  rintro σ5 H5 ⟨t5,t,ou,rws,nm,wy,zs,dv,wi,hT,hdv,hou,hwy,hrw,hok,hgr,rfl⟩;have s5:=s4.trans t5;have hr4:∀w∈rws,w.1.length<=4:=λw hw=>by rw[(hok w hw).len];lia
  have hrl:∀w∈rws,w.1.length=pss.length:=λw hw=>by rw[(hok w hw).len];exact hbl
  have EB:o0 os<=o4 os:=by
   obtain⟨x0,x1,x2,x3,x4,rfl,Fg,h12,h23,h34,_⟩:=id hos;show x0<=x4;lia
  have hgk:∀(k:Nat)(x:Rw),rws[k]?=some x->∃b,bms[k]?=some b/\GrR pss b x:=λk x e=>by
   have hk:=(Fo.mp e).1;exact⟨_,Fn (l:=bms) (i:=k) (by lia),hgr k _ x (Fn (by lia)) e⟩
  have hR5:RfH Y.k Y.i Y.j H5 t dv bs rws (λc=>pss.getD c []) kk wi (o0 os,o4 os):=by
   obtain⟨rl_,dx,na,dl,fs,xs',e1,e2,e3,e4,e5,e6,e7,e8,e9,e10,e11,_⟩:=id hT;refine⟨⟨rl_,dx,dl,fs,xs',e1,e2,e7,e9,hdv,e10,aI.mono e11 λ_ _ p=>p⟩,hT.tbl hwy hou EB,by lia,by lia,λx hx=>⟨(hok x hx).len,λc=>?_⟩,λc b eb=>?_,by rw[hbl];exact hk3,Ae,λp hp=>?_⟩
   ·obtain⟨k,ek⟩:=getElem?_of_mem hx;obtain⟨b,eb,_,gl,gs⟩:=hgk k x ek;by_cases hc:c<pss.length
    ·have ep:=Fn hc;have eq:=Fn (l:=x.1) (i:=c) (by lia);have EC:=(hbm b (Fp eb)).1;have em:=Fn (l:=b.1) (i:=c) (by lia);have h1:=(gs c _ _ _ ep eq em).lenA;have h2:=(hg.pts _ (Fp ep)).few;have h3:=(hg.pts _ (Fp ep)).two;rw[getD_eq_getElem?_getD,eq];show x.1[c].length<=6;lia
    ·rw[getD_eq_getElem?_getD,getElem?_eq_none (by lia)];exact zero_le _
   ·have hc:c<pss.length:=by have:=(Fo.mp eb).1;lia
    have ep:=Fn hc;have eL:pss.getD c []=pss[c]:=by rw[getD_eq_getElem?_getD,ep];rfl
    show(pss.getD c []).length<=kk/\∀y,MkC rws c b y->y∈pss.getD c [];rw[eL];refine⟨hsz _ (Fp ep),λy ⟨x,hx,hy⟩=>?_⟩;obtain⟨k,ek⟩:=getElem?_of_mem hx;obtain⟨b',eb',_,gl,gs⟩:=hgk k x ek;have eq:=Fn (l:=x.1) (i:=c) (by lia);have EC:=(hbm b' (Fp eb')).1;have em:=Fn (l:=b'.1) (i:=c) (by lia);have hE:=(mem_filter.mp hy).1;rw[getD_eq_getElem?_getD,eq]at hE;obtain⟨p,hp,e⟩:=kX.mp hE;have:=(gs c _ _ _ ep eq em).ep p hp;rcases e with e|e
    ·rw[e];exact this.1
    ·rw[e];exact this.2
   ·rw[hbs]at hp;obtain⟨ps,hps,rfl⟩:=mem_map.mp hp;exact(hg.pts ps hps).le
  generalize hIL:((cm (gls pss)).map λat_=>(dn pss at_,ltC bms wi (o0 os,o4 os) at_))=IL;have ED:IL.length<=300:=by
   rw[←hIL,length_map];refine le_trans (n4 (b:=kk+1) U λn hn=>?_) (by unfold gls;rw[length_map];exact hk3);obtain⟨ps,hps,rfl⟩:=mem_map.mp hn;have:=hsz ps hps;lia
  refine⟨λσ' H'=>ar H5 H'/\∃dl:Addr,H5 dl=none/\H' dl=some (.lst [])/\σ'=[some (.ref a),some (.ref pl),some (.ref ol),some (.ref rl),some (.ref t),some (.ref dl),none,none,none,none,none,none],⟨(by show 0<=sizeLine;decide),λdl hd=>⟨ai hd _,dl,hd,ab,U⟩⟩,?_⟩;rintro σ6 H6 ⟨t6,dl,ndl,edl,rfl⟩;refine⟨λσ' H'=>ar H6 H'/\∃il:Addr,H6 il=none/\H' il=some (.lst [])/\σ'=[some (.ref a),some (.ref pl),some (.ref ol),some (.ref rl),some (.ref t),some (.ref dl),some (.ref il),none,none,none,none,none],⟨(by show 0<=sizeLine;decide),λil hd=>⟨ai hd _,il,hd,ab,U⟩⟩,?_⟩;rintro σ7 H7 ⟨t7,il,Ag,eil,rfl⟩;have EE:=t7 _ _ edl;have t57:=t6.trans t7;have Ah:H5 il=none:=t6.free Ag;have ndi:dl≠il:=λz=>by rw[←z,edl]at Ag;cases Ag
  have yb:=t5 _ _ Bx;have Ai:=By.same t5;have BA:=t5 _ _ Bw;have BB:BRL H5 rx bms:=aI.mono Af λ_ _ ⟨bl,e,f⟩=>⟨bl,t5 _ _ e,t5 _ _ f⟩
  have EU:=yb;obtain⟨trl,tdx,tna,tdl,tfs,txs,g1_,g2_,g3_,g4_,g5_,g6_,g7_,g8_,g9_,Fh,Fi,_⟩:=id hT;have EF:=t5 _ _ Bz;refine⟨λσ' H'=>ar H5 H'/\∃(tx:List V)(c7 c8:Option V),H' il=some (.lst tx)/\aI tx (IL.map (·.1)) (BxA H')/\H' dl=some (.lst (IL.map λx=>if x.2=0 then V.non else V.int x.2))/\σ'=[some (.ref a),some (.ref pl),some (.ref ol),some (.ref rl),some (.ref t),some (.ref dl),some (.ref il),c7,c8,none,none,none],?_,?_⟩
  ·refine⟨_,U,pl,xs,pss,U,t57 _ _ yb,Ai.same t57,hg.pts,hp4,λql zs H8 t8 eq hq=>?_⟩;have hqz:zs.length=(cm (gls pss)).length:=hq.1;have hpn:∀p∈cm (gls pss),p.length=pss.length:=λp hp=>by rw[(kx.iff.mp hp).1];unfold gls;rw[length_map]
   have Aj:=t8 _ _ EE;have Ak:=t8 _ _ eil;have t58:=t57.trans t8;have nq:zs≠[]->ql≠dl/\ql≠il:=λhz=>⟨λz=>by rw[z,Aj]at eq;cases eq;exact hz U,λz=>by rw[z,Ak]at eq;cases eq;exact hz U⟩
   refine⟨ql,U,⟨_,SqL.of eq⟩,bB (xs:=zs) (λj σ H'=>(∀d o,d≠dl->d≠il->H8 d=some o->H' d=some o)/\∃(tx:List V)(c7 c8:Option V),H' il=some (.lst tx)/\aI tx ((IL.take j).map (·.1)) (BxA H')/\H' dl=some (.lst ((IL.take j).map λx=>if x.2=0 then V.non else V.int x.2))/\σ=[some (.ref a),some (.ref pl),some (.ref ol),some (.ref rl),some (.ref t),some (.ref dl),some (.ref il),c7,c8,none,none,none]) ⟨λd o _ _ e=>e,[],none,none,Ak,aI.nil,Aj,U⟩ (λj σ H' hj h=>?_) (λj y σ H' ey h=>?_) (λσ H' h=>?_)⟩
   ·have hz:zs≠[]:=λz=>by
     rw[z,length_nil]at hqz;exact wN (λn hn=>by obtain⟨ps,hps,rfl⟩:=mem_map.mp hn;have:=(hg.pts ps hps).two;lia) (List.length_eq_zero_iff.mp hqz.symm)
    exact SqL.of (h.1 _ _ (nq hz).1 (nq hz).2 eq)
   ·obtain⟨kp,tx,c7,c8,etx,htx,eds,rfl⟩:=h;obtain⟨al,p,rfl,ep,_,hal⟩:=aI.get hq ey;have hpm:=Fp ep;have lp:=hpn p hpm;have BC:(vN p)≠[]:=λz=>by have:=congrArg List.length z;rw[cU,lp]at this;rw[length_nil]at this;lia
    have nal:al≠dl/\al≠il:=⟨λz=>by rw[z,Aj]at hal;exact BC (by injection hal with hal;injection hal with hal;exact hal.symm),λz=>by rw[z,Ak]at hal;exact BC (by injection hal with hal;injection hal with hal;exact hal.symm)⟩;have sm:ar H5 H':=λd o e=>kp d o (λz=>by rw[z,ndl]at e;cases e) (λz=>by rw[z,Ah]at e;cases e) (t58 _ _ e)
    have eal:=kp _ _ nal.1 nal.2 hal;have eIL:IL[j]?=some (dn pss p,ltC bms wi (o0 os,o4 os) p):=by rw[←hIL,getElem?_map,ep];rfl
    have hjl:j<IL.length:=(Fo.mp eIL).1;have htl:=htx.1;rw[length_map,length_take]at htl;refine⟨λσ' H9=>ar H' H9/\∃fl:Addr,H' fl=none/\H9 fl=some (.lst (vN (ky bms p)))/\σ'=[some (.ref a),some (.ref pl),some (.ref ol),some (.ref rl),some (.ref t),some (.ref dl),some (.ref il),some (.ref al),some (.ref fl),none,none,none],?_,?_⟩
    ·exact⟨_,U,_,U,rl,al,rx,bms,p,U,sm _ _ BA,(aI.mono BB λ_ _ ⟨bl,e,f⟩=>⟨bl,sm _ _ e,sm _ _ f⟩),by lia,eal,by lia,(λb_ hb_=>⟨by rw[(hbm b_ hb_).1,lp],(hbm b_ hb_).2.2⟩),λfl H9 s9 nfl efl=>⟨s9,fl,nfl,efl,U⟩⟩
    rintro σ9 H9_ ⟨s9_,fl,nfl,efl,rfl⟩;have smA:=sm.trans s9_;have BD:=s9_ _ _ etx;have Fj:=s9_ _ _ eds;have EG:=s9_ _ _ eal;have nfd:fl≠dl:=λz=>by rw[z,eds]at nfl;cases nfl
    have nfi:fl≠il:=λz=>by rw[z,etx]at nfl;cases nfl
    refine⟨_,U,.inl ⟨U,_,SqL.of BD⟩,_,U,_,U,pl,al,xs,pss,p,U,smA _ _ yb,Ai.same smA,hp4,hpm,EG,λb H9 s9 hb9=>?_⟩;have BE:=s9 _ _ BD;have u9:=s9_.trans s9;refine⟨il,_,_,U,U,BE,ay (by lia),?_⟩;have yc:∀d o,d≠il->H9 d=some o->upd H9 il (.lst (tx++[.ref b])) d=some o:=λd o hd e=>(aw hd).trans e
    have wZ:cj H9 (upd H9 il (.lst (tx++[.ref b]))):=aO BE;have BG:upd H9 il (.lst (tx++[.ref b])) il=some (.lst (tx++[.ref b])):=ab;generalize upd H9 il (.lst (tx++[.ref b]))=H10 at yc wZ BG⊢;have yd:=yc _ _ ndi (u9 _ _ eds);have EH:=hb9.mono wZ;have BH:=yc _ _ nfi (s9 _ _ efl);have BI:aI tx ((IL.take j).map (·.1)) (BxA H10):=aI.mono htx λ_ _ q_=>(BxA.mono q_ u9.tups).mono wZ
    refine⟨_,U,.inl ⟨U,_,SqL.of yd⟩,dl,_,_,U,U,yd,ay (by rw[length_map,length_take];lia),?_⟩;generalize hds:((IL.take j).map λx=>if x.2=0 then V.non else V.int x.2)=ds at eds yd⊢;have ye:∀d o,d≠dl->H10 d=some o->upd H10 dl (.lst (ds++[.non])) d=some o:=λd o hd e=>(aw hd).trans e
    have w6:cj H10 (upd H10 dl (.lst (ds++[.non]))):=aO yd;have BJ:upd H10 dl (.lst (ds++[.non])) dl=some (.lst (ds++[.non])):=ab;generalize upd H10 dl (.lst (ds++[.non]))=H11 at ye w6 BJ⊢;have EI:=ye _ _ ndi.symm BG;have yf:=ye _ _ nfd BH;have kpA:∀d o,d≠dl->d≠il->H8 d=some o->H11 d=some o:=λd o h1 h2 e=>ye _ _ h1 (yc _ _ h2 (u9 _ _ (kp _ _ h1 h2 e)))
    have Al:ar H5 H11:=λd o e=>kpA d o (λz=>by rw[z,ndl]at e;cases e) (λz=>by rw[z,Ah]at e;cases e) (t58 _ _ e)
    have BK:aI (tx++[.ref b]) ((IL.take (j+1)).map (·.1)) (BxA H11):=by
     rw[take_snoc eIL,map_append];exact aI.snoc (aI.mono BI λ_ _ q_=>BxA.mono q_ w6) (EH.mono w6)
    have hfn:=wC bms p;have hfL:=xP (bms:=bms) (at_:=p);have row:∀k,k<bms.length->∃ra bl,rx[k]?=some (.ref ra)/\H5 ra=some (.tup [.ref bl,.int (bms.getD k ([],0)).2]):=λk hk=>by
     obtain⟨ra,e1,bl,e2,_⟩:=BB.2 k _ (Fn hk);refine⟨ra,bl,e1,?_⟩;rw[e2,getD_eq_getElem?_getD,Fn hk];rfl
    have hms:((ky bms p).map λk:Nat=>(1:Int)*2^((k:Int)).toNat).sum=((msk (λk=>gY p (bms.getD k ([],0))) bms.length:Nat):Int):=tq _ _;have BL:=@Aa bms wi (o0 os,o4 os) p;have BM:(ver (wf wi (o0 os) (o4 os)) (cdF bms (ky bms p))).1≠Str.ofString "clash" -> ltC bms wi (o0 os,o4 os) p=0:=λz=>by unfold ltC;rw[if_neg z]
    generalize ky bms p=fit at efl hfn hfL BH yf hms BL BM;refine⟨_,U,fl,U,⟨_,SqL.of yf⟩,cY (xs:=vN fit) (λE a ws H'=>ar H11 H'/\H' E=some (.lst ws)/\ws=(cdF bms (fit.take a)).map V.int) (λE hE=>⟨ai hE _,ab,U⟩) (λE a ws H' hE _ h=>SqL.of (h.1 _ _ yf)) (λE a y ws H4 hE e h=>?_) (λE ws H12 hE h=>?_)⟩
    ·obtain⟨sm,eE,rfl⟩:=h;obtain⟨k,rfl,ek⟩:=yM e;have ha:a<(vN fit).length:=(Fo.mp e).1;obtain⟨ra,bl,x1,x2⟩:=row k (hfL k (Fp ek));refine⟨_,U,_,U,rl,_,_,_,U,U,SqL.of (sm _ _ (Al _ _ BA)),aZ x1,ra,_,_,_,U,U,SqT.of (sm _ _ (Al _ _ x2)),U,cF.mk ha eE (ay (by rw[length_map];unfold cdF;rw[length_map,length_take];lia)) ⟨sm.upd hE,ab,?_⟩⟩;rw[take_snoc ek];unfold cdF;rw[map_append,map_append];rfl
    obtain⟨s12,eE,rfl⟩:=h;rw[cU,take_length]at eE;have hcl:(cdF bms fit).length<=60:=by unfold cdF;rw[length_map];lia
    have BN:=Al.trans s12;refine⟨_,U,t,_,_,_,_,U,BN _ _ g1_,bl.k_Table,bl.na_Table_way,g4_,_,U,E,ol,wy,wi,cdF bms fit,os,_,U,eE,hcl,hwy,BN _ _ EF,hos,λrt H13 s13 e13=>?_⟩;have u13:=s12.trans s13;have BO:=u13 _ _ BJ;have BP:=u13 _ _ EI;have BQ:=u13 _ _ yf;have yO:aI (tx++[.ref b]) ((IL.take (j+1)).map (·.1)) (BxA H13):=aI.mono BK λ_ _ q_=>BxA.mono q_ u13.tups
    refine⟨rt,_,_,_,U,U,SqT.of e13,U,U,_,U,?_⟩;refine bV (λg=>?_) (λg=>?_)
    ·have g:=V.str.inj (of_decide_eq_true g);obtain⟨h1,h2⟩:=BL g;refine⟨_,U,fl,U,⟨_,SqL.of BQ⟩,cY (xs:=vN fit) (λE a ws H'=>ar H13 H'/\H' E=some (.lst ws)/\ws=((fit.take a).map λk:Nat=>(1:Int)*2^((k:Int)).toNat).map V.int) (λE hE=>⟨ai hE _,ab,U⟩) (λE a ws H' hE _ h=>SqL.of (h.1 _ _ BQ)) (λE a y ws H4 hE e h=>?_) (λE ws H14 hE h=>?_)⟩
     ·obtain⟨sm,eE,rfl⟩:=h;obtain⟨k,rfl,ek⟩:=yM e;have ha:a<(vN fit).length:=(Fo.mp e).1;have hk:=hfL k (Fp ek);refine⟨_,U,_,_,U,U,⟨by lia,by lia,by decide⟩,cF.mk ha eE (ay (by rw[length_map,length_map,length_take];lia)) ⟨sm.upd hE,ab,?_⟩⟩;rw[take_snoc ek,map_append,map_append];rfl
     obtain⟨s14,BR,rfl⟩:=h;rw[cU,take_length]at BR;refine⟨E,_,U,SqL.of BR,?_⟩;rw[hms];have BS:=s14 _ _ BO;refine⟨_,U,_,U,dl,_,_,_,U,U,BS,gq (by rw[length_append,length_singleton];lia),?_⟩;have el:(ds++[V.non]).length-1=ds.length:=by rw[length_append,length_singleton];lia
     rw[el,uz];have u14:=u13.trans s14;refine⟨λd o k1 k2 e=>(aw k1).trans (u14 _ _ (kpA d o k1 k2 e)),_,_,_,(aw ndi.symm).trans (s14 _ _ BP),aI.mono yO λ_ _ q_=>(BxA.mono q_ s14.tups).mono (aO BS),?_,U⟩;rw[ab,take_snoc eIL,map_append,hds];show _=some (HO.lst (ds++[if ltC bms wi (o0 os,o4 os) p=0 then V.non else V.int (ltC bms wi (o0 os,o4 os) p)]));rw[if_neg h2,h1]
    ·have h0:=BM λz=>g (decide_eq_true (congrArg V.str z))
     refine⟨λd o k1 k2 e=>u13 _ _ (kpA d o k1 k2 e),_,_,_,BP,yO,?_,U⟩;rw[BO,take_snoc eIL,map_append,hds];show _=some (HO.lst (ds++[if ltC bms wi (o0 os,o4 os) p=0 then V.non else V.int (ltC bms wi (o0 os,o4 os) p)]));rw[if_pos h0]
   ·obtain⟨kp,tx,c7,c8,etx,htx,eds,rfl⟩:=h;have hll:zs.length=IL.length:=by rw[hqz,←hIL,length_map]
    rw[hll,take_length]at htx eds;exact⟨λd o e=>kp d o (λz=>by rw[z,ndl]at e;cases e) (λz=>by rw[z,Ah]at e;cases e) (t58 _ _ e),tx,c7,c8,etx,htx,eds,U⟩
  rintro σ8 H8 ⟨t8,tx,c7,c8,etx,htx,eds,rfl⟩;have s8:=s5.trans t8;have rt8:wu K H8:=λz e=>(c9.new (htb z e)).same s8
  have ht8:wR K H8:=λz e=>(c9.new (hhb z e)).same s8
  have hR8:=hR5.so (So.of t8);generalize BU:(λcols:List (List (Int×Int))=>eO (bxs cols.length (lay (λcd=>hC rws wi (o0 os,o4 os) (mkg rws cd)) cols [])))=TF;refine⟨λσ' H'=>So H8 H'/\wu K H'/\wR K H'/\∃(fo:Addr)(fx:List V)(cols:List (List (Int×Int))),(∀o,rK o->H8 fo≠some o)/\H' fo=some (.lst fx)/\rL bs rws cols/\BxL H' fx (TF cols)/\fx.length<=300/\σ'=[some (.ref a),some (.ref pl),some (.ref ol),some (.ref rl),some (.ref t),some (.ref dl),some (.ref il),c7,c8,some (.ref fo),none,none],?_,?_⟩
  ·exact⟨_,U,t,dv,bs,rws,_,kk,wi,_,U,hR8,rt8,ht8,λl xs' cols H' so nl tb hb el hc hx xY=>⟨so,tb,hb,l,xs',cols,nl,el,hc,by rw[←BU];exact hx,xY,U⟩⟩
  rintro σ9 H9 ⟨so9,rt9,ht9,fo,fx,cols,nfo,efo,hc,hfx,hf3,rfl⟩;refine⟨λσ' H'=>H'=H9/\σ'=[some (.ref a),some (.ref pl),some (.ref ol),some (.ref rl),some (.ref t),some (.ref dl),some (.ref il),c7,c8,some (.ref fo),none,none],⟨_,U,_,_,_,_,true,U,.ty _,.inl (.lst efo),(by first|rfl|with_unfolding_all rfl|decide+kernel),_,U,bA ⟨U,U⟩⟩,?_⟩;rintro σ10 H10 ⟨rfl,rfl⟩;have Fl:fx.length=(TF cols).length:=Paired.length hfx;refine⟨λσ' H'=>H'=H10/\∃c10:Option V,σ'=[some (.ref a),some (.ref pl),some (.ref ol),some (.ref rl),some (.ref t),some (.ref dl),some (.ref il),c7,c8,some (.ref fo),c10,none],?_,?_⟩
  ·refine⟨_,U,fo,U,⟨_,SqL.of efo⟩,bB (xs:=fx) (λi σ H'=>H'=H10/\∃c10:Option V,σ=[some (.ref a),some (.ref pl),some (.ref ol),some (.ref rl),some (.ref t),some (.ref dl),some (.ref il),c7,c8,some (.ref fo),c10,none]) ⟨U,_,U⟩ (λi σ H' _ h=>by rw[h.1];exact SqL.of efo) (λi y σ H' e h=>?_) (λσ H' h=>h)⟩;obtain⟨e1,c10,rfl⟩:=h;rw[e1];obtain⟨qx,tx_,bx,eq,rfl,g1,g2⟩:=hfx.get e;refine⟨_,U,_,_,_,_,true,U,.ty _,.inl (.tup g1),(by first|rfl|with_unfolding_all rfl|decide+kernel),_,U,bA ?_⟩;refine⟨_,U,tx_,_,U,.inr (SqT.of g1),U,false,U,bA ?_⟩;exact⟨_,U,tx_,_,_,_,U,U,SqT.of g1,U,_,U,_,U,bA ⟨U,_,U⟩⟩
  rintro σ11 H11 ⟨e11,c10,rfl⟩;subst e11;have Am:rL (pss.map λps=>(loP ps,hiP ps)) rws cols:=by rw[←hbs];exact hc
  have BV:∀x∈rws,x.1.length=(pss.map λps=>(loP ps,hiP ps)).length:=λx hx=>by rw[length_map];exact hrl x hx
  have hsh:dR cols.length (lay (λcd=>hC rws wi (o0 os,o4 os) (mkg rws cd)) cols []) (pss.map λps=>(loP ps,hiP ps)):=lJ Am.ok [];have BW:∀cs,InB cs (pss.map λps=>(loP ps,hiP ps))->Tel cols.length (lay (λcd=>hC rws wi (o0 os,o4 os) (mkg rws cd)) cols []) cs (hC rws wi (o0 os,o4 os) (mkg rws cs)):=λcs hin=>by
   have:=oE (g:=λcd=>hC rws wi (o0 os,o4 os) (mkg rws cd)) Am.ok [] cs hin;rw[List.nil_append,xQ Am BV hin]at this;exact this
  have hlt:∀at_ cd,lR pss at_ cd->hC rws wi (o0 os,o4 os) (mkg rws cd)=ltC bms wi (o0 os,o4 os) at_:=λat_ cd h=>by
   exact Bi hg.pts hrw hgr (λb hb=>(hbm b hb).1) h
  have BY:∀(ps:List Int),ps∈pss->∀i j:Nat,i<ps.length->j<ps.length->ps.getD j 0-ps.getD i 0<=12*10^56:=λps hps i j hi hj=>by
   rw[getD_eq_getElem?_getD,getD_eq_getElem?_getD,Fn hi,Fn hj];exact hwd ps hps _ (getElem_mem hi) _ (getElem_mem hj)
  have p58:(12:Int)*10^56<=10^58:=by decide
  have hTF:TF cols=eO (bxs cols.length (lay (λcd=>hC rws wi (o0 os,o4 os) (mkg rws cd)) cols [])):=by rw[←BU]
  refine⟨λσ' H'=>ar H11 H'/\σ'=[some (.ref a),some (.ref pl),some (.ref ol),some (.ref rl),some (.ref t),some (.ref dl),some (.ref il),c7,c8,some (.ref fo),c10,none],?_,?_⟩
  ·refine⟨_,U,_,U,_,U,_,U,fo,il,dl,pl,V.int,fx,TF cols,tx,IL,xs,pss,U,efo,hfx,so9.lst etx,(aI.mono htx λ_ _ q_=>BxA.mono q_ so9.tups),so9.lst eds,so9.lst (t8 _ _ yb),(aI.mono Ai λ_ _ e=>so9.lst (t8 _ _ e)),hg.pts,hp4,(λx=>⟨U,λz=>by cases z⟩),?_,?_,?_,?_,?_,by lia,ED,λH' s'=>⟨_,U,bA ⟨s',U⟩⟩⟩
   ·rw[hTF];exact List.Pairwise.filter _ (wj hsh)
   ·intro q_ hq;rw[hTF]at hq;obtain⟨h1,h2⟩:=mem_filter.mp hq;exact⟨(p6 hsh q_ h1).1,of_decide_eq_true h2⟩
   ·intro q_ hq;rcases hq with hq|hq
    ·rw[hTF]at hq;have hin:=(p6 hsh q_ (mem_filter.mp hq).1).1;have hl:=hin.len;rw[length_map]at hl;refine⟨hl,λp hp=>?_⟩;obtain⟨j,ej⟩:=getElem?_of_mem hp;have hj:j<pss.length:=by have:=(Fo.mp ej).1;lia
     have e2:=Fn hj;obtain⟨k1,k2,k3⟩:=hin.get j p _ ej (by rw[getElem?_map,e2];rfl);have hm:=Fp e2;have h2:=(hg.pts _ hm).two;have:=BY _ hm 0 (pss[j].length-1) (by lia) (by lia);have k1:pss[j].getD 0 0<=p.1:=k1;have k3:p.2<=pss[j].getD (pss[j].length-1) 0-1:=k3;lia
    ·rw[←hIL]at hq;obtain⟨at_,hat,rfl⟩:=mem_map.mp hq;obtain⟨l1,l2⟩:=tj hg.pts hat;refine⟨l1,λp hp=>⟨by have:=l2 p hp;lia,?_⟩⟩;obtain⟨j,ej⟩:=getElem?_of_mem hp;have ej:(dn pss at_)[j]?=some p:=ej;unfold dn at ej;have hj:=(Fo.mp ej).1;rw[length_zipWith]at hj;have e1:=Fn (l:=pss) (i:=j) (by lia);have e2:=Fn (l:=at_) (i:=j) (by lia);rw[getElem?_zipWith,e1,e2]at ej;have ej:(pss[j].getD at_[j] 0,pss[j].getD (at_[j]+1) 0-1)=p:=Option.some.inj ej;have ha:at_[j]<pss[j].length-1:=(kx.iff.mp hat).2 j _ _ e2 (by unfold gls;rw[getElem?_map,e1];rfl);have:=BY _ (Fp e1) at_[j] (at_[j]+1) (by lia) (by lia);rw[←ej];show pss[j].getD (at_[j]+1) 0-1-pss[j].getD at_[j] 0<=10^58;lia
   ·intro q_ hq r_ hr_ hm;rw[hTF]at hq;rw[←hIL]at hr_;obtain⟨at_,hat,rfl⟩:=mem_map.mp hr_;exact uy hg.pts hsh BW hlt (mem_filter.mp hq).1 hat hm
   ·rw[hTF,wJ hg.pts hsh BW hlt,←hIL,wM];rfl
  rintro σ12 H12 ⟨t12,rfl⟩;have yP:=t12;have xa:=yP _ _ efo;refine⟨λσ' H'=>ar H12 H'/\∃kl:Addr,H12 kl=none/\H' kl=some (.lst fx)/\σ'=[some (.ref a),some (.ref pl),some (.ref ol),some (.ref rl),some (.ref t),some (.ref dl),some (.ref il),c7,c8,some (.ref fo),c10,some (.ref kl)],⟨_,U,fo,_,U,.inl (SqL.of xa),λkl hkl=>⟨ai hkl _,kl,hkl,ab,U⟩⟩,?_⟩;rintro σ13 H13 ⟨t13,kl,nkl,ekl,rfl⟩;have qu:=t13 _ _ xa;have yg:=yP.trans t13;have nkf:kl≠fo:=λz=>by rw[z,xa]at nkl;cases nkl
  refine⟨λσ' H'=>H'=upd H13 fo (.lst [])/\σ'=[some (.ref a),some (.ref pl),some (.ref ol),some (.ref rl),some (.ref t),some (.ref dl),some (.ref il),c7,c8,some (.ref fo),c10,some (.ref kl)],⟨_,U,.inl ⟨U,_,SqL.of qu⟩,fo,_,U,U,qu,U,U⟩,?_⟩;rintro σ14 H14 ⟨rfl,rfl⟩;have EJ:So H8 H13:=so9.trans (So.of yg);have EK:So H8 (upd H13 fo (.lst [])):=λd o po e=>(aw λz=>nfo o po (by rw[←z];exact e)).trans (EJ d o po e)
  have EL:wu K (upd H13 fo (.lst [])):=λz e=>qj ((rt9 z e).same yg) qu
  have EM:wR K (upd H13 fo (.lst [])):=λz e=>qj ((ht9 z e).same yg) qu
  have BZ:BxL (upd H13 fo (.lst [])) fx (TF cols):=BxL.mono (BxL.mono hfx yg.tups) (aO qu);refine⟨_,U,t,dv,bs,rws,_,kk,wi,_,U,hR8.so EK,EL,EM,λl xs' wQ H' so nl tb hb el hc' hx xY=>?_⟩;rw[←wO hc hc',←hTF]at hx;have hfy:=BxL.mono BZ so.tups;exact⟨_,U,uq (SqL.of el) (SqL.of (so.lst ((aw nkf).trans ekl))) (by rw[Paired.length hx,Paired.length hfy]) (λj x y e1 e2=>zT hx hfy e1 e2) (q _)⟩
end
structure FF(K:W.Frag)(Y:AD):Prop where
 (h0:GF K "all_among" "all_among" Y31)
 (h1:GF K "is_word" "is_word" Y45)
 (h2:GF K "is_whole" "is_whole" Y44)
 (h3:GF K "holds" "holds" Y43)
 (h4:GF K "edges" "edges" Y39)
 (h5:GF K "stretches" "stretches" Y77)
 (h6:GF K "grain" "grain" Y42)
 (h7:GF K "cut_columns" "cut_columns" Y38)
 (h8:GF K "built" "built" Y34)
 (h9:GF K "layered" "layered" Y68)
 (h10:GF K "closed" "closed" Y36)
 (h11:GF K "mapped" "mapped" Y69)
 (h12:GF K "boxes" "boxes" Y32)
 (h13:GF K "gathered" "gathered" Y41)
 (h14:GF K "way_by" "way_by" Y80)
 (h15:GF K "refuse_names" "refuse_names" Y73)
 (h16:GF K "refuse_counts" "refuse_counts" Y72)
 (h17:GF K "refuse_way" "refuse_way" Y75)
 (h18:GF K "refuse_row" "refuse_row" Y74)
 (h19:GF K "own_row" "own_row" Y71)
 (h20:GF K "fits" "fits" Y40)
 (h21:GF K "mask" "mask" Y70)
 (h22:GF K "judged" "judged" Y46)
 (h23:GF K "table_bounds" "table_bounds" Y78)
 (h24:GF K "table_marks" "table_marks" Y79)
 (h25:GF K "column_marks" "column_marks" Y37)
 (h28:GF K "boxes_with_leaf" "boxes_with_leaf" Y33)
 (h29:GF K "_law_cell" "_law_cell" Y49)
 (h30:GF K "_law_points" "_law_points" Y60)
 (h31:GF K "_law_grid_points" "_law_grid_points" Y53)
 (h32:GF K "_law_word" "_law_word" Y67)
 (h33:GF K "_law_domain" "_law_domain" Y50)
 (h34:GF K "_law_outs" "_law_outs" Y58)
 (h35:GF K "_law_outcome" "_law_outcome" Y57)
 (h36:GF K "_law_way" "_law_way" Y65)
 (h37:GF K "_law_row" "_law_row" Y61)
 (h38:GF K "_law_spans" "_law_spans" Y63)
 (h39:GF K "_law_table" "_law_table" Y64)
 (h40:GF K "_law_places" "_law_places" Y59)
 (h41:GF K "_law_box" "_law_box" Y48)
 (h42:GF K "_law_fitting" "_law_fitting" Y52)
 (h43:GF K "_law_due" "_law_due" Y51)
 (h44:GF K "_law_whole" "_law_whole" Y66)
 (h45:GF K "_law_is_box" "_law_is_box" Y54)
 (h46:GF K "_law_meet" "_law_meet" Y56)
 (h47:GF K "_law_size" "_law_size" Y62)
 (h48:GF K "_law_just" "_law_just" Y55)
 (h80:GF K "law" "law" Y47)
 (m62:MF K Y.i "has_code" "Domain.has_code" Y2)
 (m63:MF K Y.j "has_code" "Domain.has_code" Y3)
 (m68:MF K Y.b "verdict" "Way.verdict" Y24)
 (m69:MF K Y.b "chosen" "First.chosen" Y5)
 (m70:MF K Y.c "verdict" "Way.verdict" Y28)
 (m71:MF K Y.c "chosen" "Only.chosen" Y14)
 (m72:MF K Y.d "verdict" "Way.verdict" Y26)
 (m73:MF K Y.d "chosen" "Like.chosen" Y9)
 (m74:MF K Y.e "verdict" "Way.verdict" Y27)
 (m75:MF K Y.e "chosen" "Low.chosen" Y11)
 (m76:MF K Y.f "verdict" "Way.verdict" Y25)
 (m77:MF K Y.f "chosen" "High.chosen" Y7)
 (m78:MF K Y.g "verdict" "Way.verdict" Y29)
 (m79:MF K Y.g "chosen" "Sum.chosen" Y16)
 (k49:KF K Y.k "Table" "Table.__init__" Y17)
 (k50:KF K Y.b "First" "First.__init__" Y4)
 (k52:KF K Y.c "Only" "Only.__init__" Y13)
 (k54:KF K Y.d "Like" "Like.__init__" Y8)
 (k56:KF K Y.e "Low" "Low.__init__" Y10)
 (k58:KF K Y.f "High" "High.__init__" Y6)
 (k60:KF K Y.g "Sum" "Sum.__init__" Y15)
 (k64:KF K Y.i "Numbers" "Numbers.__init__" Y12)
 (k66:KF K Y.j "Words" "Words.__init__" Y30)
 (b51:BF K Y.a "Way" "__init__" "Way.__init__" Y18)
 (b53:BF K Y.a "Way" "__init__" "Way.__init__" Y22)
 (b55:BF K Y.a "Way" "__init__" "Way.__init__" Y20)
 (b57:BF K Y.a "Way" "__init__" "Way.__init__" Y21)
 (b59:BF K Y.a "Way" "__init__" "Way.__init__" Y19)
 (b61:BF K Y.a "Way" "__init__" "Way.__init__" Y23)
 (b65:BF K Y.h "Domain" "__init__" "Domain.__init__" Y0)
 (b67:BF K Y.h "Domain" "__init__" "Domain.__init__" Y1)
 (t26:TFn K "row_form" s_row_form)
 (t27:TFn K "clashes" s_clashes)
 (z0:W.nsIn K mainGlobals "len" = some none)
 (z1:W.nsIn K mainGlobals "isinstance" = some none)
 (z2:W.nsIn K mainGlobals "int" = some none)
 (z3:W.nsIn K mainGlobals "bool" = some none)
 (z4:W.nsIn K mainGlobals "sorted" = some none)
 (z5:W.nsIn K mainGlobals "list" = some none)
 (z6:W.nsIn K mainGlobals "set" = some none)
 (z7:W.nsIn K mainGlobals "zip" = some none)
 (z8:W.nsIn K mainGlobals "tuple" = some none)
 (z9:W.nsIn K mainGlobals "sum" = some none)
 (z10:W.nsIn K mainGlobals "range" = some none)
 (z11:W.nsIn K mainGlobals "enumerate" = some none)
 (z12:W.nsIn K mainGlobals "min" = some none)
 (z13:W.nsIn K mainGlobals "max" = some none)
 (y0:∃u,W.nsIn K mainGlobals "MOST_SIGNS" = some (some u)/\RelV (V.int 12) u)
 (y1:∃u,W.nsIn K mainGlobals "SMALL_LETTERS" = some (some u)/\RelV (V.str "abcdefghijklmnopqrstuvwxyz") u)
 (y2:∃u,W.nsIn K mainGlobals "MOST_GRAIN" = some (some u)/\RelV (V.int 300) u)
 (y3:∃u,W.nsIn K mainGlobals "MOST_ROWS" = some (some u)/\RelV (V.int 200) u)
 (y4:∃u,W.nsIn K mainGlobals "MOST_COLUMNS" = some (some u)/\RelV (V.int 4) u)
 (y5:∃u,W.nsIn K mainGlobals "NOTHING" = some (some u)/\RelV (V.int 0) u)
 (y6:∃u,W.nsIn K mainGlobals "MOST_WORDS" = some (some u)/\RelV (V.int 40) u)
theorem all_mk{l:W.OpenLaw}{w:World}{K:W.Frag}{h:Heap}{mg:Str->Option Value}{fa:Addr}{Y:AD}(X:K.In h)(G:h.Ns mainGlobals mg)(hfa:mg "law" = some (.ref fa)) (b:Bk K Y)(u:FF K Y)
  : ∃fd:FuncData,(∀(s:Shared)(v:Value),BindsTo s fd ⟨[v],[]⟩ [("script",v)])/\∀base:Heap,K.In base->base.Ns mainGlobals mg->(∀q∈(W.tabIn K "row_form").toList++(W.tabIn K "clashes").toList,W.CodeHd base q.1 q.2/\base.BuiltinsAt mg q.2)->aH l.prog w K mg base CX0 19 fa fd ["script"] (J18 K):=by
 cases u.h80 with | @mk _ fd a F =>
 cases hfa.symm.trans (W.mg_of X G a);have bl:Bl K mg Y:=⟨b,W.mg_of X G b.n_Way,W.mg_of X G b.n_First,W.mg_of X G b.n_Only,W.mg_of X G b.n_Like,W.mg_of X G b.n_Low,W.mg_of X G b.n_High,W.mg_of X G b.n_Sum,W.mg_of X G b.n_Domain,W.mg_of X G b.n_Numbers,W.mg_of X G b.n_Words,W.mg_of X G b.n_Table,W.mg_of X G b.n_NONE,W.mg_of X G b.n_CLASH,W.mg_none_of X G u.z0,W.mg_none_of X G u.z1,W.mg_none_of X G u.z2,W.mg_none_of X G u.z3,W.mg_none_of X G u.z4,W.mg_none_of X G u.z5,W.mg_none_of X G u.z6,W.mg_none_of X G u.z7,W.mg_none_of X G u.z8,W.mg_none_of X G u.z9,W.mg_none_of X G u.z10,W.mg_none_of X G u.z11,W.mg_none_of X G u.z12,W.mg_none_of X G u.z13,(let ⟨_,y,x⟩:=u.y0;⟨_,W.mg_of X G y,x⟩),(let ⟨_,y,x⟩:=u.y1;⟨_,W.mg_of X G y,x⟩),(let ⟨_,y,x⟩:=u.y2;⟨_,W.mg_of X G y,x⟩),(let ⟨_,y,x⟩:=u.y3;⟨_,W.mg_of X G y,x⟩),(let ⟨_,y,x⟩:=u.y4;⟨_,W.mg_of X G y,x⟩),(let ⟨_,y,x⟩:=u.y5;⟨_,W.mg_of X G y,x⟩),(let ⟨_,y,x⟩:=u.y6;⟨_,W.mg_of X G y,x⟩)⟩;refine⟨fd,λs v=>by obtain⟨_,_,_,_,_,_,_,_,_,e,_,_⟩:=F.ex;rw[e];exact .of_eq U,λbase _ _ hq=>?_⟩;have z:Zb l.prog w K mg base:=⟨X,G⟩;have qv:=mkC z u.h0 λF=>CZ F bl
 have mr:=mkC z u.h2 λF=>C0 F bl
 have yh:=mkC z u.h3 λF=>C1 F bl
 have yi:=mkC z u.h4 λF=>C2 F bl
 have qw:=mkC z u.h5 λF=>C3 F bl
 have qy:=mkC z u.h10 λF=>C5 F bl
 have rW:=mkC z u.h13 λF=>C6 F bl
 have kA:=mkC z u.h16 λF=>C7 F bl
 have uD:=mkC z u.h19 λF=>C8 F bl
 have mw:=mkC z u.h23 λF=>C9 F bl
 have je:=mkC z u.h29 λF=>Dc F bl
 have oW:=mkC z u.h30 λF=>Dd F bl
 have jf:=mkC z u.h32 λF=>Dg F bl
 have rX:=mkC z u.h34 λF=>Dh F bl
 have uE:=mkC z u.h36 λF=>Di F bl
 have uF:=mkC z u.h37 λF=>Dj F bl
 have qz:=mkC z u.h38 λF=>Dl F bl
 have oX:=mkC z u.h40 λF=>Dm F bl
 have uG:=mkC z u.h41 λF=>Dp F bl
 have mU:=mkC z u.h42 λF=>Dq F bl
 have uH:=mkC z u.h43 λF=>Dr F bl
 have kr:=mkC z u.h44 λF=>Ds F bl
 have rY:=mkC z u.h46 λF=>Dt F bl
 have rZ:=mkC z u.h47 λF=>Du F bl
 have gE:=mkB z u.b51 λF=>Dv F bl
 have ia:=mkB z u.b53 λF=>Dw F bl
 have ib:=mkB z u.b55 λF=>Dx F bl
 have jg:=mkB z u.b57 λF=>Dy F bl
 have ie:=mkB z u.b59 λF=>Dz F bl
 have jh:=mkB z u.b61 λF=>DA F bl
 have eA:=mkB z u.b65 λF=>O_0 F bl
 have fw:=mkB z u.b67 λF=>O_1 F bl
 have gF:=mkM z u.m69 λF=>O_5 F bl
 have ji:=mkM z u.m71 λF=>DB F bl
 have jj:=mkM z u.m73 λF=>O_9 F bl
 have kd:=mkM z u.m75 λF=>DC F bl
 have jk:=mkM z u.m77 λF=>O_7 F bl
 have ke:=mkM z u.m79 λF=>DD F bl
 have n9:=mkC z u.h1 λF=>DE F bl qv.up
 have iF:=mkC z u.h7 λF=>DF F bl qw.up
 have An:=mkC z u.h20 λF=>DH F bl yh.up
 have my:=mkC z u.h25 λF=>DI F bl rW.up yi.up
 have jJ:=mkC z u.h31 λF=>DJ F bl je.up oW.up
 have oY:=mkC z u.h45 λF=>DK F bl kr.up
 have fS:=mkK z u.k50 λF=>O_4 F bl gE.up
 have gG:=mkK z u.k52 λF=>DL F bl ia.up
 have gH:=mkK z u.k54 λF=>O_8 F bl ib.up
 have jl:=mkK z u.k56 λF=>DM F bl jg.up
 have gI:=mkK z u.k58 λF=>O_6 F bl ie.up
 have jm:=mkK z u.k60 λF=>DN F bl jh.up
 have eB:=mkM z u.m62 λF=>O_2 F bl mr.up
 have fA:=mkM z u.m63 λF=>O_3 F bl mr.up
 have cE:=mkK z u.k64 λF=>DO F bl eA.up
 have ig:=mkM z u.m68 λF=>DP F bl gF.up
 have jn:=mkM z u.m70 λF=>DQ F bl ji.up
 have jo:=mkM z u.m72 λF=>DR F bl jj.up
 have jK:=mkM z u.m74 λF=>DS F bl kd.up
 have jq:=mkM z u.m76 λF=>DT F bl jk.up
 have jL:=mkM z u.m78 λF=>DU F bl ke.up
 have yj:=mkC z u.h6 λF=>DV F bl iF.up
 have mz:=mkC z u.h15 λF=>DW F bl n9.up
 have oZ:=mkC z u.h18 λF=>DX F bl eB.up fA.up
 have xb:=mkC z u.h21 λF=>DY F bl An.up
 have mV:=mkC z u.h24 λF=>DZ F bl my.up
 have sd:=mkC z u.h48 λF=>D1 F bl rZ.up rY.up oY.up
 have dk:=mkK z u.k66 λF=>D7 F bl fw.up n9.up
 have qA:=mkC z u.h14 λF=>D8 F bl fS.up gG.up gH.up jl.up gI.up jm.up
 have o6:=mkC z u.h17 λF=>Ea F bl qA.up
 have qB:=mkC z u.h22 λF=>Eb F bl ig.up jn.up jo.up jK.up jq.up jL.up qA.up
 have o7:=mkC z u.h33 λF=>Ec F bl cE.up dk.up jf.up
 have mW:=mkC z u.h35 λF=>Ed F bl cE.up dk.up jf.up
 have fT:=mkK z u.k49 λF=>Ee F bl mz.up kA.up o6.up oZ.up uD.up
 have yk:=mkR z u.h12 0 7 wU λn F c=>Ef F bl c
 have jM:=mkC z u.h28 λF=>Eg F bl yk.up
 have qC:=mkC z u.h39 λF=>Eh F bl je.up uE.up fT.up o7.up jf.up mW.up qz.up
 have uI:=mkR z u.h9 8 7 rO λn F c=>El F bl (qy.mono (by lia)) c (by lia)
 have xc:=mkR z u.h11 8 7 uA λn F c=>Em F bl (qy.mono (by lia)) c (by lia)
 have ym:=mkC z u.h8 λF=>Eo F bl uI.up yj.up iF.up
 have se:=mkT z u.t26 (λq h=>hq q (by simp only[mem_append];simp[h])) λF h1 h2 h3=>Er F bl ym.up mw.up mV.up xb.up h1 h2 h3 xb.up
 have uJ:=mkT z u.t27 (λq h=>hq q (by simp only[mem_append];simp[h])) λF h1 h2 h3=>Eu F bl xc.up jM.up se.up qB.up h1 h2 h3 qB.up
 exact Ez F bl jJ.up rX.up qC.up oX.up uJ.up je.up uF.up mU.up sd.up uG.up uH.up kr.up
theorem walk{l:W.OpenLaw}{q:Program}{loose:List Str}{XP:(Str->Option Value)->Heap->Prop}{YP:World->Heap->Prop}{d:DefRec}{K:Params->W.Frag}(hn:l.most=some 63)(hdf:d.params.defaults=[])
  (hY:∀(w:World)(h:Heap),YP w h->(K w.params).In h)(hnK:∀p:Params,W.noTabs (K p)=true)(hxs:∃d',(PyProof.Rows.recsOf q).find? (λe=>e.name == ("row_form" : Str))=some d') (Ao:∃d',(PyProof.Rows.recsOf q).find? (λe=>e.name == ("clashes" : Str))=some d')
  (F:∀(w:World)(mg:Str->Option Value)(fa:Addr)(h:Heap),(K w.params).In h->h.Ns mainGlobals mg->mg d.name=some (.ref fa) ->
   ∃fd:FuncData,(∀(s:Shared)(u:Value),BindsTo s fd ⟨[u],[]⟩ [("script",u)])/\∀base:Heap,(K w.params).In base->base.Ns mainGlobals mg->(∀q∈(W.tabIn (K w.params) "row_form").toList++(W.tabIn (K w.params) "clashes").toList,W.CodeHd base q.1 q.2/\base.BuiltinsAt mg q.2)->aH l.prog w (K w.params) mg base CX0 19 fa fd ["script"] (J18 (K w.params))) :
  W.WalkO q loose XP YP l.row.toRowW d [] (λf vs=>PySem.call f vs) :=
 L2.walk_ofT (n:=63) (k:=19) (x := "script") (CX:=λ_=>CX0) (sp:=λw=>J18 (K w.params)) (tabs:=λp=>(W.tabIn (K p) "row_form").toList++(W.tabIn (K p) "clashes").toList) (xs:=["row_form","clashes"]) hn (by decide) hdf ⟨U,by decide,by decide⟩ hY hnK (forall_mem_cons.mpr ⟨hxs,forall_mem_cons.mpr ⟨Ao,forall_mem_nil _⟩⟩)
  (λp t h=>(mem_append.mp h).elim (λh=>⟨_,mem_cons_self,sO h⟩) λh=>⟨_,(mem_cons_of_mem _ mem_cons_self),sO h⟩) F
  (λw H a ns hl _ hS hq=>⟨a,ns,U,hS,hl,λz e=>hq z (mem_append.mpr (.inl (by rw[e];exact mem_cons_self))),λz e=>hq z (mem_append.mpr (.inr (by rw[e];exact mem_cons_self))),λ_=>U⟩) λ_ _ _ _ _ z=>z
end My
set_option genSizeOf false in
set_option genInjectivity false in
structure PySem.W.Fast:Prop where (tw8938503553723677777 tw10465854660044541317 tw14062412741985265245 tw12904969244371881395 tw908213638840756858 tw15738965344264092540 tw6111928861319704676 tw2724248013014579135 tw2043982047747917159 tw11080739089574005426 tw11217550287420113693 tw13541109813181338603 tw7747749599003259598 tw2319405148501297448 tw14661958204712757381 tw12514027407956126037 tw14086330347399523871 tw4603315842285605979 tw9566554884364863530 tw16135847398613784967 tw1870466265055573817 tw3538279452731548896 tw13183913867259482100 tw10496024713265187257 tw6267297137251540955 tw6612344730783888121 tw18015391728983345838 tw16249470931344700863 tw645001268859733675 tw8992273165653052841 tw4849952996112685136 tw3731238818443371775 tw5824047308704596532 tw1654929893209663180 tw6534103787438318388 tw9844275603190916783 tw9565896920014115913 tw6479458565487008898 tw15068669659106082603 tw13113815053112589789 tw16953740094217250147 tw10891761027476985781 tw8135048514522579119 tw947478504145625830 tw17273511913024070046 tw4821355709052577852 tw7612719508770934349 tw225807100016497730 tw16750365517354997681 tw15123446761695390797 tw10164171614672167691 tw2096307699556318449 tw16719417429691139868 tw18389381746770682511 tw14884836486829291311 tw3118276569530080509 tw8378453390312658499 tw2320524303056650207 tw534897561671234416 tw7539426865915219041 tw3724368289820082831 tw6146138420447965694 tw8553208289392656428 tw11608093050424350958 tw2190925969910998491 tw16841859140710294125 tw4247349386764575226 tw5122120092455370761 tw10887424259346932473 tw2886279024929427218 tw11612455412163035746 tw15929157570614527891 tw15623642724527517353 tw5896640089793998353 tw17579284465347371611 tw16860325883719043571 tw1483968823187029771 tw5240906974059190422 tw1734123487735212534 tw14132923135985782359 tw16091057883598005463 tw3642842541586508509 tw1270353941570079073 tw4992605973452873291 tw8511217789612080181 tw3811017415989865301 tw5775735855104575374 tw12355774091732129978 tw12190521203485451373 tw7955018499958094693 tw16231058898906484412 tw4475786111264617513 tw13976209510950517781 tw6387495854611516007 tw7693588844485940088 tw5694014732912003318 tw16972095807401442541 tw6593191354031180506 tw13275452508205140501 tw17038452044273932668 tw11271809606498725407 tw11879566788573282845 tw13611463838977903502 tw16934879980890615112 tw3414085356871197283 tw5959107746903026409 tw8786889731432987881 tw503914403654360288 tw15637409250018248853 tw8224822351959676156 tw14932779910967388567 tw9944273467881318248 tw1420386313184762281 tw6417941334253931271 tw10938065531786189432 tw16202171408822238427 tw4276173945225753584 tw16584250687802034588 tw4671868329912826881 tw8542607064340528644 tw10364711524589893860 tw4044959718514250949 tw7177573564351596933 tw12435525683850541201 tw15463265366395212874 tw14832622677046725822 tw8476498812173714041 tw17111609855093410089 tw9884675384935156863 tw4012505197440594195 tw16279051292158855792 tw4271133703732538435 tw18369496620178245760 tw765357345307761625 tw1760321220430882621 tw9704758646155431878 tw14600268317134552546 tw8384524263142276182 tw8272421909673168579 tw12110096811508512113 tw4133490376244169567 tw7595456054017880676 tw11375068952109514238 tw3032917220648882541 tw17658410063119374865 tw7485251889373466894 tw16029799868938199450 tw4181378667040733370 tw14803916182602980283 tw2879315376694597318 tw3645192865956360206 tw12632154468875747573 tw657599190856642551 tw6448660770843600738 tw13795478940678118648 tw8662467216041344518 tw10049470127615938708 tw1219735198357049933 tw7332962135321117993 tw15951906834256574854 tw9759508576362395840 tw10378537217505689778 tw15304638782246243760 tw6808538762148063333 tw7161468673545270913 tw10773660599361078090 tw12299310519203729647 tw8857741527056815265 tw10048420137368873554 tw5905158133508545648 tw5178043588704663227 tw9413055765467034813 tw4917637694631185871 tw9160546207729088833 tw10190067528700818268 tw4566515887243132615 tw11110680126845076947 tw9372138541216948597 tw7157609951936095952 tw10389077912198293878 tw8675843671041475139 tw11762886963554902695 tw3592526842186772307 tw16588299437337847658 tw3753402129567219698 tw11235025813954544120 tw14807413692704067966 tw17833286380865045999 tw4259447049812553197 tw14087840027500132824 tw11249919962001035977 tw510573860825730897 tw4460391458313285535 tw5738251194888775007 tw1552749581029824599 tw8236156076012075236 tw5422006453125358756 tw8250923995037860728 tw16016392727736736554 tw5106120921685652312 tw4303942776939014028 tw8022928799140708058 tw489710118141344871 tw3935274231266254365 tw2658287927654501480 tw1580976521918978718 tw5635472502593690344 tw2312512803186965385 tw3396986515622709046 tw7590025284570486394 tw16447321006896553116 tw13049724310602936663 tw16746058409939357209 tw1866159098452930354 tw12291380457751686837 tw15839688073138143088 tw352879740019215417 tw8265174955171556040 tw15817643372617100301 tw14476344692320060577 tw10357010685502716810 tw17122177599109481212 tw12527255275094557625 tw1243531345882880168 tw8825762173196653854 tw13308843325369635453 tw674919172041812150 tw17294849107463052906 tw16087190835715044276 tw15840290957581118399 tw2132074160384526734 tw17239508152385234163 tw4961698328301516621 tw4005813229490850763 tw11078448992186824126 tw16324661141038904231 tw215748356748690402 tw7993900893347107122 tw11507826064506405245 tw1474659236116955839 tw13879408744964487614 tw8432146409532855704 tw12109119498963885732 tw10238437437971370257 tw2534792104672235851 tw18257627135704390325 tw11525891349672701213 tw13285094769871354602 tw12496532260085407515 tw141794372685979871 tw11204712258675712772 tw2161653767165841786 tw10627369350324483433 tw1226300919407218238 tw13146212214733000298 tw14075208590462948809 tw17722599735286065939 tw12874809067861334906 tw435936181365839524 tw9534119539212542163 tw11843952096784481519 tw2921676122159297548 tw16241422669652662240 tw14679977226323038882 tw5668473699136022926 tw1536310882532708567 tw12790509419571517646 tw9230718596974791663 tw38666450185200331 tw15846390678118515674 tw10471514131124550689 tw4235258156379837915 tw15015655325450655820 tw3730053646900006115 tw1430331398663254437 tw17502641856704982522 tw9539474197576324219 tw16105064256556770574 tw16890473028601352678 tw3585151144180973167 tw768354026078565237 tw12927654795136117649 tw359272267100843183 tw175346402627780861 tw17291483948084019842 tw8891847989619861852 tw2768254680555925607 tw8300157789737331750 tw13708760078947174892 tw17326636933380376724 tw14366472612489637909 tw8538288280982957939 tw10226637632438687010 tw11717599923104195322 tw5160150153435394144 tw8608163686183433514 tw15835174229485406671 tw17541215395776427667 tw15799175768430571773 tw5141935658781351003 tw1999655724869526266 tw5174295290282081553 tw8821196951404789250 tw10233796448935615718 tw17492391229295454286 tw9038678169754974761 tw986817203593567928 tw12183941111926026116 tw11594460128174947761 tw14898027998084233589 tw3176729102630171219 tw15526573948795004985 tw9613406752900771492 tw10662388307979213391 tw18023355396245674855 tw2646577020718865811 tw8622226339648313079 tw17860131824279888390 tw1586850961844485100 tw7958469794455069680 tw10424285971027791669 tw15420078237913446588 tw15671874219799072516 tw1953344068728266708 tw15327363255528869058 tw9067322153618484167 tw12097403061386483322 tw3009358847583928725 tw12596393301984315358 tw315512466969701371 tw5888340160804812648 tw337742919166272654 tw17858012478858510664 tw15362508350876328372 tw3642771235984349487 tw5566035913219710638 tw1263010773202490691 tw12780001130550632587 tw15225821419145307997 tw10473684694316872724 tw7450658505604487384 tw17052601284251001546 tw3330054144595248660 tw1945637908560705426 tw6367678653698207137 tw14829151274997054016 tw1867928498897378459 tw1718158775803731471 tw15495212211064258093 tw2380297679544368474 tw4119263158931803284 tw16289514030565842312 tw4470723626173048227 tw4048323834916327933 tw7582847327443478865 tw12465741633675231224 tw10766532654126391568 tw3424258909995968576 tw16099859148793139956 tw10865588978858626952 tw12179416858931903071 tw17167792377017933503 tw14617981120059908846 tw5567123821577204178 tw10688058112924920263 tw8800268366566737136 tw12055695947494854927 tw3140373823983701456 tw16129637033717879389 tw8298817721636919066 tw7749457682475111912 tw13144373834516840474 tw2491134927640256348 tw11613736683387864248 tw769119064358170020 tw3952990667627318602 tw11983527143140847759 tw2476525312660142120 tw2797907505399692174 tw5929357768350146155 tw8885628704743279477 tw1354594854545228092 tw10928141806178436840 tw3004699647771686565 tw10183977914395440109 tw1811633497345042170 tw2549239087134910120 tw13911599640642579034 tw10976915102685703477 tw9520332209230040301 tw8369065726837603341 tw9559138153793529528 tw11642097194701463207 tw10626275244458255782 tw4863888380643014874 tw886651975772296644 tw18107748724145627953 tw6053600779819904935 tw313724982313708379 tw12142129198964402948 tw14001074629770897667 tw10278855816587252140 tw12751893587268359137 tw5712834385176439210 tw12294317445644824621 tw9615300550574631848 tw4163972739014264009 tw5212488316004415346 tw16725151463153188722 tw17460509699623981092 tw107250760156459031 tw5583735198245167479 tw1551992334659443491 tw10509219306517627492 tw13354862955465386413 tw7857274602483024593 tw11374623324065316970 tw13717900923470881392 tw7720472545300974778 tw2140315436748235653 tw4586873754457582676 tw6765829136844013659 tw13679089534730992703 tw4750989957640332954 tw15949252076152000954 tw7796388757486203750 tw966739209251205336 tw14386728865603786380 tw14837403547211213922 tw2380265358890447506 tw14764833096601190649 tw3577616474707752359 tw16775245092367891841 tw14705340085797209175 tw5535382783327121520 tw5163490815995354826 tw14121680163661177556 tw9265174384996288531 tw8605027804276196519 tw13013554183149347618 tw1554300895059713425 tw14626315092507603194 tw13274773638352238102 tw5359319369838305325 tw7027140992776161265 tw11788515844558782188 tw11186753383512298032 tw309132121993873766 tw12570599738362568342 tw4532552290820351976 tw17552930106734934921 tw13115948160108132591 tw1799723948392047271 tw14987181249279976559 tw10442478483661018201 tw4057609225705050175 tw11232236046496002619 tw14536290123888533343 tw14406805430607911863 tw6106895954931364449 tw9159530318393335304 tw3389755349754613741 tw5247408539718562258 tw4059975894310109871 tw17484964834735878159 tw6792353309113731070 tw667025658695322106 tw71592107686324447 tw14392700802199578490 tw16323006631024388764 tw14841526646124123346 tw13990443804168855222 tw1165557277352022668 tw10237448274824053045 tw820189264993867668 tw8241138257286216897 tw15354420992081943861 tw757947763430950737 tw12313595904956951683 tw10538742934288389699 tw14339520128258017523 tw10344458333248977731 tw9606522787092334506 tw12358457969530033203 tw13546343340946371785 tw12969554381431427855 tw7138611886010323140 tw9592960515627618879 tw10901117275325605677 tw5191069466022171254 tw10253365579945105014 tw3626524403288194819 tw13810256522152527954 tw12203162908522209295 tw15281029997982898498 tw10807185848381432906 tw4722019087213448522 tw12899971751937267050 tw17773132281426926209 tw14752274052279468436 tw15903584581646195334 tw1848607634775002405 tw8688677367405336697 tw16721696430035107855 tw11898944196941008899 tw3306327048118905124 tw2095085352354868239 tw4170794954054988479 tw1041064252889556784 tw4363481097703975572 tw12867626297652351287 tw9139514470923693584 tw7451683307676070950 tw17828660836799264528 tw7189286561761200761 tw1276252775643973980 tw14312271021797607910 tw18091856639342246812 tw5924895120018758475 tw14179695095631040964 tw8332366000481717288 tw5460802742531996242 tw11739881978362664802 tw17622418890463782021 tw10378745191246048724 tw7184365287199814345 tw16428679467918483091 tw4337260025153761213 tw4357263384857974874 tw9905634008982208095 tw6576123872299086693 tw6415244303679579822 tw2359183451682042210 tw4591740782655313879 tw11490524229126242338 tw1530069009975442318 tw5796383041061520527 tw565868979619630109 tw12338238590272339239 tw9850803181167067337 tw11910520340800325970 tw12557253737354244422 tw7604823824214359074 tw12321030358312188108 tw7911660549865771695 tw16709518544705437673 tw12648859112979349068 tw10393268237854882621 tw16029492864172487661 tw14959435448691936883 tw4375694791690306135 tw17806775525822733769 tw14703921798884335312 tw7654863613819392025 tw7671626480758891600 tw15333918145550942466 tw8777726434196519102 tw7344020144379341773 tw15352644173521922225 tw12513283069055519281 tw14639057527801860576 tw470377765748325259 tw4458498614044960752 tw12244639277936813011 tw9684591702942731820 tw833670033189290235 tw6497519331729660493 tw17482520482011376000 tw1400734152531334410 tw9795206552199680602 tw6108458652809269978 tw15378078127627709464 tw14860869756283234993 tw5972332942388832859 tw1879860975859394235 tw14842639794370123103 tw2812091599890560093 tw18375970162843916352 tw8155719446336831490 tw16562593314136559743 tw18265899321790347647 tw5487842982583128364 tw2138972323239703822 tw4189145827261052798 tw15641695986931931675 tw3526612800468202923 tw8626608314537480725 tw12668373832374361944 tw11256351055374106131 tw17269938376705193722 tw17304927448298309644 tw13042028665016115278 tw9436065340183573053 tw1604070847129383061 tw6490798421519896284 tw6020130377100484674 tw15404033751407792854 tw18387761250493281011 tw4353330100223782234 tw6122168504020714163 tw16466715108521473931 tw5062110453163454524 tw11504828772165870435 tw3363016142625761633 tw7914009761981173940 tw16100696510556025097 tw16076059755200599604 tw16637358806354276016 tw8614451187345813077 tw10684596150206148235 tw11315351314863703062 tw14986013786698164979 tw3239313390403055946 tw834760829453906851 tw9830192428010651146 tw726200496845019950 tw7275086367553324394 tw5259415595252254373 tw5602184455372413407 tw2373819629263638766 tw6937292643566845950 tw17301567499026316174 tw7785948151876201632 tw12779233392879360029 tw16258848482011680845 tw11828733803371425389 tw5024961598401631391 tw18044856980987127256 tw17789447561974926224 tw8645482140340030702 tw7997006095562149827 tw17137318944931125530 tw10095665343751383765 tw1550307140770998879 tw5322181064596917996 tw1135404880670912176 tw7460991932099063931 tw5148772496052355374 tw2837226137657445980 tw14300526334238079843 tw14690225229761344466 tw10064120248784361215 tw9178653709507291967 tw16384589715259717082 tw12467461477511968266 tw1962547413195418155 tw10855906480227386091 tw8987313429456985146 tw7776993959933032045 tw2366441498719611869 tw9550414508162721956 tw13209841635726329791 tw11303055858548358253 tw4068634523775439607 tw9969325605704031874 tw2388371630856863478 tw6714372251522275565 tw17599185732068108211 tw5977303964158376786 tw11163623277575766920 tw2840111719353588718 tw6997243789533712580 tw3646188001798235593 tw3599381235085936584 tw9247228911348887194 tw4862671581605448370 tw14524036708911755526 tw9182972512868498486 tw5108101877447199302 tw15217543990951170091 tw5388976946288333423 tw10355282078725144317 tw8154982245733650696 tw5851506648966020565 tw14512313482677093311 tw9352361489367356167 tw3075689897566075976 tw8166526690225276935 tw14730844375996986281 tw17120247519509852100 tw15534576310541555759 tw16599739347946260896 tw3801353598105770536 tw16683495053991602771 tw16666317612193533610 tw13343619481860925200 tw5733523242948865548 tw5687645961005344239 tw6648368369337027706 tw6944648910505276080 tw10793734163826004176 tw3716091863248529251 tw5328420462138773394 tw11032565210630824831 tw14243780410235926504 tw4083019112273257513 tw4758294833657016292 tw5405329792797419302 tw18389819184829956015 tw7273112539481048038 tw3165327358775273974 tw4485580080034426108 tw1568609683326708142 tw1542846407059225935 tw604400581378362083 tw11416577510078766454 tw6720969769792267537 tw1714215004648447572 tw1713579707286818086 tw12615397938108849305 tw13691068706111100425 tw14986413469773292551 tw13618004048191402878 tw11481653416572792273 tw11192760815055858556 tw9997233764305327929 tw5226143017992719403 tw15439507530179611936 tw1570996269887388245 tw1047747152511346432 tw17555159750646475803 tw5879950804604942902 tw6569707013732345272 tw6262185039943319063 tw14991996228696355013 tw14159981087904268060 tw523273182754424072 tw7422705173325795191 tw6130868676694182781 tw17793814904088415226 tw3077260679172870291 tw11428960623806209912 tw5564750423159684405 tw5510973952396792844 tw733513740015475039 tw18377613533528789684 tw6357776349364536931 tw5780546858035782766 tw7055950544248312943 tw10843077525000230749 tw10538962182924244178 tw10149087778652346137 tw2366568161645384358 tw2945793383829117690 tw9517640598613127236 tw5922665224444913027 tw10779088890699930167 tw8467774453668846568 tw11187910826862424422 tw10042708645449242428 tw8935187300378130426 tw3572757987194679558 tw6440058400354979132 tw17829874572025437443 tw15125659663539247643 tw21475469432178647 tw5530233663714014094 tw553476074068778937 tw17567773265003644284 tw2621527096942139122 tw118588303845276960 tw14843654733548663875 tw9471233955531781178 tw3967015326122159141 tw12720762408606880806 tw9874152845903081300 tw15836633674353304367 tw14321669169117380805 tw10803143825728709973 tw15369251866964908356 tw15735666580982326285 tw7223088346029097625 tw16832834921830201636 tw17293500136160015763 tw11897954403940669265 tw5103849559276650906 tw3208454499851403505 tw12734906860322662359 tw15977546664796735234 tw7367981718882188437 tw16312535972931066798 tw18325042210487061608 tw1648549855127556890 tw11014442920840026099 tw10588947850489041152 tw10753644329078335858 tw16353475487098540963 tw6950513570774534660 tw10383107732323285350 tw17218043977630646606 tw10909961868415995656 tw15388356446681531644 tw8785115779159255426 tw7870624253760631977 tw13700175573590281894 tw633010837096087850 tw837756621373876640 tw8040415287986755092 tw15201582564423142095 tw7847234995660646868 tw9867238758590275238 tw17618548992694221114 tw3696737834458791384 tw6944534278168631875 tw15874436415203845338 tw10801684396949696945 tw13027403520057083908 tw10984054129662030349 tw11552622263835798339 tw582733877748182985 tw12673215846204020428 tw6939412623335334745 tw7887224334247715272 tw12553310224945558233 tw15303236486217606536 tw1246135021289719483 tw6133927611017225557 tw17058176267003103163 tw16681085315001401026 tw5800541651769732470 tw4660081895385501321 tw9300963504250580014 tw8953053909176917336 tw6888169717382848202 tw14410491885017003518 tw5286598543364989783 tw244779235933197498 tw16155675705058774809 tw4429779062069756210 tw227292607841428593 tw2773712694481497294 tw9793867183674369763 tw2644006309463441796 tw4882129053797002427 tw16356985598526623329 tw6177204913938100900 tw16247758896404685538 tw12122248309427949772 tw7411666491520757152 tw3111146439049240357 tw2867311243600225355 tw16775272037173826814 tw16983336654749701711 tw4900981862727715450 tw15828596980966437522 tw5412177902449298440 tw15705831611561609739 tw17894773312497461136 tw17459566424634296854 tw1150399272249901425 tw3473206101003055794 tw10987794377462976877 tw14462730144342314976 tw12115913941030502391 tw2592718009528165757 tw9013344119147448925 tw1361096825324735716 tw11706189813197965848 tw3894081705368729842 tw3512276102435394827 tw4478751565758905771 tw4475152334370002821 tw2672802298402313172 tw6540144537500886836 tw7092659835251717699 tw6666750929809461162 tw16005782208787644048 tw9616733132492372732 tw11586338741239148715 tw12488757031627739495 tw235485318943204823 tw17362144620499592544 tw3738041286124473933 tw7696660553517885717 tw14062076149407257376 tw5336206471597266229 tw12129641145978450196 tw17535532398705001777 tw4720483942685160715 tw299705390379138985 tw9839886362855265177 tw6827628702182856441 tw4404326566990792995 tw1435559138737071828 tw5824968913068506082 tw13639148901997062844 tw6371654196895704556 tw11699005597275890529 tw3550333053209673716 tw18304365055837215901 tw1888636247254216155 tw8086711112004764815 tw17447986911108582588 tw5572946714913573594 tw15491879572522479063 tw2103315679775584205 tw11084005465109297356 tw8644904131631676576 tw13627027979347195334 tw755866088791683922 tw1283933203501738252 tw14868651886594649081 tw1097625641973482665 tw1747698473164003166 tw17400102304301841280 tw3478985538233597321 tw17799862775703003823 tw14622116969331733595 tw8199148036578103023 tw12704564602612031251 tw10333192071648156748 tw13217668544285846948 tw6002698932948467320 tw4561530390348228701 tw12513292145769044511 tw7494322265347741249 tw11125884474638931592 tw6960674432513915477 tw8005268644436962421 tw797846653090443615 tw3777311365353836183:True)
open PySem PySem.W PyProof.Rows
set_option maxRecDepth 100000 in
set_option maxHeartbeats 0 in
theorem PySem.Challenge.cw_rowjudge_k43_clashes_holds : PySem.Challenge.rw_rowjudge_k43_clashes.Holds := by
 w_on;o_law;k_head;(case hw=>w_witness2)
 k_fill
 refine My.walk (l:=PySem.Challenge.rw_rowjudge_k43_clashes) rfl rfl (λw h Y=>PySem.W.km_in_of Y) ?hnK ?hxs ?Ao ?F
 case hnK=>intro p;first|rfl|decide+kernel|with_unfolding_all rfl
 case hxs=>exact⟨_,rfl⟩
 case Ao=>exact⟨_,rfl⟩
 case F =>
  intro w mg fa h KX G hmg;refine' My.all_mk (Y:=.mk ..) KX G hmg ?b ?u
  case b =>
   constructor
   all_goals try dsimp only
   iterate 13 (k_is)
   iterate 9 (constructor <;> first|k_is|rfl|with_unfolding_all rfl)
   iterate 9 (refine'⟨⟨?_,?_,?_,?_⟩,?_,?_,?_,?_⟩ <;> first|k_is|rfl|with_unfolding_all rfl)
   refine' L2.ModT.mk ?lk ?sz ?vs
   (case lk=>k_is)
   (case sz=>decide)
   (case vs=>exact(.cons ⟨_,rfl⟩ (.cons ⟨_,rfl⟩ .nil)))
   refine' L2.ModT.mk ?lk ?sz ?vs
   (case lk=>k_is)
   (case sz=>decide)
   (case vs=>exact(.cons ⟨_,rfl⟩ (.cons ⟨_,rfl⟩ .nil)))
   iterate 17 (delta L2.NoAttr;k_is)
   iterate 2 (first|k_is|rfl|with_unfolding_all rfl)
   refine' My.tab_ne (L2.tab_mk (qual := "row_form") (st:=My.s_row_form) ?a1 ?l1 ?c1 ?e1) (L2.tab_mk (qual := "clashes") (st:=My.s_clashes) ?a2 ?l2 ?c2 ?e2) ?ne
   (case a1|l1|c1=>k_is)
   (case e1=>rfl)
   (case a2|l2|c2=>k_is)
   (case e2=>rfl)
   (case ne=>first|decide|(intro h;cases h))
  case u =>
   constructor
   all_goals try dsimp only
   iterate 48 (refine' L2.GF.mk ?a1 (L2.fun_mk ?l ?c ?k);(case a1=>k_is);(case l=>k_is);(case c=>k_is);(case k=>k_is))
   iterate 14 (refine' L2.MF.mk ?a1 ?a2 (L2.fun_mk ?l ?c ?k);(case a1=>k_is);(case a2=>k_is);(case l=>k_is);(case c=>k_is);(case k=>k_is))
   iterate 9 (refine' L2.KF.mk ?a1 ?a2 ?a3 ?a4 ?a5 (L2.fun_mk ?l ?c ?k);(case a1=>k_is);(case a2=>k_is);(case a3=>k_is);(case a4=>k_is);(case a5=>k_is);(case l=>k_is);(case c=>k_is);(case k=>k_is))
   iterate 8 (refine' L2.BF.mk ?a1 ?a2 ?a3 ?a4 (L2.fun_mk ?l ?c ?k);(case a1=>k_is);(case a2=>k_is);(case a3=>k_is);(case a4=>k_is);(case l=>k_is);(case c=>k_is);(case k=>k_is))
   iterate 2 (refine' L2.tfn_mk ?l1 ?l2 ?l3 ?l4 ?l5 ?l6;(case l1=>k_is);(case l2=>k_is);(case l3=>k_is);(case l4=>k_is);(case l5=>k_is);(case l6=>rfl))
   iterate 14 (k_is)
   iterate 7 (refine' L2.gv_mk ?a1 ?a2;(case a1=>k_is);(case a2=>exact⟨_,rfl⟩))
