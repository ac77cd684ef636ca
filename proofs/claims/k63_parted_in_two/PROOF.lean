import PyProof.Rows.All
import Wide.All
import OpenK.AllK
import Wide.FinOn
import Lean
import PyProof.EqAt
import PyProof.EqKinds
import PyProof.TupleCall
import KE.KIntText
import KE.KTryMore
import KE.KIsAll
import PyProof.ZipIter
import KE.KRevIter
import KE.KNest
import KE.KLam
import PySem.Challenge.RW_rowjudge_k63_parted_in_two
open List (length_map mem_cons size_toArray length_append mem_cons_self length_singleton take_length mem_map getElem?_map getD_eq_getElem?_getD map_append length_take getElem?_append_left mem_cons_of_mem length_cons mem_append all_eq_true mem_range mem_append_right forall_mem_cons not_mem_nil forall_mem_nil mem_append_left length_drop getElem?_of_mem append_nil getElem?_append_right mem_singleton map_cons take_add_one length_range nodup_cons getElem_mem getElem?_eq_none length_replicate any_eq_true getElem?_drop range_succ filter_cons filterMap_cons of_mem_zip take_sublist any_append all_cons pairwise_cons map_fst_zip filter_append mem_filter map_nil all_map drop_length)
open Nat (le_refl ne_of_lt lt_of_lt_of_le le_trans le_of_lt zero_le ne_of_gt le_succ lt_succ_of_lt lt_irrefl lt_succ_self lt_or_ge succ_pos lt_of_succ_lt zero_add mod_lt not_lt)
open Int (emod_lt_of_pos emod_nonneg toNat_of_nonneg toNat_natCast)
open Array (length_toList getElem?_eq_getElem toList_push)
open Bool (and_eq_true eq_false_iff or_eq_true)
open Option (isSome_iff_exists getD_none)
set_option Elab.async false
set_option linter.all false
set_option maxRecDepth 100000
theorem BP{α:Type _}{l:List α}{i:Nat}(h:i<l.length):l[i]?=some l[i]:=List.getElem?_eq_getElem h
theorem BQ{α:Type _}{a:α}{l:List α}{i:Nat}:l[i]?=some a ↔ ∃h:i<l.length, l[i]=a:=List.getElem?_eq_some_iff
theorem BR{α:Type _}{l:List α}{i:Nat}{a:α}(e:l[i]?=some a):a∈l:=List.mem_of_getElem? e
namespace L2
theorem U{α:Sort _}{a:α}:a=a:=rfl
open PySem PySem.Spec PyProof.Rows
abbrev Key:=Sum Int Str
def uS:Key->Value->Bool
 | .inl k,v=>Value.isInt k v
 | .inr x,v=>Value.isStrOf x v
def yO(w:World):Key->Int
 | .inl k=>hashInt k
 | .inr x=>hashStr w x
theorem bN:∀{k:Key}{v:Value},uS k v=true->(∃i t,k=Sum.inl i/\v=Value.int i t)\/(∃x t,k=Sum.inr x/\v=Value.str x t)
 | .inl i,v,h=>by
  obtain⟨t,e⟩:=Value.isInt_shape (k:=i) (v:=v) h;exact .inl ⟨i,t,U,e⟩
 | .inr x,v,h=>by
  obtain⟨t,e⟩:=Value.isStrOf_shape (x:=x) (v:=v) h;exact .inr ⟨x,t,U,e⟩
theorem vE(a b:Int):decide ((Sum.inl a:Key)=Sum.inl b)=(a == b):=by
 by_cases e:a=b
 ·subst e;simp
 ·have h:¬ (Sum.inl a:Key)=Sum.inl b:=λq=>e (Sum.inl.inj q)
  rw[decide_eq_false h];exact(beq_eq_false_iff_ne.mpr e).symm
theorem vF(a b:Str):decide ((Sum.inr a:Key)=Sum.inr b)=decide (a=b):=by
 by_cases e:a=b
 ·subst e;simp
 ·have h:¬ (Sum.inr a:Key)=Sum.inr b:=λq=>e (Sum.inr.inj q)
  rw[decide_eq_false h,decide_eq_false e]
theorem vG(a:Int)(b:Str):decide ((Sum.inl a:Key)=Sum.inr b)=false:=decide_eq_false (λq=>nomatch q)
theorem vH(a:Str)(b:Int):decide ((Sum.inr a:Key)=Sum.inl b)=false:=decide_eq_false (λq=>nomatch q)
def mR(prog:Program)(w:World):PySem.KeyKind prog w Key where
 is:=uS
 hash:=yO w
 inj:=λv a b ha hb=>by
  rcases bN ha with⟨i,t,rfl,rfl⟩|⟨x,t,rfl,rfl⟩
  ·rcases bN hb with⟨j,u,rfl,e⟩|⟨y,u,rfl,e⟩
   ·injection e with e1 _;rw[e1]
   ·exact nomatch e
  ·rcases bN hb with⟨j,u,rfl,e⟩|⟨y,u,rfl,e⟩
   ·exact nomatch e
   ·injection e with e1 _;rw[e1]
 byValue:=λk v h=>by
  rcases bN h with⟨i,t,rfl,rfl⟩|⟨x,t,rfl,rfl⟩ <;> rfl
 pyHash:=λhv h=>by
  rcases bN hv with⟨i,t,rfl,rfl⟩|⟨x,t,rfl,rfl⟩
  ·exact wpAny_pyHash_int h
  ·exact wpAny_pyHash_str h
 eqBool:=λhu hv h=>by
  rcases bN hu with⟨i,t,rfl,rfl⟩|⟨x,t,rfl,rfl⟩
  ·rcases bN hv with⟨j,u,rfl,rfl⟩|⟨y,u,rfl,rfl⟩
   ·rw[vE]at h;exact wpAny_eqBool_int h
   ·rw[vG]at h;exact SeqAt.EqAt.int_str i t y u _ _ _ _ h
  ·rcases bN hv with⟨j,u,rfl,rfl⟩|⟨y,u,rfl,rfl⟩
   ·rw[vH]at h;exact SeqAt.EqAt.str_int x t j u _ _ _ _ h
   ·rw[vF]at h;exact wpAny_eqBool_str h
 «strs»:=λk x t v h=>by
  rcases bN h with⟨i,u,rfl,e⟩|⟨y,u,rfl,e⟩
  ·exact nomatch e
  ·injection e with e1 _;subst e1;cases v <;> rfl
inductive V where
 |non|bl (b:Bool)|int (i:Int)|str (x:Str)|byt (b:Array UInt8)|flt (b:UInt64)|ref (a:Addr)|ty (n:String)
 deriving DecidableEq
def RelV:V->Value->Prop
 | .non,u=>u=Value.none
 | .bl b,u=>u=Value.bool b
 | .int i,u=>∃t,u=Value.int i t
 | .str x,u=>∃t,u=Value.str x t
 | .byt b,u=>∃t,u=Value.bytes b t
 | .flt b,u=>∃t,u=Value.float b t
 | .ref a,u=>u=Value.ref a
 | .ty n,u=>u=Value.type n
abbrev Vals:List V->List Value->Prop:=Paired RelV
theorem Vals.length{xs:List V}{us:List Value}(r:Vals xs us):xs.length=us.length:=Paired.length r
theorem Vals.get:∀{xs:List V}{us:List Value}{i:Nat}{x:V},Vals xs us->xs[i]?=some x->∃u,us[i]?=some u/\RelV x u
 |_,_,_,_,.nil,e=>by simp at e
 |_,_,0,_,.cons r _,e=>by simp at e;subst e;exact⟨_,U,r⟩
 |_,_,i+1,x,.cons _ t,e=>by
  obtain⟨u,h1,h2⟩:=Vals.get (i:=i) (x:=x) t (by simpa using e);exact⟨u,by simpa using h1,h2⟩
theorem Vals.set{x:V}{u:Value}(r:RelV x u):∀{xs:List V}{us:List Value}(i:Nat),Vals xs us->Vals (xs.set i x) (us.set i u)
 |_,_,_,.nil=>.nil
 |_,_,0,.cons _ t=>.cons r t
 |_,_,i+1,.cons q t=>.cons q (Vals.set r i t)
theorem Vals.append:∀{xs ys:List V}{us ws:List Value},Vals xs us->Vals ys ws->Vals (xs++ys) (us++ws)
 |_,_,_,_,.nil,s=>s
 |_,_,_,_,.cons r t,s=>.cons r (Vals.append t s)
theorem Vals.take:∀{xs:List V}{us:List Value}(n:Nat),Vals xs us->Vals (xs.take n) (us.take n)
 |_,_,0,_=>.nil
 |_,_,_+1,.nil=>.nil
 |_,_,n+1,.cons r t=>.cons r (Vals.take n t)
theorem Vals.drop:∀{xs:List V}{us:List Value}(n:Nat),Vals xs us->Vals (xs.drop n) (us.drop n)
 |_,_,0,r=>r
 |_,_,_+1,.nil=>.nil
 |_,_,n+1,.cons _ t=>Vals.drop n t
def lM:Option V->Option Value->Prop
 |some v,some u=>RelV v u
 |none,none=>True
 |_,_=>False
def KV{κ:Type}:List (κ×V)->List (κ×Value)->Prop:=Paired λ(p:κ×V)(q:κ×Value)=>p.1=q.1/\RelV p.2 q.2
def kV:Key->V
 | .inl i=>.int i
 | .inr x=>.str x
inductive HO where
 |lst (xs:List V)
 |tup (xs:List V)
 |dK (kvs:List (Key×V))|dT (kvs:List (List Key×V))
 |set (S:Int->Bool)(n:Nat)
 |ins (C dx:Addr)(fs:List (Str×V))
 |own (x:Addr)
 |xd (fs:List (Str×V))
 |met (f x:Addr)
 |rng (lo hi:Int)
 |frz (o:Obj)(u:HO)
 |tbl (ps:Array Value)
 |ext (φ:Heap->Prop)
abbrev Hp:=Addr->Option HO
def upd(H:Hp)(a:Addr)(o:HO):Hp:=λb=>if b=a then some o else H b
theorem ab{H:Hp}{a:Addr}{o:HO}:upd H a o a=some o:=by unfold upd;rw[if_pos U]
theorem au{H:Hp}{a b:Addr}{o:HO}(h:b≠a):upd H a o b=H b:=by unfold upd;rw[if_neg h]
theorem fu{H:Hp}{a b:Addr}{o u:HO}(h:H a=some o)(h':H b=some u)(d:o≠u):a≠b:=by
 intro e;subst e;rw[h]at h';exact d (Option.some.inj h')
theorem aY{H:Hp}{a b:Addr}{o:HO}(h:H a=some o)(h':H b=none):a≠b:=by
 intro e;subst e;rw[h]at h';cases h'
section
variable(P:Program)(w:World)
def cD(H:Hp)(h:Heap)(a:Addr):HO->Prop
 | .lst xs=>xs.length<=sizeLine/\∃(its:List Value)(n:Nat),Vals xs its/\h.get? a=some { cls:=.type "list",data:=.seq its.toArray n }
 | .tup xs=>xs.length<=sizeLine/\∃its:List Value,Vals xs its/\IsTup h a its.toArray
 | .dK kvs=>kvs.length<=sizeLine/\(a == sysModules)=false/\∃vs,KV kvs vs/\h.DictOf (mR P w) a vs
 | .dT kvs=>kvs.length<=sizeLine/\(a == sysModules)=false/\∃xs:List (List Key×Addr×Value),
   Paired (λ(p:List Key×V)(q:List Key×Addr×Value)=>p.1=q.1/\H q.2.1=some (.tup (p.1.map kV))/\RelV p.2 q.2.2) kvs xs /\
   ∃o es ep,h.get? a=some o/\o.ExactDict/\o.data=.dict es ep/\es.toList=xs.map (entryOfKey (tupleKind (mR P w)))/\(xs.map (·.1)).Nodup
 | .set S n=>h.SetOf (intKind P w) a S n
 | .ins C dx fs=>H dx=some (.own a)/\fs.length<=1000/\dx≠a/\h.get? a=some (W.instObj C dx) /\
   ∃mA,h.Ns1 dx mA/\(∀f,lM (fs.lookup f) (mA f))/\PySem.Within mA (fs.map (·.1))
 | .own _=>∃o,h.get? a=some o
 | .xd fs=>∃mA,h.Ns1 a mA/\∀f,lM (fs.lookup f) (mA f)
 | .rng lo hi=>∃t u v,h.get? a=some { cls:=.type "range",data:=.fields #[.int lo t,.int hi u,.int 1 v] }
 | .frz o u=>h.get? a=some o/\cD H h a u
 | .tbl ps=>h.get? a=some { cls:=.none,data:=.fields ps }
 | .met f x=>h.get? a=some (W.methodObj (.ref f) (.ref x))
 | .ext φ=>φ h/\(∃o,h.get? a=some o)/\∀h1 h2:Heap,φ h1->(∀o,h1.get? a=some o->h2.get? a=some o)->φ h2
def HOk(H:Hp)(h:Heap):Prop:=∀a o,H a=some o->cD P w H h a o
end
variable{P:Program}{w:World}{H H':Hp}{h h':Heap}{a:Addr}
section
variable{o:HO}
theorem cD.lt(x:cD P w H h a o):a<h.objs.size:=by
 cases o with
 |lst xs=>obtain⟨_,_,_,_,e⟩:=x;exact Heap.lt_size e
 |tup xs=>obtain⟨_,_,_,p⟩:=x;exact p.lt
 |dK kvs=>obtain⟨_,_,_,_,o,_,_,e,_⟩:=x;exact Heap.lt_size e
 |dT kvs=>obtain⟨_,_,_,_,o,_,_,e,_⟩:=x;exact Heap.lt_size e
 |set S n=>obtain⟨o,_,_,_,e,_⟩:=x;exact Heap.lt_size e
 |ins C dx fs=>obtain⟨_,_,_,e,_⟩:=x;exact Heap.lt_size e
 |own y=>obtain⟨_,e⟩:=x;exact Heap.lt_size e
 |xd fs=>obtain⟨_,⟨_,_,_,e,_⟩,_⟩:=x;exact Heap.lt_size e
 |rng lo hi=>obtain⟨_,_,_,e⟩:=x;exact Heap.lt_size e
 |frz ob u=>obtain⟨e,_⟩:=x;exact Heap.lt_size e
 |tbl ps=>exact Heap.lt_size (show h.get? a=some _ from x)
 |met f y=>exact Heap.lt_size (show h.get? a=some _ from x)
 |ext φ=>obtain⟨_,⟨_,e⟩,_⟩:=x;exact Heap.lt_size e
theorem Paired.mapP{α β:Type}{F G:α->β->Prop}:∀{l₁:List α}{l₂:List β},Paired F l₁ l₂->(∀a b,F a b->G a b)->Paired G l₁ l₂
 |_,_,.nil,_=>.nil
 |_,_,.cons r t,f=>.cons (f _ _ r) (Paired.mapP t f)
theorem cD.stay(x:cD P w H h a o)(k:∀b u,(b=a\/H b=some (.own a))->h.get? b=some u->h'.get? b=some u)
  (ho:∀b,H b=some (.own a)->H' b=some (.own a))(ht:∀b xs,H b=some (.tup xs)->H' b=some (.tup xs)):cD P w H' h' a o:=by
 induction o with
 |lst xs=>obtain⟨z,its,n,r,e⟩:=x;exact⟨z,its,n,r,k _ _ (.inl U) e⟩
 |tup xs=>obtain⟨z,its,r,ob,e,c⟩:=x;exact⟨z,its,r,ob,k _ _ (.inl U) e,c⟩
 |dK kvs=>obtain⟨z,y,vs,r,ob,es,ep,e,c⟩:=x;exact⟨z,y,vs,r,ob,es,ep,k _ _ (.inl U) e,c⟩
 |dT kvs =>
  obtain⟨z,y,xs,r,ob,es,ep,e,c⟩:=x;exact⟨z,y,xs,Paired.mapP r λp q z=>⟨z.1,ht _ _ z.2.1,z.2.2⟩,ob,es,ep,k _ _ (.inl U) e,c⟩
 |set S n=>obtain⟨ob,es,ep,t,e,c⟩:=x;exact⟨ob,es,ep,t,k _ _ (.inl U) e,c⟩
 |ins C dx fs =>
  obtain⟨d,z,ne,e,mA,⟨od,es,ep,e2,c⟩,r⟩:=x;exact⟨ho _ d,z,ne,k _ _ (.inl U) e,mA,⟨od,es,ep,k _ _ (.inr d) e2,c⟩,r⟩
 |own y=>obtain⟨ob,e⟩:=x;exact⟨ob,k _ _ (.inl U) e⟩
 |xd fs=>obtain⟨mA,⟨od,es,ep,e,c⟩,r⟩:=x;exact⟨mA,⟨od,es,ep,k _ _ (.inl U) e,c⟩,r⟩
 |rng lo hi=>obtain⟨t,u,v,e⟩:=x;exact⟨t,u,v,k _ _ (.inl U) e⟩
 |frz ob u ih=>obtain⟨e,q⟩:=x;exact⟨k _ _ (.inl U) e,ih q⟩
 |tbl ps =>
  have e:h.get? a=some { cls:=.none,data:=.fields ps }:=x;show h'.get? a=some { cls:=.none,data:=.fields ps };exact k a _ (.inl U) e
 |met f y =>
  have e:h.get? a=some (W.methodObj (.ref f) (.ref y)):=x;show h'.get? a=some (W.methodObj (.ref f) (.ref y));exact k a _ (.inl U) e
 |ext φ=>obtain⟨p,⟨o,e⟩,st⟩:=x;exact⟨st _ _ p λo q=>k _ _ (.inl U) q,⟨o,k _ _ (.inl U) e⟩,st⟩
theorem HOk.lt(x:HOk P w H h)(e:H a=some o):a<h.objs.size:=(x a o e).lt
theorem HOk.fresh(x:HOk P w H h)(e:h.objs.size<=a):H a=none:=by
 cases q:H a with
 |none=>rfl
 |some u=>exact absurd (lt_of_lt_of_le (x.lt q) e) (lt_irrefl _)
theorem HOk.kept(x:HOk P w H h)(k:∀b u,h.get? b=some u->h'.get? b=some u):HOk P w H h':=λa o e =>
 (x a o e).stay (λb u _ q=>k b u q) (λ_ q=>q) λ_ _ q=>q
theorem HOk.laid(x:HOk P w H h)(k:∀b u,h.get? b=some u->h'.get? b=some u)(hp:h.objs.size<=a)(new:cD P w (upd H a o) h' a o):HOk P w (upd H a o) h':=λb u e=>by
 have hn:=x.fresh hp;by_cases hb:b=a
 ·subst hb;rw[ab]at e;cases e;exact new
 ·rw[au hb]at e;exact(x b u e).stay (λc v _ q=>k c v q) (λc q=>by rw[au (aY q hn)];exact q) λc xs q=>by rw[au (aY q hn)];exact q
end
def Rd(H:Hp)(a:Addr)(u:HO):Prop:=H a=some u\/∃o,H a=some (.frz o u)
theorem Rd.ok{P:Program}{w:World}{H:Hp}{h:Heap}{a:Addr}{u:HO}(r:Rd H a u)(x:HOk P w H h):cD P w H h a u:=by
 rcases r with r|⟨o,r⟩
 ·exact x a u r
 ·obtain⟨_,q⟩:=x a _ r;exact q
def Mut:Option HO->Prop
 |some (.lst _)=>True
 |some (.dK _)=>True
 |some (.dT _)=>True
 |some (.set _ _)=>True
 |some (.ins _ _ _)=>True
 |some (.ext _)=>True
 |_=>False
variable{x:Addr}
section
variable{e:Addr}{o':HO}
theorem HOk.write(ok:HOk P w H h)(mu:Mut (H x))(he:e=x\/H e=some (.own x))(k:∀b u,b≠e->h.get? b=some u->h'.get? b=some u)(heo:∃u,h'.get? e=some u)
  (new:cD P w (upd H x o') h' x o'):HOk P w (upd H x o') h':=λb u q=>by
 have xo:∀c y,H c=some (.own y)->c≠x:=λc y r z=>by subst z;rw[r]at mu;exact mu
 have yP:∀c xs,H c=some (.tup xs)->c≠x:=λc xs r z=>by subst z;rw[r]at mu;exact mu
 by_cases hb:b=x
 ·subst hb;rw[ab]at q;cases q;exact new
 ·rw[au hb]at q;by_cases hbe:b=e
  ·have q':H b=some (.own x):=by
    rcases he with z|z
    ·exact absurd (hbe.trans z) hb
    ·rw[hbe];exact z
   rw[q]at q';cases q';obtain⟨v,hv⟩:=heo;exact⟨v,by rw[hbe];exact hv⟩
  ·refine(ok b u q).stay (λc v hc r=>k c v ?_ r) (λc r=>by rw[au (xo c b r)];exact r) λc xs r=>by rw[au (yP c xs r)];exact r
   rcases hc with rfl|hc
   ·exact hbe
   ·rintro rfl;rcases he with z|z
    ·exact xo c b hc z
    ·rw[hc]at z;cases z;exact hb U
end
structure Un(fs ex:List Addr)(H H':Hp)(h h':Heap):Prop where
 keep:∀b o,h.get? b=some o->H b=none->b ∉ fs->b ∉ ex->h'.get? b=some o
 slot:∀b o,h.get? b=some o->H b=none->b∈fs->b ∉ ex->∃sl,h'.get? b=some { o with slots:=sl }
 free:∀b o,h.get? b=some o->H b=none->b ∉ ex->H' b=none
 there:∀b o,h.get? b=some o->b ∉ ex->∃o',h'.get? b=some o'
 tups:∀b xs,H b=some (.tup xs)->H' b=some (.tup xs)
 frzs:∀b o u,H b=some (.frz o u)->H' b=some (.frz o u)
 tbls:∀b ps,H b=some (.tbl ps)->∃more,H' b=some (.tbl (ps++more))
section
variable{fs fs' ex ex':List Addr}{H1 H2:Hp}{h1 h2:Heap}{e:Addr}{o:HO}
theorem Un.any(u:Un fs ex H H1 h h1){b:Addr}{ob:Obj}(q:h.get? b=some ob)(n:H b=none)(hx:b ∉ ex):∃sl,h1.get? b=some { ob with slots:=sl }:=by
 by_cases hb:b∈fs
 ·exact u.slot b ob q n hb hx
 ·exact⟨ob.slots,u.keep b ob q n hb hx⟩
theorem Un.kept(k:∀b u,h.get? b=some u->h'.get? b=some u):Un fs ex H H h h' :=
 ⟨λb ob q _ _ _=>k b ob q,λb ob q _ _ _=>⟨ob.slots,k b ob q⟩,λ_ _ _ n _=>n,λb ob q _=>⟨ob,k b ob q⟩,λ_ _ q=>q,λ_ _ _ q=>q,λ_ ps q=>⟨#[],by rw[q];simp⟩⟩
theorem Un.refl:Un fs ex H H h h:=Un.kept λ_ _ q=>q
theorem Un.laid(k:∀b u,h.get? b=some u->h'.get? b=some u)(hp:h.objs.size<=a)(hn:H a=none):Un fs ex H (upd H a o) h h' where
 keep:=λb u q _ _ _=>k b u q
 slot:=λb u q _ _ _=>⟨u.slots,k b u q⟩
 free:=λb u q n _=>by rw[au (ne_of_lt (lt_of_lt_of_le (Heap.lt_size q) hp))];exact n
 there:=λb u q _=>⟨u,k b u q⟩
 tups:=λb xs q=>by rw[au (aY q hn)];exact q
 frzs:=λb u xs q=>by rw[au (aY q hn)];exact q
 tbls:=λb ps q=>⟨#[],by rw[au (aY q hn),q];simp⟩
theorem Un.write(mu:Mut (H x))(he:e=x\/H e=some (.own x))(k:∀b u,b≠e->h.get? b=some u->h'.get? b=some u)(heo:∃u,h'.get? e=some u):Un fs ex H (upd H x o) h h':=by
 have hx:∀b,H b=none->b≠x:=λb n z=>by subst z;rw[n]at mu;exact mu
 have hb:∀b,H b=none->b≠e:=λb n z=>by
  subst z;rcases he with r|r
  ·exact hx b n r
  ·rw[n]at r;cases r
 have hm:∀b u,H b=some u->¬ Mut (some u)->b≠x:=λb u q nm z=>by subst z;rw[q]at mu;exact nm mu
 refine⟨λb u q n _ _=>k b u (hb b n) q,λb u q n _ _=>⟨u.slots,k b u (hb b n) q⟩,λb u q n _=>by rw[au (hx b n)];exact n,λb u q _=>?_,
  λb xs q=>by rw[au (hm b _ q λz=>z)];exact q,λb u xs q=>by rw[au (hm b _ q λz=>z)];exact q,λb ps q=>⟨#[],by rw[au (hm b _ q λz=>z),q];simp⟩⟩
 by_cases hbe:b=e
 ·subst hbe;exact heo
 ·exact⟨u,k b u hbe q⟩
end
def trk(h:Heap)(H:Hp):List Addr:=(List.range h.objs.size).filter λa=>(H a).isSome
def km(h:Heap)(H:Hp):Heap:=W.hideAll h (trk h H)
theorem qU(h:Heap)(H:Hp):(km h H).objs.size=h.objs.size:=W.hideAll_size _ _
theorem rX{h:Heap}{H:Hp}{b:Addr}{o:Obj}(e:h.get? b=some o)(n:H b=none):(km h H).get? b=some o :=
 W.hideAll_get _ e λhm=>by
  have q:(H b).isSome=true:=(mem_filter.mp hm).2;rw[n]at q;simp at q
theorem uc{h:Heap}{H:Hp}{b:Addr}{o:Obj}(e:(km h H).get? b=some o):h.get? b=some o/\H b=none:=by
 have e':h.get? b=some o:=W.of_hideAll (trk h H) e;refine⟨e',?_⟩;cases q:H b with
 |none=>rfl
 |some x =>
  have hm:b∈trk h H:=mem_filter.mpr ⟨mem_range.mpr (Heap.lt_size e'),by simp[q]⟩;have z:(km h H).get? b=none:=W.hideAll_none (trk h H) hm;rw[z]at e;cases e
def ud(g h:Heap)(L:Addr):List (Addr×Obj):=(List.range h.objs.size).filterMap λa=>if a=L\/(g.get? a).isSome=true then none else(h.get? a).map λo=>(a,o)
def rest(g h:Heap)(L d:Addr):List (Addr×Obj):=(ud g h L).filter λp=>decide (p.1≠d)
structure Mod(K:W.Frag)(mg:Str->Option Value)(base:Heap):Prop where
 kin:K.In base
 glob:base.Ns mainGlobals mg
 blt:∃mb,base.Ns builtinsNs mb/\∀x:Str,x ≠ "__name__" -> mb x=bootBuiltins x
 nolimit:base.NoLimit
structure Cx where
 prog:Program
 w:World
 K:W.Frag
 mg:Str->Option Value
 base:Heap
 A:Around
 N:List Str
 s₀:Shared
 H₀:Hp
 env:Env
 outer:List Env
 stack:List Env
 ex:List Addr
 fn:Str->Bool
 calm:Bool
 pn:List (Addr×Obj)
 xe:Value->Shared->Prop
def frs(l:List Env):List Addr:=l.filterMap (·.frame)
abbrev Cx.fs(X:Cx):List Addr:=frs X.outer
def Vis(sc:Scope)(x:Str):Prop:=sc.names.lookup x=some .local\/sc.names.lookup x=some .cell\/sc.names.lookup x=some .free
def Loc(sc:Scope)(x:Str):Prop:=sc.names.lookup x=some .local\/sc.names.lookup x=some .cell
def Look(env:Env)(h:Heap)(m:Str->Option Value)(x:Str)(u:Value):Prop :=
 (env.kindOf x=some .local/\m x=some u)\/((env.kindOf x=some .cell\/env.kindOf x=some .free)/\∃c,env.cells.lookup x=some c/\h.IsCell c (some u))
structure Cx.Ok(X:Cx):Prop where
 mod:Mod X.K X.mg X.base
 kind:X.env.scope.kind=.function
 glob:X.env.globals=mainGlobals
 blt:X.env.builtins=builtinsNs
 above:X.s₀.heap.objs.size<=X.env.locals
 inj:∀x y c,X.env.cells.lookup x=some c->X.env.cells.lookup y=some c->x=y
 has:∀x,(X.env.kindOf x=some .cell\/X.env.kindOf x=some .free)->∃c,X.env.cells.lookup x=some c
 cab:∀x c,X.fn x=true->X.env.cells.lookup x=some c->X.s₀.heap.objs.size<=c
 hd:X.calm=true->X.A.handled=none
 frames:X.A.frames=some X.stack
 stk:X.stack=X.outer\/(X.stack=X.env :: X.outer/\X.env.frame=some X.env.locals)
 exf:∀b∈X.ex,b≠X.env.locals/\∀x c,X.env.cells.lookup x=some c->c≠b
 bs:∀b o,X.base.get? b=some o->X.s₀.heap.get? b=some o/\X.H₀ b=none
 bsz:X.base.objs.size<=X.s₀.heap.objs.size
 noex:∀b o,X.base.get? b=some o->b ∉ X.ex
 exfs:∀b∈X.ex,b ∉ X.fs
 funs:X.s₀.heap.FunFrames X.base X.outer
 frf:∀b∈X.fs,X.H₀ b=none
structure Inv(X:Cx)(pins:List (Addr×Obj))(σ:List (Option V))(H:Hp)(s:Shared):Prop where
 ok:X.Ok
 os:s.os=X.s₀.os
 bare:AllBare s.gens
 base:Un X.fs X.ex X.H₀ H X.s₀.heap s.heap
 loc:∃m,s.heap.Ns X.env.locals m/\∀(i:Nat)(x:Str)(v:V),X.N[i]?=some x->σ[i]?=some (some v)->Vis X.env.scope x->∃u,RelV v u/\Look X.env s.heap m x u
 cell:∀x c,X.env.cells.lookup x=some c->∃v,s.heap.IsCell c v
 free:H X.env.locals=none
 freeC:∀x c,X.env.cells.lookup x=some c->H c=none
 pin:∀p∈X.pn++pins,s.heap.get? p.1=some p.2/\H p.1=none/\p.1≠X.env.locals/\p.1 ∉ X.fs/\∀v,p.2.data≠.cell v
 hok:HOk X.prog X.w H s.heap
 len:σ.length=X.N.length
variable{X:Cx}{pins:List (Addr×Obj)}{s:Shared}
section
variable{σ:List (Option V)}
theorem Cx.Ok.nofr(ok:X.Ok){b:Addr}{o:Obj}(e:X.base.get? b=some o):b ∉ X.fs:=λhb=>by
 have:=(ok.funs.mem hb).1;rw[e]at this;cases this
theorem Inv.bs(I:Inv X pins σ H s):∀b o,X.base.get? b=some o->s.heap.get? b=some o/\H b=none:=λb o e =>
 ⟨I.base.keep b o (I.ok.bs b o e).1 (I.ok.bs b o e).2 (I.ok.nofr e) (I.ok.noex b o e),I.base.free b o (I.ok.bs b o e).1 (I.ok.bs b o e).2 (I.ok.noex b o e)⟩
theorem Inv.bk(I:Inv X pins σ H s):∀b o,X.base.get? b=some o->s.heap.get? b=some o:=λb o e=>(I.bs b o e).1
theorem Inv.mod(I:Inv X pins σ H s):Mod X.K X.mg X.base:=I.ok.mod
theorem Inv.kIn(I:Inv X pins σ H s):X.K.In s.heap:=I.ok.mod.kin.keeps I.bk
theorem Inv.lt(I:Inv X pins σ H s):X.env.locals<s.heap.objs.size:=by obtain⟨_,hn,_⟩:=I.loc;exact hn.lt
theorem Inv.sz(I:Inv X pins σ H s):X.s₀.heap.objs.size<=s.heap.objs.size:=le_trans I.ok.above (le_of_lt I.lt)
theorem Inv.nofs(I:Inv X pins σ H s){a:Addr}(h:s.heap.objs.size<=a):a ∉ X.fs:=λhb=>by
 obtain⟨_,o,ho,_⟩:=I.ok.funs.mem hb;exact absurd (lt_of_lt_of_le (Heap.lt_size ho) (le_trans I.sz h)) (lt_irrefl _)
theorem Inv.cne(I:Inv X pins σ H s):∀x c,X.env.cells.lookup x=some c->c≠X.env.locals:=λx c e z=>by
 obtain⟨v,o,ho,hd⟩:=I.cell x c e;obtain⟨m,⟨o',es,ep,ho',hd',_⟩,_⟩:=I.loc;rw[z,ho']at ho;cases ho;rw[hd']at hd;cases hd
theorem Inv.funs(I:Inv X pins σ H s):s.heap.FunFrames X.base X.outer:=by
 have all:∀(l:List Env),(∀b∈frs l,b∈X.fs)->X.s₀.heap.FunFrames X.base l->s.heap.FunFrames X.base l:=by
  intro l;induction l with
  |nil=>intro _ _;trivial
  |cons env r ih =>
   intro hs hl;obtain⟨hk,⟨L,o,hf,hn,ho,hd⟩,hr⟩:=hl;have hL:L∈X.fs:=hs L (by unfold frs;rw[filterMap_cons,hf];exact mem_cons_self);obtain⟨sl,e⟩:=I.base.slot L o ho (I.ok.frf L hL) hL λz=>I.ok.exfs L z hL
   exact⟨hk,⟨L,_,hf,hn,e,hd⟩,ih (λb hb=>hs b (by unfold frs;rw[filterMap_cons,hf];exact mem_cons_of_mem _ hb)) hr⟩
 exact all X.outer (λ_ hb=>hb) I.ok.funs
theorem Inv.stack(I:Inv X pins σ H s):s.heap.FunFrames X.base X.stack:=by
 rcases I.ok.stk with e|⟨e,hf⟩
 ·rw[e];exact I.funs
 ·rw[e];obtain⟨m,hn,_⟩:=I.loc;refine .cons (by rw[I.ok.kind];decide) hf hn ?_ I.funs;exact Heap.get?_none_of_le (le_trans I.ok.bsz I.ok.above)
theorem Inv.stkSub(I:Inv X pins σ H s):∀b∈frs X.stack,b∈X.env.locals :: X.fs:=λb hb=>by
 rcases I.ok.stk with e|⟨e,hf⟩
 ·rw[e]at hb;exact mem_cons_of_mem _ hb
 ·rw[e]at hb;unfold frs at hb;rw[filterMap_cons,hf]at hb;exact hb
theorem Inv.stkFree(I:Inv X pins σ H s):∀b∈frs X.stack,H b=none:=λb hb=>by
 rcases mem_cons.mp (I.stkSub b hb)with e|hb
 ·rw[e];exact I.free
 ·obtain⟨_,o,ho,_⟩:=I.ok.funs.mem hb;exact I.base.free b o ho (I.ok.frf b hb) λz=>I.ok.exfs b z hb
theorem Inv.step{g':Array GenState}{t':Nat}{d':Drawn}{ch:List Addr}(I:Inv X pins σ H s)
  (hch:∀b∈ch,(b∈X.ex\/X.s₀.heap.objs.size<=b)/\b≠X.env.locals/\(∀x c,X.env.cells.lookup x=some c->c≠b)/\∀p∈X.pn++pins,p.1≠b)
  (keep:∀b o,b≠X.env.locals->b ∉ X.fs->b ∉ ch->s.heap.get? b=some o->H b=none->h'.get? b=some o)
  (slot:∀b o,b≠X.env.locals->b∈X.fs->b ∉ ch->s.heap.get? b=some o->H b=none->∃sl,h'.get? b=some { o with slots:=sl })(free:∀b o,b ∉ ch->s.heap.get? b=some o->H b=none->H' b=none)
  (there:∀b o,b ∉ ch->s.heap.get? b=some o->∃o',h'.get? b=some o')
  (tups:∀b xs,H b=some (.tup xs)->H' b=some (.tup xs))(frzs:∀b o u,H b=some (.frz o u)->H' b=some (.frz o u))(tbls:∀b ps,H b=some (.tbl ps)->∃more,H' b=some (.tbl (ps++more)))
  (ns:∀m,s.heap.Ns X.env.locals m->h'.Ns X.env.locals m)(hok:HOk X.prog X.w H' h')(hg:AllBare g') :
  Inv X pins σ H' { s with heap:=h',gens:=g',drawn:=d',toks:=t' }:=by
 have neL:∀b o,X.s₀.heap.get? b=some o->b≠X.env.locals:=λb o e=>ne_of_lt (lt_of_lt_of_le (Heap.lt_size e) I.ok.above)
 have neC:∀b o,X.s₀.heap.get? b=some o->b ∉ X.ex->b ∉ ch:=λb o e hx hb=>by
  rcases(hch b hb).1 with z|z
  ·exact hx z
  ·exact absurd (lt_of_lt_of_le (Heap.lt_size e) z) (lt_irrefl _)
 have cellK:∀x c,X.env.cells.lookup x=some c->∀v,s.heap.IsCell c v->h'.IsCell c v:=λx c e v ⟨o,ho,hd⟩=>by
  have nch:c ∉ ch:=λz=>(hch c z).2.2.1 x c e U
  by_cases hc:c∈X.fs
  ·obtain⟨sl,q⟩:=slot c o (I.cne x c e) hc nch ho (I.freeC x c e);exact⟨_,q,hd⟩
  ·exact⟨o,keep c o (I.cne x c e) hc nch ho (I.freeC x c e),hd⟩
 refine⟨I.ok,I.os,hg,⟨λb o e n hb hx=>?_,λb o e n hb hx=>?_,λb o e n hx=>?_,λb o e hx=>?_,λb xs e=>tups b xs (I.base.tups b xs e),λb o xs e=>frzs b o xs (I.base.frzs b o xs e),λb ps e=>?_⟩,?_,λx c e=>?_,?_,λx c e=>?_,λp hp=>?_,hok,I.len⟩
 ·exact keep b o (neL b o e) hb (neC b o e hx) (I.base.keep b o e n hb hx) (I.base.free b o e n hx)
 ·obtain⟨sl,e1⟩:=I.base.slot b o e n hb hx;obtain⟨sl',e2⟩:=slot b _ (neL b o e) hb (neC b o e hx) e1 (I.base.free b o e n hx);exact⟨sl',e2⟩
 ·obtain⟨o',e1⟩:=I.base.there b o e hx;exact free b o' (neC b o e hx) e1 (I.base.free b o e n hx)
 ·obtain⟨o',e1⟩:=I.base.there b o e hx;exact there b o' (neC b o e hx) e1
 ·obtain⟨m1,e1⟩:=I.base.tbls b ps e;obtain⟨m2,e2⟩:=tbls b _ e1;exact⟨m1++m2,by rw[e2,Array.append_assoc]⟩
 ·obtain⟨m,hn,hl⟩:=I.loc;refine⟨m,ns m hn,λi x v e1 e2 e3=>?_⟩;obtain⟨u,r,l⟩:=hl i x v e1 e2 e3;refine⟨u,r,?_⟩;rcases l with l|⟨k,c,e,z⟩
  ·exact .inl l
  ·exact .inr ⟨k,c,e,cellK x c e _ z⟩
 ·obtain⟨v,z⟩:=I.cell x c e;exact⟨v,cellK x c e v z⟩
 ·obtain⟨m,⟨o,_,_,ho,_⟩,_⟩:=I.loc;exact free _ o (λz=>(hch _ z).2.1 U) ho I.free
 ·obtain⟨v,o,ho,hd⟩:=I.cell x c e;exact free c o (λz=>(hch c z).2.2.1 x c e U) ho (I.freeC x c e)
 ·obtain⟨e,n,ne,nf,d⟩:=I.pin p hp;have nch:p.1 ∉ ch:=λz=>(hch p.1 z).2.2.2 p hp U
  exact⟨keep p.1 p.2 ne nf nch e n,free p.1 p.2 nch e n,ne,nf,d⟩
theorem Inv.un{t':Nat}(I:Inv X pins σ H s)(u:Un X.fs [] H H' s.heap h')(hok:HOk X.prog X.w H' h'):Inv X pins σ H' { s with heap:=h',toks:=t' }:=by
 obtain⟨m,⟨o,es,ep,ho,r⟩,_⟩:=id I.loc;obtain⟨sl,hL⟩:=u.any ho I.free (by simp);exact I.step (g':=s.gens) (d':=s.drawn) (ch:=[]) (λ_ z=>nomatch z) (λb o _ hb _ e n=>u.keep b o e n hb (by simp)) (λb o _ hb _ e n=>u.slot b o e n hb (by simp)) (λb o _ e n=>u.free b o e n (by simp)) (λb o _ e=>u.there b o e (by simp)) u.tups u.frzs u.tbls (λm' hm=>by
  obtain⟨o',es',ep',ho',r'⟩:=hm;rw[ho]at ho';cases ho';exact⟨_,es',ep',hL,r'⟩) hok I.bare
theorem Inv.call{g':Array GenState}{t':Nat}{d':Drawn}{ch:List Addr}(I:Inv X pins σ H s)(u:Un (frs X.stack) ch H H' s.heap h')(hok:HOk X.prog X.w H' h')(hg:AllBare g')
  (hch:∀b∈ch,(b∈X.ex\/X.s₀.heap.objs.size<=b)/\b≠X.env.locals/\(∀x c,X.env.cells.lookup x=some c->c≠b)/\∀p∈X.pn++pins,p.1≠b) :
  Inv X pins σ H' { s with heap:=h',gens:=g',drawn:=d',toks:=t' }:=by
 obtain⟨m,⟨o,es,ep,ho,r⟩,_⟩:=id I.loc;obtain⟨sl,hL⟩:=u.any ho I.free λz=>(hch _ z).2.1 U
 exact I.step (ch:=ch) hch (λb o hL hb hc e n=>u.keep b o e n (λz=>(mem_cons.mp (I.stkSub b z)).elim hL hb) hc) (λb o _ _ hc e n=>u.any e n hc) (λb o hc e n=>u.free b o e n hc) (λb o hc e=>u.there b o e hc) u.tups u.frzs u.tbls (λm' hm=>by
  obtain⟨o',es',ep',ho',r'⟩:=hm;rw[ho]at ho';cases ho';exact⟨_,es',ep',hL,r'⟩) hok hg
theorem Inv.turned{t':Nat}{it:Addr}(I:Inv X pins σ H s)(k:∀b o,b≠it->s.heap.get? b=some o->h'.get? b=some o)(hn:H it=none)(hL:it≠X.env.locals)
  (h1:it∈X.ex\/X.s₀.heap.objs.size<=it)(h2:∀x c,X.env.cells.lookup x=some c->c≠it)(h3:∀p∈X.pn++pins,p.1≠it):Inv X pins σ H { s with heap:=h',toks:=t' }:=by
 have nit:∀b u,H b=some u->b≠it:=λb u e z=>by rw[z,hn]at e;cases e
 refine I.step (g':=s.gens) (d':=s.drawn) (ch:=[it]) (λb hb=>?_) (λb o _ _ hc e _=>k b o (λz=>hc (by simp[z])) e) (λb o _ _ hc e _=>⟨o.slots,k b o (λz=>hc (by simp[z])) e⟩) (λ_ _ _ _ n=>n)
  (λb o hc e=>⟨o,k b o (λz=>hc (by simp[z])) e⟩) (λ_ _ e=>e) (λ_ _ _ e=>e) (λb ps e=>⟨#[],by rw[e];simp⟩) (λm hm=>?_) (λb u e=>?_) I.bare
 ·have e:b=it:=by simpa using hb
  subst e;exact⟨h1,hL,h2,h3⟩
 ·obtain⟨o,es,ep,ho,r⟩:=hm;exact⟨o,es,ep,k _ o (Ne.symm hL) ho,r⟩
 ·refine(I.hok b u e).stay (λc v hc q=>k c v ?_ q) (λ_ q=>q) λ_ _ q=>q
  rcases hc with z|z
  ·rw[z];exact nit b u e
  ·exact nit c _ z
theorem Inv.tok(I:Inv X pins σ H s)(t:Nat):Inv X pins σ H { s with toks:=t }:=I.un (h':=s.heap) (t':=t) Un.refl I.hok
theorem Inv.kept{t':Nat}(I:Inv X pins σ H s)(k:∀b u,s.heap.get? b=some u->h'.get? b=some u):Inv X pins σ H { s with heap:=h',toks:=t' }:=I.un (Un.kept k) (I.hok.kept k)
theorem Inv.laid{a:Addr}{o:HO}{t':Nat}(I:Inv X pins σ H s)(k:∀b u,s.heap.get? b=some u->h'.get? b=some u)(hp:s.heap.objs.size<=a)(new:cD X.prog X.w (upd H a o) h' a o) :
  Inv X pins σ (upd H a o) { s with heap:=h',toks:=t' }:=I.un (Un.laid k hp (I.hok.fresh hp)) (I.hok.laid k hp new)
theorem Inv.write{x e:Addr}{o:HO}{t':Nat}(I:Inv X pins σ H s)(mu:Mut (H x))(he:e=x\/H e=some (.own x))(k:∀b u,b≠e->s.heap.get? b=some u->h'.get? b=some u)(heo:∃u,h'.get? e=some u)
  (new:cD X.prog X.w (upd H x o) h' x o):Inv X pins σ (upd H x o) { s with heap:=h',toks:=t' }:=I.un (Un.write mu he k heo) (I.hok.write mu he k heo new)
theorem Inv.pins_of{uT:List (Addr×Obj)}(I:Inv X pins σ H s)(h:∀p∈uT,s.heap.get? p.1=some p.2/\H p.1=none/\p.1≠X.env.locals/\p.1 ∉ X.fs/\∀v,p.2.data≠.cell v):Inv X uT σ H s :=
 ⟨I.ok,I.os,I.bare,I.base,I.loc,I.cell,I.free,I.freeC,λp hp=>(mem_append.mp hp).elim (λz=>I.pin p (mem_append_left _ z)) (h p),I.hok,I.len⟩
theorem i3{N:List Str}(hN:N.Nodup){i j:Nat}{x:Str}(a:N[i]?=some x)(b:N[j]?=some x):i=j:=by
 obtain⟨h1,e1⟩:=BQ.mp a;obtain⟨h2,e2⟩:=BQ.mp b;exact(List.getElem_inj hN).mp (e1.trans e2.symm)
theorem jn{M:Model}{A:Around}{E:Value->Shared->Prop}{i:Nat}{x:Str}{v:V}{u:Value}{Q:Unit->Shared->Prop}(I:Inv X pins σ H s)(hN:X.N.Nodup)(hi:X.N[i]?=some x)(hx:Loc X.env.scope x)(r:RelV v u)
  (h:∀s',Inv X pins (σ.set i (some v)) H s'->(∃a,Heap.SameBut a s.heap s'.heap/\(a=X.env.locals\/X.env.cells.lookup x=some a))->Q () s')(hf:X.fn x=true\/X.env.scope.names.lookup x=some .local:=by first|exact .inl U|exact .inr U|assumption):wpAny M A (storeName X.env x u) Q E s:=by
 obtain⟨m,hn,hl⟩:=id I.loc;have yQ:(X.env.scope.kind == .class || (X.env.scope.kind == .module && X.env.locals != X.env.globals))=false:=by rw[I.ok.kind];rfl
 have hiσ:i<σ.length:=by rw[I.len];exact(BQ.mp hi).1
 have cne:=I.cne;have tracked:∀{a:Addr}{h':Heap},(∃o,s.heap.get? a=some o/\H a=none)->Heap.SameBut a s.heap h'->HOk X.prog X.w H h':=λ{a h'} ha hs b ob e=>by
  obtain⟨_,_,qu⟩:=ha;refine(I.hok b ob e).stay (λc w' hc q=>(hs.2 c ?_).trans q) (λ_ q=>q) λ_ _ q=>q
  rintro rfl;rcases hc with rfl|hc
  ·rw[qu]at e;cases e
  ·rw[qu]at hc;cases hc
 rcases hx with hk|hk
 ·refine wpAny_storeName_local hk hn (λh' hn' hs=>?_) yQ;obtain⟨oL,_,_,hoL,_⟩:=id hn;refine h _ ⟨I.ok,I.os,I.bare,⟨λb o e n hb hx=>?_,λb o e n hb hx=>?_,I.base.free,λb o e hx=>?_,I.base.tups,I.base.frzs,I.base.tbls⟩,⟨_,hn',λj y v' e1 e2 e3=>?_⟩,λy c e=>?_,I.free,I.freeC,λp hp=>?_,tracked ⟨oL,hoL,I.free⟩ hs,by simpa using I.len⟩ ⟨_,hs,.inl U⟩
  ·exact(hs.2 b (ne_of_lt (lt_of_lt_of_le (Heap.lt_size e) I.ok.above))).trans (I.base.keep b o e n hb hx)
  ·obtain⟨sl,e1⟩:=I.base.slot b o e n hb hx;exact⟨sl,(hs.2 b (ne_of_lt (lt_of_lt_of_le (Heap.lt_size e) I.ok.above))).trans e1⟩
  ·obtain⟨o',e1⟩:=I.base.there b o e hx;exact⟨o',(hs.2 b (ne_of_lt (lt_of_lt_of_le (Heap.lt_size e) I.ok.above))).trans e1⟩
  ·by_cases hj:j=i
   ·subst hj;rw[hi]at e1;cases e1;rw[List.getElem?_set_self hiσ]at e2;cases e2;exact⟨u,r,.inl ⟨hk,by simp⟩⟩
   ·rw[List.getElem?_set_ne (Ne.symm hj)]at e2;obtain⟨u',r',q⟩:=hl j y v' e1 e2 e3;refine⟨u',r',?_⟩;rcases q with⟨k,e⟩|⟨k,c,e,z⟩
    ·refine .inl ⟨k,?_⟩;have:y≠x:=λe=>hj (i3 hN e1 (e ▸ hi))
     simp[this,e]
    ·exact .inr ⟨k,c,e,z.sameBut hs (cne y c e)⟩
  ·obtain⟨w',z⟩:=I.cell y c e;exact⟨w',z.sameBut hs (cne y c e)⟩
  ·obtain⟨e,n,ne,nf,d⟩:=I.pin p hp;exact⟨(hs.2 p.1 ne).trans e,n,ne,nf,d⟩
 ·have hfn:X.fn x=true:=by
   rcases hf with z|z
   ·exact z
   ·rw[z]at hk;cases hk
  obtain⟨c,hc⟩:=I.ok.has x (.inl hk);obtain⟨w',z⟩:=I.cell x c hc;refine wpAny_storeName_cell I.ok.kind hk hc z (λh' hc' hs=>?_);obtain⟨oc,hoc,yR⟩:=id z;refine h { s with heap:=h' } ⟨I.ok,I.os,I.bare,⟨λb o e n hb hx=>?_,λb o e n hb hx=>?_,I.base.free,λb o e hx=>?_,I.base.tups,I.base.frzs,I.base.tbls⟩,⟨m,hn.sameBut hs (Ne.symm (cne x c hc)),λj y v' e1 e2 e3=>?_⟩,λy c' e=>?_,I.free,I.freeC,λp hp=>?_,tracked ⟨oc,hoc,I.freeC x c hc⟩ hs,by simpa using I.len⟩ ⟨c,hs,.inr hc⟩
  ·exact(hs.2 b (ne_of_lt (lt_of_lt_of_le (Heap.lt_size e) (I.ok.cab x c hfn hc)))).trans (I.base.keep b o e n hb hx)
  ·obtain⟨sl,e1⟩:=I.base.slot b o e n hb hx;exact⟨sl,(hs.2 b (ne_of_lt (lt_of_lt_of_le (Heap.lt_size e) (I.ok.cab x c hfn hc)))).trans e1⟩
  ·obtain⟨o',e1⟩:=I.base.there b o e hx;exact⟨o',(hs.2 b (ne_of_lt (lt_of_lt_of_le (Heap.lt_size e) (I.ok.cab x c hfn hc)))).trans e1⟩
  ·by_cases hj:j=i
   ·subst hj;rw[hi]at e1;cases e1;rw[List.getElem?_set_self hiσ]at e2;cases e2;exact⟨u,r,.inr ⟨.inl hk,c,hc,hc'⟩⟩
   ·rw[List.getElem?_set_ne (Ne.symm hj)]at e2;obtain⟨u',r',q⟩:=hl j y v' e1 e2 e3;refine⟨u',r',?_⟩;rcases q with q|⟨k,c',e,z'⟩
    ·exact .inl q
    ·refine .inr ⟨k,c',e,z'.sameBut hs ?_⟩;rintro rfl;exact hj (i3 hN e1 (I.ok.inj _ _ _ e hc ▸ hi))
  ·by_cases hcc:c'=c
   ·subst hcc;exact⟨_,hc'⟩
   ·obtain⟨w2,z2⟩:=I.cell y c' e;exact⟨w2,z2.sameBut hs hcc⟩
  ·obtain⟨e,n,ne,nf,d⟩:=I.pin p hp;refine⟨(hs.2 p.1 ?_).trans e,n,ne,nf,d⟩;intro q;rw[q,hoc]at e;have q':oc=p.2:=Option.some.inj e;exact d w' (by rw[←q'];exact yR)
theorem kn{M:Model}{A:Around}{E:Value->Shared->Prop}{i:Nat}{x:Str}{v:V}{u:Value}{Q:Unit->Shared->Prop}(I:Inv X pins σ H s)(hN:X.N.Nodup)(hi:X.N[i]?=some x)(hx:Loc X.env.scope x)(r:RelV v u)
  (h:∀s',Inv X pins (σ.set i (some v)) H s'->Q () s')(hf:X.fn x=true\/X.env.scope.names.lookup x=some .local:=by first|exact .inl U|exact .inr U|assumption):wpAny M A (storeName X.env x u) Q E s :=
 jn I hN hi hx r (λs' I' _=>h s' I') hf
theorem Inv.call'{s':Shared}{ch:List Addr}(I:Inv X pins σ H s)(ho:s'.os=s.os)(u:Un (frs X.stack) ch H H' s.heap s'.heap)(hok:HOk X.prog X.w H' s'.heap)(hg:AllBare s'.gens)
  (hch:∀b∈ch,(b∈X.ex\/X.s₀.heap.objs.size<=b)/\b≠X.env.locals/\(∀x c,X.env.cells.lookup x=some c->c≠b)/\∀p∈X.pn++pins,p.1≠b):Inv X pins σ H' s':=by
 obtain⟨h',g',d',t',o'⟩:=s';have e:o'=s.os:=ho;subst e;exact I.call (g':=g') (t':=t') (d':=d') u hok hg hch
end
abbrev XK:=Value->Option Addr->Hp->Prop
abbrev St:=List (Option V)
abbrev VK:=V->Hp->Prop
abbrev TE:=St->Hp->VK->Prop
abbrev TT:=St->Hp->(Bool->Hp->Prop)->Prop
abbrev TA:=St->Hp->(List V->Hp->Prop)->Prop
structure Ends where
 nx:St->Hp->Prop
 rt:VK
 bk:St->Hp->Prop:=λ_ _=>False
 ct:St->Hp->Prop:=λ_ _=>False
abbrev TS:=Ends->St->Hp->Prop
def EP(X:Cx)(pins:List (Addr×Obj))(σ:St)(Q:VK)(u:Value)(s':Shared):Prop:=∃v H',Inv X pins σ H' s'/\RelV v u/\Q v H'
def TP(X:Cx)(pins:List (Addr×Obj))(σ:St)(Q:Bool->Hp->Prop)(b:Bool)(s':Shared):Prop:=∃H',Inv X pins σ H' s'/\Q b H'
def AP(X:Cx)(pins:List (Addr×Obj))(σ:St)(Q:List V->Hp->Prop)(us:List Value)(s':Shared):Prop:=∃vs H',Inv X pins σ H' s'/\Vals vs us/\Q vs H'
def SP(X:Cx)(pins:List (Addr×Obj))(D:Ends)(f:Flow)(s':Shared):Prop :=
 match f with
 | .next=>∃σ' H',Inv X pins σ' H' s'/\D.nx σ' H'
 | .brk=>∃σ' H',Inv X pins σ' H' s'/\D.bk σ' H'
 | .cont=>∃σ' H',Inv X pins σ' H' s'/\D.ct σ' H'
 | .ret u=>∃v σ' H',Inv X pins σ' H' s'/\RelV v u/\D.rt v H'
def PE(X:Cx)(e:Expr)(t:TE):Prop :=
 ∀(pins:List (Addr×Obj))(s:Shared)(σ:St)(H:Hp)(Q:VK),Inv X pins σ H s->t σ H Q->wpAny (model X.prog X.w) X.A (eval e X.env) (EP X pins σ Q) X.xe s
def PT(X:Cx)(e:Expr)(t:TT):Prop :=
 ∀(pins:List (Addr×Obj))(s:Shared)(σ:St)(H:Hp)(Q:Bool->Hp->Prop),Inv X pins σ H s->t σ H Q->wpAny (model X.prog X.w) X.A (isTrue e X.env (eval e X.env)) (TP X pins σ Q) X.xe s
def PW(X:Cx)(e:Expr)(t:TT):Prop :=
 ∀(whole:Sem Value)(pins:List (Addr×Obj))(s:Shared)(σ:St)(H:Hp)(Q:Bool->Hp->Prop),Inv X pins σ H s->t σ H Q->wpAny (model X.prog X.w) X.A (isTrue e X.env whole) (TP X pins σ Q) X.xe s
theorem PW.pt{X:Cx}{e:Expr}{t:TT}(h:PW X e t):PT X e t:=h _
def PA(X:Cx)(es:List Expr)(t:TA):Prop :=
 ∀(pos:Pos)(pins:List (Addr×Obj))(s:Shared)(σ:St)(H:Hp)(Q:List V->Hp->Prop),Inv X pins σ H s->t σ H Q->wpAny (model X.prog X.w) X.A (spliced (backTo pos (starEach es X.env))) (AP X pins σ Q) X.xe s
def PS(X:Cx)(st:Stmt)(t:TS):Prop :=
 ∀(pins:List (Addr×Obj))(s:Shared)(σ:St)(H:Hp)(D:Ends),Inv X pins σ H s->t D σ H->wpAny (model X.prog X.w) X.A (exec st X.env) (SP X pins D) X.xe s
def PSs(X:Cx)(st:List Stmt)(t:TS):Prop :=
 ∀(pins:List (Addr×Obj))(s:Shared)(σ:St)(H:Hp)(D:Ends),Inv X pins σ H s->t D σ H->wpAny (model X.prog X.w) X.A (execs st X.env) (SP X pins D) X.xe s
theorem thn{α:Type}{t:Sem α}{Q Q':α->Shared->Prop}{M:Model}{A:Around}{E:Value->Shared->Prop}{s:Shared}(h:wpAny M A t Q E s)(hQ:∀a s,Q a s->Q' a s):wpAny M A t Q' E s:=wpAny_mono h hQ λ_ _ x=>x
variable{ta tb:TE}{pos:Pos}
section
inductive vI(i:Nat)(σ:St)(H:Hp)(Q:VK):Prop
 |mk (v:_)(_:σ[i]?=some (some v))(_:Q v H):vI i σ H Q
def tC(v:V):TE:=λ_ H Q=>Q v H
theorem rY{i:Nat}{x:Str}{pos:Pos}(hN:X.N[i]?=some x)(hv:Vis X.env.scope x)(hd:(x == ("__debug__" : Str))=false:=by decide) (hcd:(x == ("__classdict__" : Str))=false:=by decide):PE X (.Name x pos) (vI i):=by
 intro pins s σ H Q I h;obtain⟨v,e,h⟩:=h;obtain⟨m,hn,hl⟩:=I.loc;obtain⟨u,r,l⟩:=hl i x v hN e hv;have fin:EP X pins σ Q u s:=⟨v,H,I,r,h⟩;rcases l with⟨hk,hm⟩|⟨hk,c,hc,c9⟩
 ·exact wpAny_Name (wpAny_loadName_local I.ok.kind hk hn hm fin) hd
 ·rcases hk with hk|hk
  ·exact wpAny_Name (wpAny_loadName_cell I.ok.kind hk hc c9 fin) hd
  ·exact wpAny_Name (wpAny_loadName_free I.ok.kind hk hc c9 fin hcd) hd
theorem af{i j pos}:PE X (.Constant (.int i) j pos) (tC (.int i)):=λ_ _ _ H _ I h=>wpAny_Constant_int ⟨.int i,H,I.tok _,⟨_,U⟩,h⟩
theorem cJ{b j pos}:PE X (.Constant (.bool b) j pos) (tC (.bl b)):=λ_ _ _ H _ I h=>Constant_bool ⟨.bl b,H,I,U,h⟩
theorem aP{x j pos}:PE X (.Constant (.str x) j pos) (tC (.str x)):=λ_ _ _ H _ I h=>Calls.Constant_str ⟨.str x,H,I.tok _,⟨_,U⟩,h⟩
def Gl(X:Cx)(x:Str):Prop:=X.env.kindOf x=some .globalImplicit
theorem gJ{E:Value->Shared->Prop}{pins:List (Addr×Obj)}{s:Shared}{σ:St}{H:Hp}{x:Str}{u:Value}{pos:Pos}{Q:Value->Shared->Prop}(I:Inv X pins σ H s)(hg:Gl X x)(hm:X.mg x=some u)(h:Q u s)
  (hd:(x == ("__debug__" : Str))=false:=by decide):wpAny (model X.prog X.w) X.A (eval (.Name x pos) X.env) Q E s :=
 Calls.Name_function_global I.ok.kind hg (Calls.loadGlobal_global (by rw[I.ok.glob];exact I.mod.glob.keeps I.bk) hm h) hd
theorem jo{E:Value->Shared->Prop}{pins:List (Addr×Obj)}{s:Shared}{σ:St}{H:Hp}{x:Str}{u:Value}{pos:Pos}{Q:Value->Shared->Prop}(I:Inv X pins σ H s)(hg:Gl X x)(hm:X.mg x=none)(hv:bootBuiltins x=some u)(h:Q u s)
  (hn:x ≠ "__name__" := by decide) (hd:(x == ("__debug__" : Str))=false:=by decide):wpAny (model X.prog X.w) X.A (eval (.Name x pos) X.env) Q E s:=by
 obtain⟨mb,h1,h2⟩:=I.mod.blt;exact Calls.Name_function_global I.ok.kind hg (Calls.loadGlobal_builtin (by rw[I.ok.glob];exact I.mod.glob.keeps I.bk) hm (by rw[I.ok.blt];exact h1.keeps I.bk) ((h2 x hn).trans hv) h) hd
theorem bX{x:Str}{v:V}{u:Value}{pos:Pos}(hg:Gl X x)(hm:X.mg x=some u)(r:RelV v u)(hd:(x == ("__debug__" : Str))=false:=by decide):PE X (.Name x pos) (tC v) :=
 λ_ _ _ H _ I h=>gJ I hg hm ⟨v,H,I,r,h⟩ hd
theorem fH{x:Str}{v:V}{u:Value}{pos:Pos}(hg:Gl X x)(hm:X.mg x=none)(hv:bootBuiltins x=some u)(r:RelV v u)(hn:x ≠ "__name__" := by decide) (hd:(x == ("__debug__" : Str))=false:=by decide):PE X (.Name x pos) (tC v) :=
 λ_ _ _ H _ I h=>jo I hg hm hv ⟨v,H,I,r,h⟩ hn hd
variable{a b:Expr}
inductive tBq  (Q:Bool->Hp->Prop)(x:V)(H1:Hp):Prop
 |mk (c:_)(_:x=.bl c)(_:Q c H1):tBq Q x H1
def tB(t:TE):TT:=λσ H Q=>t σ H λx H1=>tBq Q x H1
theorem bw{e:Expr}{t:TE}(h:PE X e t)(he:∀whole,isTrue e X.env whole=(do let v ←whole;standAt e.pos;holding [v] (truthy v)):=by intro _;rfl):PT X e (tB t):=by
 intro pins s σ H Q I hw;refine isTrue_plain (thn (h pins s σ H _ I hw) λv s1 ⟨x,H1,I1,r1,q1⟩=>?_) (he _);obtain⟨d,rfl,q⟩:=q1;cases r1;exact wpAny_truthy_bool ⟨H1,I1,q⟩
variable{tA tB':TT}{rest:List Expr}
def yS(t u:TT):TT:=λσ H Q=>t σ H λc H1=>if c=true then u σ H1 Q else Q false H1
def tOr(t u:TT):TT:=λσ H Q=>t σ H λc H1=>if c=true then Q true H1 else u σ H1 Q
def yT(t:TT):TT:=λσ H Q=>t σ H λc H1=>Q (!c) H1
theorem cb(ha:PT X a tA):PW X (.BoolOp .And [a] pos) tA:=by
 intro wh pins s σ H Q I h;refine isTrue_and (thn (ha pins s σ H Q I h) λc s1 e=>?_);cases c with
 |true=>exact isTrue_and_nil e
 |false=>exact e
theorem ip(ha:PT X a tA):PW X (.BoolOp .Or [a] pos) tA:=by
 intro wh pins s σ H Q I h;refine isTrue_or (thn (ha pins s σ H Q I h) λc s1 e=>?_);cases c with
 |false=>exact isTrue_or_nil e
 |true=>exact e
theorem cM(ha:PT X a tA)(hb:PW X (.BoolOp .And (b :: rest) pos) tB'):PW X (.BoolOp .And (a :: b :: rest) pos) (yS tA tB'):=by
 intro wh pins s σ H Q I h;refine isTrue_and (thn (ha pins s σ H _ I h) λc s1 ⟨H1,I1,q1⟩=>?_);cases c with
 |true=>exact hb wh pins s1 σ H1 Q I1 q1
 |false=>exact⟨H1,I1,q1⟩
theorem gh(ha:PT X a tA)(hb:PW X (.BoolOp .Or (b :: rest) pos) tB'):PW X (.BoolOp .Or (a :: b :: rest) pos) (tOr tA tB'):=by
 intro wh pins s σ H Q I h;refine isTrue_or (thn (ha pins s σ H _ I h) λc s1 ⟨H1,I1,q1⟩=>?_);cases c with
 |true=>exact⟨H1,I1,q1⟩
 |false=>exact hb wh pins s1 σ H1 Q I1 q1
theorem bE(ha:PT X a tA):PT X (.UnaryOp .Not a pos) (yT tA):=by
 intro pins s σ H Q I h;exact isTrue_not (ha pins s σ H (λc H1=>Q (!c) H1) I h)
inductive rZ(tb:TE)(σ:St)(Q:VK)(x:V)(H1:Hp):Prop
 |mk (c:_)(_:x=.bl c)(_:if c=true then tb σ H1 Q else Q (.bl false) H1):rZ tb σ Q x H1
def xp(ta tb:TE):TE:=λσ H Q=>ta σ H λx H1=>rZ tb σ Q x H1
inductive r6  (Q:VK)(x:V)(H1:Hp):Prop
 |mk (c:_)(_:x=.bl c)(_:Q (.bl (!c)) H1):r6 Q x H1
def xq(ta:TE):TE:=λσ H Q=>ta σ H λx H1=>r6 Q x H1
theorem iq{op} {t:TE}(h:PE X a t):PE X (.BoolOp op [a] pos) t:=λpins s σ H Q I hw=>BoolOp_one (h pins s σ H Q I hw)
theorem fI(ha:PE X a ta)(hb:PE X (.BoolOp .And (b :: rest) pos) tb):PE X (.BoolOp .And (a :: b :: rest) pos) (xp ta tb):=by
 intro pins s σ H Q I h;refine BoolOp_and (thn (ha pins s σ H _ I h) λv s1 ⟨x,H1,I1,r1,q1⟩=>?_);obtain⟨c,rfl,q1⟩:=q1;cases r1;refine wpAny_truthy_bool ?_;cases c with
 |true=>exact hb pins s1 σ H1 Q I1 q1
 |false=>exact⟨.bl false,H1,I1,U,q1⟩
theorem r9(ha:PE X a ta):PE X (.UnaryOp .Not a pos) (xq ta):=by
 intro pins s σ H Q I h;refine UnaryOp_ (thn (ha pins s σ H _ I h) λv s1 ⟨x,H1,I1,r1,q1⟩=>?_);obtain⟨c,rfl,q1⟩:=q1;cases r1;exact not_of (wpAny_truthy_bool ⟨.bl (!c),H1,I1,U,q1⟩)
def tIf(t:TT)(ta tb:TE):TE:=λσ H Q=>t σ H λc H1=>if c=true then ta σ H1 Q else tb σ H1 Q
theorem og{c:Expr}(hc:PT X c tA)(ha:PE X a ta)(hb:PE X b tb):PE X (.IfExp c a b pos) (tIf tA ta tb):=by
 intro pins s σ H Q I h;refine wpAny_IfExp (thn (hc pins s σ H _ I h) λd s1 ⟨H1,I1,q1⟩=>?_);cases d with
 |true=>exact ha pins s1 σ H1 Q I1 q1
 |false=>exact hb pins s1 σ H1 Q I1 q1
end
def SqL(K:W.Frag)(H:Hp)(a:Addr)(xs:List V):Prop :=
 Rd H a (.lst xs) \/
  ∃(o:Obj)(its:Array Value)(n:Nat),K.lookup a=some o/\o.cls=.type "list" /\ o.dict=none/\o.data=.seq its n/\its.size<=sizeLine/\Vals xs its.toList
def SqT(K:W.Frag)(H:Hp)(a:Addr)(xs:List V):Prop :=
 Rd H a (.tup xs) \/
  ∃(o:Obj)(its:Array Value)(n:Nat),K.lookup a=some o/\o.cls=.type "tuple" /\ o.data=.seq its n/\its.size<=sizeLine/\Vals xs its.toList
def yU:Value->Option V
 | .none=>some .non
 | .bool b=>some (.bl b)
 | .int i _=>some (.int i)
 | .str x _=>some (.str x)
 | .bytes b _=>some (.byt b)
 | .float b _=>some (.flt b)
 | .ref a=>some (.ref a)
 | .type n=>some (.ty n)
 |_=>none
theorem RelV.abs{x:V}{u:Value}(r:RelV x u):yU u=some x:=by
 cases x with
 |non=>cases r;rfl
 |bl _=>cases r;rfl
 |int _=>obtain⟨t,rfl⟩:=r;rfl
 |str _=>obtain⟨t,rfl⟩:=r;rfl
 |byt _=>obtain⟨t,rfl⟩:=r;rfl
 |flt _=>obtain⟨t,rfl⟩:=r;rfl
 |ref _=>cases r;rfl
 |ty _=>cases r;rfl
theorem RelV.inj{x y:V}{u:Value}(r:RelV x u)(q:RelV y u):x=y:=Option.some.inj (r.abs.symm.trans q.abs)
theorem Vals.inj:∀{xs ys:List V}{us:List Value},Vals xs us->Vals ys us->xs=ys
 |_,_,_,.nil,.nil=>rfl
 |_,_,_,.cons r t,.cons r' t'=>by rw[r.inj r',Vals.inj t t']
variable{σ:St}
section
variable{xs ys:List V}
theorem SqL.of{K:W.Frag}(h:H a=some (.lst xs)):SqL K H a xs:=.inl (.inl h)
theorem SqT.of{K:W.Frag}(h:H a=some (.tup xs)):SqT K H a xs:=.inl (.inl h)
theorem Inv.list(I:Inv X pins σ H s)(h:SqL X.K H a xs):∃its:List Value,Vals xs its/\PlainL s.heap a its.toArray/\xs.length<=sizeLine:=by
 rcases h with h|⟨o,its,n,hk,hc,hd,hs,hz,r⟩
 ·obtain⟨z,its,n,r,e⟩:=h.ok I.hok;exact⟨its,r,⟨_,n,e,U,U,U⟩,z⟩
 ·refine⟨its.toList,r,⟨o,n,I.kIn a o hk,hc,hd,by simpa using hs⟩,?_⟩;have e:=r.length;simp only[length_toList]at e;lia
theorem Inv.tuple(I:Inv X pins σ H s)(h:SqT X.K H a xs):∃its:List Value,Vals xs its/\IsTup s.heap a its.toArray/\xs.length<=sizeLine:=by
 rcases h with h|⟨o,its,n,hk,hc,hs,hz,r⟩
 ·obtain⟨z,its,r,p⟩:=h.ok I.hok;exact⟨its,r,p,z⟩
 ·refine⟨its.toList,r,⟨o,I.kIn a o hk,hc,n,by simpa using hs⟩,?_⟩;have e:=r.length;simp only[length_toList]at e;lia
theorem Inv.list_inj(I:Inv X pins σ H s)(h:SqL X.K H a xs)(h':SqL X.K H a ys):xs=ys:=by
 obtain⟨its,r,⟨o,n,e,_,_,d⟩,_⟩:=I.list h;obtain⟨its',r',⟨o',n',e',_,_,d'⟩,_⟩:=I.list h';rw[e]at e';cases e';rw[d]at d';injection d' with d1 _;have:its=its':=by simpa using congrArg Array.toList d1
 subst this;exact r.inj r'
theorem Inv.tuple_inj(I:Inv X pins σ H s)(h:SqT X.K H a xs)(h':SqT X.K H a ys):xs=ys:=by
 obtain⟨its,r,⟨o,e,_,n,d⟩,_⟩:=I.tuple h;obtain⟨its',r',⟨o',e',_,n',d'⟩,_⟩:=I.tuple h';rw[e]at e';cases e';rw[d]at d';injection d' with d1 _;have:its=its':=by simpa using congrArg Array.toList d1
 subst this;exact r.inj r'
end
abbrev Cx.wish(X:Cx)(E:Value->Shared->Prop):Cx:={ X with xe:=E }
abbrev Cx.nox(X:Cx):Cx:=X.wish λ_ _=>False
theorem Cx.Ok.wish{X:Cx}(ok:X.Ok)(E:Value->Shared->Prop):(X.wish E).Ok :=
 ⟨ok.mod,ok.kind,ok.glob,ok.blt,ok.above,ok.inj,ok.has,ok.cab,ok.hd,ok.frames,ok.stk,ok.exf,ok.bs,ok.bsz,ok.noex,ok.exfs,ok.funs,ok.frf⟩
theorem Cx.Ok.unwish{X:Cx}{E:Value->Shared->Prop}(ok:(X.wish E).Ok):X.Ok :=
 ⟨ok.mod,ok.kind,ok.glob,ok.blt,ok.above,ok.inj,ok.has,ok.cab,ok.hd,ok.frames,ok.stk,ok.exf,ok.bs,ok.bsz,ok.noex,ok.exfs,ok.funs,ok.frf⟩
variable{E:Value->Shared->Prop}
theorem Inv.wish(I:Inv X pins σ H s)(E:Value->Shared->Prop):Inv (X.wish E) pins σ H s:=⟨I.ok.wish E,I.os,I.bare,I.base,I.loc,I.cell,I.free,I.freeC,I.pin,I.hok,I.len⟩
theorem Inv.unwish(I:Inv (X.wish E) pins σ H s):Inv X pins σ H s:=⟨I.ok.unwish,I.os,I.bare,I.base,I.loc,I.cell,I.free,I.freeC,I.pin,I.hok,I.len⟩
theorem SP.unwish{D:Ends}{f:Flow}{s':Shared}(h:SP (X.wish E) pins D f s'):SP X pins D f s':=by
 cases f with
 |next=>obtain⟨σ',H',I,q⟩:=h;exact⟨σ',H',I.unwish,q⟩
 |brk=>obtain⟨σ',H',I,q⟩:=h;exact⟨σ',H',I.unwish,q⟩
 |cont=>obtain⟨σ',H',I,q⟩:=h;exact⟨σ',H',I.unwish,q⟩
 |ret u=>obtain⟨v,σ',H',I,r,q⟩:=h;exact⟨v,σ',H',I.unwish,r,q⟩
theorem PE.nox{e:Expr}{t:TE}(h:PE X.nox e t):PE X e t:=λpins s σ H Q I hw =>
 wpAny_mono (h pins s σ H Q (I.wish _) hw) (λ_ _ ⟨v,H',I',r,q⟩=>⟨v,H',I'.unwish,r,q⟩) λ_ _ z=>False.elim z
theorem PSs.nox{st:List Stmt}{t:TS}(h:PSs X.nox st t):PSs X st t:=λpins s σ H D I hw =>
 wpAny_mono (h pins s σ H D (I.wish _) hw) (λ_ _ q=>q.unwish) λ_ _ z=>False.elim z
variable{e:Expr}{te:TE}
section
variable{st:Stmt}{rest:List Stmt}{t u:TS}
def xr:TS:=λD σ H=>D.nx σ H
def yV(t u:TS):TS:=λD σ H=>t { D with nx:=u D } σ H
theorem aE:PSs X [] xr:=λ_ _ σ H _ I h=>wpAny_execs_nil ⟨σ,H,I,h⟩
theorem aj(h1:PS X st t)(h2:PSs X rest u):PSs X (st :: rest) (yV t u):=by
 intro pins s σ H D I h;refine wpAny_execs_cons (thn (h1 pins s σ H { D with nx:=u D } I h) λf s1 q=>?_);cases f with
 |next =>
  obtain⟨σ',H',I',q⟩:=q;exact h2 pins s1 σ' H' D I' q
 |ret v=>exact q
 |brk=>exact q
 |cont=>exact q
theorem ah(h1:PS X st t):PSs X [st] t:=by
 intro pins s σ H D I h;refine wpAny_execs_cons (thn (h1 pins s σ H D I h) λf s1 q=>?_);cases f with
 |next=>exact wpAny_execs_nil q
 |ret v=>exact q
 |brk=>exact q
 |cont=>exact q
theorem Inv.quiet{pins:List (Addr×Obj)}{σ:St}{H:Hp}{s:Shared}(I:Inv X pins σ H s):interactive X.env=false:=by simp[interactive,I.ok.kind]
def xt(te:TE):TS:=λD σ H=>te σ H λ_ H1=>D.nx σ H1
theorem bg(he:PE X e te)(hs:swapsWith e none pos.line X.env=pure false:=by rfl):PS X (.Expr e pos) (xt te):=by
 intro pins s σ H D I h;exact wpAny_Expr_any (thn (he pins s σ H _ I h) λv s1 ⟨x,H1,I1,r1,q1⟩=>⟨σ,H1,I1,q1⟩) I.quiet hs
def yW(te:TE):TS:=λD σ H=>te σ H D.rt
theorem av(he:PE X e te):PS X (.Return (some e) pos) (yW te):=by
 intro pins s σ H D I h;exact wpAny_Return_some (thn (he pins s σ H _ I h) λv s1 ⟨x,H1,I1,r1,q1⟩=>⟨x,σ,H1,I1,r1,q1⟩)
def yX(c:TT)(t u:TS):TS:=λD σ H=>c σ H λb H1=>if b=true then t D σ H1 else u D σ H1
theorem aM{c:Expr}{a b:List Stmt}{tc:TT}(hc:PT X c tc)(ha:PSs X a t)(hb:PSs X b u):PS X (.If c a b pos) (yX tc t u):=by
 intro pins s σ H D I h;refine wpAny_If (thn (hc pins s σ H _ I h) λd s1 ⟨H1,I1,q1⟩=>?_);cases d with
 |true=>exact ha pins s1 σ H1 D I1 q1
 |false=>exact hb pins s1 σ H1 D I1 q1
def vJ:TS:=λ_ _ _=>False
theorem bV:PS X st vJ:=λ_ _ _ _ _ _ h=>h.elim
end
abbrev TG:=V->St->Hp->(St->Hp->Prop)->Prop
abbrev TGs:=List V->St->Hp->(St->Hp->Prop)->Prop
def PG(X:Cx)(target:Expr)(t:TG):Prop :=
 ∀(pins:List (Addr×Obj))(s:Shared)(σ:St)(H:Hp)(v:V)(u:Value)(Q:St->Hp->Prop),Inv X pins σ H s->RelV v u->t v σ H Q ->
  wpAny (model X.prog X.w) X.A (assign target X.env u) (λ_ s'=>∃σ' H',Inv X pins σ' H' s'/\Q σ' H') X.xe s
def PGs(X:Cx)(ts:List Expr)(t:TGs):Prop :=
 ∀(pins:List (Addr×Obj))(s:Shared)(σ:St)(H:Hp)(vs:List V)(us:List Value)(Q:St->Hp->Prop),Inv X pins σ H s->Vals vs us->t vs σ H Q ->
  wpAny (model X.prog X.w) X.A (assignInOrder ((assignEach ts X.env).map (·.2)) us) (λ_ s'=>∃σ' H',Inv X pins σ' H' s'/\Q σ' H') X.xe s
abbrev vK:=V->V->V->Hp->(Hp->Prop)->Prop
def xu(X:Cx)(t:vK):Prop :=
 ∀(pins:List (Addr×Obj))(s:Shared)(σ:St)(H:Hp)(o i v:V)(ov iv u:Value)(Q:Hp->Prop),Inv X pins σ H s->RelV o ov->RelV i iv->RelV v u->t o i v H Q ->
  wpAny (model X.prog X.w) X.A (setItem ov iv u) (λ_ s'=>∃H',Inv X pins σ H' s'/\Q H') X.xe s
abbrev TIp:=V->V->Hp->VK->Prop
def PIp(X:Cx)(op:Operator)(t:TIp):Prop :=
 ∀(pins:List (Addr×Obj))(s:Shared)(σ:St)(H:Hp)(x y:V)(v u:Value)(Q:VK),Inv X pins σ H s->RelV x v->RelV y u->t x y H Q ->
  wpAny (model X.prog X.w) X.A (inplaceOp op v u) (EP X pins σ Q) X.xe s
def ma(i:Nat):TG:=λv σ H Q=>Q (σ.set i (some v)) H
theorem ay{i:Nat}{x:Str}(hN:X.N.Nodup)(hi:X.N[i]?=some x)(hx:Loc X.env.scope x)(hf:X.fn x=true\/X.env.scope.names.lookup x=some .local:=by first|exact .inl U|exact .inr U|assumption):PG X (.Name x pos) (ma i):=by
 intro pins s σ H v u Q I r h;exact wpAny_assign_Name (kn I hN hi hx r (λs' I'=>⟨_,H,I',h⟩) hf)
def yY:TGs:=λvs σ H Q=>vs=[]/\Q σ H
def xv(t:TG)(u:TGs):TGs:=λvs σ H Q=>∃v r,vs=v :: r/\t v σ H λσ' H'=>u r σ' H' Q
theorem aZ:PGs X [] yY:=by
 intro pins s σ H vs us Q I r h;obtain⟨e,h⟩:=h;subst e;cases r;exact assignInOrder_nil ⟨σ,H,I,h⟩
theorem aC{e:Expr}{es:List Expr}{t:TG}{u:TGs}(h1:PG X e t)(h2:PGs X es u)
  (hs:(assignEach (e :: es) X.env).map (·.2)=assign e X.env :: (assignEach es X.env).map (·.2):=by rfl):PGs X (e :: es) (xv t u):=by
 intro pins s σ H vs us Q I r h;obtain⟨v,vr,e1,h⟩:=h;subst e1;cases r with
 |cons r rr =>
  rw[hs];refine assignInOrder_cons (thn (h1 pins s σ H _ _ _ I r h) λ_ s1 ⟨σ1,H1,I1,q1⟩=>?_);exact h2 pins s1 σ1 H1 _ _ Q I1 rr q1
def xw(K:W.Frag)(n:Nat)(t:TGs):TG:=λv σ H Q=>∃a xs,v=.ref a/\SqT K H a xs/\xs.length=n/\t xs σ H Q
theorem cG{es:List Expr}{k:Nat}{t:TGs}{n:Nat}(hc:X.calm=true)(h:PGs X es t)
  (hn:(assignEach es X.env).length=n:=by rfl)(hst:(assignEach es X.env).findIdx? (·.1)=none:=by rfl):PG X (.Tuple es k pos) (xw X.K n t):=by
 intro pins s σ H v u Q I r hw;obtain⟨a,xs,e1,hq,hl,hw⟩:=hw;subst e1;cases r;obtain⟨its,rv,ht,hz⟩:=I.tuple hq;refine assign_Tuple_tuple (I.ok.hd hc) ht (by simp[hn,←hl,rv.length]) hst λh' hx=>?_
 have I1:Inv X pins σ H { s with heap:=h' }:=I.kept (t':=s.toks) λb o e=>hx b o (ne_of_lt (Heap.lt_size e)) e
 exact h pins _ σ H xs _ Q I1 (by simpa using rv) hw
def yZ(to ti:TE)(t:vK):TG:=λv σ H Q=>to σ H λo H1=>ti σ H1 λi H2=>t o i v H2 λH3=>Q σ H3
theorem pI{o i:Expr}{to ti:TE}{t:vK}(ho:PE X o to)(hi:PE X i ti)(hs:xu X t)
  (ha:∀v,assign (.Subscript o i pos) X.env v=(do
   let ov ←holding [v] (eval o X.env)
   let iv ←holding [v,ov] (eval i X.env)
   standAt pos
   holding [v,ov,iv] (setItem ov iv v)
   release [v,ov,iv] []):=by intro _;rfl):PG X (.Subscript o i pos) (yZ to ti t):=by
 intro pins s σ H v u Q I r h;rw[ha];refine wpAny_bind (wpAny_holding (thn (ho pins s σ H _ I h) λov s1 ⟨x,H1,I1,r1,q1⟩=>?_));refine wpAny_bind (wpAny_holding (thn (hi pins s1 σ H1 _ I1 q1) λiv s2 ⟨y,H2,I2,r2,q2⟩=>?_));refine wpAny_bind (wpAny_standAt (wpAny_bind (wpAny_holding (thn (hs pins s2 σ H2 x y v ov iv u _ I2 r1 r2 r q2) λ_ s3 ⟨H3,I3,q3⟩=>?_))));exact wpAny_release ⟨σ,H3,I3,q3⟩
def ue(te:TE)(g:TG):TS:=λD σ H=>te σ H λx H1=>g x σ H1 D.nx
theorem pJ{tg e:Expr}{te:TE}{g:TG}(he:PE X e te)(hg:PG X tg g)(hs:swapsWithSole [tg] e pos.line X.env=pure false:=by rfl)(hw:swappedStores [tg] e X.env=pure none:=by rfl)
  (h1:(assignEach [tg] X.env).map (·.2)=[assign tg X.env]:=by rfl):PS X (.Assign [tg] e pos) (ue te g):=by
 intro pins s σ H D I h;refine wpAny_Assign_stores (thn (he pins s σ H _ I h) λv s1 ⟨x,H1,I1,r1,q1⟩=>?_) hs hw;rw[h1];exact thn (hg pins s1 σ H1 x v _ I1 r1 q1) λ_ s2 q=>q
theorem aF{i:Nat}{x:Str}{e:Expr}{te:TE}{pos':Pos}(hN:X.N.Nodup)(hi:X.N[i]?=some x)(hx:Loc X.env.scope x)(he:PE X e te)(hs:swapsWith e (some (.Name x pos')) pos.line X.env=pure false:=by rfl)(hf:X.fn x=true\/X.env.scope.names.lookup x=some .local:=by first|exact .inl U|exact .inr U|assumption) :
  PS X (.Assign [.Name x pos'] e pos) (ue te (ma i)):=by
 intro pins s σ H D I h;refine wpAny_Assign_Name (thn (he pins s σ H _ I h) λv s1 ⟨y,H1,I1,r1,q1⟩=>?_) hs;exact kn I1 hN hi hx r1 (λs2 I2=>⟨_,H1,I2,q1⟩) hf
inductive xx(i:Nat)(te:TE)(ti:TIp)(D:Ends)(σ:St)(H:Hp):Prop
 |mk (x:_)(_:σ[i]?=some (some x))(_:te σ H λy H1=>ti x y H1 λz H2=>D.nx (σ.set i (some z)) H2):xx i te ti D σ H
theorem se{i:Nat}{x:Str}{e:Expr}{te:TE}{op:Operator}{ti:TIp}{pos':Pos}(hN:X.N.Nodup)(hi:X.N[i]?=some x)(hx:Loc X.env.scope x)(he:PE X e te)(ho:PIp X op ti)(hf:X.fn x=true\/X.env.scope.names.lookup x=some .local:=by first|exact .inl U|exact .inr U|assumption) :
  PS X (.AugAssign (.Name x pos') op e pos) (xx i te ti):=by
 intro pins s σ H D I h;obtain⟨v,e1,h⟩:=h;obtain⟨m,hn,hl⟩:=I.loc;have vis:Vis X.env.scope x:=by rcases hx with k|k;exact .inl k;exact .inr (.inl k)
 obtain⟨u,r,l⟩:=hl i x v hi e1 vis;refine wpAny_AugAssign_Name ?_;have go:wpAny (model X.prog X.w) X.A (eval e X.env) (λw s₂=>wpAny (model X.prog X.w) X.A (inplaceOp op u w) (λr s₃=>wpAny (model X.prog X.w) X.A (storeName X.env x r) (λ_=>SP X pins D .next) X.xe s₃) X.xe s₂) X.xe s:=by
  refine thn (he pins s σ H _ I h) λw s1 ⟨y,H1,I1,r1,q1⟩=>?_
  refine thn (ho pins s1 σ H1 v y u w _ I1 r r1 q1) λz s2 ⟨zv,H2,I2,r2,q2⟩=>?_
  exact kn I2 hN hi hx r2 (λs3 I3=>⟨_,H2,I3,q2⟩) hf
 rcases l with⟨hk,hm⟩|⟨hk,c,hc,c9⟩
 ·exact wpAny_loadName_local I.ok.kind hk hn hm go
 ·rcases hk with hk|hk
  ·exact wpAny_loadName_cell I.ok.kind hk hc c9 go
  ·rcases hx with k|k
   ·have:X.env.scope.names.lookup x=some .free:=hk;rw[k]at this;cases this
   ·have:X.env.scope.names.lookup x=some .free:=hk;rw[k]at this;cases this
def ipI(f:Int->Int->Int):TIp:=λx y H Q=>∃i j,x=.int i/\y=.int j/\Q (.int (f i j)) H
theorem sf:PIp X .Add (ipI λi j=>i+j):=by
 intro pins s σ H x y v u Q I r1 r2 h;obtain⟨i,j,e1,e2,q⟩:=h;subst e1;subst e2;obtain⟨t,rfl⟩:=r1;obtain⟨t',rfl⟩:=r2;exact iadd_int ⟨.int _,H,I.tok _,⟨_,U⟩,q⟩
def vL(c:TT)(tb:TS):TS:=λD σ H=>∃W:Nat->St->Hp->Prop,(∃m,W m σ H)/\∀m σ H,W m σ H ->
 c σ H λb H1=>if b=true then ∃N:St->Hp->Prop,(∀σ' H',N σ' H'->∃m',m'<m/\W m' σ' H')/\tb { D with nx:=N,ct:=N,bk:=D.nx } σ H1 else D.nx σ H1
theorem si{c:Expr}{body:List Stmt}{tc:TT}{tb:TS}(hp:PassesOwn (model X.prog X.w) X.A X.env X.xe)(hc:PT X c tc)(hb:PSs X body tb):PS X (.While c body [] pos) (vL tc tb):=by
 intro pins s σ H D I h;obtain⟨W,⟨m0,w0⟩,turn⟩:=h;refine wpAny_While (codeAny_whileLoop (λn s'=>∃σ' H',Inv X pins σ' H' s'/\W n σ' H') ?_ m0 ⟨σ,H,I,w0⟩);rintro n s1 ⟨σ1,H1,I1,w1⟩;refine wpAny_passesOwn hp (thn (hc pins s1 σ1 H1 _ I1 (turn n σ1 H1 w1)) λb s2 ⟨H2,I2,q2⟩=>?_);cases b with
 |true =>
  obtain⟨N,hN,q2⟩:=q2;rw[if_pos U];refine wpAny_passesOwn hp (thn (hb pins s2 σ1 H2 _ I2 q2) λf s3 q3=>?_);cases f with
  |next =>
   obtain⟨σ3,H3,I3,n3⟩:=q3;obtain⟨m',hm,w3⟩:=hN σ3 H3 n3;exact⟨m',hm,σ3,H3,I3,w3⟩
  |cont =>
   obtain⟨σ3,H3,I3,n3⟩:=q3;obtain⟨m',hm,w3⟩:=hN σ3 H3 n3;exact⟨m',hm,σ3,H3,I3,w3⟩
  |brk=>exact q3
  |ret v=>exact q3
 |false =>
  rw[if_neg Bool.false_ne_true];exact wpAny_execs_nil ⟨σ1,H2,I2,q2⟩
structure It where
 go:Nat->Hp->Prop
 yld:Nat->Hp->V->Hp->Prop
 stop:Nat->Hp->Prop
def jq(X:Cx)(pins:List (Addr×Obj))(H:Hp)(b:Addr):Prop :=
 H b=none/\b≠X.env.locals/\b ∉ X.fs/\(b∈X.ex\/X.s₀.heap.objs.size<=b)/\(∀x c,X.env.cells.lookup x=some c->c≠b)/\∀p∈X.pn++pins,p.1≠b
theorem Inv.fpOk{X:Cx}{pins:List (Addr×Obj)}{σ:St}{H H':Hp}{s:Shared}{b:Addr}(I:Inv X pins σ H s)(hb:s.heap.objs.size<=b)(hn:H' b=none):jq X pins H' b:=by
 refine⟨hn,ne_of_gt (lt_of_lt_of_le I.lt hb),I.nofs hb,.inr (le_trans I.sz hb),λx c e z=>?_,λp hp z=>?_⟩
 ·obtain⟨v,q⟩:=I.cell x c e;exact absurd (lt_of_lt_of_le q.lt (by rw[z];exact hb)) (lt_irrefl _)
 ·exact absurd (lt_of_lt_of_le (Heap.lt_size (I.pin p hp).1) (by rw[z];exact hb)) (lt_irrefl _)
structure Turn(P:Program)(w:World)(K:W.Frag)(tg:Expr)(J:It)(fp:List Addr)(it:Addr)(tn:Nat->Heap->Prop):Prop where
 mem:it∈fp
 obj:∀i h,tn i h->∀b∈fp,∃o,h.get? b=some o/\∀v,o.data≠.cell v
 keep:∀i h h',tn i h->(∀b∈fp,∀o,h.get? b=some o->h'.get? b=some o)->tn i h'
 item:∀(X:Cx),X.prog=P->X.w=w->X.K=K->X.calm=true->∀(i:Nat)(pins:List (Addr×Obj))(s:Shared)(σ:St)(H:Hp)(E:Value->Shared->Prop),Inv X pins σ H s->(∀b∈fp,jq X pins H b)->tn i s.heap->J.go i H ->
  wpAny (model P w) X.A (pyNext (.ref it)) (λr s1=>∃u,r=some u /\
   wpAny (model P w) X.A (letOwnedTupleGo tg (.ref it) u) (λ_ s2=>∃x H',Inv X pins σ H' s2/\RelV x u/\J.yld i H x H'/\tn (i+1) s2.heap/\∀b∈fp,H' b=none) E s1) E s
 done:∀(X:Cx),X.prog=P->X.w=w->X.K=K->X.calm=true->∀(i:Nat)(pins:List (Addr×Obj))(s:Shared)(σ:St)(H:Hp)(E:Value->Shared->Prop),Inv X pins σ H s->(∀b∈fp,jq X pins H b)->tn i s.heap->J.stop i H ->
  wpAny (model P w) X.A (pyNext (.ref it)) (λr s1=>r=none/\Inv X pins σ H s1) E s
 self:∀(A:Around)(i:Nat)(s:Shared)(Q:Value->Shared->Prop)(E:Value->Shared->Prop),tn i s.heap->Q (.ref it) s->wpAny (model P w) A (pyIter (.ref it)) Q E s
abbrev TI:=St->Hp->(It->Hp->Prop)->Prop
def PIE(X:Cx)(pins:List (Addr×Obj))(σ:St)(tg:Expr)(R:It->Hp->Prop)(itv:Value)(s2:Shared):Prop :=
 ∃(it:Addr)(fp:List Addr)(tn:Nat->Heap->Prop)(J:It)(H':Hp),itv=.ref it/\Inv X pins σ H' s2/\Turn X.prog X.w X.K tg J fp it tn/\tn 0 s2.heap/\(∀b∈fp,jq X pins H' b)/\R J H'
def PI(X:Cx)(tg iter:Expr)(wi:TI):Prop :=
 ∀(pins:List (Addr×Obj))(s:Shared)(σ:St)(H:Hp)(R:It->Hp->Prop),Inv X pins σ H s->wi σ H R ->
  wpAny (model X.prog X.w) X.A (eval iter X.env) (λv s1=>wpAny (model X.prog X.w) X.A (pyIter v) (PIE X pins σ tg R) X.xe s1) X.xe s
theorem qv{M:Model}{A:Around}{E:Value->Shared->Prop}{s:Shared}{tg:Expr}{it:Addr}{u:Value}{o:Obj}{n:String}{vs:Array Value}{Q:Unit->Shared->Prop}(ho:s.heap.get? it=some o)(hc:o.cls=.type n)(hd:o.data=.fields vs)
  (hn:["enumerate","zip","dict_itemiterator","dict_reverseitemiterator","odict_iterator","itertools.zip_longest","itertools.pairwise"].contains n=false) (hQ:Q () s):wpAny M A (letOwnedTupleGo tg (.ref it) u) Q E s:=by
 unfold letOwnedTupleGo
 cases tg <;> first
  |exact wpAny_pure hQ
  |(cases u <;> first
    |exact wpAny_pure hQ
    |(refine wpAny_bind (wpAny_load ho ?_);rw[hc,hd];show wpAny M A (if (["enumerate","zip","dict_itemiterator","dict_reverseitemiterator","odict_iterator","itertools.zip_longest","itertools.pairwise"].contains n && vs[0]? == some (rawInt _))=true then _ else _) Q E s;rw[if_neg (by intro h;rw[hn,Bool.false_and]at h;cases h)];exact wpAny_pure hQ))
def Itl(K:W.Frag)(a:Addr):It :=
 ⟨λi H=>∃xs x,SqL K H a xs/\xs[i]?=some x,λi H x H'=>H'=H/\∀xs,SqL K H a xs->xs[i]?=some x,λi H=>∃xs,SqL K H a xs/\xs.length<=i⟩
def Itr(lo:Int)(n:Nat):It:=⟨λi _=>i<n,λi H x H'=>H'=H/\x=.int (lo+i),λi _=>n<=i⟩
theorem qV{P:Program}{w:World}{K:W.Frag}{tg:Expr}(a it:Addr):Turn P w K tg (Itl K a) [it] it (λi h=>h.IsListIter it a i) where
 mem:=by simp
 obj:=λi h st b hb=>by
  have e:b=it:=by simpa using hb
  subst e;obtain⟨o,e,c,d⟩:=st;exact⟨o,e,λv z=>by rw[d]at z;cases z⟩
 keep:=λi h h' st k=>st.at λo e=>k it (by simp) o e
 item:=by
  intro X hP hw hK hc i pins s σ H E I hf st hg;subst hP hw hK;obtain⟨xs,x,hq,hx⟩:=hg;obtain⟨its,rv,p,hz⟩:=I.list hq;obtain⟨u,hu,ru⟩:=rv.get hx;obtain⟨f0,f1,f2,f3,f4,f5⟩:=hf it (by simp);refine wpAny_pyNext_list_item st p.isList (x:=u) (by simpa using hu) λh' st' sb=>?_
  have I1:Inv X pins σ H { s with heap:=h' }:=I.turned (t':=s.toks) (λb o hb e=>(sb.2 b hb).trans e) f0 f1 f3 f4 f5;obtain⟨o,e,c,d⟩:=id st';exact⟨u,U,qv (s:={ s with heap:=h' }) e c d (by decide) ⟨x,H,I1,ru,⟨U,λys hy=>by rw[I.list_inj hy hq];exact hx⟩,st',λb hb=>(hf b hb).1⟩⟩
 done:=by
  intro X hP hw hK hc i pins s σ H E I hf st hg;subst hP hw hK;obtain⟨xs,hq,hx⟩:=hg;obtain⟨its,rv,p,hz⟩:=I.list hq;obtain⟨f0,f1,f2,f3,f4,f5⟩:=hf it (by simp);have hl:=rv.length;exact wpAny_pyNext_list_end (I.ok.hd hc) st p.isList (by simp;lia) λh' eb=>⟨U,I.turned (t':=s.toks) (λb o hb e=>eb b o hb e) f0 f1 f3 f4 f5⟩
 self:=λ_ _ _ _ _ st h=>wpAny_pyIter_listiter st h
theorem pK{P:Program}{w:World}{K:W.Frag}{tg:Expr}(it:Addr)(lo:Int)(n:Nat):Turn P w K tg (Itr lo n) [it] it (λi h=>IsRangeIter h it (lo+(i:Nat)*1) ((n:Int)-(i:Nat)) 1) where
 mem:=by simp
 obj:=λi h st b hb=>by
  have e:b=it:=by simpa using hb
  subst e;exact⟨_,st,λv z=>by
   have z':Data.fields _=Data.cell v:=z;cases z'⟩
 keep:=λi h h' st k=>k it (by simp) _ st
 item:=by
  intro X hP hw hK hc i pins s σ H E I hf st hg;subst hP hw hK;obtain⟨f0,f1,f2,f3,f4,f5⟩:=hf it (by simp);have W:=Walks.range (prog:=X.prog) (w:=X.w) (I.ok.hd hc) it lo 1 n;refine W.item i s _ _ hg st λv h' tk hv st' kk=>?_
  obtain⟨t,rfl⟩:=hv;have I1:Inv X pins σ H { s with heap:=h',toks:=tk }:=I.turned (λb o hb e=>kk b o (by simpa using hb) e) f0 f1 f3 f4 f5;refine⟨_,U,qv (s:={ s with heap:=h',toks:=tk }) (n := "range_iterator") st' U U (by decide) ⟨.int (lo+i),H,I1,⟨t,?_⟩,⟨U,U⟩,st',λb hb=>(hf b hb).1⟩⟩;rw[Int.mul_one]
 done:=by
  intro X hP hw hK hc i pins s σ H E I hf st hg;subst hP hw hK;obtain⟨f0,f1,f2,f3,f4,f5⟩:=hf it (by simp);exact wpAny_pyNext_range_end (I.ok.hd hc) st (by have:n<=i:=hg;lia) λh' eb=>⟨U,I.turned (t':=s.toks) (λb o hb e=>eb b o hb e) f0 f1 f3 f4 f5⟩
 self:=λ_ _ _ _ _ st h=>wpAny_pyIter_rangeiter st h
section
variable{tg:Expr}
inductive sj(K:W.Frag)(R:It->Hp->Prop)(x:V)(H1:Hp):Prop
 |mk (a:_)(_:x=.ref a)(_:(∃xs,SqL K H1 a xs))(_:R (Itl K a) H1):sj K R x H1
def xy(K:W.Frag)(tl:TE):TI:=λσ H R=>tl σ H λx H1=>sj K R x H1
theorem bh{l:Expr}{tl:TE}(hl:PE X l tl):PI X tg l (xy X.K tl):=by
 intro pins s σ H R I h;refine thn (hl pins s σ H _ I h) λv s1 ⟨x,H1,I1,r1,q1⟩=>?_
 obtain⟨a,e,⟨xs,hq⟩,q⟩:=q1;subst e;cases r1;obtain⟨its,rv,p,hz⟩:=I1.list hq;refine wpAny_pyIter_list p.isList ?_;refine⟨s1.heap.objs.size,[s1.heap.objs.size],_,_,H1,U,I1.kept (t':=s1.toks) λb o e=>Heap.get?_push_of_some _ e,qV a _,⟨_,Heap.get?_push_size _ U,U,U⟩,λb hb=>?_,q⟩;have e:b=s1.heap.objs.size:=by simpa using hb
 subst e;exact I1.fpOk (le_refl _) (I1.hok.fresh (le_refl _))
theorem sk{pins:List (Addr×Obj)}{σ:St}{H:Hp}{s:Shared}{R:It->Hp->Prop}{E:Value->Shared->Prop}{lo hi:Int}{t u v:Tok}{tk:Nat}(I:Inv X pins σ H s)(h1 : -(2^62)<=lo)(h2:lo<2^62)(h3 : -(2^62)<=hi)(h4:hi<2^62)
  (q:R (Itr lo (hi-lo).toNat) H):wpAny (model X.prog X.w) X.A (pyIter (.ref s.heap.objs.size)) (PIE X pins σ tg R) E { s with heap:=s.heap.push { cls:=.type "range",data:=.fields #[.int lo t,.int hi u,.int 1 v] },toks:=tk }:=by
 refine wpAny_pyIter_range (IsRange.new ..) (small_one h1 h2 h3 h4) ?_;have I1:Inv X pins σ H { s with heap:=s.heap.push { cls:=.type "range",data:=.fields #[.int lo t,.int hi u,.int 1 v] },toks:=tk }:=I.kept λb o e=>Heap.get?_push_of_some _ e
 refine⟨(s.heap.push { cls:=.type "range",data:=.fields #[.int lo t,.int hi u,.int 1 v] }).objs.size,[(s.heap.push { cls:=.type "range",data:=.fields #[.int lo t,.int hi u,.int 1 v] }).objs.size],_,_,H,U,
  I1.kept (t':=tk) λb o e=>Heap.get?_push_of_some _ e,pK _ lo (hi-lo).toNat,?_,λb hb=>?_,q⟩
 ·have e1:lo+((0:Nat):Int)*1=lo:=by simp
  have e2:(((hi-lo).toNat:Nat):Int)-((0:Nat):Int)=Builtin.Range.rangeSize lo hi 1:=by rw[rangeSize_one];split <;> lia
  show IsRangeIter _ _ (lo+((0:Nat):Int)*1) ((((hi-lo).toNat:Nat):Int)-((0:Nat):Int)) 1;rw[e1,e2];exact Heap.get?_push_size _ U
 ·have e:b=(s.heap.push { cls:=.type "range",data:=.fields #[.int lo t,.int hi u,.int 1 v] }).objs.size:=by simpa using hb
  subst e;exact I1.fpOk (le_refl _) (I1.hok.fresh (le_refl _))
inductive sr  (R:It->Hp->Prop)(vs:List V)(H1:Hp):Prop
 |mk (j:Int)(_:vs=[.int j])(_ : -(2^62)<=j)(_:j<2^62)(_:R (Itr 0 j.toNat) H1):sr R vs H1
def xA(ta:TA):TI:=λσ H R=>ta σ H λvs H1=>sr R vs H1
theorem dP{a:Expr}{ta:TA}{p pos:Pos}(hg:Gl X "range") (hm:X.mg "range" = none) (ha:PA X [a] ta)(hs:starEach [a] X.env=[(false,eval a X.env)]:=by rfl):PI X tg (.Call (.Name "range" p) [a] [] pos) (xA ta):=by
 intro pins s σ H R I h;refine Call_ (jo I hg hm boot_range (PyProof.Rows.callWith_type1 (thn (ha pos pins s σ H _ I h) λus s1 ⟨vs,H1,I1,r1,q1⟩=>?_) hs U));obtain⟨j,e,q1,q2,q⟩:=q1;subst e;cases r1 with
 |cons r rr =>
  cases rr;obtain⟨t,rfl⟩:=r;exact call_range_1 (sk I1 (by lia) (by lia) q1 q2 (by simpa using q))
def y6(wi:TI)(g:TG)(tb:TS):TS:=λD σ H=>wi σ H λJ H1=>∃W:Nat->Nat->St->Hp->Prop,(∃m,W 0 m σ H1)/\∀i m σ H,W i m σ H ->
 (J.stop i H/\D.nx σ H)\/(J.go i H/\∃N:St->Hp->Prop,(∀σ' H',N σ' H'->∃m',m'<m/\W (i+1) m' σ' H')/\∀x H',J.yld i H x H'->g x σ H' λσ2 H2=>tb { D with nx:=N,ct:=N,bk:=D.nx } σ2 H2)
def jr(fp:List Addr)(h:Heap):List (Addr×Obj):=fp.filterMap λb=>(h.get? b).map λo=>(b,o)
theorem de{fp:List Addr}{h:Heap}{b:Addr}{o:Obj}(hb:b∈fp)(e:h.get? b=some o):(b,o)∈jr fp h:=List.mem_filterMap.mpr ⟨b,hb,by rw[e];rfl⟩
theorem qW{fp:List Addr}{h:Heap}{p:Addr×Obj}(hp:p∈jr fp h):p.1∈fp/\h.get? p.1=some p.2:=by
 obtain⟨b,hb,e⟩:=List.mem_filterMap.mp hp;cases q:h.get? b with
 |none=>rw[q]at e;cases e
 |some o =>
  rw[q]at e;have e':(b,o)=p:=Option.some.inj e;subst e';exact⟨hb,q⟩
theorem Inv.pinned{pins:List (Addr×Obj)}{σ:St}{H:Hp}{s:Shared}{fp:List Addr}(I:Inv X pins σ H s)(hf:∀b∈fp,jq X pins H b)(ho:∀b∈fp,∃o,s.heap.get? b=some o/\∀v,o.data≠.cell v):Inv X (pins++jr fp s.heap) σ H s :=
 I.pins_of λp hp=>(mem_append.mp hp).elim (λz=>I.pin p (mem_append_right _ z)) λz=>by
  obtain⟨hb,e⟩:=qW z;obtain⟨f0,f1,f2,_⟩:=hf p.1 hb;obtain⟨o,e',d⟩:=ho p.1 hb;rw[e]at e';cases e';exact⟨e,f0,f1,f2,d⟩
theorem Inv.unpinned{pins pl:List (Addr×Obj)}{σ:St}{H:Hp}{s:Shared}(I:Inv X (pins++pl) σ H s):Inv X pins σ H s:=I.pins_of λp hp=>I.pin p (mem_append_right _ (mem_append_left _ hp))
theorem bF{iter:Expr}{body:List Stmt}{wi:TI}{g:TG}{tb:TS}{pos:Pos}(hp:PassesOwn (model X.prog X.w) X.A X.env X.xe)(hc:X.calm=true)(hi:PI X tg iter wi)(hg:PG X tg g)(hb:PSs X body tb)
  (hs:∀x,foldedSetIterable iter X.env x=pure x:=by intro _;rfl):PS X (.For tg iter body [] pos) (y6 wi g tb):=by
 intro pins s σ H D I h;refine wpAny_For (thn (hi pins s σ H _ I h) λv s1 h1=>thn h1 λitv s2 h2=>?_) hs;obtain⟨it,fp,tn,J,H2,e,I2,T,st2,f2,W,⟨m0,w0⟩,turn⟩:=h2;subst e;have vM:∀{H':Hp},(∀b∈fp,H' b=none)->∀b∈fp,jq X pins H' b:=λhn b hb=>⟨hn b hb,(f2 b hb).2⟩
 refine codeAny_forLoop_any (λn s'=>∃i σ' H',Inv X pins σ' H' s'/\tn i s'.heap/\(∀b∈fp,H' b=none)/\W i n σ' H') ?_ m0 ⟨0,σ,H2,I2,st2,λb hb=>(f2 b hb).1,w0⟩;rintro n s3 ⟨i,σ3,H3,I3,st3,fr3,w3⟩;rcases turn i n σ3 H3 w3 with⟨stop,qn⟩|⟨go,N,hN,step⟩
 ·refine wpAny_passesOwn hp (thn (T.done X U U U hc i pins s3 σ3 H3 X.xe I3 (vM fr3) st3 stop) λr s4 ⟨hr,I4⟩=>?_);subst hr;exact wpAny_execs_nil ⟨σ3,H3,I4,qn⟩
 ·refine wpAny_passesOwn hp (thn (T.item X U U U hc i pins s3 σ3 H3 X.xe I3 (vM fr3) st3 go) λr s4 ⟨u,hr,h4⟩=>?_);subst hr;refine wpAny_passesOwn hp (thn h4 λ_ s5 ⟨x,H5,I5,r5,y5,st5,fr5⟩=>?_);have I5':=I5.pinned (vM fr5) (T.obj _ _ st5);refine wpAny_passesOwn hp (thn (hg _ s5 σ3 H5 x u _ I5' r5 (step x H5 y5)) λ_ s6 ⟨σ6,H6,I6,q6⟩=>?_);refine wpAny_passesOwn hp (thn (hb _ s6 σ6 H6 _ I6 q6) λf s7 q7=>?_);have again:∀{σ7:St}{H7:Hp},Inv X (pins++jr fp s5.heap) σ7 H7 s7->N σ7 H7->∃m,m<n/\∃i σ' H',Inv X pins σ' H' s7/\tn i s7.heap/\(∀b∈fp,H' b=none)/\W i m σ' H':=λ{σ7 H7} I7 n7=>by
   obtain⟨m',hm,w7⟩:=hN σ7 H7 n7;refine⟨m',hm,i+1,σ7,H7,I7.unpinned,T.keep _ _ _ st5 λb hb o e=>(I7.pin (b,o) (mem_append_right _ (mem_append_right _ (de hb e)))).1,λb hb=>?_,w7⟩;obtain⟨o,e,d⟩:=T.obj _ _ st5 b hb;exact(I7.pin (b,o) (mem_append_right _ (mem_append_right _ (de hb e)))).2.1
  cases f with
  |next=>obtain⟨σ7,H7,I7,n7⟩:=q7;exact again I7 n7
  |cont=>obtain⟨σ7,H7,I7,n7⟩:=q7;exact again I7 n7
  |brk=>obtain⟨σ7,H7,I7,q7⟩:=q7;exact⟨σ7,H7,I7.unpinned,q7⟩
  |ret v=>obtain⟨x7,σ7,H7,I7,r7,q7⟩:=q7;exact⟨x7,σ7,H7,I7.unpinned,r7,q7⟩
end
theorem bO{K:W.Frag}{a:Addr}{xs:List V}{g:TG}{tb:TS}{D:Ends}{σ:St}{H:Hp}(Pv:Nat->St->Hp->Prop)(h0:Pv 0 σ H)(hl:∀i σ H,i<=xs.length->Pv i σ H->SqL K H a xs)
  (hs:∀i x σ H,xs[i]?=some x->Pv i σ H->g x σ H λσ2 H2=>tb { D with nx:=Pv (i+1),ct:=Pv (i+1),bk:=D.nx } σ2 H2)(hd:∀σ H,Pv xs.length σ H->D.nx σ H) :
  ∃W:Nat->Nat->St->Hp->Prop,(∃m,W 0 m σ H)/\∀i m σ H,W i m σ H ->
   ((Itl K a).stop i H/\D.nx σ H)\/((Itl K a).go i H/\∃N:St->Hp->Prop,(∀σ' H',N σ' H'->∃m',m'<m/\W (i+1) m' σ' H')/\∀x H',(Itl K a).yld i H x H'->g x σ H' λσ2 H2=>tb { D with nx:=N,ct:=N,bk:=D.nx } σ2 H2):=by
 refine⟨λi m σ H=>m=xs.length-i/\i<=xs.length/\Pv i σ H,⟨xs.length,by simp,zero_le _,h0⟩,?_⟩;rintro i m σ H ⟨rfl,hi,p⟩;have q:=hl i σ H hi p;by_cases hlt:i<xs.length
 ·refine .inr ⟨⟨xs,xs[i],q,by simp[hlt]⟩,Pv (i+1),λσ' H' p'=>⟨xs.length-(i+1),by lia,U,hlt,p'⟩,λx H' y=>?_⟩;obtain⟨e,y⟩:=y;subst e;exact hs i x σ _ (y xs q) p
 ·have e:i=xs.length:=by lia
  subst e;exact .inl ⟨⟨xs,q,le_refl _⟩,hd σ H p⟩
theorem md{lo:Int}{n:Nat}{g:TG}{tb:TS}{D:Ends}{σ:St}{H:Hp}(Pv:Nat->St->Hp->Prop)(h0:Pv 0 σ H)
  (hs:∀i σ H,i<n->Pv i σ H->g (.int (lo+i)) σ H λσ2 H2=>tb { D with nx:=Pv (i+1),ct:=Pv (i+1),bk:=D.nx } σ2 H2)(hd:∀σ H,Pv n σ H->D.nx σ H) :
  ∃W:Nat->Nat->St->Hp->Prop,(∃m,W 0 m σ H)/\∀i m σ H,W i m σ H ->
   ((Itr lo n).stop i H/\D.nx σ H)\/((Itr lo n).go i H/\∃N:St->Hp->Prop,(∀σ' H',N σ' H'->∃m',m'<m/\W (i+1) m' σ' H')/\∀x H',(Itr lo n).yld i H x H'->g x σ H' λσ2 H2=>tb { D with nx:=N,ct:=N,bk:=D.nx } σ2 H2):=by
 refine⟨λi m σ H=>m=n-i/\i<=n/\Pv i σ H,⟨n,by simp,zero_le _,h0⟩,?_⟩;rintro i m σ H ⟨rfl,hi,p⟩;by_cases hlt:i<n
 ·refine .inr ⟨hlt,Pv (i+1),λσ' H' p'=>⟨n-(i+1),by lia,U,hlt,p'⟩,λx H' y=>?_⟩;obtain⟨e,y⟩:=y;subst e y;exact hs i σ _ hlt p
 ·have e:i=n:=by lia
  subst e;exact .inl ⟨le_refl _,hd σ H p⟩
abbrev R2:=V->V->Hp->VK->Prop
def OpR(X:Cx)(f:Value->Value->Sem Value)(r:R2):Prop :=
 ∀(pins:List (Addr×Obj))(s:Shared)(σ:St)(H:Hp)(x y:V)(v u:Value)(Q:VK),Inv X pins σ H s->RelV x v->RelV y u->r x y H Q ->
  wpAny (model X.prog X.w) X.A (f v u) (EP X pins σ Q) X.xe s
def UnR(X:Cx)(f:Value->Sem Value)(r:V->Hp->VK->Prop):Prop :=
 ∀(pins:List (Addr×Obj))(s:Shared)(σ:St)(H:Hp)(x:V)(v:Value)(Q:VK),Inv X pins σ H s->RelV x v->r x H Q ->
  wpAny (model X.prog X.w) X.A (f v) (EP X pins σ Q) X.xe s
def cO(X:Cx)(f:Value)(r:List V->Hp->VK->Prop):Prop :=
 ∀(pins:List (Addr×Obj))(s:Shared)(σ:St)(H:Hp)(xs:List V)(us:List Value)(Q:VK),Inv X pins σ H s->Vals xs us->r xs H Q ->
  wpAny (model X.prog X.w) X.A (call f us) (EP X pins σ Q) X.xe s
def y7(X:Cx)(r:V->Hp->(Bool->Hp->Prop)->Prop):Prop :=
 ∀(pins:List (Addr×Obj))(s:Shared)(σ:St)(H:Hp)(x:V)(v:Value)(Q:Bool->Hp->Prop),Inv X pins σ H s->RelV x v->r x H Q ->
  wpAny (model X.prog X.w) X.A (truthy v) (TP X pins σ Q) X.xe s
def tOp(r:R2)(ta tb:TE):TE:=λσ H Q=>ta σ H λx H1=>tb σ H1 λy H2=>r x y H2 Q
def tUn(r:V->Hp->VK->Prop)(ta:TE):TE:=λσ H Q=>ta σ H λx H1=>r x H1 Q
inductive rI(C:Int->Int->Prop)(g:Int->Int->V)(x:V)(y:V)(H:Hp)(Q:VK):Prop
 |mk (i j:_)(_:x=.int i)(_:y=.int j)(_:C i j)(_:Q (g i j) H):rI C g x y H Q
inductive rI0(g:Int->Int->V)(x:V)(y:V)(H:Hp)(Q:VK):Prop
 |mk (i j:_)(_:x=.int i)(_:y=.int j)(_:Q (g i j) H):rI0 g x y H Q
inductive rU(g:Int->V)(x:V)(H:Hp)(Q:VK):Prop
 |mk (i:_)(_:x=.int i)(_:Q (g i) H):rU g x H Q
section
variable{a b c:Expr}{tc:TE}
theorem vO(ha:PE X a ta)(hb:PE X b tb){pins:List (Addr×Obj)}{s:Shared}{σ:St}{H:Hp}{R:V->V->Hp->Prop}(I:Inv X pins σ H s)
  (h:ta σ H λx H1=>tb σ H1 λy H2=>R x y H2){Q:Value->Shared->Prop}{f:Value->Value->Sem Value}
  (hf:∀v u s2 x y H2,Inv X pins σ H2 s2->RelV x v->RelV y u->R x y H2->wpAny (model X.prog X.w) X.A (f v u) Q X.xe s2) :
  wpAny (model X.prog X.w) X.A (eval a X.env) (λv s₁=>wpAny (model X.prog X.w) X.A (eval b X.env) (λu s₂=>wpAny (model X.prog X.w) X.A (f v u) Q X.xe s₂) X.xe s₁) X.xe s:=by
 refine thn (ha pins s σ H _ I h) λv s1 ⟨x,H1,I1,r1,q1⟩=>?_
 refine thn (hb pins s1 σ H1 _ I1 q1) λu s2 ⟨y,H2,I2,r2,q2⟩=>?_
 exact hf v u s2 x y H2 I2 r1 r2 q2
theorem ak{op:Operator}{r:R2}(ho:OpR X (binaryOp op) r)(ha:PE X a ta)(hb:PE X b tb):PE X (.BinOp a op b pos) (tOp r ta tb):=by
 intro pins s σ H Q I h;exact wpAny_BinOp (vO ha hb I h λv u s2 x y H2 I2 rx ry q=>ho pins s2 σ H2 x y v u Q I2 rx ry q)
theorem fv{op:UnaryOp}{r:V->Hp->VK->Prop}(ho:UnR X (unaryOp op) r)(ha:PE X a ta):PE X (.UnaryOp op a pos) (tUn r ta):=by
 intro pins s σ H Q I h;exact UnaryOp_ (thn (ha pins s σ H _ I h) λv s1 ⟨x,H1,I1,r1,q1⟩=>ho pins s1 σ H1 x v Q I1 r1 q1)
theorem opI{f:Value->Value->Sem Value}{C:Int->Int->Prop}{g:Int->Int->Int}
  (rule:∀(i j:Int)(t u:Tok)(s:Shared)(Q:Value->Shared->Prop)(E:Value->Shared->Prop),C i j->Q (.int (g i j) s.toks) { s with toks:=s.toks+1 }->wpAny (model X.prog X.w) X.A (f (.int i t) (.int j u)) Q E s) :
  OpR X f (rI C λi j=>.int (g i j)):=by
 intro pins s σ H x y v u Q I rx ry h;obtain⟨i,j,rfl,rfl,hc,q⟩:=h;obtain⟨t,rfl⟩:=rx;obtain⟨t',rfl⟩:=ry;exact rule i j t t' s _ _ hc ⟨.int (g i j),H,I.tok _,⟨_,U⟩,q⟩
theorem vP{f:Value->Value->Sem Value}{g:Int->Int->Int}
  (rule:∀(i j:Int)(t u:Tok)(s:Shared)(Q:Value->Shared->Prop)(E:Value->Shared->Prop),Q (.int (g i j) s.toks) { s with toks:=s.toks+1 }->wpAny (model X.prog X.w) X.A (f (.int i t) (.int j u)) Q E s) :
  OpR X f (rI0 λi j=>.int (g i j)):=by
 intro pins s σ H x y v u Q I rx ry h;obtain⟨i,j,rfl,rfl,q⟩:=h;obtain⟨t,rfl⟩:=rx;obtain⟨t',rfl⟩:=ry;exact rule i j t t' s _ _ ⟨.int (g i j),H,I.tok _,⟨_,U⟩,q⟩
theorem vQ{f:Value->Value->Sem Value}{g:Int->Int->Bool}
  (rule:∀(i j:Int)(t u:Tok)(s:Shared)(Q:Value->Shared->Prop)(E:Value->Shared->Prop),Q (.bool (g i j)) s->wpAny (model X.prog X.w) X.A (f (.int i t) (.int j u)) Q E s) :
  OpR X f (rI0 λi j=>.bl (g i j)):=by
 intro pins s σ H x y v u Q I rx ry h;obtain⟨i,j,rfl,rfl,q⟩:=h;obtain⟨t,rfl⟩:=rx;obtain⟨t',rfl⟩:=ry;exact rule i j t t' s _ _ ⟨.bl (g i j),H,I,U,q⟩
def y8(i j:Int):Prop:=0<j/\j<1073741824
def xB(i j:Int):Prop:=0<=j/\j<=1000000/\i.natAbs<2^64
def vR(i j:Int):Prop:=(-(2^64)<i/\i<2^64)\/(-(2^64)<j/\j<2^64)
theorem vR.ok{i j:Int}(h:vR i j):IntMulOk i j:=by
 rcases h with⟨h1,h2⟩|⟨h1,h2⟩
 ·exact .of_left (intBits_le_64 h1 h2)
 ·exact .of_right (intBits_le_64 h1 h2)
theorem pL(k:Nat):(0:Int)<=2^k:=by
 rw[two_pow_cast];exact Int.natCast_nonneg _
theorem bx:OpR X (binaryOp .Add) (rI0 λi j=>.int (i+j)):=vP λ_ _ _ _ _ _ _ q=>add_int q
theorem cP:OpR X (binaryOp .Sub) (rI0 λi j=>.int (i-j)):=vP λ_ _ _ _ _ _ _ q=>sub_int q
theorem mS:OpR X (binaryOp .Mult) (rI vR λi j=>.int (i*j)):=opI λ_ _ _ _ _ _ _ hc q=>mul_int q hc.ok
theorem bj:OpR X (binaryOp .FloorDiv) (rI y8 λi j=>.int (i / j)):=opI λi j _ _ _ _ _ hc q=>by
 have h1:(0:Int)<j:=hc.1;have h2:j<1073741824:=hc.2;exact floordiv_int (by lia) (by rw[Int.fdiv_eq_ediv_of_nonneg i (by lia)];exact q) (.inl (PyProof.noPylong_small (by lia)))
theorem aQ:OpR X (binaryOp .Mod) (rI (λ_ j=>0<j) λi j=>.int (i%j)):=opI λi j _ _ _ _ _ hc q=>by
 have h1:(0:Int)<j:=hc;exact mod_int' (by lia) (by rw[Int.fmod_eq_emod_of_nonneg i (by lia)];exact q)
theorem ir:OpR X (binaryOp .Pow) (rI xB λi j=>.int (i^j.toNat)):=opI λ_ _ _ _ _ _ _ hc q=>pow_int_small hc.1 hc.2.1 hc.2.2 q
theorem pM:OpR X (binaryOp .LShift) (rI xB λi j=>.int (i*2^j.toNat)):=opI λ_ _ _ _ _ _ _ hc q=>lshift_int_small hc.1 hc.2.1 hc.2.2 q
theorem mT:OpR X (binaryOp .RShift) (rI (λ_ j=>0<=j) λi j=>.int (i / 2^j.toNat)):=opI λi j _ _ _ _ _ hc q =>
 rshift_int hc (by rw[Int.fdiv_eq_ediv_of_nonneg i (pL _)];exact q)
theorem mU:OpR X (binaryOp .BitAnd) (rI0 λi j=>.int (Builtin.bitAnd i j)):=vP λ_ _ _ _ _ _ _ q=>and_int q
theorem unI{f:Value->Sem Value}{g:Int->Int}
  (rule:∀(i:Int)(t:Tok)(s:Shared)(Q:Value->Shared->Prop)(E:Value->Shared->Prop),Q (.int (g i) s.toks) { s with toks:=s.toks+1 }->wpAny (model X.prog X.w) X.A (f (.int i t)) Q E s) :
  UnR X f (rU λi=>.int (g i)):=by
 intro pins s σ H x v Q I rx h;obtain⟨i,rfl,q⟩:=h;obtain⟨t,rfl⟩:=rx;exact rule i t s _ _ ⟨.int (g i),H,I.tok _,⟨_,U⟩,q⟩
theorem df:UnR X (unaryOp .USub) (rU λi=>.int (-i)):=unI λ_ _ _ _ _ q=>neg_int q
end
def xC:V->V->Bool
 | .non,.non=>true | .non,.int _=>true | .int _,.non=>true | .non,.bl _=>true | .bl _,.non=>true | .non,.str _=>true | .str _,.non=>true
 | .int _,.int _=>true | .bl _,.bl _=>true | .str _,.str _=>true | .byt _,.byt _=>true
 | .int _,.str _=>true | .str _,.int _=>true | .bl _,.str _=>true | .str _,.bl _=>true
 |_,_=>false
def rEq:R2:=λx y H Q=>xC x y=true/\Q (.bl (decide (x=y))) H
def rNe:R2:=λx y H Q=>xC x y=true/\Q (.bl (!decide (x=y))) H
theorem qw{i j:Int}:decide (V.int i=V.int j)=(i == j):=by
 rw[Bool.eq_iff_iff];simp
theorem sv{i j:Bool}:decide (V.bl i=V.bl j)=(i == j):=by
 rw[Bool.eq_iff_iff];simp
theorem qx{i j:Str}:decide (V.str i=V.str j)=(i == j):=by
 rw[Bool.eq_iff_iff];simp
theorem qy{i j:Array UInt8}:decide (V.byt i=V.byt j)=(i.toList == j.toList):=by
 rw[Bool.eq_iff_iff];cases i;cases j;simp
section
variable{a b c:Expr}{tc:TE}
theorem bc{pins:List (Addr×Obj)}{σ:St}{H:Hp}{s:Shared}{Q:VK}{k k':Bool}(I:Inv X pins σ H s)(q:Q (.bl k) H)(e:k=k'):EP X pins σ Q (.bool k') s:=by
 subst e;exact⟨.bl k,H,I,U,q⟩
theorem bZ:OpR X (compareOp .Eq) rEq:=by
 intro pins s σ H x y v u Q I rx ry h;obtain⟨hs,q⟩:=h;cases x with
 |non =>
  cases rx;cases y with
  |non=>cases ry;exact PySem.EqNone.eq_none_none (bc I q (by simp))
  |bl j=>cases ry;exact PySem.EqNone.eq_none_bool (bc I q (by simp))
  |int j=>obtain⟨t',rfl⟩:=ry;exact PySem.EqNone.eq_none_int (bc I q (by simp))
  |str j=>obtain⟨t',rfl⟩:=ry;exact PySem.EqNone.eq_none_str (bc I q (by simp))
  |_=>exact absurd (show false=true from hs) Bool.false_ne_true
 |bl i =>
  cases rx;cases y with
  |non=>cases ry;exact PySem.EqNone.eq_bool_none (bc I q (by simp))
  |bl j=>cases ry;exact eq_bool (bc I q sv)
  |str j=>obtain⟨t',rfl⟩:=ry;exact PySem.EqMixed.eq_bool_str (bc I q (by simp))
  |_=>exact absurd (show false=true from hs) Bool.false_ne_true
 |int i =>
  obtain⟨t,rfl⟩:=rx;cases y with
  |non=>cases ry;exact PySem.EqNone.eq_int_none (bc I q (by simp))
  |int j=>obtain⟨t',rfl⟩:=ry;exact eq_int (bc I q qw)
  |str j=>obtain⟨t',rfl⟩:=ry;exact PySem.EqMixed.eq_int_str (bc I q (by simp))
  |_=>exact absurd (show false=true from hs) Bool.false_ne_true
 |str i =>
  obtain⟨t,rfl⟩:=rx;cases y with
  |non=>cases ry;exact PySem.EqNone.eq_str_none (bc I q (by simp))
  |bl j=>cases ry;exact PySem.EqMixed.eq_str_bool (bc I q (by simp))
  |int j=>obtain⟨t',rfl⟩:=ry;exact PySem.EqMixed.eq_str_int (bc I q (by simp))
  |str j=>obtain⟨t',rfl⟩:=ry;exact eq_str (bc I q qx)
  |_=>exact absurd (show false=true from hs) Bool.false_ne_true
 |byt i =>
  obtain⟨t,rfl⟩:=rx;cases y with
  |byt j=>obtain⟨t',rfl⟩:=ry;exact W.eq_bytes (bc I q qy)
  |_=>exact absurd (show false=true from hs) Bool.false_ne_true
 |_=>cases y <;> exact absurd (show false=true from hs) Bool.false_ne_true
theorem ko:OpR X (compareOp .NotEq) rNe:=by
 intro pins s σ H x y v u Q I rx ry h;obtain⟨hs,q⟩:=h;cases x with
 |non =>
  cases rx;cases y with
  |non=>cases ry;exact PySem.EqNone.ne_none_none (bc I q (by simp))
  |bl j=>cases ry;exact PySem.EqNone.ne_none_bool (bc I q (by simp))
  |int j=>obtain⟨t',rfl⟩:=ry;exact PySem.EqNone.ne_none_int (bc I q (by simp))
  |str j=>obtain⟨t',rfl⟩:=ry;exact PySem.EqNone.ne_none_str (bc I q (by simp))
  |_=>exact absurd (show false=true from hs) Bool.false_ne_true
 |bl i =>
  cases rx;cases y with
  |non=>cases ry;exact PySem.EqNone.ne_bool_none (bc I q (by simp))
  |bl j=>cases ry;exact ne_bool (bc I q (congrArg not sv))
  |str j=>obtain⟨t',rfl⟩:=ry;exact PySem.EqMixed.ne_bool_str (bc I q (by simp))
  |_=>exact absurd (show false=true from hs) Bool.false_ne_true
 |int i =>
  obtain⟨t,rfl⟩:=rx;cases y with
  |non=>cases ry;exact PySem.EqNone.ne_int_none (bc I q (by simp))
  |int j=>obtain⟨t',rfl⟩:=ry;exact ne_int (bc I q (congrArg not qw))
  |str j=>obtain⟨t',rfl⟩:=ry;exact PySem.EqMixed.ne_int_str (bc I q (by simp))
  |_=>exact absurd (show false=true from hs) Bool.false_ne_true
 |str i =>
  obtain⟨t,rfl⟩:=rx;cases y with
  |non=>cases ry;exact PySem.EqNone.ne_str_none (bc I q (by simp))
  |bl j=>cases ry;exact PySem.EqMixed.ne_str_bool (bc I q (by simp))
  |int j=>obtain⟨t',rfl⟩:=ry;exact PySem.EqMixed.ne_str_int (bc I q (by simp))
  |str j=>obtain⟨t',rfl⟩:=ry;exact ne_str (bc I q (congrArg not qx))
  |_=>exact absurd (show false=true from hs) Bool.false_ne_true
 |byt i =>
  obtain⟨t,rfl⟩:=rx;cases y with
  |byt j=>obtain⟨t',rfl⟩:=ry;exact W.ne_bytes (bc I q (congrArg not qy))
  |_=>exact absurd (show false=true from hs) Bool.false_ne_true
 |_=>cases y <;> exact absurd (show false=true from hs) Bool.false_ne_true
theorem jN:OpR X (compareOp .Lt) (rI0 λi j=>.bl (decide (i<j))):=vQ λ_ _ _ _ _ _ _ q=>lt_int q
theorem dq:OpR X (compareOp .LtE) (rI0 λi j=>.bl (decide (i<=j))):=vQ λ_ _ _ _ _ _ _ q=>le_int q
theorem gj:OpR X (compareOp .Gt) (rI0 λi j=>.bl (decide (j<i))):=vQ λ_ _ _ _ _ _ _ q=>gt_int q
theorem mV:OpR X (compareOp .NotIn) (λx y H Q=>∃i j,x=.str i/\y=.str j/\Q (.bl (!(!(Builtin.Str.occurrences j i 0 j.length 1).isEmpty))) H):=by
 intro pins s σ H x y v u Q I rx ry h;obtain⟨i,j,rfl,rfl,q⟩:=h;obtain⟨t,rfl⟩:=rx;obtain⟨t',rfl⟩:=ry;exact notIn_str (bc I q U)
theorem aJ(b:Expr){op:CmpOp}(h:op≠.In:=by decide)(h2:op≠.NotIn:=by decide):behindInMarks op b=false:=by
 have e1:(op == CmpOp.In)=false:=by cases op <;> first|rfl|exact absurd U h
 have e2:(op == CmpOp.NotIn)=false:=by cases op <;> first|rfl|exact absurd U h2
 cases b <;> simp[behindInMarks,e1,e2]
theorem dJ{op:CmpOp}{r:R2}(ho:OpR X (compareOp op) r)(ha:PE X a ta)(hb:PE X b tb)(hm:behindInMarks op b=false):PE X (.Compare a [op] [b] pos) (tOp r ta tb):=by
 intro pins s σ H Q I h;exact wpAny_Compare1 (vO ha hb I h λv u s2 x y H2 I2 rx ry q=>ho pins s2 σ H2 x y v u Q I2 rx ry q) hm
inductive sx  (Q:Bool->Hp->Prop)(x:V)(H':Hp):Prop
 |mk (k:_)(_:x=.bl k)(_:Q k H'):sx Q x H'
def uU(t:TE):TT:=λσ H Q=>t σ H λx H'=>sx Q x H'
theorem aH{op:CmpOp}{r:R2}(ho:OpR X (compareOp op) r)(ha:PE X a ta)(hb:PE X b tb)(hm:behindInMarks op b=false):PT X (.Compare a [op] [b] pos) (uU (tOp r ta tb)):=by
 intro pins s σ H Q I h;refine wpAny_isTrue_Compare1 (thn (ha pins s σ H _ I h) λv s1 ⟨x,H1,I1,r1,q1⟩=>thn (hb pins s1 σ H1 _ I1 q1) λu s2 ⟨y,H2,I2,r2,q2⟩ =>
  thn (ho pins s2 σ H2 x y v u _ I2 r1 r2 q2) λc s3 ⟨z,H3,I3,r3,k,e,q3⟩=>?_) hm
 subst e;cases r3;exact wpAny_truthy_bool ⟨H3,I3,q3⟩
inductive qz(r':R2)(tc:TE)(σ:St)(Q:VK)(y:V)(z:V)(H3:Hp):Prop
 |mk (k:_)(_:z=.bl k)(_:(if k=true then tc σ H3 λw' H4=>r' y w' H4 Q else Q (.bl false) H3)):qz r' tc σ Q y z H3
def sy(r r':R2)(ta tb tc:TE):TE:=λσ H Q=>ta σ H λx H1=>tb σ H1 λy H2=>r x y H2 λz H3=>qz r' tc σ Q y z H3
theorem kq{op op':CmpOp}{r r':R2}(ho:OpR X (compareOp op) r)(ho':OpR X (compareOp op') r')(ha:PE X a ta)(hb:PE X b tb)(hc:PE X c tc)
  (hm:lastMarks [op,op'] [b,c]=false:=by with_unfolding_all rfl):PE X (.Compare a [op,op'] [b,c] pos) (sy r r' ta tb tc):=by
 intro pins s σ H Q I h;refine Compare_chain (thn (ha pins s σ H _ I h) λv s1 ⟨x,H1,I1,r1,q1⟩=>chain_link (thn (hb pins s1 σ H1 _ I1 q1) λu s2 ⟨y,H2,I2,r2,q2⟩ =>
  thn (ho pins s2 σ H2 x y v u _ I2 r1 r2 q2) λd s3 ⟨z,H3,I3,r3,k,e,q3⟩=>?_)) hm
 subst e;cases r3;refine wpAny_truthy_bool ?_;cases k with
 |false=>exact ite_ff ⟨.bl false,H3,I3,U,q3⟩
 |true=>exact ite_tt (chain_last (thn (hc pins s3 σ H3 _ I3 q3) λw' s4 ⟨z',H4,I4,r4,q4⟩=>ho' pins s4 σ H4 y z' u w' Q I4 r2 r4 q4))
theorem kr{op op':CmpOp}{r r':R2}(ho:OpR X (compareOp op) r)(ho':OpR X (compareOp op') r')(ha:PE X a ta)(hb:PE X b tb)(hc:PE X c tc)
  (hm:lastMarks [op,op'] [b,c]=false:=by with_unfolding_all rfl):PT X (.Compare a [op,op'] [b,c] pos) (uU (sy r r' ta tb tc)):=by
 intro pins s σ H Q I h;refine isTrue_chain (thn (ha pins s σ H _ I h) λv s1 ⟨x,H1,I1,r1,q1⟩=>test_link (thn (hb pins s1 σ H1 _ I1 q1) λu s2 ⟨y,H2,I2,r2,q2⟩ =>
  thn (ho pins s2 σ H2 x y v u _ I2 r1 r2 q2) λd s3 ⟨z,H3,I3,r3,k,e,q3⟩=>?_)) hm
 subst e;cases r3;refine wpAny_truthy_bool ?_;cases k with
 |false =>
  obtain⟨k',e',q'⟩:=q3;cases e';exact ite_ff ⟨H3,I3,q'⟩
 |true =>
  refine ite_tt (test_last (thn (hc pins s3 σ H3 _ I3 q3) λw' s4 ⟨z',H4,I4,r4,q4⟩=>thn (ho' pins s4 σ H4 y z' u w' _ I4 r2 r4 q4) λd' s5 ⟨z2,H5,I5,r5,k2,e2,q5⟩=>?_));subst e2;cases r5;exact wpAny_truthy_bool ⟨H5,I5,q5⟩
def vS(K:W.Frag)(x:V)(H:Hp)(k:Bool):Prop :=
 match x with
 | .non=>k=false
 | .bl b=>k=b
 | .int i=>k=(i != 0)
 | .str y=>y.length<=sizeLine/\k=((y.length:Int) != 0)
 | .byt y=>y.size<=sizeLine/\k=((y.size:Int) != 0)
 | .ref p=>(∃xs,SqL K H p xs/\k = !xs.isEmpty)\/(∃xs,SqT K H p xs/\k = !xs.isEmpty)\/∃kvs,H p=some (.dK kvs)/\k = !kvs.isEmpty
 |_=>False
theorem pN{κ:Type}{kvs:List (κ×V)}{vs:List (κ×Value)}(r:KV kvs vs):(!vs.isEmpty) = !kvs.isEmpty:=by
 cases r <;> rfl
theorem ku{xs:List V}{its:List Value}(r:Vals xs its):(!its.toArray.isEmpty) = !xs.isEmpty:=by
 cases r <;> simp
theorem iu:(sizeLine:Nat)<2^63:=by rw[sizeLine_eq];decide
theorem vT:y7 X (λx H Q=>∃k,vS X.K x H k/\Q k H):=by
 intro pins s σ H x v Q I rx h;obtain⟨k,e,q⟩:=h;have hl:=iu;have hs:sizeLine=16777216:=sizeLine_eq;cases x with
 |non =>
  cases rx;have e':k=false:=e;subst e';exact truthy_none ⟨H,I,q⟩
 |bl b =>
  cases rx;have e':k=b:=e;subst e';exact wpAny_truthy_bool ⟨H,I,q⟩
 |int i =>
  obtain⟨t,rfl⟩:=rx;have e':k=(i != 0):=e;subst e';exact PySem.P.truthy_int ⟨H,I,q⟩
 |str y =>
  obtain⟨t,rfl⟩:=rx;obtain⟨hy,e'⟩:y.length<=sizeLine/\k=((y.length:Int) != 0):=e;subst e';exact PySem.P.truthy_str (by lia) ⟨H,I.tok _,q⟩
 |byt y =>
  obtain⟨t,rfl⟩:=rx;obtain⟨hy,e'⟩:y.size<=sizeLine/\k=((y.size:Int) != 0):=e;subst e';exact W.truthy_bytes (by lia) ⟨H,I.tok _,q⟩
 |ref p =>
  cases rx;have e':(∃xs,SqL X.K H p xs/\k = !xs.isEmpty)\/(∃xs,SqT X.K H p xs/\k = !xs.isEmpty)\/∃kvs,H p=some (.dK kvs)/\k = !kvs.isEmpty:=e;rcases e' with⟨xs,hx,e'⟩|⟨xs,hx,e'⟩|⟨kvs,hx,e'⟩
  ·subst e';obtain⟨its,r,pl,hz⟩:=I.list hx;have hlen:=r.length;exact wpAny_truthy_list pl.isList (by simp only[size_toArray];lia) ⟨H,I.tok _,by rw[ku r];exact q⟩
  ·subst e';obtain⟨its,r,pl,hz⟩:=I.tuple hx;have hlen:=r.length;exact truthy_tuple pl (by simp only[size_toArray];lia) ⟨H,I.tok _,by rw[ku r];exact q⟩
  ·subst e';obtain⟨hz,hS,vs,r,m⟩:kvs.length<=sizeLine/\(p == sysModules)=false/\∃vs,KV kvs vs/\s.heap.DictOf (mR X.prog X.w) p vs:=I.hok p _ hx;have hlen:kvs.length=vs.length:=Paired.length r;exact wpAny_truthy_dict hS m (by lia) ⟨H,I.tok _,by rw[pN r];exact q⟩
 |_=>exact(show False from e).elim
theorem dr(ha:PE X a ta)(he:∀whole,isTrue a X.env whole=(do let v ←whole;standAt a.pos;holding [v] (truthy v))) :
  PT X a (λσ H Q=>ta σ H λx H'=>∃k,vS X.K x H' k/\Q k H'):=by
 intro pins s σ H Q I h;exact isTrue_plain (thn (ha pins s σ H _ I h) λv s1 ⟨x,H1,I1,r1,q1⟩=>vT pins s1 σ H1 x v Q I1 r1 q1) (he _)
theorem iw:OpR X (binaryOp .Add) (λx y H Q=>∃i j,x=.str i/\y=.str j/\i.length+j.length<=sizeLine/\Q (.str (i++j)) H):=by
 intro pins s σ H x y v u Q I rx ry h;obtain⟨i,j,rfl,rfl,hz,q⟩:=h;obtain⟨t,rfl⟩:=rx;obtain⟨t',rfl⟩:=ry;exact add_str (λt' tk=>⟨.str (i++j),H,I.tok _,⟨_,U⟩,q⟩) hz
theorem vU:OpR X (binaryOp .Add) (λx y H Q=>∃i j,x=.byt i/\y=.byt j/\i.size+j.size<=16777216/\Q (.byt (i++j)) H):=by
 intro pins s σ H x y v u Q I rx ry h;obtain⟨i,j,rfl,rfl,hz,q⟩:=h;obtain⟨t,rfl⟩:=rx;obtain⟨t',rfl⟩:=ry;exact W.KBy.add_bytes hz (λt' tk=>⟨.byt (i++j),H,I.tok _,⟨_,U⟩,q⟩)
theorem vals1{x:V}{us:List Value}(r:Vals [x] us):∃u,us=[u]/\RelV x u:=by
 cases r with
 |cons r1 r2=>cases r2;exact⟨_,U,r1⟩
theorem vals2{x y:V}{us:List Value}(r:Vals [x,y] us):∃u w',us=[u,w']/\RelV x u/\RelV y w':=by
 cases r with
 |cons r1 r2 =>
  cases r2 with
  |cons r3 r4=>cases r4;exact⟨_,_,U,r1,r3⟩
theorem gK(hc:X.calm=true):cO X (.builtin "max") (λxs H Q=>∃i j,xs=[.int i,.int j]/\Q (.int (if j>i then j else i)) H):=by
 intro pins s σ H xs us Q I r h;obtain⟨i,j,rfl,q⟩:=h;obtain⟨u,w',rfl,⟨t,rfl⟩,⟨t',rfl⟩⟩:=vals2 r;refine max_two_ints (I.ok.hd hc) λh' tk k=>⟨_,H,I.kept k,?_,q⟩
 by_cases hj:j>i
 ·rw[if_pos hj,if_pos hj];exact⟨_,U⟩
 ·rw[if_neg hj,if_neg hj];exact⟨_,U⟩
theorem gL(hc:X.calm=true):cO X (.builtin "min") (λxs H Q=>∃i j,xs=[.int i,.int j]/\Q (.int (if j<i then j else i)) H):=by
 intro pins s σ H xs us Q I r h;obtain⟨i,j,rfl,q⟩:=h;obtain⟨u,w',rfl,⟨t,rfl⟩,⟨t',rfl⟩⟩:=vals2 r;refine min_two_ints (I.ok.hd hc) λh' tk k=>⟨_,H,I.kept k,?_,q⟩
 by_cases hj:j<i
 ·rw[if_pos hj,if_pos hj];exact⟨_,U⟩
 ·rw[if_neg hj,if_neg hj];exact⟨_,U⟩
end
structure pO(h:Heap)(x dx C:Addr)(mA:Str->Option Value):Prop where
 obj:h.get? x=some (W.instObj C dx)
 ns:h.Ns1 dx mA
 ne:dx≠x
theorem qX{h:Heap}{dx:Addr}{mA:Str->Option Value}(n:h.Ns1 dx mA):∃od,h.get? dx=some od/\∀name,W.lookIn name od=some (mA name):=by
 obtain⟨o,es,ep,ho,hd,hk,_,hm⟩:=n;refine⟨o,ho,λname=>?_⟩;have e:=hm name;unfold nsFind findBy at e;rw[←Array.find?_toList]at e;unfold W.lookIn;rw[hd];dsimp only;split
 ·rename_i y q
  rw[q]at e;exact congrArg some e
 ·rename_i q
  rw[q]at e;have a:es.toList.any (·.refKey)=false:=by
   rw[List.any_eq_false];intro y hy;obtain⟨z,t,vV⟩:=hk y (Array.mem_toList_iff.mp hy);simp[DictEntry.refKey,vV]
  have a':¬ es.toList.any (·.refKey)=true:=by rw[a];exact Bool.false_ne_true
  rw[if_neg a'];exact congrArg some e
theorem pO.look{h:Heap}{x dx C:Addr}{mA:Str->Option Value}(I:pO h x dx C mA):∃od,W.InstAt h x (W.instObj C dx) C (some od)/\∀name,W.lookIn name od=some (mA name):=by
 obtain⟨od,ho,hl⟩:=qX I.ns;exact⟨od,⟨I.obj,U,U,ho⟩,hl⟩
variable{A:Around}{dx C f:Addr}
section
variable{prog:Program}{K:W.Frag}{mA:Str->Option Value}{name:Str}{v:Value}
theorem get_map{expr:Bool}{Q:Value->Shared->Prop}(X:K.In s.heap)(I:pO s.heap x dx C mA)(hg:W.plainGet K C name=true)(hh:W.hasDictIn K C=true)
  (ha:W.findIn K (.ref C) name=some none)(hv:mA name=some v)(hv':W.handedIn v=true)(h:Q v { s with toks:=s.toks+1 }) :
  wpAny (model prog w) A (getAttr (.ref x) name expr) Q E s:=by
 obtain⟨od,J,hl⟩:=I.look;exact W.get_value X J (W.plainGet_of hg).1 (W.findObj_own hh ha U (by rw[hl,hv])) hv' h
theorem sD{pl:Sem Bool}{Q:Value×List Value->Shared->Prop}(X:K.In s.heap)(I:pO s.heap x dx C mA)(hg:W.plainGet K C name=true)
  (hf:W.findIn K (.ref C) name=some (some (.ref f)))(ht:W.isFn K (.ref f)=true)(hv:mA name=none)(h:Q (.ref f,[.ref x]) s) :
  wpAny (model prog w) A (getMethod (.ref x) name pl) Q E s:=by
 obtain⟨od,J,hl⟩:=I.look;exact W.method_fn X J (W.plainGet_of hg).1 (W.plainGet_of hg).2 hf (beq_iff_eq.mp ht) (by show(W.lookIn name od).map (·.isSome)=some false;rw[hl,hv];rfl) h
theorem uf{ns:List Str}{Q:Unit->Shared->Prop}(X:K.In s.heap)(I:pO s.heap x dx C mA)
  (hs:W.findIn K (.ref C) "__setattr__" = some (some (.builtin "object.__setattr__"))) (hp:W.plainOver K C=true)(ht:W.takerIn K C name=some none)(hh:W.hasDictIn K C=true)
  (hw:PySem.Within mA ns)(hsz:ns.length<=sizeLine)
  (h:∀h',pO h' x dx C (λy=>if y=name then some v else mA y)->Heap.SameBut dx s.heap h'->Q () { s with heap:=h',toks:=s.toks+2 }) :
  wpAny (model prog w) A (setAttr (.ref x) name v) Q E s:=by
 obtain⟨od,J,hl⟩:=I.look;refine W.set_plain X J hs (W.osa_open (s:={ s with toks:=s.toks+1 }) (r:=none) X J hp ht λb=>?_);obtain⟨cd,hc,hd'⟩:=W.any_some hh;have hx:s.heap.get? x=some ⟨.ref C,some dx,.plain,#[]⟩:=I.obj;refine wpAny_bind (wpAny_pure (wpAny_bind (wpAny_bind (wpAny_loadPart hx (wpAny_bind (W.Looks.here (s:={ s with toks:=s.toks+1 }) (W.looks_clsIn X hc) ?_))))));rw[hd'];refine wpAny_pure (a:=some dx) (wpAny_bind (wpAny_pure (wpAny_bind ?_)));refine wpAny_nsSet1 (s:={ s with toks:=s.toks+1 }) I.ns λh' hn2 hs2=>?_
 obtain⟨oD,esD,epD,hoD,hdD,hcD⟩:=hn2.count (PySem.Within.cons name v hw);refine wpAny_bind (wpAny_lookBehind hoD (by rw[hdD];exact pastItsLine_dict (le_trans hcD (by rw[length_cons];lia))) ?_);exact wpAny_pure (h _ ⟨(hs2.2 _ (Ne.symm I.ne)).trans I.obj,hn2,I.ne⟩ hs2)
theorem sE{R:Result->Shared->Prop}{vs:List Value}{kw:List (Str×Value)}(X:K.In s.heap)(hm:W.makesIn K C=true)
  (hi:W.findIn K (.ref C) "__init__" = some (some (.ref f))) (hf:W.typeIn K (.ref f)=some (.type "function"))
  (h:codeAny (model prog w) (A.under (.builtin "type.__call__" ⟨.ref C :: vs,kw⟩)) (.call (.ref f) ⟨.ref (s.heap.objs.size+1) :: vs,kw⟩) (W.InitBack (s.heap.objs.size+1) R)
   { s with heap:=(s.heap.push W.emptyDict).push (W.instObj C s.heap.objs.size) }) :
  codeAny (model prog w) A (.call (.ref C) ⟨vs,kw⟩) R s:=by
 obtain⟨hh,g,d,t,os⟩:=s;exact W.make_core (W.makes_of X hm) (W.looks_findIn X hi) (λself=>W.bind_fn X self hf) (.inl U) h
end
def bu(f:Str)(v:V):List (Str×V)->List (Str×V)
 | []=>[(f,v)]
 |(g,x) :: r=>if g=f then(g,v) :: r else(g,x) :: bu f v r
theorem jO(f g:Str)(v:V):∀fs:List (Str×V),(bu f v fs).lookup g=if g=f then some v else fs.lookup g
 | []=>by
  show List.lookup g [(f,v)]=_;by_cases h:g=f
  ·have hb:(g == f)=true:=beq_iff_eq.mpr h;simp only[List.lookup,hb,if_pos h]
  ·have hb:(g == f)=false:=beq_eq_false_iff_ne.mpr h;simp only[List.lookup,hb,if_neg h]
 |(k,x) :: r=>by
  have ih:=jO f g v r;rw[show bu f v ((k,x) :: r)=(if k=f then(k,v) :: r else(k,x) :: bu f v r)from U];by_cases hk:k=f
  ·rw[if_pos hk];by_cases h:g=k
   ·have hb:(g == k)=true:=beq_iff_eq.mpr h;simp only[List.lookup,hb,if_pos (h.trans hk)]
   ·have hb:(g == k)=false:=beq_eq_false_iff_ne.mpr h;simp only[List.lookup,hb,if_neg (λe:g=f=>h (e.trans hk.symm))]
  ·rw[if_neg hk];by_cases h:g=k
   ·have hb:(g == k)=true:=beq_iff_eq.mpr h;simp only[List.lookup,hb,if_neg (λe:g=f=>hk (h.symm.trans e))]
   ·have hb:(g == k)=false:=beq_eq_false_iff_ne.mpr h;simp only[List.lookup,hb];exact ih
theorem js(f:Str)(v:V):∀fs:List (Str×V),f∈(bu f v fs).map (·.1)/\∀g,g∈fs.map (·.1)->g∈(bu f v fs).map (·.1)
 | []=>⟨by simp[bu],λg h=>by simp at h⟩
 |(k,x) :: r=>by
  obtain⟨i1,i2⟩:=js f v r;rw[show bu f v ((k,x) :: r)=(if k=f then(k,v) :: r else(k,x) :: bu f v r)from U];by_cases hk:k=f
  ·rw[if_pos hk];subst hk;exact⟨by simp,λg h=>by simpa using h⟩
  ·rw[if_neg hk];refine⟨?_,λg h=>?_⟩
   ·rw[map_cons];exact mem_cons_of_mem _ i1
   ·rw[map_cons]at h⊢;rcases mem_cons.mp h with e|e
    ·exact mem_cons.mpr (.inl e)
    ·exact mem_cons_of_mem _ (i2 g e)
theorem jP(f:Str)(v:V):∀fs:List (Str×V),(bu f v fs).length<=fs.length+1
 | []=>by simp[bu]
 |(k,x) :: r=>by
  have ih:=jP f v r;rw[show bu f v ((k,x) :: r)=(if k=f then(k,v) :: r else(k,x) :: bu f v r)from U];by_cases hk:k=f
  ·rw[if_pos hk,length_cons,length_cons];lia
  ·rw[if_neg hk,length_cons,length_cons];lia
theorem lM.some_of{v:V}{o:Option Value}(r:lM (some v) o):∃u,o=some u/\RelV v u:=by
 cases o with
 |none=>exact(show False from r).elim
 |some u=>exact⟨u,U,r⟩
theorem lM.none_of{o:Option Value}(r:lM none o):o=none:=by
 cases o with
 |none=>rfl
 |some u=>exact(show False from r).elim
theorem mf{v:V}{u:Value}(r:RelV v u):W.handedIn u=true:=by
 cases v with
 |non=>cases (show u=Value.none from r);rfl
 |bl b=>cases (show u=Value.bool b from r);rfl
 |int i=>obtain⟨t,e⟩:=(show ∃t,u=Value.int i t from r);cases e;rfl
 |str x=>obtain⟨t,e⟩:=(show ∃t,u=Value.str x t from r);cases e;rfl
 |byt b=>obtain⟨t,e⟩:=(show ∃t,u=Value.bytes b t from r);cases e;rfl
 |flt b=>obtain⟨t,e⟩:=(show ∃t,u=Value.float b t from r);cases e;rfl
 |ref a=>cases (show u=Value.ref a from r);rfl
 |ty n=>cases (show u=Value.type n from r);rfl
section
variable{fs fs':List (Str×V)}
theorem kd(hok:HOk P w H h)(e:H a=some (.ins C dx fs)):∃mA,pO h a dx C mA/\(∀f,lM (fs.lookup f) (mA f))/\PySem.Within mA (fs.map (·.1))/\fs.length<=1000/\H dx=some (.own a):=by
 obtain⟨d,z,ne,ob,mA,n,r,q⟩:=(show cD P w H h a (.ins C dx fs)from hok a _ e);exact⟨mA,⟨ob,n,ne⟩,r,q,z,d⟩
end
structure Cls(K:W.Frag)(C:Addr):Prop where
 pg:W.plainGet K C Str.empty=true
 hd:W.hasDictIn K C=true
 po:W.plainOver K C=true
 sa:W.findIn K (.ref C) "__setattr__" = some (some (.builtin "object.__setattr__"))
theorem Cls.get{K:W.Frag}{C:Addr}(c:Cls K C)(f:Str):W.plainGet K C f=true:=c.pg
def NoAttr(K:W.Frag)(C:Addr)(f:Str):Prop:=W.findIn K (.ref C) f=some none
theorem NoAttr.taker{K:W.Frag}{C:Addr}{f:Str}(n:NoAttr K C f):W.takerIn K C f=some none:=by
 unfold W.takerIn;rw[show W.findIn K (.ref C) f=some none from n];rfl
structure Con(K:W.Frag)(C:Addr)(f:Str)(v:V)(u:Value):Prop where
 at_:W.findIn K (.ref C) f=some (some u)
 rel:RelV v u
 get:W.specialIn K u "__get__" = some none
 cp:W.copiedNames.contains f=false
structure Meth(K:W.Frag)(C:Addr)(m:Str)(f:Addr):Prop where
 at_:W.findIn K (.ref C) m=some (some (.ref f))
 fn:W.isFn K (.ref f)=true
 kp:W.keepIn K (.ref f)=true
section
variable{fs:List (Str×V)}{f:Str}{v:V}
theorem pP{b:Bool}{Q:Value->Shared->Prop}(I:Inv X pins σ H s)(e:H a=some (.ins C dx fs))(c:Cls X.K C)(n:NoAttr X.K C f)(l:fs.lookup f=some v)
  (h:∀u s',Inv X pins σ H s'->RelV v u->Q u s'):wpAny (model X.prog X.w) A (getAttr (.ref a) f b) Q E s:=by
 obtain⟨mA,O,r,_,_,_⟩:=kd I.hok e;obtain⟨u,hu,ru⟩:=lM.some_of (v:=v) (o:=mA f) (by rw[←l];exact r f);exact get_map I.kIn O (c.get f) c.hd n hu (mf ru) (h u _ (I.tok _) ru)
theorem kv{m:Str}{g:Addr}{pl:Sem Bool}{Q:Value×List Value->Shared->Prop}(I:Inv X pins σ H s)(e:H a=some (.ins C dx fs))(c:Cls X.K C)(k:Meth X.K C m g)(l:fs.lookup m=none)
  (h:Q (.ref g,[.ref a]) s):wpAny (model X.prog X.w) A (getMethod (.ref a) m pl) Q E s:=by
 obtain⟨mA,O,r,_,_,_⟩:=kd I.hok e;have hn:mA m=none:=lM.none_of (by rw[←l];exact r m);exact sD I.kIn O (c.get m) k.at_ k.fn hn h
theorem pQ{y:V}{u:Value}{Q:Unit->Shared->Prop}(I:Inv X pins σ H s)(e:H a=some (.ins C dx fs))(c:Cls X.K C)(n:NoAttr X.K C f)(hl:fs.length<1000)(ry:RelV y u)
  (h:∀s',Inv X pins σ (upd H a (.ins C dx (bu f y fs))) s'->Q () s'):wpAny (model X.prog X.w) A (setAttr (.ref a) f u) Q E s:=by
 obtain⟨mA,O,r,wi,_,ho⟩:=kd I.hok e;have hz:(fs.map (·.1)).length<=sizeLine:=by rw[length_map,sizeLine_eq];lia
 refine uf I.kIn O c.sa c.po n.taker c.hd wi hz λh' O' sb=>h _ ?_
 have hd:∃o,h'.get? dx=some o:=let ⟨o,_,_,e',_⟩:=O'.ns;⟨o,e'⟩;refine I.write (x:=a) (e:=dx) (by rw[e];exact True.intro) (.inr ho) (λb q hb z=>(sb.2 b hb).trans z) hd ?_;refine⟨by rw[au O.ne];exact ho,?_,O.ne,O'.obj,_,O'.ns,λg=>?_,λg hg=>?_⟩
 ·have:=jP f y fs;lia
 ·show lM ((bu f y fs).lookup g) (if g=f then some u else mA g);rw[jO];by_cases q:g=f
  ·rw[if_pos q,if_pos q];exact ry
  ·rw[if_neg q,if_neg q];exact r g
 ·by_cases q:g=f
  ·rw[q];exact(js f y fs).1
  ·refine(js f y fs).2 g (wi g λz=>hg ?_);show(if g=f then some u else mA g)=none;rw[if_neg q];exact z
theorem Inv.made(I:Inv X pins σ H s):Inv X pins σ (upd (upd H s.heap.objs.size (.own (s.heap.objs.size+1))) (s.heap.objs.size+1) (.ins C s.heap.objs.size []))
  { s with heap:=(s.heap.push W.emptyDict).push (W.instObj C s.heap.objs.size) }:=by
 have e1:(s.heap.push W.emptyDict).get? s.heap.objs.size=some W.emptyDict:=Heap.get?_push_size s.heap U;have e2:((s.heap.push W.emptyDict).push (W.instObj C s.heap.objs.size)).get? (s.heap.objs.size+1)=some (W.instObj C s.heap.objs.size):=by
  have:=Heap.get?_push_size (s.heap.push W.emptyDict) (o:=W.instObj C s.heap.objs.size) U
  rwa [Heap.size_push]at this
 have e3:(s.heap.push W.emptyDict).Ns s.heap.objs.size (λ_=>none):=⟨W.emptyDict,#[],_,e1,U,(λe he=>absurd he (by simp)),λ_=>U⟩;have I1:=I.laid (a:=s.heap.objs.size) (o:=.own (s.heap.objs.size+1)) (h':=s.heap.push W.emptyDict) (t':=s.toks) (λb u q=>Heap.get?_push_of_some _ q) (le_refl _) ⟨_,e1⟩;refine I1.laid (a:=s.heap.objs.size+1) (o:=.ins C s.heap.objs.size []) (t':=s.toks) (λb u q=>Heap.get?_push_of_some _ q) (Nat.le_of_eq (Heap.size_push _ _)) ?_;have ne:s.heap.objs.size≠s.heap.objs.size+1:=ne_of_lt (lt_succ_self _);refine⟨by rw[au ne,ab],zero_le _,ne,e2,λ_=>none,(Heap.Ns1.of_empty e3).at λo q=>Heap.get?_push_of_some _ q,λ_=>True.intro,λy hy=>absurd U hy⟩
theorem ug{prog:Program}{w:World}{env:Env}{e:Expr}{f:Str}{pos:Pos}{s:Shared}{Q:Value->Shared->Prop}(hb:attributeBase e f env (eval e env)=eval e env)
  (h:wpAny (model prog w) A (eval e env) (λo s₁=>wpAny (model prog w) A (getAttr o f true) Q E s₁) E s):wpAny (model prog w) A (eval (.Attribute e f pos) env) Q E s :=
 Attribute_any_ h (by rw[arm_eval_Attribute,hb])
end
inductive uV(K:W.Frag)(f:Str)(Q:VK)(x:V)(H1:Hp):Prop
 |mk (a C dx fs v:_)(_:x=.ref a)(_:H1 a=some (.ins C dx fs))(_:Cls K C)(_:NoAttr K C f)(_:fs.lookup f=some v)(_:Q v H1):uV K f Q x H1
def y9(K:W.Frag)(ta:TE)(f:Str):TE:=λσ H Q=>ta σ H λx H1=>uV K f Q x H1
def za(K:W.Frag)(ta tv:TE)(f:Str):TS:=λD σ H=>tv σ H λy H1=>ta σ H1 λx H2=>∃a C dx fs,x=.ref a/\H2 a=some (.ins C dx fs)/\Cls K C/\NoAttr K C f/\fs.length<1000 /\
 D.nx σ (upd H2 a (.ins C dx (bu f y fs)))
variable{o:Expr}
section
variable{value:Expr}{f:Str}{pos' Bt:Pos}{tv:TE}
theorem aN(he:PE X e ta)(hb:attributeBase e f X.env (eval e X.env)=eval e X.env):PE X (.Attribute e f pos) (y9 X.K ta f):=by
 intro pins s σ H Q I h;refine ug hb (thn (he pins s σ H _ I h) λu s1 ⟨x,H1,I1,rx,a,C,dx,fs,v,ex,ea,c,n,l,q⟩=>?_);subst ex;obtain rfl:u=Value.ref a:=rx;exact pP I1 ea c n l λu' s2 I2 ru=>⟨v,H1,I2,ru,q⟩
theorem cg(ha:PE X o ta)(hv:PE X value tv)(hs:swapsWith value (some (.Attribute o f pos')) pos.line X.env=pure false):PS X (.Assign [.Attribute o f pos'] value pos) (za X.K ta tv f):=by
 intro pins s σ H D I h;refine plainObj_wpAny_Assign_Attribute (thn (hv pins s σ H _ I h) λu s1 ⟨y,H1,I1,ry,q⟩=>thn (ha pins s1 σ H1 _ I1 q) λov s2 ⟨x,H2,I2,rx,a,C,dx,fs,ex,ea,c,n,l,q2⟩=>?_) hs;subst ex;obtain rfl:ov=Value.ref a:=rx;exact pQ I2 ea c n l ry λs3 I3=>⟨σ,_,I3,q2⟩
end
section
variable{Q:Value->Shared->Prop}{c:Value}{b:Bool}
inductive jt(K:W.Frag)(H:Hp):V->Value->Prop where
 |non:jt K H .non (.type "NoneType")
 |bl (x:Bool):jt K H (.bl x) (.type "bool")
 |int (i:Int):jt K H (.int i) (.type "int")
 |str (x:Str):jt K H (.str x) (.type "str")
 |flt (x:UInt64):jt K H (.flt x) (.type "float")
 |lst {a:Addr}{xs:List V}(e:H a=some (.lst xs)):jt K H (.ref a) (.type "list")
 |frz {a:Addr}{o:Obj}{xs:List V}(e:H a=some (.frz o (.lst xs))):jt K H (.ref a) (.type "list")
 |tup {a:Addr}{xs:List V}(e:H a=some (.tup xs)):jt K H (.ref a) (.type "tuple")
 |dK {a:Addr}{kvs:List (Key×V)}(e:H a=some (.dK kvs)):jt K H (.ref a) (.type "dict")
 |dT {a:Addr}{kvs:List (List Key×V)}(e:H a=some (.dT kvs)):jt K H (.ref a) (.type "dict")
 |ins {a C dx:Addr}{fs:List (Str×V)}(e:H a=some (.ins C dx fs))(cl:Cls K C)(ha:W.findIn K (.ref C) "__class__" = some (some (.builtin "object.__class__")))
   (hn:W.specialIn K (.builtin "object.__class__") "__get__" = some (some (.builtin "getset_descriptor.__get__"))) (htk:W.takesIn K (.builtin "object.__class__")=some true)
   (hm:W.mroIn K C (.type "object")=some true):jt K H (.ref a) (.ref C)
theorem qY{x:V}{u t:Value}(I:Inv X pins σ H s)(rx:RelV x u)(ty:jt X.K H x t)(e:W.kitOne X.K t c=some b)(h:∀tk,Q (.bool b) { s with toks:=tk }) :
  wpAny (model X.prog X.w) A (call (.builtin "isinstance") [u,c]) Q E s:=by
 cases ty with
 |non=>cases (show u=Value.none from rx);exact W.kia_one W.kitx_none I.kIn True.intro e (λz=>nomatch z) h
 |bl y=>cases (show u=Value.bool y from rx);exact W.kia_one W.kitx_bool I.kIn True.intro e (λz=>nomatch z) h
 |int i=>obtain⟨t,q⟩:=(show ∃t,u=Value.int i t from rx);cases q;exact W.kia_one W.kitx_int I.kIn True.intro e (λz=>nomatch z) h
 |str y=>obtain⟨t,q⟩:=(show ∃t,u=Value.str y t from rx);cases q;exact W.kia_one W.kitx_str I.kIn True.intro e (λz=>nomatch z) h
 |flt y=>obtain⟨t,q⟩:=(show ∃t,u=Value.float y t from rx);cases q;exact W.kia_one W.kitx_float I.kIn True.intro e (λz=>nomatch z) h
 | @lst a xs ea =>
  cases (show u=Value.ref a from rx);obtain⟨_,_,n,_,h1⟩:=(show cD X.prog X.w H s.heap a (.lst xs)from I.hok a _ ea);exact W.kia_one W.kitx_list I.kIn ⟨_,h1,U⟩ e (λz=>nomatch z) h
 | @frz a ob xs ea =>
  cases (show u=Value.ref a from rx);obtain⟨_,_,_,n,_,h1⟩:=(show cD X.prog X.w H s.heap a (.frz ob (.lst xs))from I.hok a _ ea);exact W.kia_one W.kitx_list I.kIn ⟨_,h1,U⟩ e (λz=>nomatch z) h
 | @tup a xs ea =>
  cases (show u=Value.ref a from rx);obtain⟨_,_,_,p⟩:=(show cD X.prog X.w H s.heap a (.tup xs)from I.hok a _ ea);obtain⟨o,h1,h2,_⟩:=p;exact W.kia_one W.kitx_tuple I.kIn ⟨o,h1,h2⟩ e (λz=>nomatch z) h
 | @dK a kvs ea =>
  cases (show u=Value.ref a from rx);obtain⟨_,_,vs,_,p⟩:=(show cD X.prog X.w H s.heap a (.dK kvs)from I.hok a _ ea);obtain⟨o,es,ep,h1,h2,_⟩:=p;exact W.kia_one W.kitx_dict I.kIn ⟨o,h1,h2.1⟩ e (λz=>nomatch z) h
 | @dT a kvs ea =>
  cases (show u=Value.ref a from rx);obtain⟨_,_,xs,_,o,es,ep,h1,h2,_⟩:=(show cD X.prog X.w H s.heap a (.dT kvs)from I.hok a _ ea);exact W.kia_one W.kitx_dict I.kIn ⟨o,h1,h2.1⟩ e (λz=>nomatch z) h
 | @ins a C dx fs ea cl ha hn htk hm =>
  cases (show u=Value.ref a from rx);obtain⟨mA,O,_⟩:=kd I.hok ea;obtain⟨od,J,_⟩:=O.look;exact W.kia_one (W.kitx_own (cl.get _) cl.hd ha hn htk hm) I.kIn J e (λz=>nomatch z) h
end
structure bT(k:Nat)(A:Around):Prop where
 hd:A.handled=none
 dp:A.depth+3*k+5<recursionLimit
 un:A.units+16*k+200<cLine
theorem bT.mono{j k:Nat}{A:Around}(r:bT k A)(h:j<=k):bT j A:=⟨r.hd,by have:=r.dp;lia,by have:=r.un;lia⟩
theorem bT.deeper{k:Nat}{A:Around}(r:bT (k+1) A)(env:Env):bT k (A.deeper env) :=
 ⟨r.hd,by have:=r.dp;show A.depth+1+3*k+5<_;lia,by have:=r.un;show A.units+3+16*k+200<_;lia⟩
theorem pS{A:Around}{C:Addr}{us:List Value}{kw:List (Str×Value)}:(A.under (.builtin "type.__call__" ⟨.ref C :: us,kw⟩)).depth=A.depth+1:=by
 first|rfl|simp[Around.under,Code.weight,Code.isCreation,Code.isGuard,Code.isCaller,Code.frames,Code.isFrame,guardIds]
theorem pT{A:Around}{C:Addr}{us:List Value}{kw:List (Str×Value)}:(A.under (.builtin "type.__call__" ⟨.ref C :: us,kw⟩)).units=A.units+1:=by
 first|rfl|simp[Around.under,Code.cUnits,Code.frames,Code.isFrame]
theorem bT.make{k:Nat}{A:Around}(r:bT (k+1) A)(C:Addr)(us:List Value)(kw:List (Str×Value)):bT k (A.under (.builtin "type.__call__" ⟨.ref C :: us,kw⟩)) :=
 ⟨r.hd,by have:=r.dp;rw[pS];lia,by have:=r.un;rw[pT];lia⟩
theorem bT.depth{k:Nat}{A:Around}(r:bT k A):A.depth<recursionLimit:=by have:=r.dp;lia
theorem bT.units{k:Nat}{A:Around}(r:bT k A):A.units+64<cLine:=by have:=r.un;lia
def vW:TA:=λ_ H Q=>Q [] H
def xD(ta:TE)(tr:TA):TA:=λσ H Q=>ta σ H λx H1=>tr σ H1 λxs H2=>Q (x :: xs) H2
variable{es:List Expr}{t:TA}
theorem ae:PA X [] vW:=λ_ _ _ _ H Q I h=>Calls.spliced_nil ⟨[],H,I,.nil,h⟩
theorem aa(ha:PE X e te)(hr:PA X es t)(hs:starEach (e :: es) X.env=(false,eval e X.env) :: starEach es X.env:=by rfl):PA X (e :: es) (xD te t):=by
 intro pos pins s σ H Q I h;rw[hs];show wpAny _ _ (spliced ((false,eval e X.env) :: backTo pos (starEach es X.env))) _ _ s;refine Calls.spliced_cons (thn (ha pins s σ H _ I h) λu s1 ⟨x,H1,I1,r1,q1⟩=>?_);exact thn (hr pos pins s1 σ H1 _ I1 q1) λus s2 ⟨xs,H2,I2,r2,q2⟩=>⟨x :: xs,H2,I2,.cons r1 r2,q2⟩
def zb(t:TA):TE:=λσ H Q=>t σ H λxs H1=>xs.length<=sizeLine/\∀p,H1 p=none->Q (.ref p) (upd H1 p (.tup xs))
def zc(t:TA):TE:=λσ H Q=>t σ H λxs H1=>xs.length<=sizeLine/\∀p,H1 p=none->Q (.ref p) (upd H1 p (.lst xs))
theorem bq{x1} (h:PA X es t):PE X (.Tuple es x1 pos) (zb t):=by
 intro pins s σ H Q I hq;refine wpAny_Tuple_spliced (thn (h pos pins s σ H _ I hq) λus s1 ⟨xs,H1,I1,r,z,q⟩=>⟨by rw[←r.length];exact z,?_⟩);have hf:H1 s1.heap.objs.size=none:=I1.hok.fresh (le_refl _);refine⟨.ref s1.heap.objs.size,upd H1 s1.heap.objs.size (.tup xs),I1.laid (t':=s1.toks) (λb u e=>Heap.get?_push_of_some _ e) (le_refl _) ?_,U,q _ hf⟩;exact⟨z,us,r,⟨_,Heap.get?_push_size _ U,U,_,U⟩⟩
theorem bf(h:PA X es t):PE X (.List es pos) (zc t):=by
 intro pins s σ H Q I hq;refine wpAny_List_spliced (thn (h pos pins s σ H _ I hq) λus s1 ⟨xs,H1,I1,r,z,q⟩=>⟨by rw[←r.length];exact z,?_⟩);have hf:H1 s1.heap.objs.size=none:=I1.hok.fresh (le_refl _);refine⟨.ref s1.heap.objs.size,upd H1 s1.heap.objs.size (.lst xs),I1.laid (t':=s1.toks) (λb u e=>Heap.get?_push_of_some _ e) (le_refl _) ?_,U,q _ hf⟩;exact⟨z,us,0,r,Heap.get?_push_size _ U⟩
abbrev Sp:=List V->Hp->VK->XK->Prop
abbrev CXT:=List Env->Hp->Shared->XK->Value->Shared->Prop
structure oh(P:Program)(w:World)(K:W.Frag)(mg:Str->Option Value)(base:Heap)(A:Around)(outer:List Env)(s:Shared)(H:Hp):Prop where
 frames:A.frames=some outer
 mod:Mod K mg base
 bs:∀b o,base.get? b=some o->s.heap.get? b=some o/\H b=none
 bsz:base.objs.size<=s.heap.objs.size
 funs:s.heap.FunFrames base outer
 frf:∀b∈frs outer,H b=none
 hok:HOk P w H s.heap
 bare:AllBare s.gens
def CE(outer:List Env)(P:Program)(w:World)(H:Hp)(s:Shared)(Q:VK)(u:Value)(s':Shared):Prop :=
 ∃v H',s'.os=s.os/\AllBare s'.gens/\Un (frs outer) [] H H' s.heap s'.heap/\HOk P w H' s'.heap/\RelV v u/\Q v H'
def CR(CX:CXT)(outer:List Env)(P:Program)(w:World)(H:Hp)(s:Shared)(Q:VK)(E:XK)(r:Result)(s':Shared):Prop :=
 match r with
 | .ok (.ret u)=>CE outer P w H s Q u s'
 | .ok _=>False
 | .error e=>CX outer H s E e s'
structure aK(P:Program)(w:World)(K:W.Frag)(mg:Str->Option Value)(base:Heap)(CX:CXT)(k:Nat)(f:Addr)(fd:FuncData)(ps:List Str)(sp:Sp):Prop where
 len:∀vs H Q E,sp vs H Q E->vs.length=ps.length
 run:∀(A:Around)(outer:List Env)(s:Shared)(H:Hp)(args:Args)(us:List Value)(vs:List V)(Q:VK)(E:XK),bT k A->oh P w K mg base A outer s H->BindsTo s fd args (ps.zip us)->Vals vs us->sp vs H Q E ->
  codeAny (model P w) A (.call (.ref f) args) (CR CX outer P w H s Q E) s
theorem aK.mono{P:Program}{w:World}{K:W.Frag}{mg:Str->Option Value}{base:Heap}{CX:CXT}{j k:Nat}{f:Addr}{fd:FuncData}{ps:List Str}{sp:Sp}(F:aK P w K mg base CX j f fd ps sp)(h:j<=k) :
  aK P w K mg base CX k f fd ps sp:=⟨F.len,λA outer s H args us vs Q E hr=>F.run A outer s H args us vs Q E (hr.mono h)⟩
theorem oh.make{P:Program}{w:World}{K:W.Frag}{mg:Str->Option Value}{base:Heap}{A:Around}{outer:List Env}{s:Shared}{H:Hp}(e:oh P w K mg base A outer s H)(C:Addr)(us:List Value)(kw:List (Str×Value)) :
  oh P w K mg base (A.under (.builtin "type.__call__" ⟨.ref C :: us,kw⟩)) outer s H:=⟨by first|exact e.frames|(simpa[Around.under,Code.envs,Code.isFrame,pushEnvs]using e.frames),e.mod,e.bs,e.bsz,e.funs,e.frf,e.hok,e.bare⟩
section
variable{s':Shared}
theorem Inv.env0(I:Inv X pins σ H s):oh X.prog X.w X.K X.mg X.base X.A X.stack s H :=
 ⟨I.ok.frames,I.ok.mod,I.bs,le_trans I.ok.bsz I.sz,I.stack,I.stkFree,I.hok,I.bare⟩
theorem Inv.after{Q:VK}{u:Value}(I:Inv X pins σ H s)(h:CE X.stack X.prog X.w H s Q u s'):EP X pins σ Q u s':=by
 obtain⟨v,H',os,bare,un,hok,r,q⟩:=h;obtain⟨hh,g,d,t,os'⟩:=s';obtain rfl:os'=s.os:=os;exact⟨v,H',I.call (h':=hh) (g':=g) (d':=d) (t':=t) (ch:=[]) un hok bare (λb z=>absurd z (by simp)),r,q⟩
end
def xE(sp:Sp)(dvs:List V)(E:XK)(t:TA):TE:=λσ H Q=>t σ H λvs H1=>sp (vs++dvs) H1 Q E
def uW(C:Addr)(sp:Sp)(dvs:List V)(E:XK)(t:TA):TE:=λσ H Q=>t σ H λvs H1=>∀x dx,H1 x=none->H1 dx=none->dx≠x ->
 sp (.ref x :: (vs++dvs)) (upd (upd H1 dx (.own x)) x (.ins C dx [])) (λv H2=>v=.non/\Q (.ref x) H2) E
def Binds(K:W.Frag)(fd:FuncData)(ps:List Str)(ds:List Value):Prop :=
 ∀(s:Shared)(us:List Value),K.In s.heap->(us++ds).length=ps.length->BindsTo s fd ⟨us,[]⟩ (ps.zip (us++ds))
theorem Binds.all{K:W.Frag}{fd:FuncData}{ps:List Str}(h:∀us:List Value,us.length=ps.length->bindArgs fd ⟨us,[]⟩=pure (ps.zip us)):Binds K fd ps []:=λs us _ hl=>by
 rw[append_nil]at hl⊢;exact .of_eq (h us hl)
def Passes(CX:CXT)(X:Cx)(E:XK):Prop:=∀(pins:List (Addr×Obj))(σ:St)(H:Hp)(s:Shared)(e:Value)(s':Shared),Inv X pins σ H s->CX X.stack H s E e s'->X.xe e s'
variable{p:Pos}
section
variable{CX:CXT}{k:Nat}{fd:FuncData}{ps:List Str}{sp:Sp}{dvs:List V}{ds:List Value}{E:XK}{x m:Str}{apos:Pos}
theorem pU{pins:List (Addr×Obj)}{σ:St}{H:Hp}{s:Shared}{Q:VK}{us:List Value}{vs:List V}(F:aK X.prog X.w X.K X.mg X.base CX k f fd ps sp)(hr:bT k X.A)(hb:Binds X.K fd ps ds)(hd:Vals dvs ds)(hx:Passes CX X E)
  (I:Inv X pins σ H s)(r:Vals vs us)(h:sp (vs++dvs) H Q E):wpAny (model X.prog X.w) X.A (call (.ref f) us) (EP X pins σ Q) X.xe s:=by
 have r2:Vals (vs++dvs) (us++ds):=r.append hd;have hl:(us++ds).length=ps.length:=by rw[←r2.length];exact F.len _ _ _ _ h
 refine wpAny_call (codeAny_mono (F.run X.A X.stack s H ⟨us,[]⟩ (us++ds) (vs++dvs) Q E hr I.env0 (hb s us I.kIn hl) r2 h) λr s' hq=>?_);cases r with
 |error e=>exact hx pins σ H s e s' I hq
 |ok fl =>
  cases fl with
  |ret u=>exact I.after hq
  |next=>exact False.elim hq
  |brk=>exact False.elim hq
  |cont=>exact False.elim hq
theorem uh(F:aK X.prog X.w X.K X.mg X.base CX k f fd ps sp)(hr:bT k X.A)(hg:Gl X x)(hm:X.mg x=some (.ref f))(hk:W.keepIn X.K (.ref f)=true)(hb:Binds X.K fd ps ds)(hd:Vals dvs ds)(hx:Passes CX X E)
  (ha:PA X (e :: es) t)(hdb:(x == ("__debug__" : Str))=false:=by decide) (he:starEach (e :: es) X.env=(false,eval e X.env) :: starEach es X.env:=by rfl)(hpl:(backTo pos (starEach es X.env)).any (·.1)=false:=by rfl) :
  PE X (.Call (.Name x p) (e :: es) [] pos) (xE sp dvs E t):=by
 intro pins s σ H Q I h;refine wpAny_Call_Name_kw (gJ I hg hm ?_ hdb);refine W.callWith_K (h₀:=X.base) I.ok.mod.kin hk (thn (ha pos pins s σ H _ I h) λus s1 ⟨vs,H1,I1,r,q⟩=>⟨I1.kIn,?_⟩) he hpl;exact pU F hr hb hd hx I1 r q
structure Mk(K:W.Frag)(C f:Addr):Prop where
 makes:W.makesIn K C=true
 init:W.findIn K (.ref C) "__init__" = some (some (.ref f))
 fn:W.isFn K (.ref f)=true
 kp:W.keepIn K (.ref C)=true
theorem oi{pins:List (Addr×Obj)}{σ:St}{H:Hp}{s:Shared}{Q:VK}{us:List Value}{vs:List V}(M:Mk X.K C f)(F:aK X.prog X.w X.K X.mg X.base CX k f fd ps sp)(hr:bT (k+1) X.A)(hb:Binds X.K fd ps ds)(hd:Vals dvs ds)
  (hx:Passes CX X E)(I:Inv X pins σ H s)(r:Vals vs us)
  (h:∀x dx,H x=none->H dx=none->dx≠x->sp (.ref x :: (vs++dvs)) (upd (upd H dx (.own x)) x (.ins C dx [])) (λv H2=>v=.non/\Q (.ref x) H2) E) :
  wpAny (model X.prog X.w) X.A (call (.ref C) us) (EP X pins σ Q) X.xe s:=by
 have hq:=h (s.heap.objs.size+1) s.heap.objs.size (I.hok.fresh (le_succ _)) (I.hok.fresh (le_refl _)) (ne_of_lt (lt_succ_self _));have I2:=Inv.made (C:=C) I;have r2:Vals (V.ref (s.heap.objs.size+1) :: (vs++dvs)) (Value.ref (s.heap.objs.size+1) :: (us++ds)):=.cons U (r.append hd);have hl:(Value.ref (s.heap.objs.size+1) :: us++ds).length=ps.length:=by
  have e:=r2.length;rw[F.len _ _ _ _ hq]at e;exact e.symm
 refine wpAny_call (sE (f:=f) I.kIn M.makes M.init (beq_iff_eq.mp M.fn) (codeAny_mono (F.run _ X.stack _ _ ⟨Value.ref (s.heap.objs.size+1) :: us,[]⟩ (Value.ref (s.heap.objs.size+1) :: (us++ds)) _ _ E (hr.make C us [])
  (I2.env0.make C us []) (hb _ (Value.ref (s.heap.objs.size+1) :: us) I2.kIn hl) r2 hq) λr s' hq'=>?_))
 cases r with
 |error e=>exact hx pins σ _ _ e s' I2 hq'
 |ok fl =>
  cases fl with
  |ret u =>
   obtain⟨v,H',I3,rv,ev,q3⟩:=I2.after hq';subst ev;exact⟨rv,⟨V.ref (s.heap.objs.size+1),H',I3,U,q3⟩⟩
  |next=>exact False.elim hq'
  |brk=>exact False.elim hq'
  |cont=>exact False.elim hq'
theorem ui(M:Mk X.K C f)(F:aK X.prog X.w X.K X.mg X.base CX k f fd ps sp)(hr:bT (k+1) X.A)(hg:Gl X x)(hm:X.mg x=some (.ref C))(hb:Binds X.K fd ps ds)(hd:Vals dvs ds)(hx:Passes CX X E)
  (ha:PA X (e :: es) t)(hdb:(x == ("__debug__" : Str))=false:=by decide) (he:starEach (e :: es) X.env=(false,eval e X.env) :: starEach es X.env:=by rfl)(hpl:(backTo pos (starEach es X.env)).any (·.1)=false:=by rfl) :
  PE X (.Call (.Name x p) (e :: es) [] pos) (uW C sp dvs E t):=by
 intro pins s σ H Q I h;refine wpAny_Call_Name_kw (gJ I hg hm ?_ hdb);refine W.callWith_K (h₀:=X.base) I.ok.mod.kin M.kp (thn (ha pos pins s σ H _ I h) λus s1 ⟨vs,H1,I1,r,q⟩=>⟨I1.kIn,?_⟩) he hpl;exact oi M F hr hb hd hx I1 r q
theorem sG(M:Mk X.K C f)(F:aK X.prog X.w X.K X.mg X.base CX k f fd ps sp)(hr:bT (k+1) X.A)(hg:Gl X x)(hm:X.mg x=some (.ref C))(hb:Binds X.K fd ps ds)(hd:Vals dvs ds)(hx:Passes CX X E)
  (hdb:(x == ("__debug__" : Str))=false:=by decide):PE X (.Call (.Name x p) [] [] pos) (uW C sp dvs E vW):=by
 intro pins s σ H Q I h;refine wpAny_Call_Name_kw (gJ I hg hm ?_ hdb);exact W.callWith_K0 I.kIn M.kp (oi (us:=[]) M F hr hb hd hx I .nil h)
end
section
variable{CX:CXT}{k:Nat}{fd:FuncData}{ps ks:List Str}{sp:Sp}{E:XK}{x m:Str}{apos Bu:Pos}{kws:List Keyword}{tk:TA}{nm:Option Str}
structure zd(K:W.Frag)(fd:FuncData)(ps ks:List Str)(g:List Value->List Value->List Value)(gV:List V->List V->List V):Prop where
 to:∀(s:Shared)(us ws:List Value),K.In s.heap->(g us ws).length=ps.length->BindsTo s fd ⟨us,ks.zip ws⟩ (ps.zip (g us ws))
 rel:∀{vs:List V}{us:List Value}{zs:List V}{ws:List Value},Vals vs us->Vals zs ws->Vals (gV vs zs) (g us ws)
variable{g:List Value->List Value->List Value}{gV:List V->List V->List V}
end
structure ao(N P:List Str)(sc:Scope):Prop where
 kind:sc.kind=.function
 co:sc.isCoroutine=false
 gen:sc.isGenerator=false
 nd:N.Nodup
 pre:N.take P.length=P
 par:∀x∈P,sc.names.lookup x=some .local\/sc.names.lookup x=some .cell
 nofree:∀y∈sc.names,y.2≠.free
theorem mh{kindOf:Str->Option NameKind}{x:Str}:∀{binds:List (Str×Value)}{m:Str->Option Value},(∀v,(x,v) ∉ binds)->bindL kindOf binds m x=m x
 | [],_,_=>rfl
 |(n,v) :: r,m,h=>by
  unfold bindL;rw[mh λw hw=>h w (mem_cons_of_mem _ hw)];split
  ·have:x≠n:=by rintro rfl;exact h v mem_cons_self
   simp[this]
  ·rfl
theorem mi{kindOf:Str->Option NameKind}{x:Str}:∀{binds:List (Str×Value)}{m:Str->Option Value},(∀v,(x,v) ∉ binds)->bindC kindOf binds m x=m x
 | [],_,_=>rfl
 |(n,v) :: r,m,h=>by
  unfold bindC;rw[mi λw hw=>h w (mem_cons_of_mem _ hw)];split
  ·rfl
  ·have:x≠n:=by rintro rfl;exact h v mem_cons_self
   simp[this]
theorem mj{kindOf:Str->Option NameKind}{x:Str}{v:Value}:∀{P:List Str}{vs:List Value}{i:Nat}{m:Str->Option Value},P.Nodup->P[i]?=some x->vs[i]?=some v->kindOf x=some .local ->
  bindL kindOf (P.zip vs) m x=some v
 | [],_,_,_,_,h,_,_=>by simp at h
 |_ :: _,[],_,_,_,_,h,_=>by simp at h
 |p :: P,w :: vs,0,m,nd,h1,h2,hk=>by
  simp at h1 h2;subst h1;subst h2;show bindL kindOf ((p,w) :: P.zip vs) m p=_;unfold bindL;rw[mh λv hv=>(nodup_cons.mp nd).1 (of_mem_zip hv).1,if_pos hk];simp
 |p :: P,w :: vs,i+1,m,nd,h1,h2,hk=>by
  show bindL kindOf ((p,w) :: P.zip vs) m x=_;unfold bindL;exact mj (i:=i) (nodup_cons.mp nd).2 (by simpa using h1) (by simpa using h2) hk
theorem ml{kindOf:Str->Option NameKind}{x:Str}{v:Value}:∀{P:List Str}{vs:List Value}{i:Nat}{m:Str->Option Value},P.Nodup->P[i]?=some x->vs[i]?=some v->kindOf x≠some .local ->
  bindC kindOf (P.zip vs) m x=some v
 | [],_,_,_,_,h,_,_=>by simp at h
 |_ :: _,[],_,_,_,_,h,_=>by simp at h
 |p :: P,w :: vs,0,m,nd,h1,h2,hk=>by
  simp at h1 h2;subst h1;subst h2;show bindC kindOf ((p,w) :: P.zip vs) m p=_;unfold bindC;rw[mi λv hv=>(nodup_cons.mp nd).1 (of_mem_zip hv).1,if_neg hk];simp
 |p :: P,w :: vs,i+1,m,nd,h1,h2,hk=>by
  show bindC kindOf ((p,w) :: P.zip vs) m x=_;unfold bindC;exact ml (i:=i) (nodup_cons.mp nd).2 (by simpa using h1) (by simpa using h2) hk
def start(N:List Str)(vs:List V):St:=vs.map some++List.replicate (N.length-vs.length) none
def oj(CX:CXT)(P:Program)(w:World)(K:W.Frag)(mg:Str->Option Value)(base:Heap)(N:List Str)(qual:Str)(scope:Scope)(f:Addr)(cd:Value)(A:Around)(outer:List Env)(s:Shared)(H:Hp)(E:XK):Cx where
 prog:=P
 w:=w
 K:=K
 mg:=mg
 base:=base
 A:=A.deeper (envOfC qual scope s.heap.objs.size f cd)
 N:=N
 s₀:=s
 H₀:=H
 env:=envOfC qual scope s.heap.objs.size f cd
 outer:=outer
 stack:=envOfC qual scope s.heap.objs.size f cd :: outer
 ex:=[]
 calm:=true
 fn:=λ_=>true
 pn:=[]
 xe:=λe s'=>wpAny (model P w) (A.deeper (envOfC qual scope s.heap.objs.size f cd)) (leaving (envOfC qual scope s.heap.objs.size f cd) e) (λ_ s''=>CX outer H s E e s'') (λe' s''=>CX outer H s E e' s'') s'
theorem om{sc:Scope}{n:Nat}{x:Str}(h:sc.names.lookup x=some .cell):∃c,(cellsFrom n sc.names []).lookup x=some c:=by
 have q:=W.cellsFrom_some sc.names n [] (.inl h);exact isSome_iff_exists.mp q
theorem qZ{CX:CXT}{P:Program}{w:World}{K:W.Frag}{mg:Str->Option Value}{base:Heap}{N ps:List Str}{qual:Str}{scope:Scope}{f:Addr}{cd:Value}{A:Around}{outer:List Env}{s s1:Shared}{H:Hp}{E:XK}{us:List Value}{vs:List V}
  (S:ao N ps scope)(hd:A.handled=none)(e0:oh P w K mg base A outer s H)(hl:vs.length=ps.length)(r:Vals vs us)
  (x:InCallC s s.heap.objs.size (bindL (envOfC qual scope s.heap.objs.size f cd).kindOf (ps.zip us) λ_=>none) (cellsFrom (s.heap.objs.size+1) scope.names []) (bindC (envOfC qual scope s.heap.objs.size f cd).kindOf (ps.zip us) λ_=>none) s1) :
  Inv (oj CX P w K mg base N qual scope f cd A outer s H E) [] (start N vs) H s1:=by
 have hpl:ps.length<=N.length:=by have:=congrArg List.length S.pre;rw[length_take]at this;lia
 obtain⟨h1,tk,rfl,hk⟩:=x.done;have noA:∀b:Addr,b ∉ (oj CX P w K mg base N qual scope f cd A outer s H E).ex:=λb z=>absurd (show b∈([]:List Addr)from z) (by simp)
 refine⟨⟨e0.mod,S.kind,U,U,le_refl _,λy z c h1 h2=>?_,λy hy=>?_,λy c _ h=>?_,λ_=>hd,Around.frames_deeper e0.frames,.inr ⟨U,U⟩,λb z=>absurd z (noA b),e0.bs,e0.bsz,λb _ _=>noA b,λb z=>absurd z (noA b),e0.funs,e0.frf⟩,
  rfl,e0.bare,Un.kept hk,⟨_,x.toInCall.ns,λi y v h1 h2 h3=>?_⟩,λy c h=>⟨_,x.cell y c h⟩,e0.hok.fresh (le_refl _),λy c h=>?_,λp hp=>absurd (show p∈([]:List (Addr×Obj))from hp) (by simp),e0.hok.kept hk,?_⟩
 ·exact name_of_addr x.apart (mem_of_lookup h1) (mem_of_lookup h2)
 ·have hy:scope.names.lookup y=some .cell\/scope.names.lookup y=some .free:=hy;rcases hy with hy|hy
  ·exact om hy
  ·exact absurd U (S.nofree _ (mem_of_lookup hy))
 ·exact le_of_lt (x.above y c (mem_of_lookup h))
 ·have hi:i<vs.length:=by
   unfold start at h2;by_cases hi:i<vs.length
   ·exact hi
   ·rw[getElem?_append_right (by simpa using hi)]at h2;rw[List.getElem?_replicate]at h2;split at h2 <;> cases h2
  have ha:vs[i]?=some v:=by
   unfold start at h2;rw[getElem?_append_left (by simpa using hi),getElem?_map]at h2;cases e:vs[i]? with
   |none=>rw[e]at h2;cases h2
   |some a=>rw[e]at h2;cases h2;rfl
  obtain⟨u,hu,rv⟩:=r.get ha;have hp:ps[i]?=some y:=by
   rw[←S.pre,List.getElem?_take_of_lt (by lia)];exact h1
  have ndP:ps.Nodup:=by rw[←S.pre];exact S.nd.sublist (take_sublist _ _)
  refine⟨u,rv,?_⟩;rcases S.par y (BR hp)with k|k
  ·exact .inl ⟨k,mj ndP hp hu k⟩
  ·obtain⟨c,e⟩:=om (n:=s.heap.objs.size+1) k;refine .inr ⟨.inl k,c,e,?_⟩;have q:=x.cell y c e;rw[ml ndP hp hu (by show scope.names.lookup y≠_;rw[k];decide)]at q;exact q
 ·exact e0.hok.fresh (le_of_lt (x.above y c (mem_of_lookup h)))
 ·unfold start;show _=N.length;rw[length_append,length_map,length_replicate];lia
theorem uX{CX:CXT}{P:Program}{w:World}{K:W.Frag}{mg:Str->Option Value}{base:Heap}{k:Nat}{f:Addr}{name qual:Str}{params:Arguments}{body:List Stmt}{scope:Scope}{dV kV doc pm cdv ct oc:Value}{an od:Option Addr}
  {osl:Array (Option Value)}{N ps:List Str}{sp:Sp}(lk:K.lookup f=some ⟨oc,od,.func (W.fnOf name qual params body scope dV kV doc pm an cdv ct),osl⟩)(hcd:W.codeIn K cdv qual=true)(S:ao N ps scope)
  (len:∀vs H Q E,sp vs H Q E->vs.length=ps.length)
  (gk:∀(A:Around)(outer:List Env)(s:Shared)(H:Hp)(vs:List V)(Q:VK)(E:XK),bT k (A.deeper (envOfC qual scope s.heap.objs.size f cdv))->sp vs H Q E ->
   ∃t,PSs (oj CX P w K mg base N qual scope f cdv A outer s H E) body t/\t { nx:=λ_ H'=>Q .non H',rt:=Q } (start N vs) H) :
  aK P w K mg base CX (k+1) f (W.fnOf name qual params body scope dV kV doc pm an cdv ct) ps sp:=by
 refine⟨len,λA outer s H args us vs Q E hr e0 hb r hsp=>?_⟩;have hl:=len _ _ _ _ hsp;have KX:K.In s.heap:=e0.mod.kin.keeps λb o e=>(e0.bs b o e).1
 have lim:s.heap.NoLimit:=e0.mod.nolimit.keeps λb o e=>(e0.bs b o e).1
 have xF:∀y∈ps.zip us,scope.names.lookup y.1=some .local\/(scope.names.lookup y.1=some .cell/\((cellsFrom (s.heap.objs.size+1) scope.names []).lookup y.1).isSome=true):=λ⟨n,v⟩ hy=>by
  rcases S.par n (of_mem_zip hy).1 with q|q
  ·exact .inl q
  ·exact .inr ⟨q,W.cellsFrom_some _ _ _ (.inl q)⟩
 refine codeAny_call_function hr.depth (KX _ _ lk) U S.co S.gen U (W.codeRec_of KX hcd) (hb _ _ _ _ ?_);refine wpAny_newFunctionEnv_cells S.kind xF λenv he s1 x=>?_
 subst he;refine⟨lim.keeps x.toInCall.keep,codeAny_func ?_⟩;obtain⟨t,ht,hq⟩:=gk A outer s H vs Q E (hr.deeper _) hsp;have I:Inv (oj CX P w K mg base N qual scope f cdv A outer s H E) [] (start N vs) H s1:=qZ S hr.hd e0 hl r x;refine wpAny_mono (ht [] s1 (start N vs) H _ I hq) (λfl s' hs=>?_) λe s' hs=>hs
 have fin:∀{σ':St}{H':Hp}{v:V}{u:Value},Inv (oj CX P w K mg base N qual scope f cdv A outer s H E) [] σ' H' s'->RelV v u->Q v H'->CE outer P w H s Q u s' :=
  λ{σ' H' v u} J rv q=>⟨v,H',J.os,J.bare,J.base,J.hok,rv,q⟩
 cases fl with
 |ret u =>
  obtain⟨v,σ',H',J,rv,q⟩:=hs;exact fin J rv q
 |next =>
  obtain⟨σ',H',J,q⟩:=hs;exact fin (v:=V.non) (u:=Value.none) J U q
 |brk =>
  obtain⟨_,_,_,q⟩:=hs;exact False.elim q
 |cont =>
  obtain⟨_,_,_,q⟩:=hs;exact False.elim q
section
variable{x:Str}{id T:String}{r:List V->Hp->VK->Prop}
def tCB(r:List V->Hp->VK->Prop)(t:TA):TE:=λσ H Q=>t σ H λvs H1=>r vs H1 Q
theorem aq(hc:cO X (.builtin id) r)(hg:Gl X x)(hm:X.mg x=none)(hv:bootBuiltins x=some (.builtin id))(ha:PA X (e :: es) t)(hn:x ≠ "__name__" := by decide) (hdb:(x == ("__debug__" : Str))=false:=by decide)
  (he:starEach (e :: es) X.env=(false,eval e X.env) :: starEach es X.env:=by rfl)(hpl:(backTo pos (starEach es X.env)).any (·.1)=false:=by rfl):PE X (.Call (.Name x p) (e :: es) [] pos) (tCB r t):=by
 intro pins s σ H Q I h;refine wpAny_Call_Name_kw (jo I hg hm hv ?_ hn hdb);exact PyProof.Rows.callWith_builtin1 (thn (ha pos pins s σ H _ I h) λus s1 ⟨vs,H1,I1,r1,q1⟩=>hc pins s1 σ H1 vs us Q I1 r1 q1) he hpl
theorem cw(hc:cO X (.type T) r)(hg:Gl X x)(hm:X.mg x=none)(hv:bootBuiltins x=some (.type T))(ha:PA X (e :: es) t)(hn:x ≠ "__name__" := by decide) (hdb:(x == ("__debug__" : Str))=false:=by decide)
  (he:starEach (e :: es) X.env=(false,eval e X.env) :: starEach es X.env:=by rfl)(hpl:(backTo pos (starEach es X.env)).any (·.1)=false:=by rfl):PE X (.Call (.Name x p) (e :: es) [] pos) (tCB r t):=by
 intro pins s σ H Q I h;refine wpAny_Call_Name_kw (jo I hg hm hv ?_ hn hdb);exact PyProof.Rows.callWith_type1 (thn (ha pos pins s σ H _ I h) λus s1 ⟨vs,H1,I1,r1,q1⟩=>hc pins s1 σ H1 vs us Q I1 r1 q1) he hpl
end
end L2
namespace HT
open PySem PyProof.Rows
section
open PySem.SeqAt
open PySem.AutoSeq1 (wpAny_loadPart')
open PySem.MeetsSeq PySem.MeetsSeq2 PySem.MeetsSeq3
end
section
variable{prog:Program}{w:World}{A:Around}{E:Value->Shared->Prop}{s:Shared}
def sIx(n d:Nat):Option Int->Nat
 |none=>d
 |some v=>if v<0 then(v+(n:Int)).toNat else min v.toNat n
end
end HT
namespace L2
open PySem PySem.Spec PyProof.Rows
abbrev TO:=St->Hp->(Option Int->Hp->Prop)->Prop
def PO(X:Cx)(e:Option Expr)(t:TO):Prop :=
 ∀(pins:List (Addr×Obj))(s:Shared)(σ:St)(H:Hp)(Q:Option Int->Hp->Prop),Inv X pins σ H s->t σ H Q ->
  wpAny (model X.prog X.w) X.A (evalPart e X.env) (λu s'=>∃o H',Inv X pins σ H' s'/\IsPart u o/\Q o H') X.xe s
def uj:TO:=λ_ H Q=>Q none H
inductive sH  (Q:Option Int->Hp->Prop)(x:V)(H1:Hp):Prop
 |mk (i:_)(_:x=.int i)(_:Q (some i) H1):sH Q x H1
def xG(t:TE):TO:=λσ H Q=>t σ H λx H1=>sH Q x H1
variable{X:Cx}
section
variable{e:Expr}{te:TE}{lo hi:Option Expr}{tl th:TO}{pos p2:Pos}
theorem di:PO X none uj:=by
 intro pins s σ H Q I h;rw[evalPart_none];exact wpAny_pure ⟨none,H,I,.none,h⟩
theorem dj(h:PE X e te):PO X (some e) (xG te):=by
 intro pins s σ H Q I hw;rw[evalPart_some];refine thn (h pins s σ H _ I hw) λu s1 ⟨x,H1,I1,r1,q1⟩=>?_
 obtain⟨i,rfl,q⟩:=q1;obtain⟨t,rfl⟩:=r1;exact⟨some i,H1,I1,.int i t,q⟩
def SlR(X:Cx)(r:V->Option Int->Option Int->Hp->VK->Prop):Prop :=
 ∀(pins:List (Addr×Obj))(s:Shared)(σ:St)(H:Hp)(x:V)(v vl vu:Value)(lo hi:Option Int)(sl:Addr)(Q:VK),Inv X pins σ H s->RelV x v->s.heap.IsSliceOf sl vl vu .none->IsPart vl lo->IsPart vu hi->r x lo hi H Q ->
  ∃T id,typeLookup (.type T) "__getitem__" = pure (some (.builtin id))/\s.TypeIs v T/\wpAny (model X.prog X.w) X.A (getItem v (.ref sl)) (EP X pins σ Q) X.xe s
def tSl(r:V->Option Int->Option Int->Hp->VK->Prop)(te:TE)(tl th:TO):TE:=λσ H Q=>te σ H λx H1=>tl σ H1 λl H2=>th σ H2 λu H3=>r x l u H3 Q
theorem cE{r:V->Option Int->Option Int->Hp->VK->Prop}(hr:SlR X r)(he:PE X e te)(hl:PO X lo tl)(hu:PO X hi th):PE X (.Subscript e (.Slice lo hi none p2) pos) (tSl r te tl th):=by
 intro pins s σ H Q I h;refine Subscript_ (thn (he pins s σ H _ I h) λv s1 ⟨x,H1,I1,r1,q1⟩=>?_);refine wpAny_Slice (thn (hl pins s1 σ H1 _ I1 q1) λvl s2 ⟨l,H2,I2,pl,q2⟩=>thn (hu pins s2 σ H2 _ I2 q2) λvu s3 ⟨u,H3,I3,pu,q3⟩=>?_);rw[evalPart_none];refine wpAny_pure ?_;have I4:Inv X pins σ H3 { s3 with heap:=s3.heap.push { cls:=.type "slice",data:=.fields #[vl,vu,.none] } }:=I3.kept (t':=s3.toks) λb ob q=>Heap.get?_push_of_some _ q
 obtain⟨T,id,hT,ht,hg⟩:=hr pins { s3 with heap:=s3.heap.push { cls:=.type "slice",data:=.fields #[vl,vu,.none] } } σ H3 x v vl vu l u s3.heap.objs.size Q I4 r1 (Heap.IsSliceOf.new ..) pl pu q3;show wpAny (model X.prog X.w) X.A (subscriptTail e (.Slice lo hi none p2) v (.ref s3.heap.objs.size)) (EP X pins σ Q) X.xe { s3 with heap:=s3.heap.push { cls:=.type "slice",data:=.fields #[vl,vu,.none] } };exact tail_any (ops:=[.ref s3.heap.objs.size,v]) ht hT hg (by with_unfolding_all rfl)
def jZ(xs:List V)(lo hi:Option Int):List V:=(xs.drop (HT.sIx xs.length 0 lo)).take (HT.sIx xs.length xs.length hi-HT.sIx xs.length 0 lo)
theorem oo(xs:List V)(lo hi:Option Int):(jZ xs lo hi).length<=xs.length:=by
 unfold jZ;rw[length_take,length_drop];lia
end
def ixN(n:Nat)(i:Int):Option Nat:=if 0<=i then(if i<n then some i.toNat else none)else if -(n:Int)<=i then some (i+n).toNat else none
def atI{α:Type}(xs:List α)(i:Int):Option α:=(ixN xs.length i).bind λj=>xs[j]?
theorem qA{n:Nat}{i:Int}{j:Nat}(h:ixN n i=some j):seqIndex? i n=some j/\j<n/\-(n:Int)<=i/\i<n:=by
 unfold ixN at h;by_cases h0:0<=i
 ·rw[if_pos h0]at h;by_cases h1:i<n
  ·rw[if_pos h1]at h;have e:i.toNat=j:=Option.some.inj h;exact⟨by rw[seqIndex_of h0 h1,e],by lia,by lia,h1⟩
  ·rw[if_neg h1]at h;cases h
 ·rw[if_neg h0]at h;by_cases h1 : -(n:Int)<=i
  ·rw[if_pos h1]at h;have e:(i+n).toNat=j:=Option.some.inj h;exact⟨by rw[seqIndex_neg (by lia) h1,e],by lia,h1,by lia⟩
  ·rw[if_neg h1]at h;cases h
theorem mW{α:Type}{xs:List α}{i:Int}{v:α}(h:atI xs i=some v):∃j,seqIndex? i xs.length=some j/\xs[j]?=some v/\j<xs.length/\-(xs.length:Int)<=i/\i<xs.length:=by
 unfold atI at h;cases e:ixN xs.length i with
 |none=>rw[e]at h;cases h
 |some j =>
  rw[e]at h;obtain⟨h1,h2,h3,h4⟩:=qA e;exact⟨j,h1,h,h2,h3,h4⟩
theorem ba{α:Type}{xs:List α}{j:Nat}{v:α}(h:xs[j]?=some v):atI xs (j:Int)=some v:=by
 have hj:j<xs.length:=(BQ.mp h).1;have e:ixN xs.length (j:Int)=some j:=by
  unfold ixN;rw[if_pos (by lia),if_pos (by lia)];simp
 unfold atI;rw[e];exact h
theorem cQ{α:Type}(xs:List α)(v:α):atI (xs++[v]) (-1)=some v:=by
 have hl:(xs++[v]).length=xs.length+1:=by simp
 have e:ixN (xs++[v]).length (-1)=some xs.length:=by
  unfold ixN;rw[hl,if_neg (by decide),if_pos (by lia)]
  congr 1
  lia
 unfold atI;rw[e];show(xs++[v])[xs.length]?=some v;simp
def uk(b:Expr):Prop:=∀o i,subscripted b false o i=operate [o,i] (getItem o i)
def IxR(X:Cx)(r:R2):Prop :=
 ∀(value slice:Expr)(pins:List (Addr×Obj))(s:Shared)(σ:St)(H:Hp)(x y:V)(v u:Value)(Q:VK),Inv X pins σ H s->RelV x v->RelV y u->r x y H Q ->
  subscripted slice false v u=operate [v,u] (getItem v u)->wpAny (model X.prog X.w) X.A (subscriptTail value slice v u) (EP X pins σ Q) X.xe s
def MtR(X:Cx)(id:String)(r:V->List V->Hp->VK->Prop):Prop :=
 ∀(pins:List (Addr×Obj))(s:Shared)(σ:St)(H:Hp)(x:V)(xs:List V)(v:Value)(us:List Value)(Q:VK),Inv X pins σ H s->RelV x v->Vals xs us->r x xs H Q ->
  wpAny (model X.prog X.w) X.A (call (.builtin id) (v :: us)) (EP X pins σ Q) X.xe s
section
variable{a b:Expr}{ta tb:TE}{pos:Pos}
theorem aw{r:R2}(hr:IxR X r)(ha:PE X a ta)(hb:PE X b tb)(hs:uk b):PE X (.Subscript a b pos) (tOp r ta tb):=by
 intro pins s σ H Q I h;exact Subscript_ (vO ha hb I h λv u s2 x y H2 I2 rx ry q=>hr a b pins s2 σ H2 x y v u Q I2 rx ry q (hs _ _))
inductive vX(K:W.Frag)(x:V)(y:V)(H:Hp)(Q:VK):Prop
 |mk (p xs i v:_)(_:x=.ref p)(_:y=.int i)(_:SqL K H p xs)(_:atI xs i=some v)(_:Q v H):vX K x y H Q
inductive vY(K:W.Frag)(x:V)(y:V)(H:Hp)(Q:VK):Prop
 |mk (p xs i v:_)(_:x=.ref p)(_:y=.int i)(_:SqT K H p xs)(_:atI xs i=some v)(_:Q v H):vY K x y H Q
inductive xH  (x:V)(y:V)(H:Hp)(Q:VK):Prop
 |mk (z i c:_)(_:x=.str z)(_:y=.int i)(_:z.length<=sizeLine)(_:atI z.cps.toList i=some c)(_:Q (.str ⟨#[c]⟩) H):xH x y H Q
theorem aD:IxR X (vX X.K):=by
 intro value slice pins s σ H x y v u Q I rx ry h hs;obtain⟨p,xs,i,z,rfl,rfl,hq,he,q⟩:=h;cases rx;obtain⟨t,rfl⟩:=ry;obtain⟨its,r,pl,hz⟩:=I.list hq;obtain⟨j,h1,h2,h3,h4,h5⟩:=mW he;obtain⟨w,ew,rw'⟩:=r.get h2;have hl:=r.length;have hn:=iu;have fin:EP X pins σ Q w s:=⟨z,H,I,rw',q⟩;by_cases h0:0<=i
 ·have hj:i.toNat=j:=by
   rw[seqIndex_of h0 h5]at h1;exact Option.some.inj h1
  exact item_listR pl.isList h0 (by lia) (by rw[hj];simpa using ew) fin hs
 ·have hj:(i+(its.toArray.size:Int)).toNat=j:=by
   rw[seqIndex_neg (by lia) h4]at h1;rw[size_toArray,←hl];exact Option.some.inj h1
  exact subscriptTail_builtinR (x:=w) pl.isList.typeIs slot_list_getitem.lookup
   (wpAny_getItem_list_neg (Q:=λr s'=>r=w/\EP X pins σ Q r s') pl.isList (by lia) (by rw[size_toArray] <;> lia) (by lia) (by rw[hj];simpa using ew) ⟨U,fin⟩) hs
theorem aO:IxR X (vY X.K):=by
 intro value slice pins s σ H x y v u Q I rx ry h hs;obtain⟨p,xs,i,z,rfl,rfl,hq,he,q⟩:=h;cases rx;obtain⟨t,rfl⟩:=ry;obtain⟨its,r,pl,hz⟩:=I.tuple hq;obtain⟨j,h1,h2,h3,h4,h5⟩:=mW he;obtain⟨w,ew,rw'⟩:=r.get h2;have hl:=r.length;have hn:=iu;have fin:EP X pins σ Q w s:=⟨z,H,I,rw',q⟩
 exact subscriptTail_builtinR (x:=w) pl.typeIs slot_tuple_getitem.lookup
  (getItem_tuple (j:=j) (Q:=λr s'=>r=w/\EP X pins σ Q r s') pl (by lia) (by lia) (by rw[size_toArray,←hl];exact h1) (by simpa using ew) ⟨U,fin⟩) hs
theorem mX:IxR X xH:=by
 intro value slice pins s σ H x y v u Q I rx ry h hs;obtain⟨z,i,c,rfl,rfl,hz,he,q⟩:=h;obtain⟨t,rfl⟩:=rx;obtain⟨t',rfl⟩:=ry;obtain⟨j,h1,h2,h3,h4,h5⟩:=mW he;have hl:z.cps.toList.length=z.length:=by simp[Str.length]
 rw[hl]at h1 h4 h5;have hn:=iu;exact tail_any (typeIs_str s z t) slot_str_getitem.lookup (getItem_str (c:=c) (by
  have e1:decide (i < -(2^63:Int))=false:=decide_eq_false (by lia);have e2:decide (i ≥ 2^63)=false:=decide_eq_false (by lia);rw[e1,e2,Bool.or_false]) (by rw[h1];simpa using h2) ⟨.str ⟨#[c]⟩,H,I.tok _,⟨_,U⟩,q⟩) hs
theorem pV(its:List Value)(n j:Nat)(u:Value):Obj.mapSeq (·.setIfInBounds j u) { cls:=.type "list",data:=.seq its.toArray n }={ cls:=.type "list",data:=.seq (its.set j u).toArray n }:=by
 simp[Obj.mapSeq]
theorem Inv.lst{pins:List (Addr×Obj)}{σ:St}{H:Hp}{s:Shared}{p:Addr}{xs:List V}(I:Inv X pins σ H s)(h:H p=some (.lst xs)) :
  ∃(its:List Value)(n:Nat),Vals xs its/\s.heap.get? p=some { cls:=.type "list",data:=.seq its.toArray n }/\xs.length<=sizeLine:=by
 obtain⟨z,its,n,r,e⟩:=I.hok p _ h;exact⟨its,n,r,e,z⟩
theorem Inv.lstUpd{pins:List (Addr×Obj)}{σ:St}{H:Hp}{s:Shared}{p:Addr}{xs ys:List V}{its its':List Value}{n n':Nat}{f:Obj->Obj}(I:Inv X pins σ H s)(h:H p=some (.lst xs))
  (ho:s.heap.get? p=some { cls:=.type "list",data:=.seq its.toArray n }) (hf:f { cls:=.type "list",data:=.seq its.toArray n }={ cls:=.type "list",data:=.seq its'.toArray n' }) (r:Vals ys its')(hz:ys.length<=sizeLine)(t:Nat) :
  Inv X pins σ (upd H p (.lst ys)) { s with heap:=s.heap.update p f,toks:=t }:=by
 have e:(s.heap.update p f).get? p=some { cls:=.type "list",data:=.seq its'.toArray n' }:=by
  rw[Heap.get?_update_self f ho (by rw[hf] <;> rfl),hf]
 refine I.write (x:=p) (e:=p) (by rw[h];trivial) (.inl U) (λb u hb q=>(Heap.get?_update_other _ _ (Ne.symm hb)).trans q) ⟨_,e⟩ ?_;exact⟨hz,its',n',r,e⟩
inductive uY  (o:V)(i:V)(v:V)(H:Hp)(Q:(Hp->Prop)):Prop
 |mk (p xs k j:_)(_:o=.ref p)(_:i=.int k)(_:H p=some (.lst xs))(_:ixN xs.length k=some j)(_:Q (upd H p (.lst (xs.set j v)))):uY o i v H Q
theorem set_list:xu X uY:=by
 intro pins s σ H o i v ov iv u Q I ro ri rv h;obtain⟨p,xs,k,j,rfl,rfl,hp,hj,q⟩:=h;cases ro;obtain⟨t,rfl⟩:=ri;obtain⟨its,n,r,ho,hz⟩:=I.lst hp;obtain⟨h1,h2,h3,h4⟩:=qA hj;have hl:=r.length;have hn:=iu;have I':Inv X pins σ (upd H p (.lst (xs.set j v))) { s with heap:=s.heap.update p (Obj.mapSeq (·.setIfInBounds j u)) } :=
  I.lstUpd hp ho (pV its n j u) (r.set rv j) (by rw[List.length_set];exact hz) s.toks
 by_cases h0:0<=k
 ·have hk:k.toNat=j:=by
   rw[seqIndex_of h0 h4]at h1;exact Option.some.inj h1
  exact W.ki_setAt ho h0 (by lia) (by rw[size_toArray,←hl];exact h4) (by rw[hk];exact⟨_,I',q⟩)
 ·have hk:(k+(its.toArray.size:Int)).toNat=j:=by
   rw[seqIndex_neg (by lia) h3]at h1;rw[size_toArray,←hl];exact Option.some.inj h1
  exact W.ki_setBack ho (by lia) (by rw[size_toArray,←hl];exact h3) (by lia) (by rw[hk];exact⟨_,I',q⟩)
theorem mY(lo hi:Option Int)(n:Nat):(sliceBounds lo hi none n).1=((HT.sIx n 0 lo:Nat):Int)/\(sliceBounds lo hi none n).2.1=((HT.sIx n n hi:Nat):Int)/\(sliceBounds lo hi none n).2.2=1:=by
 refine⟨?_,?_,U⟩
 ·cases lo with
  |none=>simp[sliceBounds,HT.sIx]
  |some i =>
   simp only[sliceBounds,HT.sIx,getD_none,show(1:Int)>0 by decide,if_true];by_cases h:i<0
   ·simp only[h,if_true] <;> lia
   ·simp only[h,if_false] <;> lia
 ·cases hi with
  |none=>simp[sliceBounds,HT.sIx]
  |some i =>
   simp only[sliceBounds,HT.sIx,getD_none,show(1:Int)>0 by decide,if_true];by_cases h:i<0
   ·simp only[h,if_true] <;> lia
   ·simp only[h,if_false] <;> lia
theorem lN(its:List Value)(lo hi:Option Int):slicePick its.toArray lo hi none=((its.drop (HT.sIx its.length 0 lo)).take (HT.sIx its.length its.length hi-HT.sIx its.length 0 lo)).toArray:=by
 obtain⟨h1,h2,h3⟩:=mY lo hi its.toArray.size;unfold slicePick;rw[h1,h2,h3];simp only[sliceRange_one,pick_run,size_toArray] <;> rfl
inductive xI(K:W.Frag)(x:V)(lo:Option Int)(hi:Option Int)(H:Hp)(Q:VK):Prop
 |mk (a xs:_)(_:x=.ref a)(_:SqL K H a xs)(_:∀p,H p=none->Q (.ref p) (upd H p (.lst (jZ xs lo hi)))):xI K x lo hi H Q
theorem dk:SlR X (xI X.K):=by
 intro pins s σ H x v vl vu lo hi sl Q I rx hs pl pu h;obtain⟨a,xs,rfl,hx,q⟩:=h;cases rx;obtain⟨its,r,ht,hz⟩:=I.list hx;have hlen:=r.length;refine⟨"list",_,slot_list_getitem.lookup,ht.isList.typeIs,?_⟩;refine wpAny_getItem_list_slice ht.isList hs pl pu .none (by simp) ?_ (by rw[size_toArray] <;> lia);rw[lN,←hlen];refine⟨.ref s.heap.objs.size,_,I.laid (t':=s.toks) (o:=.lst (jZ xs lo hi)) (λb ob q=>Heap.get?_push_of_some _ q) (le_refl _) ?_,U,q _ (I.hok.fresh (le_refl _))⟩;exact⟨le_trans (oo xs lo hi) hz,_,0,(r.drop (HT.sIx xs.length 0 lo)).take (HT.sIx xs.length xs.length hi-HT.sIx xs.length 0 lo),Heap.get?_push_size _ U⟩
def dG:V->Bool
 | .non=>true
 | .bl _=>true
 | .int _=>true
 | .str _=>true
 |_=>false
def eqV:V->V->Bool
 | .non,.non=>true
 | .bl a,.bl b=>a == b
 | .bl a,.int b=>(if a then 1 else 0) == b
 | .int a,.bl b=>a == (if b then 1 else 0)
 | .int a,.int b=>a == b
 | .str a,.str b=>a == b
 |_,_=>false
theorem pW{A:Around}{s:Shared}{y x:V}{u v:Value}(ry:RelV y u)(rx:RelV x v)(fy:dG y=true)(fx:dG x=true):SeqAt.EqAt A s u v (eqV y x):=by
 cases y with
 |non =>
  cases ry;cases x with
  |non=>cases rx;exact SeqAt.EqAt.same _
  |bl b=>cases rx;exact SeqAt.EqAt.none_bool b
  |int b=>obtain⟨t,rfl⟩:=rx;exact SeqAt.EqAt.none_int b t
  |str b=>obtain⟨t,rfl⟩:=rx;exact SeqAt.EqAt.none_str b t
  |_=>exact absurd (show false=true from fx) Bool.false_ne_true
 |bl a =>
  cases ry;cases x with
  |non=>cases rx;exact SeqAt.EqAt.bool_none a
  |bl b=>cases rx;exact SeqAt.EqAt.bool_bool a b
  |int b=>obtain⟨t,rfl⟩:=rx;exact SeqAt.EqAt.bool_int a b t
  |str b=>obtain⟨t,rfl⟩:=rx;exact SeqAt.EqAt.bool_str a b t
  |_=>exact absurd (show false=true from fx) Bool.false_ne_true
 |int a =>
  obtain⟨t',rfl⟩:=ry;cases x with
  |non=>cases rx;exact SeqAt.EqAt.int_none a t'
  |bl b=>cases rx;exact SeqAt.EqAt.int_bool a t' b
  |int b=>obtain⟨t,rfl⟩:=rx;exact SeqAt.EqAt.int_int a t' b t
  |str b=>obtain⟨t,rfl⟩:=rx;exact SeqAt.EqAt.int_str a t' b t
  |_=>exact absurd (show false=true from fx) Bool.false_ne_true
 |str a =>
  obtain⟨t',rfl⟩:=ry;cases x with
  |non=>cases rx;exact SeqAt.EqAt.str_none a t'
  |bl b=>cases rx;exact SeqAt.EqAt.str_bool a t' b
  |int b=>obtain⟨t,rfl⟩:=rx;exact SeqAt.EqAt.str_int a t' b t
  |str b=>obtain⟨t,rfl⟩:=rx;exact SeqAt.EqAt.str_str a t' b t
  |_=>exact absurd (show false=true from fx) Bool.false_ne_true
 |_=>exact absurd (show false=true from fy) Bool.false_ne_true
theorem az:cO X (.builtin "len") (λxs H Q=>∃p ys,xs=[.ref p]/\(SqL X.K H p ys\/SqT X.K H p ys)/\Q (.int ys.length) H):=by
 intro pins s σ H xs us Q I r h;obtain⟨p,ys,rfl,hq,q⟩:=h;obtain⟨u,rfl,rx⟩:=vals1 r;cases rx;have hn:=iu;rcases hq with hq|hq
 ·obtain⟨its,r',pl,hz⟩:=I.list hq;have hlen:=r'.length;exact Calls.call_len_list pl.isList (by simp only[size_toArray] <;> lia) ⟨.int ys.length,H,I.tok _,⟨s.toks+1,by rw[size_toArray,hlen]⟩,q⟩
 ·obtain⟨its,r',pl,hz⟩:=I.tuple hq;have hlen:=r'.length;exact len_tuple pl (by simp only[size_toArray] <;> lia) ⟨.int ys.length,H,I.tok _,⟨s.toks+1,by rw[size_toArray,hlen]⟩,q⟩
theorem mZ:cO X (.builtin "len") (λxs H Q=>∃z,xs=[.str z]/\z.length<=sizeLine/\Q (.int z.length) H):=by
 intro pins s σ H xs us Q I r h;obtain⟨z,rfl,hz,q⟩:=h;obtain⟨u,rfl,t,rfl⟩:=vals1 r;have hn:=iu;exact len_str (by lia) ⟨.int z.length,H,I.tok _,⟨_,U⟩,q⟩
theorem cR:cO X (.type "list") (λxs H Q=>∃p ys,xs=[.ref p]/\(SqL X.K H p ys\/SqT X.K H p ys)/\∀l,H l=none->Q (.ref l) (upd H l (.lst ys))):=by
 intro pins s σ H xs us Q I r h;obtain⟨p,ys,rfl,hq,q⟩:=h;obtain⟨u,rfl,rx⟩:=vals1 r;cases rx
 have fin:∀(its:List Value),Vals ys its->ys.length<=sizeLine->∀(h':Heap)(c':Nat),(∀b o',s.heap.get? b=some o'->h'.get? b=some o') ->
   h'.get? s.heap.objs.size=some { cls:=.type "list",dict:=none,data:=.seq its.toArray c',slots:=#[] }->EP X pins σ Q (.ref s.heap.objs.size) { s with heap:=h' }:=λits r' hz h' c' kp e =>
  ⟨.ref s.heap.objs.size,_,I.laid (t':=s.toks) kp (le_refl _) (show cD X.prog X.w _ h' _ (.lst ys) from⟨hz,its,c',r',e⟩),U,q _ (I.hok.fresh (le_refl _))⟩
 rcases hq with hq|hq
 ·obtain⟨its,r',pl,hz⟩:=I.list hq;have hlen:=r'.length;obtain⟨o,ho,hc,n,hd⟩:=pl.isList;exact call_list_seq p (.inl U) ho hc hd (λh' c' kp e=>fin its r' hz h' c' kp e) (by simp only[size_toArray] <;> lia)
 ·obtain⟨its,r',pl,hz⟩:=I.tuple hq;have hlen:=r'.length;obtain⟨o,ho,hc,n,hd⟩:=pl;exact call_list_seq p (.inr U) ho hc hd (λh' c' kp e=>fin its r' hz h' c' kp e) (by simp only[size_toArray] <;> lia)
def tyV(K:W.Frag)(T:String)(x:V)(H:Hp):Prop:=match x with
 | .str _=>T = "str"
 | .int _=>T = "int"
 | .ref p=>(T = "list" /\ ∃xs,SqL K H p xs)\/(T = "tuple" /\ ∃o,K.lookup p=some o/\o.cls=.type "tuple" /\ o.dict=none) \/
   (T = "dict" /\ ((∃kvs,H p=some (.dK kvs))\/∃kvs,H p=some (.dT kvs)))\/(T = "set" /\ ∃S n,H p=some (.set S n))
 |_=>False
theorem vZ{pins:List (Addr×Obj)}{σ:St}{H:Hp}{s:Shared}{T:String}{x:V}{v:Value}(I:Inv X pins σ H s)(r:RelV x v)(ty:tyV X.K T x H) :
  s.TypeIs v T/\∀a,v=.ref a->∃ob,s.heap.get? a=some ob/\ob.dict=none:=by
 cases x with
 |str z =>
  obtain⟨t,rfl⟩:=r;cases (show T = "str" from ty);exact⟨typeIs_str s z t,λ_ e=>nomatch e⟩
 |int i =>
  obtain⟨t,rfl⟩:=r;cases (show T = "int" from ty);exact⟨typeIs_int s i t,λ_ e=>nomatch e⟩
 |ref p =>
  cases r;rcases ty with⟨rfl,xs,hq⟩|⟨rfl,o,hk,hc,hd⟩|⟨rfl,hk⟩|⟨rfl,S,n,hk⟩
  ·obtain⟨its,_,pl,_⟩:=I.list hq;refine⟨pl.isList.typeIs,λa e=>?_⟩;cases e;obtain⟨o,n,e,c,hd,_⟩:=pl;exact⟨o,e,hd⟩
  ·refine⟨⟨o,I.kIn p o hk,hc⟩,λa e=>?_⟩;cases e;exact⟨o,I.kIn _ o hk,hd⟩
  ·have z:∃o,s.heap.get? p=some o/\o.ExactDict:=by
    rcases hk with⟨kvs,hk⟩|⟨kvs,hk⟩
    ·obtain⟨_,_,_,_,o,_,_,e,ex,_⟩:=I.hok p _ hk;exact⟨o,e,ex⟩
    ·obtain⟨_,_,_,_,o,_,_,e,ex,_⟩:=I.hok p _ hk;exact⟨o,e,ex⟩
   obtain⟨o,e,ex⟩:=z;refine⟨⟨o,e,ex.1⟩,λa e2=>?_⟩;cases e2;exact⟨o,e,ex.2.1⟩
  ·obtain⟨o,_,_,_,e,ex,_⟩:=I.hok p _ hk;refine⟨⟨o,e,ex.1⟩,λa e2=>?_⟩;cases e2;exact⟨o,e,ex.2.1⟩
 |_=>exact False.elim ty
def tBM(K:W.Frag)(T:String)(r:V->List V->Hp->VK->Prop)(to:TE)(t:TA):TE:=λσ H Q=>to σ H λx H1=>tyV K T x H1/\t σ H1 λxs H2=>r x xs H2 Q
variable{o e:Expr}{es:List Expr}{to:TE}{t:TA}{name:Str}{apos pX:Pos}{T id:String}{r:V->List V->Hp->VK->Prop}
theorem f7(pa:PlainAttrs T)(slot:Slot T name id)(hty:typeOf (.builtin id)=pure (.type "method_descriptor")) (hm:MtR X id r)(ho:PE X o to)(ha:PA X (e :: es) t)
  (xJ:attributeBase o name X.env (eval o X.env)=eval o X.env:=by rfl)
  (ze:((backTo pX (starEach (e :: es) X.env)).all (λx=>!x.1) && (backToKw pX (keywordEach [] X.env)).all (λx=>x.1.isSome)
   && decide ((e :: es).length+([]:List Keyword).length+(if ([]:List Keyword).isEmpty then 0 else 1)<30))=true:=by rfl)
  (xK:(apos.endLine == pX.line)=true:=by rfl)(hs:starEach (e :: es) X.env=(false,eval e X.env) :: starEach es X.env:=by rfl)(v9:(backTo pX (starEach es X.env)).any (·.1)=false:=by rfl) :
  PE X (.Call (.Attribute o name apos) (e :: es) [] pX) (tBM X.K T r to t):=by
 intro pins s σ H Q I h;refine wpAny_Call_method_late xJ ze xK U (thn (ho pins s σ H _ I h) λv s1 ⟨x,H1,I1,r1,ty,q1⟩=>?_);obtain⟨h1,h2⟩:=vZ I1 r1 ty;refine⟨T,id,pa,slot,hty,h1,h2,?_⟩;have hA:=ha pX pins s1 σ H1 _ I1 q1;rw[hs]at hA⊢;refine Calls.callWith_builtin (by show(false || (backTo pX (starEach es X.env)).any (·.1))=false;rw[v9] <;> rfl) (Calls.evalArgs_plain ?_);exact thn hA λus s2 ⟨vs,H2,I2,r2,q2⟩=>hm pins s2 σ H2 x vs v us Q I2 r1 r2 q2
end
def MtM(X:Cx)(id:String)(r:V->List V->Hp->VK->Prop):Prop :=
 ∀(pins:List (Addr×Obj))(s:Shared)(σ:St)(H:Hp)(x:V)(xs:List V)(v:Value)(us:List Value)(Q:VK),Inv X pins σ H s->RelV x v->Vals xs us->r x xs H Q ->
  wpAny (model X.prog X.w) X.A (call (.builtin id) (v :: us)) (EP X pins σ Q) X.xe s
theorem Vals.one:∀{x:V}{us:List Value},Vals [x] us->∃u,us=[u]/\RelV x u
 |_,_,.cons r .nil=>⟨_,U,r⟩
theorem Vals.two:∀{x y:V}{us:List Value},Vals [x,y] us->∃u v,us=[u,v]/\RelV x u/\RelV y v
 |_,_,_,.cons r (.cons q .nil)=>⟨_,_,U,r,q⟩
section
variable{pins:List (Addr×Obj)}{σ:St}{H:Hp}{s:Shared}{l b:Addr}{xs ys zs:List V}
theorem Inv.lset{its its':List Value}{n:Nat}{f:Array Value->Array Value}{t':Nat}(I:Inv X pins σ H s)(hH:H l=some (.lst xs))
  (e:s.heap.get? l=some { cls:=.type "list",data:=.seq its.toArray n }) (hf:f its.toArray=its'.toArray)(hv:Vals ys its')(hz:ys.length<=sizeLine) :
  Inv X pins σ (upd H l (.lst ys)) { s with heap:=s.heap.update l (Obj.mapSeq f),toks:=t' }:=by
 have q:=PySem.IsL.update e f;rw[hf]at q;refine I.write (x:=l) (e:=l) (by rw[hH];exact trivial) (.inl U) (λb' u hb hu=>(Heap.get?_update_other s.heap (Obj.mapSeq f) (Ne.symm hb)).trans hu) ⟨_,q⟩ ?_;exact⟨hz,its',_,hv,q⟩
theorem Inv.lnew{its:List Value}{t':Nat}(I:Inv X pins σ H s)(hv:Vals ys its)(hz:ys.length<=sizeLine) :
  Inv X pins σ (upd H s.heap.objs.size (.lst ys)) { s with heap:=s.heap.push { cls:=.type "list",data:=.seq its.toArray },toks:=t' } :=
 I.laid (λ_ _ q=>Heap.get?_push_of_some _ q) (le_refl _) ⟨hz,its,0,hv,Heap.get?_push_size _ U⟩
theorem Inv.fresh(I:Inv X pins σ H s):H s.heap.objs.size=none:=I.hok.fresh (le_refl _)
theorem Inv.lstM(I:Inv X pins σ H s)(hH:H l=some (.lst xs)):xs.length<=sizeLine/\∃(its:List Value)(n:Nat),Vals xs its/\xs.length=its.length/\s.heap.get? l=some { cls:=.type "list",data:=.seq its.toArray n }:=by
 obtain⟨z,its,n,r,e⟩:=I.hok l _ hH;exact⟨z,its,n,r,r.length,e⟩
end
inductive qB  (x:V)(vs:List V)(H:Hp)(Q:VK):Prop
 |mk (l xs y:_)(_:x=.ref l)(_:vs=[y])(_:H l=some (.lst xs))(_:xs.length<sizeLine)(_:Q .non (upd H l (.lst (xs++[y])))):qB x vs H Q
theorem bA:MtM X "list.append" qB:=by
 intro pins s σ H x vs v us Q I rx rv h;obtain⟨l,xs,y,rfl,rfl,hH,hz,q⟩:=h;cases rx;obtain⟨u,rfl,ru⟩:=rv.one;obtain⟨z,its,n,r,hl,e⟩:=I.lstM hH;refine call_meets F.slot_list_append ⟨_,e,U⟩ F.entry_list_append (F.args_list_append_2 _ _) (PySem.list_append l its.toArray n u (by rw[size_toArray];lia)) ⟨e,?_⟩;refine⟨.non,_,I.lset (its':=its++[u]) hH e (by simp) (r.append (.cons ru .nil)) ?_,U,q⟩;rw[length_append,length_singleton];lia
inductive xM  (x:V)(y:V)(H:Hp)(Q:VK):Prop
 |mk (l b xs zs:_)(_:x=.ref l)(_:y=.ref b)(_:H l=some (.lst xs))(_:H b=some (.lst zs))(_:xs.length+zs.length<=sizeLine)(_:∀p,H p=none->Q (.ref p) (upd H p (.lst (xs++zs)))):xM x y H Q
theorem cS:OpR X (binaryOp .Add) xM:=by
 intro pins s σ H x y v u Q I rx ry h;obtain⟨l,b,xs,zs,rfl,rfl,hH,hB,hz,q⟩:=h;cases rx;cases ry;obtain⟨z,its,n,r,hl,e⟩:=I.lstM hH;obtain⟨z2,xN,n2,r2,hl2,e2⟩:=I.lstM hB;refine PySem.P.add_list e e2 ?_ (by rw[size_toArray,size_toArray];lia);have ea:its.toArray++xN.toArray=(its++xN).toArray:=by simp
 rw[ea];exact⟨.ref _,_,I.lnew (t':=s.toks) (r.append r2) (by rw[length_append];lia),U,q _ I.fresh⟩
section
variable{prog:Program}{w:World}{A:Around}{E:Value->Shared->Prop}{s:Shared}
end
end L2
namespace Att
open PySem PySem.W PySem.Calls PyProof.Rows
theorem j3{P:Params}{h:Heap}:∀(ns:List Int)(vs:List Value),WellAll P h vs (ns.map WData.int)->IntsAre vs ns:=by
 intro ns;induction ns with
 |nil =>
  intro vs w;rw[map_nil]at w;cases w;exact .nil
 |cons n ns ih =>
  intro vs w;rw[map_cons]at w;cases w with
  |cons a b =>
   cases a;exact .cons _ _ (ih _ b)
theorem q8{l:OpenLaw}{n:Nat}(hn:l.most=some n){P:Params}{h:Heap}{args:List WData}{vals:List Value}
  (um:l.row.toRowW.claim.pre args=true)(hwl:WellAll P h vals args) :
  ∃a vs ns,vals=[Value.ref a]/\args=[WData.list (ns.map WData.int)]/\h.get? a=some { cls:=.type "list",data:=.seq vs.toArray }/\IntsAre vs ns/\ns.length<=n:=by
 have hsh:WShape.hasAll [] args [.list .int]=true:=(pre_splitW um).1;have hc:l.pre.holds [] { args:=args }=true:=(pre_splitW um).2;obtain⟨d,r,rfl,h1,h2⟩:=hasAllW_cons hsh;obtain rfl:=hasAllW_nil h2;obtain⟨xs,rfl,h3⟩:=hasW_list h1;obtain⟨ns,rfl⟩:=items_int h3;have hlen:ns.length<=n:=by
  unfold OpenLaw.pre at hc;have h4:(WTm.not (.lt (.lit (.int (n:Int))) (.len (.arg 0)))).holds [] { args:=[.list (ns.map .int)] }=true:=by
   have h4:=(holds_andW hc).1;rw[hn]at h4;exact h4
  have h5:=condW_of h4 (w_not (w_lt w_lit (w_len_list (w_arg rfl))));rw[length_map]at h5;refine Nat.le_of_not_lt λq=>?_
  have q':(n:Int)<((ns.length:Nat):Int):=by lia
  first
   |(rw[decide_eq_true q']at h5;exact absurd h5 (by decide))
   |(simp at h5;lia)
 cases hwl with
 |cons w1 w2 =>
  cases w2;cases w1 with
  |list ho m4=>exact⟨_,_,ns,rfl,rfl,ho,j3 ns _ m4,hlen⟩
theorem q9(l:OpenLaw)(args:List WData):l.row.toRowW.claim.post args (.bool true) args=true :=
 postW_of (r:=l.row.toRowW) (X:=(true == true))
  (show WShape.has [] (.bool true) .bool=true by first|rfl|decide|simp[WShape.has,WShape.arms,WShape.armsAll])
  (show(WTm.eq .res (.lit (.bool true))).value [] { args:=args,res:=some (.bool true),after:=args }=some (.bool (true == true))from w_eq_bool (w_res rfl) w_lit) rfl
theorem attach_call{l:OpenLaw}{n:Nat}{q:Program}{loose:List Str}{XP:(Str->Option Value)->Heap->Prop}{YP:World->Heap->Prop}{d:DefRec}
  (hn:l.most=some n)(hdf:d.params.defaults=[])
  (call:∀(w:World)(s₀ s₁:Shared)(mg mb:Str->Option Value)(fa:Addr)(o:Obj)(pm cd doc:Value)(a:Addr)(vs:List Value)(ns:List Int),
   Ground q loose [] XP w s₀ mg mb s₁.heap->YP w s₁.heap ->
   s₁.heap.get? fa=some o->o.data=.func (docDef d.name d.params d.body d.scope pm cd doc)->s₁.heap.CodeRec cd d.name->mg d.name=some (.ref fa) ->
   s₁.heap.get? a=some { cls:=.type "list",data:=.seq vs.toArray }->IntsAre vs ns->ns.length<=n->s₁.gens = #[] ->
   codeAny (model l.prog w) callerA (.call (.ref fa) ⟨[.ref a],[]⟩) (λr s'=>r=.ok (.ret (.bool true))/\OldK s₁.heap s'.heap/\s'.os=s₁.os/\AllBare s'.gens) s₁) :
  WalkO q loose XP YP l.row.toRowW d [] (λf vs=>PySem.call f vs):=by
 intro w s₀ s₁ mg mb G Y fa o pm cd doc dV kV ho hd hcd hD hmg hg args vals as um Bv hrd hwl hlo;obtain rfl:dV=.none:=Dflts.none hD hdf;obtain rfl:kV=.none:=Dflts.noKw hD;obtain⟨a,vs,ns,rfl,rfl,wa,hints,hlen⟩:=q8 hn um hwl;refine enter_call (codeAny_mono (call w s₀ s₁ mg mb fa o pm cd doc a vs ns G Y ho (fd_plain hd) hcd hmg wa hints hlen hg) λr s' hq=>?_);obtain⟨rfl,h2,h3,h4⟩:=hq;exact⟨.inl ⟨.bool true,.bool true,[],rfl,λ_=>rfl,.bool true,q9 l _,λ_=>⟨List.Pairwise.nil,λ_ hm=>(nomatch hm)⟩⟩,h2,h3,h4⟩
section
variable{prog:Program}{w:World}{A:Around}{E:Value->Shared->Prop}{s:Shared}{K:Frag}
end
end Att
namespace L2
open PySem PySem.Spec PyProof.Rows
theorem mm:∀{vs:List Value}{ns:List Int},IntsAre vs ns->Vals (ns.map V.int) vs
 |_,_,.nil=>.nil
 |_,_,.cons n t h=>.cons ⟨t,U⟩ (mm h)
def Bw(H:Hp):Prop:=∀b,H b=none\/∃o xs,H b=some (.frz o (.lst xs))
def inClass(s:Stmt)(j:Nat):Stmt:=match s with
 | .ClassDef _ _ _ body _ _ _ _ _ _ _=>body.getD j (.Pass ⟨0,0,0,0⟩)
 |_=>.Pass ⟨0,0,0,0⟩
def fJ(s:Stmt):Arguments:=match s with
 | .FunctionDef _ a _ _ _ _ _ _ _ _=>a
 |_=>{ posonlyargs:=[],args:=[],vararg:=none,kwonlyargs:=[],kw_defaults:=[],kwarg:=none,defaults:=[] }
def cU(s:Stmt):List Stmt:=match s with
 | .FunctionDef _ _ b _ _ _ _ _ _ _=>b
 |_=>[]
def ai(s:Stmt):Scope:=match s with
 | .FunctionDef _ _ _ _ _ _ sc _ _ _=>sc
 |_=>{ kind:=.function,names:=[],isGenerator:=false,isCoroutine:=false }
abbrev CX0:CXT:=λ_ _ _ _ _ _=>False
abbrev E0:XK:=λ_ _ _=>False
theorem bP{X:Cx}:Passes CX0 X E0:=λ_ _ _ _ _ _ _ h=>h.elim
structure Fun(K:W.Frag)(x qual:Str)(st:Stmt)(f:Addr)(fd:FuncData):Prop where
 ex:∃(oc:Value)(od:Option Addr)(kV doc pm:Value)(an:Option Addr)(cdv ct:Value)(osl:Array (Option Value)),
  fd=W.fnOf x qual (fJ st) (cU st) (ai st) .none kV doc pm an cdv ct/\K.lookup f=some ⟨oc,od,.func fd,osl⟩/\W.codeIn K cdv qual=true
 kp:W.keepIn K (.ref f)=true
section
variable{P:Program}{w:World}{K:W.Frag}{mg:Str->Option Value}{base:Heap}
theorem Fun.ok{x qual:Str}{st:Stmt}{f:Addr}{fd:FuncData}{N ps:List Str}{k:Nat}{sp:Sp}(F:Fun K x qual st f fd)(S:ao N ps (ai st))(len:∀vs H Q E,sp vs H Q E->vs.length=ps.length)
  (gk:∀(cdv:Value)(A:Around)(outer:List Env)(s:Shared)(H:Hp)(vs:List V)(Q:VK)(E:XK),bT k (A.deeper (envOfC qual (ai st) s.heap.objs.size f cdv))->sp vs H Q E ->
   ∃t,PSs (oj CX0 P w K mg base N qual (ai st) f cdv A outer s H E).nox (cU st) t/\t { nx:=λ_ H'=>Q .non H',rt:=Q } (start N vs) H):aK P w K mg base CX0 (k+1) f fd ps sp:=by
 obtain⟨oc,od,kV,doc,pm,an,cdv,ct,osl,rfl,lk,hcd⟩:=F.ex;refine uX lk hcd S len λA outer s H vs Q E hr hsp=>?_
 obtain⟨t,h,q⟩:=gk cdv A outer s H vs Q E hr hsp;exact⟨t,h.nox,q⟩
theorem Fun.binds{x qual:Str}{st:Stmt}{f:Addr}{fd:FuncData}{ps:List Str}(F:Fun K x qual st f fd)
  (h:∀(kV doc pm:Value)(an:Option Addr)(cdv ct:Value)(us:List Value),us.length=ps.length->bindArgs (W.fnOf x qual (fJ st) (cU st) (ai st) .none kV doc pm an cdv ct) ⟨us,[]⟩=pure (ps.zip us)):Binds K fd ps []:=by
 obtain⟨oc,od,kV,doc,pm,an,cdv,ct,osl,rfl,lk,hcd⟩:=F.ex;exact .all (h kV doc pm an cdv ct)
theorem fun_mk{x qual:Str}{st:Stmt}{f:Addr}{oc:Value}{od an:Option Addr}{osl:Array (Option Value)}{kV doc pm cdv ct:Value}(l:K.lookup f=some ⟨oc,od,.func (W.fnOf x qual (fJ st) (cU st) (ai st) .none kV doc pm an cdv ct),osl⟩)
  (c:W.codeIn K cdv qual=true)(k:W.keepIn K (.ref f)=true):Fun K x qual st f (W.fnOf x qual (fJ st) (cU st) (ai st) .none kV doc pm an cdv ct):=⟨⟨oc,od,kV,doc,pm,an,cdv,ct,osl,U,l,c⟩,k⟩
end
theorem ax{n:Nat}(h:n<=1000):n<sizeLine:=Nat.lt_of_le_of_lt h (by decide)
variable{X:Cx}
theorem pv(i:Nat){x:Str}{pos:Pos}(hN:X.N[i]?=some x:=by rfl)(hv:Vis X.env.scope x:=by first|exact Or.inl U|exact Or.inr (Or.inl U)|exact Or.inr (Or.inr U))(hd:(x == ("__debug__" : Str))=false:=by decide)
  (hcd:(x == ("__classdict__" : Str))=false:=by decide):PE X (.Name x pos) (vI i):=rY hN hv hd hcd
theorem bb{A B:Prop}(h:B):if false=true then A else B:=by
 rw[if_neg Bool.false_ne_true];exact h
theorem cZ{A B:Prop}(h:A):if true=true then A else B:=by
 rw[if_pos U];exact h
theorem b7{c A B:Prop} [Decidable c] (h1:c->A)(h2:¬ c->B):if c then A else B:=by
 by_cases h:c
 ·rw[if_pos h];exact h1 h
 ·rw[if_neg h];exact h2 h
theorem oq{c A B:Prop} [Decidable c] (hc:c)(h:B):if (!decide c)=true then A else B:=by
 rw[decide_eq_true hc];exact bb h
def ar(H H':Hp):Prop:=∀b o,H b=some o->H' b=some o
theorem ar.refl(H:Hp):ar H H:=λ_ _ h=>h
theorem ar.trans{H H1 H2:Hp}(a:ar H H1)(b:ar H1 H2):ar H H2:=λc o h=>b c o (a c o h)
theorem ar.free{H H':Hp}(e:ar H H'){l:Addr}(h:H' l=Option.none):H l=Option.none:=by
 cases q:H l with
 |none=>rfl
 |some o =>
  rw[e l o q]at h;cases h
theorem ar.seq{K:W.Frag}{H H':Hp}{a:Addr}{xs:List V}(e:ar H H')(h:SqL K H a xs):SqL K H' a xs:=by
 rcases h with(h|⟨o,h⟩)|h
 ·exact .inl (.inl (e _ _ h))
 ·exact .inl (.inr ⟨o,e _ _ h⟩)
 ·exact .inr h
set_option maxHeartbeats 4000000
abbrev Pr:=Int×Int
def inR(n:Int)(p:Pr):Bool:=decide (p.1<=n) && decide (n<=p.2)
def inP(ps:List Pr)(n:Int):Bool:=ps.any (inR n)
structure Apart(R:List Pr):Prop where
 le:∀p∈R,p.1<=p.2
 gap:R.Pairwise λp q=>p.2+2<=q.1
theorem du(R:List Pr)(p:Pr)(n:Int):inP (R++[p]) n=(inP R n || inR n p):=by
 unfold inP;rw[any_append];simp
theorem Apart.snoc{R:List Pr}{p:Pr}(h:Apart R)(hp:p.1<=p.2)(hl:∀r∈R,r.2+2<=p.1):Apart (R++[p]) where
 le:=λq hq=>by
  rcases mem_append.mp hq with hq|hq
  ·exact h.le q hq
  ·have e:q=p:=by simpa using hq
   rw[e];exact hp
 gap:=by
  rw[List.pairwise_append];refine⟨h.gap,List.pairwise_singleton _ _,λa ha b hb=>?_⟩;have e:b=p:=by simpa using hb
  rw[e];exact hl a ha
theorem Apart.init{R:List Pr}{p:Pr}(h:Apart (R++[p])):Apart R/\p.1<=p.2/\∀r∈R,r.2+2<=p.1:=by
 have g:=h.gap;rw[List.pairwise_append]at g;exact⟨⟨λq hq=>h.le q (mem_append_left _ hq),g.1⟩,h.le p (by simp),λr hr=>g.2.2 r hr p (by simp)⟩
structure Bx(R qs:List Pr):Prop where
 ap:Apart R
 mem:∀n,inP R n=inP qs n
 cov:∀p∈qs,p.1<=p.2->∃r∈R,r.1<=p.1/\p.2<=r.2
 low:∀r∈R,∃q∈qs,r.1=q.1
def Callee(P:Program)(w:World)(K:W.Frag)(mg:Str->Option Value)(base:Heap)(k:Nat)(x:Str)(ps:List Str)(sp:Sp):Prop :=
 ∃f fd,aK P w K mg base CX0 k f fd ps sp/\Binds K fd ps []/\W.keepIn K (.ref f)=true/\mg x=some (.ref f)
theorem Callee.mono{P:Program}{w:World}{K:W.Frag}{mg:Str->Option Value}{base:Heap}{j k:Nat}{x:Str}{ps:List Str}{sp:Sp}(C:Callee P w K mg base j x ps sp)(h:j<=k):Callee P w K mg base k x ps sp:=by
 obtain⟨f,fd,F,r⟩:=C;exact⟨f,fd,F.mono h,r⟩
variable{pos:Pos}
section
variable{k:Nat}{x:Str}{ps:List Str}{sp:Sp}{e:Expr}{es:List Expr}{t:TA}{p:Pos}
def tFn(sp:Sp)(t:TA):TE:=λσ H Q=>t σ H λvs H1=>sp vs H1 Q E0
theorem aL(C:Callee X.prog X.w X.K X.mg X.base k x ps sp)(hr:bT k X.A)(hg:Gl X x)(ha:PA X (e :: es) t)(hdb:(x == ("__debug__" : Str))=false:=by decide)
  (he:starEach (e :: es) X.env=(false,eval e X.env) :: starEach es X.env:=by rfl)(hpl:(backTo pos (starEach es X.env)).any (·.1)=false:=by rfl):PE X (.Call (.Name x p) (e :: es) [] pos) (tFn sp t):=by
 obtain⟨f,fd,F,b,kk,m⟩:=C;have h:=uh (E:=E0) (dvs:=[]) (ds:=[]) (p:=p) F hr hg m kk b .nil bP ha hdb he hpl;intro pins s σ H Q I q;refine h pins s σ H Q I ?_;have q':t σ H λvs H1=>sp vs H1 Q E0:=q
 have e1:(λ(vs:List V)(H1:Hp)=>sp (vs++[]) H1 Q E0)=λvs H1=>sp vs H1 Q E0:=by
  funext vs H1
  rw[append_nil]
 show t σ H λvs H1=>sp (vs++[]) H1 Q E0
 rw[e1];exact q'
end
def zf(t u:TS):TS:=λD σ H=>∃M:St->Hp->Prop,t { D with nx:=M } σ H/\∀σ' H',M σ' H'->u D σ' H'
theorem aG{X:Cx}{st:Stmt}{rest:List Stmt}{t u:TS}(h1:PS X st t)(h2:PSs X rest u):PSs X (st :: rest) (zf t u):=by
 intro pins s σ H D I ⟨M,a,b⟩;refine wpAny_execs_cons (thn (h1 pins s σ H { D with nx:=M } I a) λfl s1 q=>?_);cases fl with
 |next=>obtain⟨σ',H',I',q⟩:=q;exact h2 pins s1 σ' H' D I' (b σ' H' q)
 |ret v=>exact q
 |brk=>exact q
 |cont=>exact q
inductive EqI(K:W.Frag)(H:Hp):V->V->Bool->Prop where
 |flat {x y:V}(fx:dG x=true)(fy:dG y=true):EqI K H x y (eqV x y)
 |same (a:Addr):EqI K H (.ref a) (.ref a) true
 |tup {a b:Addr}{xs ys:List V}(ha:SqT K H a xs)(hb:SqT K H b ys)(fx:xs.all dG=true)(fy:ys.all dG=true):EqI K H (.ref a) (.ref b) (decide (xs.length=ys.length) && (List.zipWith eqV xs ys).all id)
theorem i4:∀{x:V},dG x=true->eqV x x=true
 | .non,_=>rfl
 | .bl b,_=>by simp[eqV]
 | .int i,_=>by simp[eqV]
 | .str z,_=>by simp[eqV]
theorem kx:∀{xs:List V},xs.all dG=true->(List.zipWith eqV xs xs).all id=true
 | [],_=>rfl
 |x :: xs,h=>by
  rw[all_cons,and_eq_true]at h;rw[List.zipWith_cons_cons,all_cons,kx h.2,Bool.and_true];exact i4 h.1
theorem hV{f:Nat->Bool}:∀{xs ys:List V},(∀j x y,xs[j]?=some x->ys[j]?=some y->f j=eqV x y)->(List.range (min xs.length ys.length)).all f=(List.zipWith eqV xs ys).all id
 | [],ys,_=>by simp
 |x :: xs,[],_=>by simp
 |x :: xs,y :: ys,h=>by
  have ih:=hV (f:=λj=>f (j+1)) (xs:=xs) (ys:=ys) λj a b e1 e2=>h (j+1) a b (by simpa using e1) (by simpa using e2)
  have e0:=h 0 x y U U;have em:min (x :: xs).length (y :: ys).length=min xs.length ys.length+1:=by simp only[length_cons];lia
  rw[em,List.range_succ_eq_map,all_cons,List.zipWith_cons_cons,all_cons,all_map,e0];show(eqV x y && (List.range (min xs.length ys.length)).all (λj=>f (j+1)))=_;rw[ih];rfl
section
variable{pins:List (Addr×Obj)}{σ:St}{H:Hp}{s:Shared}
theorem EqI.at{A:Around}{x y:V}{u v:Value}{b:Bool}(e:EqI X.K H x y b)(I:Inv X pins σ H s)(hu:A.units+1<cLine)(rx:RelV x u)(ry:RelV y v):SeqAt.EqAt A s u v b:=by
 cases e with
 |flat fx fy=>exact pW rx ry fx fy
 |same a =>
  cases (show u=Value.ref a from rx);cases (show v=Value.ref a from ry);exact SeqAt.EqAt.same _
 | @tup a b xs ys ha hb fx fy =>
  cases (show u=Value.ref a from rx);cases (show v=Value.ref b from ry);by_cases z:a=b
  ·subst z;have e:=I.tuple_inj ha hb;subst e;rw[kx fx,decide_eq_true U];exact SeqAt.EqAt.same _
  ·obtain⟨its,r,p,_⟩:=I.tuple ha;obtain⟨its',r',p',_⟩:=I.tuple hb;have l1:=r.length;have l2:=r'.length;have h0:=SeqAt.RcAt.tuples (A:=A) (e:=λj=>match its[j]?,xs[j]?,ys[j]? with|_,some x,some y=>eqV x y|_,_,_=>false) (show s.heap.IsTuple a its.toArray from p) (show s.heap.IsTuple b its'.toArray from p') (by lia) (λj h1 h2=>by
    have j1:j<its.length:=by simpa using h1
    have j2:j<its'.length:=by simpa using h2
    have x1:xs[j]?=some xs[j]:=BP (by lia);have y1:ys[j]?=some ys[j]:=BP (by lia);obtain⟨u1,q1,r1⟩:=r.get x1;obtain⟨u2,q2,r2⟩:=r'.get y1;have eu:its.toArray[j]=u1:=by
     have:=BP j1;rw[this]at q1;simpa using Option.some.inj q1
    have ev:its'.toArray[j]=u2:=by
     have:=BP j2;rw[this]at q2;simpa using Option.some.inj q2
    rw[eu,ev];rw[x1,y1];have f1:dG xs[j]=true:=all_eq_true.mp fx _ (getElem_mem _);have f2:dG ys[j]=true:=all_eq_true.mp fy _ (getElem_mem _);exact pW r1 r2 f1 f2)
   have h1:=SeqAt.EqAt.of_refs z h0;have e1:((List.range (min its.toArray.size its'.toArray.size)).all λj=>match its[j]?,xs[j]?,ys[j]? with|_,some x,some y=>eqV x y|_,_,_=>false)=(List.zipWith eqV xs ys).all id:=by
    have es:min its.toArray.size its'.toArray.size=min xs.length ys.length:=by simp only[size_toArray];lia
    rw[es];exact hV λj x y q1 q2=>by rw[q1,q2]
   rw[e1]at h1;have e2:(its.toArray.size == its'.toArray.size)=decide (xs.length=ys.length):=by
    simp only[size_toArray,←l1,←l2];exact Bool.beq_eq_decide_eq _ _
   rw[e2,Bool.and_comm]at h1;exact h1
end
inductive sI(K:W.Frag)(neg:Bool)(x:V)(y:V)(H:Hp)(Q:VK):Prop
 |mk (a b xs ys:_)(_:x=.ref a)(_:y=.ref b)(_:SqL K H a xs)(_:SqL K H b ys)(_:((xs.length≠ys.length/\Q (.bl neg) H)\/(xs.length=ys.length/\∃f:Nat->Bool,(∀j x y,xs[j]?=some x->ys[j]?=some y->EqI K H x y (f j))/\Q (.bl (if neg then !(List.range xs.length).all f else(List.range xs.length).all f)) H))):sI K neg x y H Q
theorem pY{pins:List (Addr×Obj)}{σ:St}{H:Hp}{s:Shared}{A:Around}{xs ys:List V}{its its':List Value}{f:Nat->Bool}(I:Inv X pins σ H s)(hu:A.units+1<cLine)(r:Vals xs its)(r':Vals ys its')
  (hf:∀j x y,xs[j]?=some x->ys[j]?=some y->EqI X.K H x y (f j)):∀j (h1:j<its.toArray.size)(h2:j<its'.toArray.size),SeqAt.EqAt A s its.toArray[j] its'.toArray[j] (f j):=λj h1 h2=>by
 have j1:j<its.length:=by simpa using h1
 have j2:j<its'.length:=by simpa using h2
 have l1:=r.length;have l2:=r'.length;have x1:xs[j]?=some xs[j]:=BP (by lia);have y1:ys[j]?=some ys[j]:=BP (by lia);obtain⟨u1,q1,r1⟩:=r.get x1;obtain⟨u2,q2,r2⟩:=r'.get y1;have eu:its.toArray[j]=u1:=by
  have:=BP j1;rw[this]at q1;simpa using Option.some.inj q1
 have ev:its'.toArray[j]=u2:=by
  have:=BP j2;rw[this]at q2;simpa using Option.some.inj q2
 rw[eu,ev];exact(hf j _ _ x1 y1).at I hu r1 r2
theorem wb{k:Nat}(hr:bT k X.A):OpR X (compareOp .Eq) (sI X.K false):=by
 intro pins s σ H x y v u Q I rx ry h;obtain⟨a,b,xs,ys,rfl,rfl,ha,hb,h⟩:=h;cases (show v=Value.ref a from rx);cases (show u=Value.ref b from ry);obtain⟨its,r,p,_⟩:=I.list ha;obtain⟨its',r',p',_⟩:=I.list hb;have l1:=r.length;have l2:=r'.length;have hu:=hr.units;rcases h with⟨hn,q⟩|⟨hl,f,hf,q⟩
 ·refine SeqAt.eq_list_lengthsAt p.isList p'.isList (by simp only[size_toArray,bne_iff_ne,ne_eq];lia) (by lia) ⟨.bl false,H,I,U,q⟩
 ·refine SeqAt.eq_listAt (e:=f) p.isList p'.isList (by simp only[size_toArray];lia) (by lia) (pY I (by show X.A.units+1+1<cLine;lia) r r' hf) ⟨.bl _,H,I,U,?_⟩;rw[show its.toArray.size=xs.length by simp only[size_toArray];lia];exact q
theorem wc{k:Nat}(hr:bT k X.A):OpR X (compareOp .NotEq) (sI X.K true):=by
 intro pins s σ H x y v u Q I rx ry h;obtain⟨a,b,xs,ys,rfl,rfl,ha,hb,h⟩:=h;cases (show v=Value.ref a from rx);cases (show u=Value.ref b from ry);obtain⟨its,r,p,_⟩:=I.list ha;obtain⟨its',r',p',_⟩:=I.list hb;have l1:=r.length;have l2:=r'.length;have hu:=hr.units;rcases h with⟨hn,q⟩|⟨hl,f,hf,q⟩
 ·refine SeqAt.RcNeAt.lists_lengths p.isList p'.isList (by simp only[size_toArray,bne_iff_ne,ne_eq];lia) (by lia) X.prog X.w X.xe _ ⟨.bl true,H,I,U,q⟩
 ·refine SeqAt.RcNeAt.lists (e:=f) p.isList p'.isList (by simp only[size_toArray];lia) (by lia) (pY I (by show X.A.units+1+1<cLine;lia) r r' hf) X.prog X.w X.xe _ ⟨.bl _,H,I,U,?_⟩;rw[show its.toArray.size=xs.length by simp only[size_toArray];lia];exact q
theorem rf{K:W.Frag}{H:Hp}{Q:VK}{a b:Addr}{xs:List V}(ha:SqL K H a xs)(hb:SqL K H b xs)(fl:∀x∈xs,dG x=true\/∃r,x=.ref r)(q:Q (.bl false) H):sI K true (.ref a) (.ref b) H Q:=by
 refine⟨a,b,xs,xs,U,U,ha,hb,.inr ⟨U,λ_=>true,λj x y e1 e2=>?_,?_⟩⟩
 ·rw[e1]at e2;cases e2;rcases fl x (BR e1)with z|⟨r,rfl⟩
  ·have:=EqI.flat (K:=K) (H:=H) z z;rw[i4 z]at this;exact this
  ·exact .same r
 ·have:(List.range xs.length).all (λ_=>true)=true:=by simp
  rw[this];exact q
def da(H H':Hp):Prop:=∀b xs,H b=some (.tup xs)->H' b=some (.tup xs)
theorem ar.tups{H H':Hp}(h:ar H H'):da H H':=λb xs e=>h b _ e
theorem da.trans{H H1 H2:Hp}(a:da H H1)(b:da H1 H2):da H H2:=λc xs e=>b c xs (a c xs e)
theorem cK{H:Hp}{p:Addr}{o:HO}(h:H p=none):da H (upd H p o):=λb xs e=>by rw[au (aY e h)];exact e
theorem aW{H:Hp}{p:Addr}{o:HO}{ys:List V}(h:H p=some (.lst ys)):da H (upd H p o):=λb xs e=>by rw[au (fu e h (by intro z;cases z))];exact e
theorem ag{H:Hp}{p:Addr}(h:H p=none)(o:HO):ar H (upd H p o):=λb u q=>by rw[au (aY q h)];exact q
theorem ar.upd{H H':Hp}{p:Addr}{o:HO}(s:ar H H')(h:H p=none):ar H (upd H' p o):=λb u q=>by rw[au (aY q h)];exact s b u q
def PL(H:Hp):List V->List (Int×Int)->Prop:=Paired λx p=>∃r,x=.ref r/\H r=some (.tup [.int p.1,.int p.2])
theorem PL.mono{H H':Hp}{xs:List V}{ps:List (Int×Int)}(h:PL H xs ps)(s:da H H'):PL H' xs ps:=Paired.mapP h λ_ _ ⟨r,e,z⟩=>⟨r,e,s r _ z⟩
theorem PL.get{H:Hp}:∀{xs:List V}{ps:List (Int×Int)}{i:Nat}{x:V},PL H xs ps->xs[i]?=some x->∃p r,ps[i]?=some p/\x=.ref r/\H r=some (.tup [.int p.1,.int p.2])
 |_,_,_,_,.nil,e=>by simp at e
 |_,_,0,_,.cons (b:=b) ⟨r,e1,z⟩ _,e=>by simp at e;subst e;exact⟨b,r,U,e1,z⟩
 |_,_,i+1,x,.cons _ t,e=>by
  obtain⟨p,r,q⟩:=PL.get (i:=i) (x:=x) t (by simpa using e);exact⟨p,r,by simpa using q.1,q.2⟩
theorem PL.length{H:Hp}{xs:List V}{ps:List (Int×Int)}(h:PL H xs ps):xs.length=ps.length:=Paired.length h
theorem PL.snoc{H:Hp}{xs:List V}{ps:List (Int×Int)}{r:Addr}{a b:Int}(h:PL H xs ps)(e:H r=some (.tup [.int a,.int b])):PL H (xs++[.ref r]) (ps++[(a,b)]):=Paired.snoc h ⟨r,U,e⟩
theorem PL.last{H:Hp}{xs:List V}{ps:List (Int×Int)}(h:PL H xs ps)(hn:xs≠[]):∃xs' r ps' p,xs=xs'++[.ref r]/\ps=ps'++[p]/\PL H xs' ps'/\H r=some (.tup [.int p.1,.int p.2]):=by
 induction h with
 |nil=>exact absurd U hn
 | @cons a b l1 l2 hd tl ih =>
  cases tl with
  |nil =>
   obtain⟨r,e,z⟩:=hd;exact⟨[],r,[],b,by rw[e];rfl,U,.nil,z⟩
  | @cons a2 b2 l3 l4 hd2 tl2 =>
   obtain⟨xs',r,ps',p,e1,e2,h3,h4⟩:=ih (by simp);exact⟨a :: xs',r,b :: ps',p,by rw[e1];rfl,by rw[e2];rfl,.cons hd h3,h4⟩
theorem PL.app{H:Hp}{xs ys:List V}{ps qs:List (Int×Int)}(h:PL H xs ps)(h':PL H ys qs):PL H (xs++ys) (ps++qs):=by
 induction h with
 |nil=>exact h'
 |cons r t ih=>exact .cons r ih
theorem dn{ps:List (Int×Int)}{i:Nat}{p:Int×Int}{f:Int×Int->Bool}(e:ps[i]?=some p)(h:(ps.take i).any f=false)(hf:f p=false):(ps.take (i+1)).any f=false:=by
 rw[take_add_one,e,any_append,h];simp[hf]
theorem ky{ps:List (Int×Int)}{i:Nat}{p:Int×Int}{f:Int×Int->Bool}(e:ps[i]?=some p)(hf:f p=true):ps.any f=true:=any_eq_true.mpr ⟨p,BR e,hf⟩
theorem gm{p:Prop} [Decidable p] (h:decide p=true):p:=of_decide_eq_true h
theorem i5{p:Prop} [Decidable p] (h:¬ decide p=true):¬ p:=λe=>h (decide_eq_true e)
theorem dQ{X:Cx}{K:W.Frag}(h:X.K=K):IxR X (vX K):=h ▸ aD
theorem m6{X:Cx}{K:W.Frag}(h:X.K=K):IxR X (vY K):=h ▸ aO
def bz(X:Cx)(N:List Str)(scope:Scope)(cl:List (Str×Addr))(fp:List Addr)(C:Addr)(s2:Shared)(H2:Hp):Cx :=
 { prog:=X.prog,w:=X.w,K:=X.K,mg:=X.mg,base:=X.base,A:=X.A,N:=N,s₀:=s2,H₀:=H2,env:=compEnvC scope cl C X.env,outer:=X.stack,stack:=X.stack,ex:=fp,fn:=λ_=>false,calm:=X.calm,pn:=[],xe:=λ_ _=>False }
def PIf(X:Cx)(ifs:List Expr)(t:TT):Prop :=
 ∀(pins:List (Addr×Obj))(s:Shared)(σ:St)(H:Hp)(Q:Bool->Hp->Prop),Inv X pins σ H s->t σ H Q ->
  wpAny (model X.prog X.w) X.A (forIn ifs true λc r=>if r=true then do let ok ←isTrue c X.env (eval c X.env);pure (ForInStep.yield ok)else pure (ForInStep.yield r)) (TP X pins σ Q) X.xe s
def zg:TT:=λ_ H Q=>Q true H
theorem cc{X:Cx}:PIf X [] zg:=λ_ _ _ H _ I h=>wpAny_tests_nil ⟨H,I,h⟩
theorem ke{X:Cx}{c:Expr}{t:TT}(h:PT X c t):PIf X [c] t:=λpins s σ H Q I q=>wpAny_tests_one (h pins s σ H Q I q)
structure ot(X:Cx)(N:List Str)(fr:List Nat)(scope:Scope)(cl:List (Str×Addr))(x:Str):Prop where
 clos:closureFor scope X.env=pure cl
 kind:scope.kind=.function
 nocell:∀y∈scope.names,y.2≠.cell
 names:∀y∈scope.names,y.2=.local->scope.names.lookup y.1=some .local
 hx:scope.names.lookup x=some .local
 nd:N.Nodup
 n0:N[0]?=some x
 len:N.length=fr.length+1
 sub:∀(i:Nat)(y:Str),N[i+1]?=some y->∃j,fr[i]?=some j/\X.N[j]?=some y/\(X.env.kindOf y=some .cell\/X.env.kindOf y=some .free)/\((relabel scope X.env).names.lookup y=some .cell\/(relabel scope X.env).names.lookup y=some .free)
 cells:∀y c,cl.lookup y=some c->X.env.cells.lookup y=some c
 has:∀y,((relabel scope X.env).names.lookup y=some .cell\/(relabel scope X.env).names.lookup y=some .free)->∃c,cl.lookup y=some c
theorem jQ{X:Cx}{scope:Scope}{x:Str}(kind:scope.kind=.function)(nofree:∀y∈scope.names,y.2≠.free)(nocell:∀y∈scope.names,y.2≠.cell)
  (names:∀y∈scope.names,y.2=.local->scope.names.lookup y.1=some .local)(hx:scope.names.lookup x=some .local):ot X [x] [] scope [] x:=by
 have er:(relabel scope X.env).names=scope.names:=map_eq_self λy hy=>by
  have z:(y.2 == NameKind.free)=false:=by simpa using nofree y hy
  simp[z]
 have no:∀y,¬ ((relabel scope X.env).names.lookup y=some .cell\/(relabel scope X.env).names.lookup y=some .free):=λy h=>by
  rw[er]at h;rcases h with h|h
  ·exact nocell _ (mem_of_lookup h) U
  ·exact nofree _ (mem_of_lookup h) U
 exact⟨closureFor_none nofree,kind,nocell,names,hx,by simp,U,U,λi y e=>by simp at e,(λy c e=>by cases e),λy h=>absurd h (no y)⟩
theorem dR{X:Cx}{N:List Str}{fr:List Nat}{scope:Scope}{cl:List (Str×Addr)}{x:Str}(clos:closureFor scope X.env=pure cl)(kind:scope.kind=.function)(nocell:∀y∈scope.names,y.2≠.cell)
  (names:∀y∈scope.names,y.2=.local->scope.names.lookup y.1=some .local)(hx:scope.names.lookup x=some .local)(nd:N.Nodup)(n0:N[0]?=some x)(len:N.length=fr.length+1)
  (sub:((List.range fr.length).all λi=>match N[i+1]?,fr[i]? with|some y,some j=>(X.N[j]? == some y) && ((X.env.kindOf y == some .cell) && ((relabel scope X.env).names.lookup y == some .cell))|_,_=>false)=true)
  (cells:∀p∈cl,X.env.cells.lookup p.1=some p.2)(has:((relabel scope X.env).names.all λp=>(p.2 != .cell && p.2 != .free) || (cl.lookup p.1).isSome)=true):ot X N fr scope cl x:=by
 refine⟨clos,kind,nocell,names,hx,nd,n0,len,λi y e=>?_,λy c e=>cells _ (mem_of_lookup e),λy h=>?_⟩
 ·have hi:i<fr.length:=by have:=(BQ.mp e).1;lia
  have z:=all_eq_true.mp sub i (mem_range.mpr hi);rw[e,BP hi]at z;simp only[and_eq_true,beq_iff_eq]at z;exact⟨_,BP hi,z.1,.inl z.2.1,.inl z.2.2⟩
 ·have look:∀k,(relabel scope X.env).names.lookup y=some k->(k=.cell\/k=.free)->∃c,cl.lookup y=some c:=λk e hk=>by
   have z:=all_eq_true.mp has _ (mem_of_lookup e);rcases hk with rfl|rfl
   ·exact isSome_iff_exists.mp (by simpa using z)
   ·exact isSome_iff_exists.mp (by simpa using z)
  rcases h with h|h
  ·exact look _ h (.inl U)
  ·exact look _ h (.inr U)
def fw(σ:St)(fr:List Nat)(x:Option V):St:=x :: fr.map λj=>(σ[j]?).join
def m8(J:It)(fr:List Nat)(tt:TT)(te:TE)(σ:St)(Q:VK)(H1:Hp):Prop:=∀D,H1 D=none->∃W:Nat->Nat->Hp->Prop,(∃m,W 0 m (upd H1 D (.lst [])))/\∀i m H,W i m H ->
 (J.stop i H/\Q (.ref D) H)\/(J.go i H/\∀x H',J.yld i H x H'->tt (fw σ fr (some x)) H' λb H2=>if b=true then te (fw σ fr (some x)) H2 λy H3=>∃ys,H3 D=some (.lst ys)/\ys.length<sizeLine/\∃m',m'<m/\W (i+1) m' (upd H3 D (.lst (ys++[y])))
  else ∃m',m'<m/\W (i+1) m' H2)
def uZ(wi:TI)(fr:List Nat)(tt:TT)(te:TE):TE:=λσ H Q=>wi σ H λJ H1=>m8 J fr tt te σ Q H1
section
variable{prog:Program}{w:World}{A:Around}{R:Result->Shared->Prop}{s:Shared}
theorem kz{elt target iter:Expr}{ifs:List Expr}{scope:Scope}{pos:Pos}{it acc:Value}{env:Env}(J:Nat->Shared->Prop)
  (turn:∀n s,J n s->wpAny (model prog w) A (pyNext it) (λr s1=>match r with
   |none=>R (.ok .next) s1
   |some v=>wpAny (model prog w) A (letOwnedTupleGo target it v) (λ_ s2=>wpAny (model prog w) A (assign target env v) (λ_ s3 =>
     wpAny (model prog w) A (forIn ifs true λc r=>if r=true then do let ok ←isTrue c env (eval c env);pure (ForInStep.yield ok)else pure (ForInStep.yield r)) (λok s4 =>
      if ok=true then wpAny (model prog w) A (eval elt env) (λy s5=>wpAny (model prog w) A (call (.builtin "list.append") [acc,y]) (λ_ s6=>∃m,m<n/\J m s6) (λ_ _=>False) s5) (λ_ _=>False) s4
      else ∃m,m<n/\J m s4) (λ_ _=>False) s3) (λ_ _=>False) s2) (λ_ _=>False) s1) (λ_ _=>False) s)
  (n:Nat)(h:J n s):codeAny (model prog w) A (.compLoop (.ListComp elt [⟨target,iter,ifs,0⟩] scope pos) 0 it acc env) R s:=by
 refine codeAny_loop U J (λn s hJ=>?_) n h;show wpAny _ A ((compTurn (.ListComp elt [⟨target,iter,ifs,0⟩] scope pos) 0 it acc env).onRaise (λx=>do noteFrame x env;theTreesLotGoes x)) _ _ s;refine wpAny_noted ?_;rw[compTurn_list];refine wpAny_bind (wpAny_standAt (wpAny_bind (wpAny_mono (turn n s hJ) (λr s1 h1=>?_) λ_ _ z=>z.elim)));cases r with
 |none=>exact wpAny_pure h1
 |some v =>
  refine wpAny_bind (wpAny_mono h1 (λ_ s2 h2=>?_) λ_ _ z=>z.elim);refine wpAny_bind (wpAny_mono h2 (λ_ s3 h3=>wpAny_bind (wpAny_mono h3 (λok s4 h4=>?_) λ_ _ z=>z.elim)) λ_ _ z=>z.elim);cases ok with
  |false=>exact wpAny_pure ⟨U,h4⟩
  |true=>exact wpAny_bind (wpAny_bind (wpAny_mono h4 (λy s5 h5=>wpAny_bind (wpAny_mono h5 (λ_ s6 h6=>wpAny_pure (wpAny_pure ⟨U,h6⟩)) λ_ _ z=>z.elim)) λ_ _ z=>z.elim))
end
section
variable{elt iter:Expr}{ifs:List Expr}{x:Str}{px:Pos}{scope:Scope}{cl:List (Str×Addr)}{N:List Str}{fr:List Nat}{tt:TT}{te:TE}
theorem mn{pins:List (Addr×Obj)}{σ:St}{s2:Shared}{H2:Hp}{it:Addr}{fp:List Addr}{tn:Nat->Heap->Prop}{J:It}{Q:VK}{E:Value->Shared->Prop}{RR:Value->Addr->Result->Shared->Prop}
  (O:ot X N fr scope cl x)(hc:X.calm=true)(I2:Inv X pins σ H2 s2)(T:Turn X.prog X.w X.K (.Name x px) J fp it tn)(st2:tn 0 s2.heap)(f2:∀b∈fp,jq X pins H2 b)
  (ht:∀fp C s H,PIf (bz X N scope cl fp C s H) ifs tt)(he:∀fp C s H,PE (bz X N scope cl fp C s H) elt te)
  (hW:m8 J fr tt te σ Q H2)
  (fin:∀D C s' H',s2.heap.objs.size<=C->H' C=none->(∃m,s'.heap.Ns C m)->Inv X pins σ H' s'->Q (.ref D) H'->RR (.ref D) C (.ok .next) s') :
  wpAny (model X.prog X.w) X.A (newList []) (λacc s3=>wpAny (model X.prog X.w) X.A (newFunctionEnv scope X.env.globals cl [] X.env.qual none .none (some X.env)) (λsJ s4 =>
   codeAny (model X.prog X.w) X.A (.compStart (.ListComp elt [⟨.Name x px,iter,ifs,0⟩] scope pos) 0 (.ref it) acc { sJ with scope:=relabel scope X.env }) (RR acc sJ.locals) s4) E s3) E s2:=by
 refine wpAny_newObj_type (wpAny_newFunctionEnv O.nocell (by intro y hy;simp at hy) (λh1 hns hsb=>?_) O.kind);dsimp only at hns hsb⊢;generalize hG:s2.heap.push { cls:=.type "list",dict:=none,data:=.seq ([]:List Value).toArray }=G at hns hsb⊢;have hC:G.objs.size=s2.heap.objs.size+1:=by rw[←hG,Heap.size_push]
 have old:∀b o,s2.heap.get? b=some o->h1.get? b=some o:=λb o e=>hsb.extBut b o (ne_of_lt (by rw[hC];exact lt_succ_of_lt (Heap.lt_size e))) (Heap.get?_push_of_some _ (hG ▸ Heap.get?_push_of_some _ e))
 have sL:h1.get? s2.heap.objs.size=some { cls:=.type "list",data:=.seq ([]:List Value).toArray 0 }:=hsb.extBut _ _ (ne_of_lt (by rw[hC];exact lt_succ_self _)) (Heap.get?_push_of_some _ (hG ▸ Heap.get?_push_size _ U));have hD:H2 s2.heap.objs.size=none:=I2.fresh;have okX:(bz X N scope cl fp G.objs.size s2 H2).Ok:=by
  refine⟨I2.ok.mod,O.kind,I2.ok.glob,I2.ok.blt,by show s2.heap.objs.size<=G.objs.size;rw[hC];exact le_succ _,λy z c e1 e2=>I2.ok.inj y z c (O.cells y c e1) (O.cells z c e2),λy hy=>O.has y hy,λy c z=>absurd (show false=true from z) Bool.false_ne_true,I2.ok.hd,I2.ok.frames,.inl U,
   λb hb=>⟨?_,λy c e=>(f2 b hb).2.2.2.2.1 y c (O.cells y c e)⟩,I2.bs,le_trans I2.ok.bsz I2.sz,λb o e hb=>?_,λb hb z=>?_,I2.stack,I2.stkFree⟩
  ·obtain⟨o,e,_⟩:=T.obj _ _ st2 b hb;show b≠G.objs.size;exact ne_of_lt (by rw[hC];exact lt_succ_of_lt (Heap.lt_size e))
  ·rcases(f2 b hb).2.2.2.1 with z|z
   ·exact I2.ok.noex b o e z
   ·exact absurd (lt_of_lt_of_le (Heap.lt_size e) (le_trans I2.ok.bsz z)) (lt_irrefl _)
  ·rcases mem_cons.mp (I2.stkSub b z)with z|z
   ·exact(f2 b hb).2.1 z
   ·exact(f2 b hb).2.2.1 z
 have kA:∀{H':Hp},(∀b∈fp,H' b=none)->∀b∈fp,jq (bz X N scope cl fp G.objs.size s2 H2) [] H' b:=λhn b hb =>
  ⟨hn b hb,(okX.exf b hb).1,okX.exfs b hb,.inl hb,(okX.exf b hb).2,λp hp=>absurd (show p∈([]:List (Addr×Obj))from hp) (by simp)⟩
 have I':Inv (bz X N scope cl fp G.objs.size s2 H2) [] (fw σ fr none) (upd H2 s2.heap.objs.size (.lst [])) { s2 with heap:=h1,toks:=s2.toks+([]:List (Str×Value)).length }:=by
  refine⟨okX,U,I2.bare,Un.laid old (le_refl _) hD,⟨_,hns,λi y v e1 e2 e3=>?_⟩,λy c e=>?_,?_,λy c e=>?_,λp hp=>absurd (show p∈([]:List (Addr×Obj))from hp) (by simp),I2.hok.laid old (le_refl _) ⟨zero_le _,[],0,.nil,sL⟩,?_⟩
  ·cases i with
   |zero=>cases e2
   |succ i =>
    obtain⟨j,q1,q2,q3,q4⟩:=O.sub i y e1;have e2':(σ[j]?).join=some v:=by
     have:(fr.map λj=>(σ[j]?).join)[i]?=some (some v):=e2;rw[getElem?_map,q1]at this;exact Option.some.inj this
    have e4:σ[j]?=some (some v):=by
     cases z:σ[j]? with
     |none=>rw[z]at e2';cases e2'
     |some t=>rw[z]at e2';exact congrArg some e2'
    obtain⟨m,_,hl⟩:=I2.loc;have vis:Vis X.env.scope y:=.inr q3;obtain⟨u,r,l⟩:=hl j y v q2 e4 vis;refine⟨u,r,.inr ⟨q4,?_⟩⟩;obtain⟨c',hc'⟩:=O.has y q4;rcases l with⟨k,_⟩|⟨_,c,ec,ic⟩
    ·rcases q3 with z|z
     ·rw[z]at k;cases k
     ·rw[z]at k;cases k
    ·have:=O.cells y c' hc';have e':c=c':=Option.some.inj (ec.symm.trans this);obtain⟨o,ho,hd⟩:=ic;rw[e']at ho;exact⟨c',hc',o,old c' o ho,hd⟩
  ·obtain⟨v,o,ho,hd⟩:=I2.cell y c (O.cells y c e);exact⟨v,o,old c o ho,hd⟩
  ·show upd H2 s2.heap.objs.size (.lst []) G.objs.size=none;rw[au (ne_of_gt (by rw[hC];exact lt_succ_self _))];exact I2.hok.fresh (by rw[hC];exact le_succ _)
  ·obtain⟨v,o,ho,hd⟩:=I2.cell y c (O.cells y c e);rw[au (ne_of_lt (Heap.lt_size ho))];exact I2.freeC y c (O.cells y c e)
  ·show(fw σ fr none).length=N.length;rw[O.len];simp[fw]
 have st1:tn 0 h1:=T.keep _ _ _ st2 λb hb o e=>old b o e
 have loop:∀s3:Shared,s3={ s2 with heap:=h1,toks:=s2.toks+([]:List (Str×Value)).length } ->
   codeAny (model X.prog X.w) X.A (.compLoop (.ListComp elt [⟨.Name x px,iter,ifs,0⟩] scope pos) 0 (.ref it) (.ref s2.heap.objs.size) (compEnvC scope cl G.objs.size X.env)) (RR (.ref s2.heap.objs.size) G.objs.size) s3:=by
  rintro s3 rfl;obtain⟨W,⟨m0,w0⟩,turn⟩:=hW _ hD
  refine kz (λn s'=>∃i t H',Inv (bz X N scope cl fp G.objs.size s2 H2) [] (fw σ fr t) H' s'/\tn i s'.heap/\(∀b∈fp,H' b=none)/\W i n H') ?_ m0
   ⟨0,none,_,I',st1,λb hb=>by
    rw[au (by obtain⟨o,e,_⟩:=T.obj _ _ st2 b hb;exact ne_of_lt (Heap.lt_size e))];exact(f2 b hb).1,w0⟩
  rintro n s' ⟨i,t,H',I3,st3,fr3,w3⟩;rcases turn i n H' w3 with⟨stop,qn⟩|⟨go,step⟩
  ·refine thn (T.done (bz X N scope cl fp G.objs.size s2 H2) U U U hc i [] s' _ H' _ I3 (kA fr3) st3 stop) λr s4 ⟨hr,I4⟩=>?_
   subst hr;obtain⟨m,hm,_⟩:=I4.loc;refine fin _ _ s4 H' (by rw[hC];exact le_succ _) I4.free ⟨m,hm⟩ (I2.call' (ch:=fp) I4.os I4.base I4.hok I4.bare λb hb=>?_) qn;exact⟨(f2 b hb).2.2.2.1,(f2 b hb).2.1,(f2 b hb).2.2.2.2.1,(f2 b hb).2.2.2.2.2⟩
  ·refine thn (T.item (bz X N scope cl fp G.objs.size s2 H2) U U U hc i [] s' _ H' _ I3 (kA fr3) st3 go) λr s4 ⟨u,hr,h4⟩=>?_
   subst hr;refine thn h4 λ_ s5 ⟨y,H5,I5,r5,y5,st5,fr5⟩=>?_
   have I5':=I5.pinned (kA fr5) (T.obj _ _ st5);have lx:(bz X N scope cl fp G.objs.size s2 H2).env.scope.names.lookup x=some .local:=lookup_relabel_local O.hx;refine thn (ay (X:=bz X N scope cl fp G.objs.size s2 H2) (i:=0) O.nd O.n0 (.inl lx) (.inr lx) _ s5 _ H5 y u (λσ' H'=>σ'=fw σ fr (some y)/\H'=H5) I5' r5 ⟨U,U⟩) λ_ s6 ⟨σ6,H6,I6,e6,e6'⟩=>?_
   subst e6;subst e6'
   have again:∀{σ7:St}{H7:Hp}{s7:Shared}{m':Nat},σ7=fw σ fr (some y)->Inv (bz X N scope cl fp G.objs.size s2 H2) ([]++jr fp s5.heap) σ7 H7 s7->m'<n->W (i+1) m' H7 ->
     ∃m,m<n/\∃i t H',Inv (bz X N scope cl fp G.objs.size s2 H2) [] (fw σ fr t) H' s7/\tn i s7.heap/\(∀b∈fp,H' b=none)/\W i m H':=λ{σ7 H7 s7 m'} e7 I7 hm w7=>by
    subst e7;refine⟨m',hm,i+1,some y,H7,I7.unpinned,T.keep _ _ _ st5 λb hb o e=>(I7.pin (b,o) (mem_append_right _ (mem_append_right _ (de hb e)))).1,λb hb=>?_,w7⟩;obtain⟨o,e,d⟩:=T.obj _ _ st5 b hb;exact(I7.pin (b,o) (mem_append_right _ (mem_append_right _ (de hb e)))).2.1
   refine thn (ht fp G.objs.size s2 H2 _ s6 _ H6 _ I6 (step y H6 y5)) λok s7 ⟨H7,I7,q7⟩=>?_
   cases ok with
   |false =>
    rw[if_neg Bool.false_ne_true]at q7⊢;obtain⟨m',hm,w7⟩:=q7;exact again U I7 hm w7
   |true =>
    rw[if_pos U]at q7⊢;refine thn (he fp G.objs.size s2 H2 _ s7 _ H7 _ I7 q7) λu8 s8 ⟨v8,H8,I8,r8,ys,hys,hlen,m',hm,w8⟩=>?_
    refine thn (bA (X:=bz X N scope cl fp G.objs.size s2 H2) _ s8 _ H8 (.ref s2.heap.objs.size) [v8] _ [u8] (λ_ H9=>W (i+1) m' H9) I8 U (.cons r8 .nil) ⟨_,ys,v8,U,U,hys,hlen,w8⟩) λ_ s9 ⟨_,H9,I9,_,w9⟩=>?_
    exact again U I9 hm w9
 exact codeAny_compStart_list (loop _ U) (T.self _ 0 _ _ _ st1 (loop _ U))
theorem Inv.left{pins:List (Addr×Obj)}{σ σ2:St}{s2 s':Shared}{H2 H':Hp}{C:Addr}{h':Heap}(I2:Inv X pins σ2 H2 s2)(I':Inv X pins σ H' s')(hC:s2.heap.objs.size<=C)(hn:H' C=none)(hs:Heap.SameBut C s'.heap h'):Inv X pins σ H' { s' with heap:=h' }:=by
 refine I'.turned (t':=s'.toks) (it:=C) (λb o hb e=>(hs.2 b hb).trans e) hn (ne_of_gt (lt_of_lt_of_le I2.lt hC)) (.inr (le_trans I2.sz hC)) (λy c e=>?_) λp hp=>?_
 ·obtain⟨v,o,ho,_⟩:=I2.cell y c e;exact ne_of_lt (lt_of_lt_of_le (Heap.lt_size ho) hC)
 ·exact ne_of_lt (lt_of_lt_of_le (Heap.lt_size (I2.pin p hp).1) hC)
theorem m9{wi:TI}(hi:PI X (.Name x px) iter wi)(O:ot X N fr scope cl x)(hc:X.calm=true)(ht:∀fp C s H,PIf (bz X N scope cl fp C s H) ifs tt)(he:∀fp C s H,PE (bz X N scope cl fp C s H) elt te)
  (hs:∀v,foldedSetIterable iter X.env v=pure v:=by intro _;rfl):PE X (.ListComp elt [⟨.Name x px,iter,ifs,0⟩] scope pos) (uZ wi fr tt te):=by
 intro pins s σ H Q I h;rw[eval_ListComp];refine wpAny_comprehension_free (use:=none) U hs O.clos O.kind O.names (thn (hi pins s σ H _ I h) λv s1 h1=>thn h1 λitv s2 h2=>?_);obtain⟨it,fp,tn,J,H2,e,I2,T,st2,f2,hW⟩:=h2;subst e;refine mn (RR:=λacc C=>compPost (model X.prog X.w) X.A X.xe none (EP X pins σ Q) acc C) O hc I2 T st2 f2 ht he hW λD C s' H' hC hn ⟨m,hm⟩ I' q=>?_
 exact⟨m,hm,λh' hs'=>⟨.ref D,H',I2.left I' hC hn hs',U,q⟩⟩
theorem kf{wi:TI}{i:Nat}{y:Str}{py sM:Pos}(hN:X.N.Nodup)(hy:X.N[i]?=some y)(hl:Loc X.env.scope y)(hi:PI X (.Name x px) iter wi)(O:ot X N fr scope cl x)(hc:X.calm=true)
  (ht:∀fp C s H,PIf (bz X N scope cl fp C s H) ifs tt)(he:∀fp C s H,PE (bz X N scope cl fp C s H) elt te)(hs:∀v,foldedSetIterable iter X.env v=pure v:=by intro _;rfl)
  (hsw:swapsWith (.ListComp elt [⟨.Name x px,iter,ifs,0⟩] scope pos) (some (.Name y py)) sM.line X.env=pure true:=by rfl)(hf:X.fn y=true\/X.env.scope.names.lookup y=some .local:=by first|exact .inl U|exact .inr U|assumption) :
  PS X (.Assign [.Name y py] (.ListComp elt [⟨.Name x px,iter,ifs,0⟩] scope pos) sM) (ue (uZ wi fr tt te) (ma i)):=by
 intro pins s σ H D0 I h;rw[exec_Assign_Name_used _ _ _ _ hsw];refine wpAny_bind (wpAny_standAt (wpAny_bind ?_));show wpAny _ X.A (do let _ ←comprehension (.ListComp elt [⟨.Name x px,iter,ifs,0⟩] scope pos) scope X.env _ (newList []) false (eval iter X.env) (some (assign (.Name y py) X.env))) _ _ s;refine wpAny_bind (wpAny_mono (wpAny_comprehension_free (use:=some (assign (.Name y py) X.env)) (Q:=λ_ s'=>SP X pins D0 .next s') U hs O.clos O.kind O.names (thn (hi pins s σ H _ I h) λv s1 h1=>thn h1 λitv s2 h2=>?_)) (λ_ s' hq=>wpAny_pure (wpAny_pure hq)) λ_ _ z=>z);obtain⟨it,fp,tn,J,H2,e,I2,T,st2,f2,hW⟩:=h2;subst e;refine mn (Q:=λv H1=>ma i v σ H1 D0.nx) (RR:=λacc C=>compPost (model X.prog X.w) X.A X.xe (some (assign (.Name y py) X.env)) (λ_ s'=>SP X pins D0 .next s') acc C) O hc I2 T st2 f2 ht he hW λD C s' H' hC hn ⟨m,hm⟩ I' q=>?_
 show wpAny _ X.A (assign (.Name y py) X.env (.ref D)) _ _ s';refine wpAny_assign_Name (jn I' hN hy hl (v:=.ref D) U (λs3 I3 ⟨a,hsa,ha⟩=>?_) hf);have hCa:C≠a:=by
  rcases ha with z|z
  ·rw[z];exact ne_of_gt (lt_of_lt_of_le I2.lt hC)
  ·obtain⟨v,o,ho,_⟩:=I2.cell y a z;exact ne_of_gt (lt_of_lt_of_le (Heap.lt_size ho) hC)
 exact⟨m,hm.sameBut hsa hCa,λh' hs'=>⟨_,H',I2.left I3 hC hn hs',q⟩⟩
def f9(Pv:Addr->Nat->List V->Hp->Prop)(D:Addr)(i n:Nat)(H2:Hp):Prop:=∃m',m'<n-i/\m'=n-(i+1)/\i+1<=n/\∃zs,Pv D (i+1) zs H2
def dD(Pv:Addr->Nat->List V->Hp->Prop)(D:Addr)(i n:Nat):VK:=λy H3=>∃ys,H3 D=some (.lst ys)/\ys.length<sizeLine/\f9 Pv D i n (upd H3 D (.lst (ys++[y])))
theorem f9.mk{Pv:Addr->Nat->List V->Hp->Prop}{D:Addr}{i n:Nat}{H2:Hp}{zs:List V}(hi:i<n)(h:Pv D (i+1) zs H2):f9 Pv D i n H2:=⟨n-(i+1),by lia,U,hi,zs,h⟩
theorem dD.mk{Pv:Addr->Nat->List V->Hp->Prop}{D:Addr}{i n:Nat}{H3:Hp}{ys:List V}{y:V}(hi:i<n)(e:H3 D=some (.lst ys))(hl:ys.length<sizeLine)(h:Pv D (i+1) (ys++[y]) (upd H3 D (.lst (ys++[y])))):dD Pv D i n y H3:=⟨ys,e,hl,.mk hi h⟩
theorem ju{K:W.Frag}{a:Addr}{xs:List V}{σ:St}{H1:Hp}{Q:VK}(Pv:Addr->Nat->List V->Hp->Prop)(h0:∀D,H1 D=none->Pv D 0 [] (upd H1 D (.lst [])))
  (hk:∀D i ys H,H1 D=none->i<=xs.length->Pv D i ys H->SqL K H a xs)
  (hs:∀D i x ys H,H1 D=none->xs[i]?=some x->Pv D i ys H->tt (fw σ fr (some x)) H λb H2=>if b=true then te (fw σ fr (some x)) H2 (dD Pv D i xs.length)else f9 Pv D i xs.length H2)
  (hd:∀D ys H,H1 D=none->Pv D xs.length ys H->Q (.ref D) H):m8 (Itl K a) fr tt te σ Q H1:=by
 intro D hD;refine⟨λi m H=>m=xs.length-i/\i<=xs.length/\∃ys,Pv D i ys H,⟨_,U,zero_le _,[],h0 D hD⟩,?_⟩;rintro i m H ⟨rfl,hi,ys,p⟩;have q:=hk D i ys H hD hi p;by_cases hlt:i<xs.length
 ·refine .inr ⟨⟨xs,xs[i],q,by simp[hlt]⟩,λx H' y=>?_⟩;obtain⟨e,y⟩:=y;subst e;exact hs D i x ys _ hD (y xs q) p
 ·have e:i=xs.length:=by lia
  subst e;exact .inl ⟨⟨xs,q,le_refl _⟩,hd D ys H hD p⟩
theorem fK{lo:Int}{n:Nat}{σ:St}{H1:Hp}{Q:VK}(Pv:Addr->Nat->List V->Hp->Prop)(h0:∀D,H1 D=none->Pv D 0 [] (upd H1 D (.lst [])))
  (hs:∀D i ys H,H1 D=none->i<n->Pv D i ys H->tt (fw σ fr (some (.int (lo+i)))) H λb H2=>if b=true then te (fw σ fr (some (.int (lo+i)))) H2 (dD Pv D i n)else f9 Pv D i n H2)
  (hd:∀D ys H,H1 D=none->Pv D n ys H->Q (.ref D) H):m8 (Itr lo n) fr tt te σ Q H1:=by
 intro D hD;refine⟨λi m H=>m=n-i/\i<=n/\∃ys,Pv D i ys H,⟨_,U,zero_le _,[],h0 D hD⟩,?_⟩;rintro i m H ⟨rfl,hi,ys,p⟩;by_cases hlt:i<n
 ·refine .inr ⟨hlt,λx H' y=>?_⟩;obtain⟨e,y⟩:=y;subst e;subst y;exact hs D i ys _ hD hlt p
 ·have e:i=n:=by lia
  subst e;exact .inl ⟨le_refl _,hd D ys H hD p⟩
end
structure kB(X:Cx)(N:List Str)(k:Nat)(fr:List Nat)(scope:Scope)(cl:List (Str×Addr)):Prop where
 clos:closureFor scope X.env=pure cl
 kind:scope.kind=.function
 nocell:∀y∈scope.names,y.2≠.cell
 names:∀y∈scope.names,y.2=.local->scope.names.lookup y.1=some .local
 len:N.length=k+fr.length
 sub:∀(i:Nat)(y:Str),N[k+i]?=some y->∃j,fr[i]?=some j/\X.N[j]?=some y/\(X.env.kindOf y=some .cell\/X.env.kindOf y=some .free)/\((relabel scope X.env).names.lookup y=some .cell\/(relabel scope X.env).names.lookup y=some .free)
 cells:∀y c,cl.lookup y=some c->X.env.cells.lookup y=some c
 has:∀y,((relabel scope X.env).names.lookup y=some .cell\/(relabel scope X.env).names.lookup y=some .free)->∃c,cl.lookup y=some c
theorem bY{X:Cx}{N:List Str}{k:Nat}{scope:Scope}(len:N.length=k)(kind:scope.kind=.function)(nofree:∀y∈scope.names,y.2≠.free)(nocell:∀y∈scope.names,y.2≠.cell)
  (names:∀y∈scope.names,y.2=.local->scope.names.lookup y.1=some .local):kB X N k [] scope []:=by
 have er:(relabel scope X.env).names=scope.names:=map_eq_self λy hy=>by
  have z:(y.2 == NameKind.free)=false:=by simpa using nofree y hy
  simp[z]
 have no:∀y,¬ ((relabel scope X.env).names.lookup y=some .cell\/(relabel scope X.env).names.lookup y=some .free):=λy h=>by
  rw[er]at h;rcases h with h|h
  ·exact nocell _ (mem_of_lookup h) U
  ·exact nofree _ (mem_of_lookup h) U
 refine⟨closureFor_none nofree,kind,nocell,names,by rw[len];rfl,λi y e=>?_,(λy c e=>by cases e),λy h=>absurd h (no y)⟩;have:=(BQ.mp e).1;lia
def cV(σ:St)(fr:List Nat)(ts:St):St:=ts++fr.map λj=>(σ[j]?).join
def i6(J:It)(gt:TG)(k:Nat)(fr:List Nat)(tt:TT)(te:TE)(σ:St)(Q:VK)(H1:Hp):Prop:=∀D,H1 D=none->∃W:Nat->Nat->Hp->Prop,(∃m,W 0 m (upd H1 D (.lst [])))/\∀i m H,W i m H ->
 (J.stop i H/\Q (.ref D) H)\/(J.go i H/\∀x H',J.yld i H x H'->∀ts:St,ts.length=k->gt x (cV σ fr ts) H' λσ2 H2=>(∃ts2:St,ts2.length=k/\σ2=cV σ fr ts2)/\tt σ2 H2 λb H3=>if b=true then te σ2 H3 λy H4=>∃ys,H4 D=some (.lst ys)/\ys.length<sizeLine/\∃m',m'<m/\W (i+1) m' (upd H4 D (.lst (ys++[y])))
  else ∃m',m'<m/\W (i+1) m' H3)
def sN(wi:TI)(gt:TG)(k:Nat)(fr:List Nat)(tt:TT)(te:TE):TE:=λσ H Q=>wi σ H λJ H1=>i6 J gt k fr tt te σ Q H1
section
variable{elt iter tg:Expr}{ifs:List Expr}{scope:Scope}{cl:List (Str×Addr)}{N:List Str}{k:Nat}{fr:List Nat}{gt:TG}{tt:TT}{te:TE}
theorem kC{pins:List (Addr×Obj)}{σ:St}{s2:Shared}{H2:Hp}{it:Addr}{fp:List Addr}{tn:Nat->Heap->Prop}{J:It}{Q:VK}{E:Value->Shared->Prop}{RR:Value->Addr->Result->Shared->Prop}
  (O:kB X N k fr scope cl)(hc:X.calm=true)(I2:Inv X pins σ H2 s2)(T:Turn X.prog X.w X.K tg J fp it tn)(st2:tn 0 s2.heap)(f2:∀b∈fp,jq X pins H2 b)
  (ht:∀fp C s H,PIf (bz X N scope cl fp C s H) ifs tt)(he:∀fp C s H,PE (bz X N scope cl fp C s H) elt te)
  (hg:∀fp C s H,PG (bz X N scope cl fp C s H) tg gt)(hW:i6 J gt k fr tt te σ Q H2)
  (fin:∀D C s' H',s2.heap.objs.size<=C->H' C=none->(∃m,s'.heap.Ns C m)->Inv X pins σ H' s'->Q (.ref D) H'->RR (.ref D) C (.ok .next) s') :
  wpAny (model X.prog X.w) X.A (newList []) (λacc s3=>wpAny (model X.prog X.w) X.A (newFunctionEnv scope X.env.globals cl [] X.env.qual none .none (some X.env)) (λsJ s4 =>
   codeAny (model X.prog X.w) X.A (.compStart (.ListComp elt [⟨tg,iter,ifs,0⟩] scope pos) 0 (.ref it) acc { sJ with scope:=relabel scope X.env }) (RR acc sJ.locals) s4) E s3) E s2:=by
 refine wpAny_newObj_type (wpAny_newFunctionEnv O.nocell (by intro y hy;simp at hy) (λh1 hns hsb=>?_) O.kind);dsimp only at hns hsb⊢;generalize hG:s2.heap.push { cls:=.type "list",dict:=none,data:=.seq ([]:List Value).toArray }=G at hns hsb⊢;have hC:G.objs.size=s2.heap.objs.size+1:=by rw[←hG,Heap.size_push]
 have old:∀b o,s2.heap.get? b=some o->h1.get? b=some o:=λb o e=>hsb.extBut b o (ne_of_lt (by rw[hC];exact lt_succ_of_lt (Heap.lt_size e))) (Heap.get?_push_of_some _ (hG ▸ Heap.get?_push_of_some _ e))
 have sL:h1.get? s2.heap.objs.size=some { cls:=.type "list",data:=.seq ([]:List Value).toArray 0 }:=hsb.extBut _ _ (ne_of_lt (by rw[hC];exact lt_succ_self _)) (Heap.get?_push_of_some _ (hG ▸ Heap.get?_push_size _ U));have hD:H2 s2.heap.objs.size=none:=I2.fresh;have okX:(bz X N scope cl fp G.objs.size s2 H2).Ok:=by
  refine⟨I2.ok.mod,O.kind,I2.ok.glob,I2.ok.blt,by show s2.heap.objs.size<=G.objs.size;rw[hC];exact le_succ _,λy z c e1 e2=>I2.ok.inj y z c (O.cells y c e1) (O.cells z c e2),λy hy=>O.has y hy,λy c z=>absurd (show false=true from z) Bool.false_ne_true,I2.ok.hd,I2.ok.frames,.inl U,
   λb hb=>⟨?_,λy c e=>(f2 b hb).2.2.2.2.1 y c (O.cells y c e)⟩,I2.bs,le_trans I2.ok.bsz I2.sz,λb o e hb=>?_,λb hb z=>?_,I2.stack,I2.stkFree⟩
  ·obtain⟨o,e,_⟩:=T.obj _ _ st2 b hb;show b≠G.objs.size;exact ne_of_lt (by rw[hC];exact lt_succ_of_lt (Heap.lt_size e))
  ·rcases(f2 b hb).2.2.2.1 with z|z
   ·exact I2.ok.noex b o e z
   ·exact absurd (lt_of_lt_of_le (Heap.lt_size e) (le_trans I2.ok.bsz z)) (lt_irrefl _)
  ·rcases mem_cons.mp (I2.stkSub b z)with z|z
   ·exact(f2 b hb).2.1 z
   ·exact(f2 b hb).2.2.1 z
 have kA:∀{H':Hp},(∀b∈fp,H' b=none)->∀b∈fp,jq (bz X N scope cl fp G.objs.size s2 H2) [] H' b:=λhn b hb =>
  ⟨hn b hb,(okX.exf b hb).1,okX.exfs b hb,.inl hb,(okX.exf b hb).2,λp hp=>absurd (show p∈([]:List (Addr×Obj))from hp) (by simp)⟩
 have I':Inv (bz X N scope cl fp G.objs.size s2 H2) [] (cV σ fr (List.replicate k none)) (upd H2 s2.heap.objs.size (.lst [])) { s2 with heap:=h1,toks:=s2.toks+([]:List (Str×Value)).length }:=by
  refine⟨okX,U,I2.bare,Un.laid old (le_refl _) hD,⟨_,hns,λi y v e1 e2 e3=>?_⟩,λy c e=>?_,?_,λy c e=>?_,λp hp=>absurd (show p∈([]:List (Addr×Obj))from hp) (by simp),I2.hok.laid old (le_refl _) ⟨zero_le _,[],0,.nil,sL⟩,?_⟩
  ·by_cases hik:i<k
   ·have e2':(List.replicate k none++fr.map λj=>(σ[j]?).join)[i]?=some (some v):=e2;rw[getElem?_append_left (by rw[length_replicate];exact hik),List.getElem?_replicate,if_pos hik]at e2';cases e2'
   ·obtain⟨j,q1,q2,q3,q4⟩:=O.sub (i-k) y (by rw[show k+(i-k)=i by lia];exact e1);have e2':(σ[j]?).join=some v:=by
     have:(List.replicate k none++fr.map λj=>(σ[j]?).join)[i]?=some (some v):=e2;rw[getElem?_append_right (by rw[length_replicate];lia),length_replicate,getElem?_map,q1]at this;exact Option.some.inj this
    have e4:σ[j]?=some (some v):=by
     cases z:σ[j]? with
     |none=>rw[z]at e2';cases e2'
     |some t=>rw[z]at e2';exact congrArg some e2'
    obtain⟨m,_,hl⟩:=I2.loc;have vis:Vis X.env.scope y:=.inr q3;obtain⟨u,r,l⟩:=hl j y v q2 e4 vis;refine⟨u,r,.inr ⟨q4,?_⟩⟩;obtain⟨c',hc'⟩:=O.has y q4;rcases l with⟨k,_⟩|⟨_,c,ec,ic⟩
    ·rcases q3 with z|z
     ·rw[z]at k;cases k
     ·rw[z]at k;cases k
    ·have:=O.cells y c' hc';have e':c=c':=Option.some.inj (ec.symm.trans this);obtain⟨o,ho,hd⟩:=ic;rw[e']at ho;exact⟨c',hc',o,old c' o ho,hd⟩
  ·obtain⟨v,o,ho,hd⟩:=I2.cell y c (O.cells y c e);exact⟨v,o,old c o ho,hd⟩
  ·show upd H2 s2.heap.objs.size (.lst []) G.objs.size=none;rw[au (ne_of_gt (by rw[hC];exact lt_succ_self _))];exact I2.hok.fresh (by rw[hC];exact le_succ _)
  ·obtain⟨v,o,ho,hd⟩:=I2.cell y c (O.cells y c e);rw[au (ne_of_lt (Heap.lt_size ho))];exact I2.freeC y c (O.cells y c e)
  ·show(cV σ fr (List.replicate k none)).length=N.length;rw[O.len];simp[cV]
 have st1:tn 0 h1:=T.keep _ _ _ st2 λb hb o e=>old b o e
 have loop:∀s3:Shared,s3={ s2 with heap:=h1,toks:=s2.toks+([]:List (Str×Value)).length } ->
   codeAny (model X.prog X.w) X.A (.compLoop (.ListComp elt [⟨tg,iter,ifs,0⟩] scope pos) 0 (.ref it) (.ref s2.heap.objs.size) (compEnvC scope cl G.objs.size X.env)) (RR (.ref s2.heap.objs.size) G.objs.size) s3:=by
  rintro s3 rfl;obtain⟨W,⟨m0,w0⟩,turn⟩:=hW _ hD
  refine kz (λn s'=>∃i ts H',ts.length=k/\Inv (bz X N scope cl fp G.objs.size s2 H2) [] (cV σ fr ts) H' s'/\tn i s'.heap/\(∀b∈fp,H' b=none)/\W i n H') ?_ m0
   ⟨0,List.replicate k none,_,length_replicate,I',st1,λb hb=>by
    rw[au (by obtain⟨o,e,_⟩:=T.obj _ _ st2 b hb;exact ne_of_lt (Heap.lt_size e))];exact(f2 b hb).1,w0⟩
  rintro n s' ⟨i,ts,H',hts,I3,st3,fr3,w3⟩;rcases turn i n H' w3 with⟨stop,qn⟩|⟨go,step⟩
  ·refine thn (T.done (bz X N scope cl fp G.objs.size s2 H2) U U U hc i [] s' _ H' _ I3 (kA fr3) st3 stop) λr s4 ⟨hr,I4⟩=>?_
   subst hr;obtain⟨m,hm,_⟩:=I4.loc;refine fin _ _ s4 H' (by rw[hC];exact le_succ _) I4.free ⟨m,hm⟩ (I2.call' (ch:=fp) I4.os I4.base I4.hok I4.bare λb hb=>?_) qn;exact⟨(f2 b hb).2.2.2.1,(f2 b hb).2.1,(f2 b hb).2.2.2.2.1,(f2 b hb).2.2.2.2.2⟩
  ·refine thn (T.item (bz X N scope cl fp G.objs.size s2 H2) U U U hc i [] s' _ H' _ I3 (kA fr3) st3 go) λr s4 ⟨u,hr,h4⟩=>?_
   subst hr;refine thn h4 λ_ s5 ⟨y,H5,I5,r5,y5,st5,fr5⟩=>?_
   have I5':=I5.pinned (kA fr5) (T.obj _ _ st5);refine thn (hg fp G.objs.size s2 H2 _ s5 _ H5 y u _ I5' r5 (step y H5 y5 ts hts)) λ_ s6 ⟨σ6,H6,I6,⟨ts6,zh,e6⟩,q6⟩=>?_
   subst e6
   have again:∀{σ7:St}{H7:Hp}{s7:Shared}{m':Nat},σ7=cV σ fr ts6->Inv (bz X N scope cl fp G.objs.size s2 H2) ([]++jr fp s5.heap) σ7 H7 s7->m'<n->W (i+1) m' H7 ->
     ∃m,m<n/\∃i ts H',ts.length=k/\Inv (bz X N scope cl fp G.objs.size s2 H2) [] (cV σ fr ts) H' s7/\tn i s7.heap/\(∀b∈fp,H' b=none)/\W i m H':=λ{σ7 H7 s7 m'} e7 I7 hm w7=>by
    subst e7;refine⟨m',hm,i+1,ts6,H7,zh,I7.unpinned,T.keep _ _ _ st5 λb hb o e=>(I7.pin (b,o) (mem_append_right _ (mem_append_right _ (de hb e)))).1,λb hb=>?_,w7⟩;obtain⟨o,e,d⟩:=T.obj _ _ st5 b hb;exact(I7.pin (b,o) (mem_append_right _ (mem_append_right _ (de hb e)))).2.1
   refine thn (ht fp G.objs.size s2 H2 _ s6 _ H6 _ I6 q6) λok s7 ⟨H7,I7,q7⟩=>?_
   cases ok with
   |false =>
    rw[if_neg Bool.false_ne_true]at q7⊢;obtain⟨m',hm,w7⟩:=q7;exact again U I7 hm w7
   |true =>
    rw[if_pos U]at q7⊢;refine thn (he fp G.objs.size s2 H2 _ s7 _ H7 _ I7 q7) λu8 s8 ⟨v8,H8,I8,r8,ys,hys,hlen,m',hm,w8⟩=>?_
    refine thn (bA (X:=bz X N scope cl fp G.objs.size s2 H2) _ s8 _ H8 (.ref s2.heap.objs.size) [v8] _ [u8] (λ_ H9=>W (i+1) m' H9) I8 U (.cons r8 .nil) ⟨_,ys,v8,U,U,hys,hlen,w8⟩) λ_ s9 ⟨_,H9,I9,_,w9⟩=>?_
    exact again U I9 hm w9
 exact codeAny_compStart_list (loop _ U) (T.self _ 0 _ _ _ st1 (loop _ U))
theorem cX{wi:TI}(hi:PI X tg iter wi)(O:kB X N k fr scope cl)(hc:X.calm=true)(hg:∀fp C s H,PG (bz X N scope cl fp C s H) tg gt)(ht:∀fp C s H,PIf (bz X N scope cl fp C s H) ifs tt)(he:∀fp C s H,PE (bz X N scope cl fp C s H) elt te)
  (hs:∀v,foldedSetIterable iter X.env v=pure v:=by intro _;rfl):PE X (.ListComp elt [⟨tg,iter,ifs,0⟩] scope pos) (sN wi gt k fr tt te):=by
 intro pins s σ H Q I h;rw[eval_ListComp];refine wpAny_comprehension_free (use:=none) U hs O.clos O.kind O.names (thn (hi pins s σ H _ I h) λv s1 h1=>thn h1 λitv s2 h2=>?_);obtain⟨it,fp,tn,J,H2,e,I2,T,st2,f2,hW⟩:=h2;subst e;refine kC (RR:=λacc C=>compPost (model X.prog X.w) X.A X.xe none (EP X pins σ Q) acc C) O hc I2 T st2 f2 ht he hg hW λD C s' H' hC hn ⟨m,hm⟩ I' q=>?_
 exact⟨m,hm,λh' hs'=>⟨.ref D,H',I2.left I' hC hn hs',U,q⟩⟩
theorem cH{K:W.Frag}{a:Addr}{xs:List V}{σ:St}{H1:Hp}{Q:VK}(Pv:Addr->Nat->List V->Hp->Prop)(h0:∀D,H1 D=none->Pv D 0 [] (upd H1 D (.lst [])))
  (hk:∀D i ys H,H1 D=none->i<=xs.length->Pv D i ys H->SqL K H a xs)
  (hs:∀D i x ys H,H1 D=none->xs[i]?=some x->Pv D i ys H->∀ts:St,ts.length=k->gt x (cV σ fr ts) H λσ2 H2=>(∃ts2:St,ts2.length=k/\σ2=cV σ fr ts2)/\tt σ2 H2 λb H3=>if b=true then te σ2 H3 (dD Pv D i xs.length)else f9 Pv D i xs.length H3)
  (hd:∀D ys H,H1 D=none->Pv D xs.length ys H->Q (.ref D) H):i6 (Itl K a) gt k fr tt te σ Q H1:=by
 intro D hD;refine⟨λi m H=>m=xs.length-i/\i<=xs.length/\∃ys,Pv D i ys H,⟨_,U,zero_le _,[],h0 D hD⟩,?_⟩;rintro i m H ⟨rfl,hi,ys,p⟩;have q:=hk D i ys H hD hi p;by_cases hlt:i<xs.length
 ·refine .inr ⟨⟨xs,xs[i],q,by simp[hlt]⟩,λx H' y=>?_⟩;obtain⟨e,y⟩:=y;subst e;exact hs D i x ys _ hD (y xs q) p
 ·have e:i=xs.length:=by lia
  subst e;exact .inl ⟨⟨xs,q,le_refl _⟩,hd D ys H hD p⟩
end
theorem gn{X:Cx}{K:W.Frag}{es:List Expr}{k:Nat}{t:TGs}{n:Nat}{pos:Pos}(hK:X.K=K)(hc:X.calm=true)(h:PGs X es t)(hn:(assignEach es X.env).length=n:=by rfl)(hst:(assignEach es X.env).findIdx? (·.1)=none:=by rfl):PG X (.Tuple es k pos) (xw K n t):=hK ▸ cG hc h hn hst
end L2
namespace Srt
open PySem PySem.W PyProof.Rows
def Ok(n:Nat)(lt:Nat->Nat->Bool){α:Type}:KasT α->(α->Prop)->Prop
 | .ret a,Q=>Q a
 | .ask i j k,Q=>i<n/\j<n/\Ok n lt (k (lt i j)) Q
section
variable{n:Nat}{lt:Nat->Nat->Bool}
abbrev g(p:Array Nat)(i:Nat):Nat:=p.getD i 0
def Bd(n:Nat)(p:Array Nat):Prop:=0<n/\∀i,g p i<n
structure Ord(lt:Nat->Nat->Bool):Prop where
 tr:∀a b c,lt b a=false->lt c b=false->lt c a=false
 as:∀a b,lt a b=true->lt b a=false
end
end Srt
namespace L2
open PySem PySem.Spec PySem.W PyProof.Rows
variable{prog:Program}{w:World}{A:Around}{E:Value->Shared->Prop}{s:Shared}
variable{X:Cx}
theorem dz(p:Pr)(R:List Pr)(n:Int):inP (p :: R) n=(inR n p || inP R n):=by
 unfold inP;rw[List.any_cons]
theorem bM{n:Int}{p:Pr}:inR n p=true↔p.1<=n/\n<=p.2:=by
 unfold inR;simp only[and_eq_true,decide_eq_true_eq]
theorem fL{n:Int}{p:Pr}:inR n p=false↔¬ (p.1<=n/\n<=p.2):=by
 rw[←bM];simp
theorem dM{n:Int}{R:List Pr}:inP R n=true↔∃p∈R,p.1<=n/\n<=p.2:=by
 unfold inP;rw[any_eq_true];exact⟨λ⟨p,h,e⟩=>⟨p,h,bM.mp e⟩,λ⟨p,h,e⟩=>⟨p,h,bM.mpr e⟩⟩
theorem eH{n:Int}{R:List Pr}(h:∀p∈R,¬ (p.1<=n/\n<=p.2)):inP R n=false:=by
 cases e:inP R n with
 |false=>rfl
 |true=>obtain⟨p,hp,z⟩:=dM.mp e;exact absurd z (h p hp)
theorem Apart.nil:Apart []:=⟨(λp hp=>by cases hp),List.Pairwise.nil⟩
theorem Apart.tail{a:Pr}{A:List Pr}(h:Apart (a :: A)):Apart A/\a.1<=a.2/\∀p∈A,a.2+2<=p.1:=by
 have g:=pairwise_cons.mp h.gap;exact⟨⟨λp hp=>h.le p (mem_cons_of_mem _ hp),g.2⟩,h.le a mem_cons_self,λp hp=>g.1 p hp⟩
theorem Apart.behind{a:Pr}{A:List Pr}(h:Apart (a :: A)){n:Int}(hn:n<=a.2):inP A n=false:=eH λp hp z=>by
 have:=h.tail.2.2 p hp;lia
theorem Apart.take{R:List Pr}(h:Apart R)(i:Nat):Apart (R.take i):=⟨λp hp=>h.le p (List.mem_of_mem_take hp),h.gap.sublist (take_sublist _ _)⟩
structure eI(S A B A0 B0:List Pr):Prop where
 ap:Apart S
 aA:Apart A
 aB:Apart B
 mem:∀n,(inP A0 n && inP B0 n)=(inP S n || (inP A n && inP B n))
 gap:∀s∈S,(∀p∈A,s.2+2<=p.1)\/(∀p∈B,s.2+2<=p.1)
theorem eI.start{A B:List Pr}(hA:Apart A)(hB:Apart B):eI [] A B A B:=⟨Apart.nil,hA,hB,λn=>by simp[inP],λs hs=>by cases hs⟩
theorem eI.fin{S A B A0 B0:List Pr}(h:eI S A B A0 B0)(e:A=[]\/B=[])(n:Int):inP S n=(inP A0 n && inP B0 n):=by
 rw[h.mem n];rcases e with e|e <;> rw[e] <;> simp[inP]
theorem eI.left{S A B A0 B0:List Pr}{a b c:Pr}(h:eI S (a :: A) (b :: B) A0 B0)(hl:a.2<b.2)(hc:c.1=max a.1 b.1/\c.2=min a.2 b.2) :
  (c.1<=c.2->eI (S++[c]) A (b :: B) A0 B0)/\(¬ c.1<=c.2->eI S A (b :: B) A0 B0):=by
 obtain⟨a1,a2,a3⟩:=h.aA.tail;have em:∀n,((inR n a || inP A n) && (inR n b || inP B n))=(inR n c || (inP A n && (inR n b || inP B n))):=λn=>by
  have ec:inR n c=(inR n a && inR n b):=by
   rw[Bool.eq_iff_iff,and_eq_true,bM,bM,bM];lia
  rw[ec];cases e:inR n a with
  |false=>simp
  |true =>
   have z:=bM.mp e;rw[h.aA.behind z.2,h.aB.behind (by lia)];cases inR n b <;> rfl
 have g0:∀s∈S,(∀p∈A,s.2+2<=p.1)\/(∀p∈b :: B,s.2+2<=p.1):=λs hs=>by
  rcases h.gap s hs with z|z
  ·exact .inl λp hp=>z p (mem_cons_of_mem _ hp)
  ·exact .inr z
 refine⟨λhle=>⟨h.ap.snoc hle λs hs=>?_,a1,h.aB,λn=>?_,λs hs=>?_⟩,λhle=>⟨h.ap,a1,h.aB,λn=>?_,g0⟩⟩
 ·rcases h.gap s hs with z|z
  ·have:=z a mem_cons_self;lia
  ·have:=z b mem_cons_self;lia
 ·rw[h.mem n,dz,dz,em n,du,Bool.or_assoc]
 ·rcases mem_append.mp hs with hs|hs
  ·exact g0 s hs
  ·have e:s=c:=by simpa using hs
   refine .inl λp hp=>?_
   have:=a3 p hp;rw[e];lia
 ·have ec:inR n c=false:=fL.mpr (by lia);rw[h.mem n,dz,dz,em n,ec,Bool.false_or]
theorem eI.right{S A B A0 B0:List Pr}{a b c:Pr}(h:eI S (a :: A) (b :: B) A0 B0)(hl:¬ a.2<b.2)(hc:c.1=max a.1 b.1/\c.2=min a.2 b.2) :
  (c.1<=c.2->eI (S++[c]) (a :: A) B A0 B0)/\(¬ c.1<=c.2->eI S (a :: A) B A0 B0):=by
 obtain⟨b1,b2,b3⟩:=h.aB.tail;have em:∀n,((inR n a || inP A n) && (inR n b || inP B n))=(inR n c || ((inR n a || inP A n) && inP B n)):=λn=>by
  have ec:inR n c=(inR n a && inR n b):=by
   rw[Bool.eq_iff_iff,and_eq_true,bM,bM,bM];lia
  rw[ec];cases e:inR n b with
  |false=>simp
  |true =>
   have z:=bM.mp e;rw[h.aB.behind z.2,h.aA.behind (by lia)];cases inR n a <;> rfl
 have g0:∀s∈S,(∀p∈a :: A,s.2+2<=p.1)\/(∀p∈B,s.2+2<=p.1):=λs hs=>by
  rcases h.gap s hs with z|z
  ·exact .inl z
  ·exact .inr λp hp=>z p (mem_cons_of_mem _ hp)
 refine⟨λhle=>⟨h.ap.snoc hle λs hs=>?_,h.aA,b1,λn=>?_,λs hs=>?_⟩,λhle=>⟨h.ap,h.aA,b1,λn=>?_,g0⟩⟩
 ·rcases h.gap s hs with z|z
  ·have:=z a mem_cons_self;lia
  ·have:=z b mem_cons_self;lia
 ·rw[h.mem n,dz,dz,em n,du,Bool.or_assoc]
 ·rcases mem_append.mp hs with hs|hs
  ·exact g0 s hs
  ·have e:s=c:=by simpa using hs
   refine .inr λp hp=>?_
   have:=b3 p hp;rw[e];lia
 ·have ec:inR n c=false:=fL.mpr (by lia);rw[h.mem n,dz,dz,em n,ec,Bool.false_or]
structure kD(F T:List Pr)(lo hi st:Int):Prop where
 ap:Apart F
 lt:∀s∈F,s.2+2<=st
 rng:∀s∈F,lo<=s.1/\s.2<=hi
 tk:∀p∈T,p.2<st
 fr:st=lo\/∃p∈T,st=p.2+1
 ge:lo<=st
 mem:∀n,lo<=n->n<=hi->n<st->inP F n = !inP T n
theorem kD.start(lo hi:Int):kD [] [] lo hi lo:=⟨Apart.nil,(λs hs=>by cases hs),(λs hs=>by cases hs),(λs hs=>by cases hs),.inl U,Int.le_refl _,λn h1 _ h3=>by lia⟩
theorem kD.turn{F T:List Pr}{lo hi st st' e:Int}{p:Pr}(h:kD F T lo hi st)(ap:Apart (T++[p]))(he:e=min (p.1-1) hi)(hs:st'=max st (p.2+1)) :
  (st<=e->kD (F++[(st,e)]) (T++[p]) lo hi st')/\(¬ st<=e->kD F (T++[p]) lo hi st'):=by
 obtain⟨t1,t2,t3⟩:=ap.init;have low:∀n,lo<=n->n<st->inR n p=false:=λn h1 h2=>fL.mpr λz=>by
  rcases h.fr with q|⟨o,ho,q⟩
  ·lia
  ·have:=t3 o ho;lia
 have tk':∀q∈T++[p],q.2<st':=λq hq=>by
  rcases mem_append.mp hq with hq|hq
  ·have:=h.tk q hq;lia
  ·have e:q=p:=by simpa using hq
   rw[e];lia
 have fr':st'=lo\/∃q∈T++[p],st'=q.2+1:=by
  by_cases c:p.2+1<=st
  ·have e1:st'=st:=by lia
   rw[e1];rcases h.fr with q|⟨o,ho,q⟩
   ·exact .inl q
   ·exact .inr ⟨o,mem_append_left _ ho,q⟩
  ·exact .inr ⟨p,by simp,by lia⟩
 have tno:∀n,st<=n->inP T n=false:=λn hn=>eH λq hq z=>by have:=h.tk q hq;lia
 have fno:∀n,st<=n->inP F n=false:=λn hn=>eH λq hq z=>by have:=h.lt q hq;lia
 refine⟨λhle=>⟨h.ap.snoc hle h.lt,λs hs'=>?_,λs hs'=>?_,tk',fr',by have:=h.ge;lia,λn h1 h2 h3=>?_⟩,λhle=>⟨h.ap,λs hs'=>?_,h.rng,tk',fr',by have:=h.ge;lia,λn h1 h2 h3=>?_⟩⟩
 ·rcases mem_append.mp hs' with hs' | hs'
  ·have:=h.lt s hs';lia
  ·have e2:s=(st,e):=by simpa using hs'
   rw[e2];show e+2<=st';lia
 ·rcases mem_append.mp hs' with hs' | hs'
  ·exact h.rng s hs'
  ·have e2:s=(st,e):=by simpa using hs'
   rw[e2];have:=h.ge;exact⟨by show lo<=st;lia,by show e<=hi;lia⟩
 ·rw[du,du];by_cases c:n<st
  ·have e1:inR n (st,e)=false:=fL.mpr (by show ¬ (st<=n/\n<=e);lia);rw[h.mem n h1 h2 c,low n h1 c,e1,Bool.or_false,Bool.or_false]
  ·rw[fno n (by lia),tno n (by lia),Bool.false_or,Bool.false_or];clear fr' tk';have hge:=h.ge;clear h;rw[Bool.eq_iff_iff,bM];cases q:inR n p with
   |true=>have z:=bM.mp q;simp;show st<=n->e<n;lia
   |false=>have z:=fL.mp q;simp;show st<=n/\n<=e;lia
 ·have:=h.lt s hs';lia
 ·rw[du];by_cases c:n<st
  ·rw[h.mem n h1 h2 c,low n h1 c,Bool.or_false]
  ·rw[fno n (by lia),tno n (by lia),Bool.false_or];clear fr' tk' h;have q:inR n p=true:=bM.mpr (by lia);rw[q];rfl
theorem kD.fin{F T:List Pr}{lo hi st:Int}(h:kD F T lo hi st) :
  (st<=hi->Apart (F++[(st,hi)])/\∀n,inP (F++[(st,hi)]) n=(decide (lo<=n) && decide (n<=hi) && !inP T n))/\(¬ st<=hi->Apart F/\∀n,inP F n=(decide (lo<=n) && decide (n<=hi) && !inP T n)):=by
 have tno:∀n,st<=n->inP T n=false:=λn hn=>eH λq hq z=>by have:=h.tk q hq;lia
 have fno:∀n,st<=n->inP F n=false:=λn hn=>eH λq hq z=>by have:=h.lt q hq;lia
 have out:∀n,¬ (lo<=n/\n<=hi)->inP F n=false:=λn hn=>eH λq hq z=>by have:=h.rng q hq;lia
 have dd:∀n,(decide (lo<=n) && decide (n<=hi))=decide (lo<=n/\n<=hi):=λn=>by simp
 refine⟨λhle=>⟨h.ap.snoc hle h.lt,λn=>?_⟩,λhle=>⟨h.ap,λn=>?_⟩⟩
 ·rw[du,dd];by_cases c:lo<=n/\n<=hi
  ·rw[decide_eq_true c,Bool.true_and];by_cases c2:n<st
   ·have e1:inR n (st,hi)=false:=fL.mpr (by show ¬ (st<=n/\n<=hi);lia);rw[h.mem n c.1 c.2 c2,e1,Bool.or_false]
   ·have e1:inR n (st,hi)=true:=bM.mpr (by show st<=n/\n<=hi;lia);rw[e1,tno n (by lia),Bool.or_true];rfl
  ·have e1:inR n (st,hi)=false:=fL.mpr (by have:=h.ge;show ¬ (st<=n/\n<=hi);lia);rw[decide_eq_false c,out n c,e1];rfl
 ·rw[dd];by_cases c:lo<=n/\n<=hi
  ·rw[decide_eq_true c,Bool.true_and];exact h.mem n c.1 c.2 (by lia)
  ·rw[decide_eq_false c,out n c];rfl
theorem Apart.ends{a z:Pr}{R M:List Pr}(h:Apart (a :: R))(e:a :: R=M++[z]){n:Int}(hn:inP (a :: R) n=true):a.1<=n/\n<=z.2:=by
 obtain⟨p,hp,q⟩:=dM.mp hn;obtain⟨t1,t2,t3⟩:=h.tail;have low:a.1<=p.1:=by
  rcases mem_cons.mp hp with z|z
  ·rw[z];exact Int.le_refl _
  ·have:=t3 p z;lia
 have h2:=h;rw[e]at h2 hp;obtain⟨u1,u2,u3⟩:=h2.init;have high:p.2<=z.2:=by
  rcases mem_append.mp hp with y|y
  ·have:=u3 p y;lia
  ·have e2:p=z:=by simpa using y
   rw[e2];exact Int.le_refl _
 lia
structure Walk(ts:List (Int×Int×Int)):Prop where
 le:∀t∈ts,t.1<=t.2.1
 nx:∀(i:Nat) a b,ts[i]?=some a->ts[i+1]?=some b->b.1=a.2.1+1
def pcs(msk:Int->Bool)(ts:List (Int×Int×Int))(n:Int):Bool:=ts.any λt=>inR n (t.1,t.2.1) && msk t.2.2
structure By(R:List Pr)(ts:List (Int×Int×Int))(msk:Int->Bool)(i:Nat)(at_:Int):Prop where
 ap:Apart R
 mem:∀n,inP R n=pcs msk (ts.take i) n
 lt:∀r∈R,r.2<at_
 few:2*R.length<=i\/(2*R.length<=i+1/\∃R' l,R=R'++[l]/\l.2=at_-1)
variable{i:Nat}
section
variable{R:List Pr}{ts:List (Int×Int×Int)}{msk:Int->Bool}{at_:Int}{t:Int×Int×Int}
end
def ends(R:List Pr):List Int:=R.flatMap λp=>[p.1,p.2+1]
theorem dS{R:List Pr}{e:Int}:e∈ends R↔∃p∈R,e=p.1\/e=p.2+1:=by
 unfold ends;rw[List.mem_flatMap];simp
theorem kE{l:List Int}(h:l.Pairwise (· < ·)){i j:Nat}{x y:Int}(hi:l[i]?=some x)(hj:l[j]?=some y)(hij:i<j):x<y:=by
 obtain⟨h1,rfl⟩:=BQ.mp hi;obtain⟨h2,rfl⟩:=BQ.mp hj;exact List.pairwise_iff_getElem.mp h i j h1 h2 hij
theorem jR(ns:List Int):∀k,k<=ns.length->preSum (λi=>ns.getD i 0) k=(ns.take k).sum
 |0,_=>rfl
 |k+1,h=>by
  have ih:=jR ns k (by lia);show preSum (λi=>ns.getD i 0) k+ns.getD k 0=_;have e:ns[k]?=some ns[k]:=BP (by lia);rw[ih,take_add_one,e,List.sum_append,getD_eq_getElem?_getD,e];simp
theorem fb(hc:X.calm=true):cO X (.builtin "sum") (λus H Q=>∃(a:Addr)(ns:List Int),us=[.ref a]/\SqL X.K H a (ns.map V.int)/\Q (.int ns.sum) H):=by
 intro pins s σ H us vs Q I r h;obtain⟨a,ns,rfl,hq,q⟩:=h;obtain⟨u,rfl,rx⟩:=r.one;cases (show u=Value.ref a from rx);obtain⟨its,rv,pl,hz⟩:=I.list hq;have l1:=rv.length;rw[length_map]at l1;obtain⟨oa,ea,_⟩:=id pl.isList;have hax:a<s.heap.objs.size:=Heap.lt_size ea;refine call_sum_walkG (wpAny_pyIter_list pl.isList ?_);refine⟨s.heap.objs.size,[s.heap.objs.size,a],[s.heap.objs.size],_,_,_,λi=>ns.getD i 0,U,Walks.list (A:=X.A.in1) (I.ok.hd hc) _ a (ne_of_lt hax) its.toArray,⟨⟨_,Heap.get?_push_size _ U,U,U⟩,pl.isList.at λo e=>Heap.get?_push_of_some _ e⟩,λb hb=>?_,λi v e=>?_,λh' tk t' hk=>?_⟩
 ·show b<(s.heap.push _).objs.size;rw[Heap.size_push];rcases mem_cons.mp hb with z|z
  ·rw[z];exact lt_succ_self _
  ·have z2:b=a:=by simpa using z
   rw[z2];exact lt_succ_of_lt hax
 ·have e':its[i]?=some v:=by simpa using e
  have hi:i<ns.length:=by rw[l1];exact(BQ.mp e').1
  have ex:(ns.map V.int)[i]?=some (.int ns[i]):=by rw[getElem?_map,BP hi];rfl
  obtain⟨u,q1,ru⟩:=rv.get ex;rw[e']at q1;cases q1;obtain⟨t,rfl⟩:=ru;exact⟨t,by show Value.int ns[i] t=Value.int (ns.getD i 0) t;rw[getD_eq_getElem?_getD,BP hi];rfl⟩
 ·refine⟨.int ns.sum,H,I.kept (t':=tk) λb o e=>hk b o (λz=>?_) (Heap.get?_push_of_some _ e),⟨t',?_⟩,q⟩
  ·have z2:b=s.heap.objs.size:=by simpa using z
   exact absurd (Heap.lt_size e) (by rw[z2];exact lt_irrefl _)
  ·rw[size_toArray,←l1,jR ns _ (le_refl _),take_length]
theorem i7{R:List Pr}{n:Int}:inP R n=true↔∃p∈R,p.1<=n/\n<=p.2:=by
 unfold inP;rw[any_eq_true];constructor
 ·rintro⟨p,hp,h⟩;exact⟨p,hp,bM.mp h⟩
 ·rintro⟨p,hp,h⟩;exact⟨p,hp,bM.mpr h⟩
theorem Apart.uniq:∀{A B:List Pr},Apart A->Apart B->(∀n,inP A n=inP B n)->A=B
 | [],[],_,_,_=>rfl
 | [],b :: B,_,hB,h=>by
  have:inP (b :: B) b.1=true:=i7.mpr ⟨b,.head _,Int.le_refl _,hB.tail.2.1⟩;rw[←h b.1]at this;cases this
 |a :: A,[],hA,_,h=>by
  have:inP (a :: A) a.1=true:=i7.mpr ⟨a,.head _,Int.le_refl _,hA.tail.2.1⟩;rw[h a.1]at this;cases this
 |a :: A,b :: B,hA,hB,h=>by
  obtain⟨hA',ha,ga⟩:=hA.tail;obtain⟨hB',hb,gb⟩:=hB.tail;have m:∀n,(∃p∈a :: A,p.1<=n/\n<=p.2)↔(∃p∈b :: B,p.1<=n/\n<=p.2):=λn=>by rw[←i7,←i7,h n]
  have zi:∀p∈a :: A,a.1<=p.1:=λp hp=>by
   rcases mem_cons.mp hp with rfl|hp
   ·exact Int.le_refl _
   ·have:=ga p hp;lia
  have zj:∀p∈b :: B,b.1<=p.1:=λp hp=>by
   rcases mem_cons.mp hp with rfl|hp
   ·exact Int.le_refl _
   ·have:=gb p hp;lia
  have e1:a.1=b.1:=by
   obtain⟨p,hp,p1,p2⟩:=(m a.1).mp ⟨a,.head _,Int.le_refl _,ha⟩;obtain⟨q,hq,q1,q2⟩:=(m b.1).mpr ⟨b,.head _,Int.le_refl _,hb⟩;have:=zj p hp;have:=zi q hq;lia
  have e2:a.2=b.2:=by
   rcases Int.lt_trichotomy a.2 b.2 with g|g|g
   ·obtain⟨p,hp,p1,p2⟩:=(m (a.2+1)).mpr ⟨b,.head _,by lia,by lia⟩;rcases mem_cons.mp hp with rfl|hp
    ·lia
    ·have:=ga p hp;lia
   ·exact g
   ·obtain⟨p,hp,p1,p2⟩:=(m (b.2+1)).mp ⟨a,.head _,by lia,by lia⟩;rcases mem_cons.mp hp with rfl|hp
    ·lia
    ·have:=gb p hp;lia
  have e:a=b:=Prod.ext e1 e2;subst e
  congr 1
  refine Apart.uniq hA' hB' λn=>?_
  by_cases hn:n<=a.2
  ·rw[hA.behind hn,hB.behind hn]
  ·have hx:=h n;have z:inR n a=false:=eq_false_iff.mpr λt=>hn (bM.mp t).2
   have c1:inP (a :: A) n=(inR n a || inP A n):=rfl;have c2:inP (a :: B) n=(inR n a || inP B n):=rfl;rw[c1,c2,z]at hx;exact hx
def NeS(W:List (Int×Int×Int)):Prop:=∀(j:Nat) a b,W[j]?=some a->W[j+1]?=some b->a.2.2≠b.2.2
structure Bp(G ts:List (Int×Int×Int))(i:Nat):Prop where
 walk:Walk G
 ne:NeS G
 pcs:∀msk n,pcs msk G n=L2.pcs msk (ts.take i) n
 hd:∀t,ts[0]?=some t->0<i->∃g,G[0]?=some g/\g.1=t.1
 lst:∀t,ts[i-1]?=some t->0<i->∃G' g,G=G'++[g]/\g.2.1=t.2.1/\g.2.2=t.2.2
 len:G.length<=i
 stt:∀g∈G,∃t∈ts,g.2.2=t.2.2
section
variable{G ts:List (Int×Int×Int)}{t:Int×Int×Int}
end
def Its(z:Str):It:=⟨λi _=>i<z.cps.size,λi H x H'=>H'=H/\∃c,z.cps[i]?=some c/\x=.str ⟨#[c]⟩,λi _=>z.cps.size<=i⟩
theorem pZ{P:Program}{w:World}{K:W.Frag}{tg:Expr}(z:Str)(t:Tok)(it:Addr):Turn P w K tg (Its z) [it] it (λi h=>h.IsStrIter it "str_ascii_iterator" z t i) where
 mem:=by simp
 obj:=λi h st b hb=>by
  obtain⟨o,e,c,d⟩:=st;rw[show b=it by simpa using hb];exact⟨o,e,λv q=>by rw[d]at q;cases q⟩
 keep:=λi h h' ⟨o,e,r⟩ k=>⟨o,k it (by simp) o e,r⟩
 item:=by
  intro X hP hw hK hc i pins s σ H E I hf st hg;subst hP hw hK;have hlt:i<z.cps.size:=hg;have hi:z.cps[i]?=some z.cps[i]:=getElem?_eq_getElem hlt;obtain⟨f0,f1,f2,f3,f4,f5⟩:=hf it (by simp);refine wpAny_pyNext_ascii_item st hi λh' st' sb=>?_
  have I1:Inv X pins σ H { s with heap:=h',toks:=s.toks+1 }:=I.turned (t':=s.toks+1) (λb o hb e=>(sb.2 b hb).trans e) f0 f1 f3 f4 f5;obtain⟨o,e,c,d⟩:=id st';exact⟨_,U,qv (s:={ s with heap:=h',toks:=s.toks+1 }) e c d (by decide) ⟨.str ⟨#[z.cps[i]]⟩,H,I1,⟨_,U⟩,⟨U,_,hi,U⟩,st',λb hb=>(hf b hb).1⟩⟩
 done:=by
  intro X hP hw hK hc i pins s σ H E I hf st hg;subst hP hw hK;obtain⟨f0,f1,f2,f3,f4,f5⟩:=hf it (by simp);exact wpAny_pyNext_ascii_end (I.ok.hd hc) st (by simpa using(show z.cps.size<=i from hg)) λh' eb=>⟨U,I.turned (t':=s.toks) (λb o hb e=>eb b o hb e) f0 f1 f3 f4 f5⟩
 self:=λ_ _ _ _ _ st h=>wpAny_pyIter_striter_ascii st h
theorem rg{P:Program}{w:World}{K:W.Frag}{tg:Expr}(z:Str)(t:Tok)(it:Addr):Turn P w K tg (Its z) [it] it (λi h=>h.IsStrIter it "str_iterator" z t i) where
 mem:=by simp
 obj:=λi h st b hb=>by
  obtain⟨o,e,c,d⟩:=st;rw[show b=it by simpa using hb];exact⟨o,e,λv q=>by rw[d]at q;cases q⟩
 keep:=λi h h' ⟨o,e,r⟩ k=>⟨o,k it (by simp) o e,r⟩
 item:=by
  intro X hP hw hK hc i pins s σ H E I hf st hg;subst hP hw hK;have hlt:i<z.cps.size:=hg;have hi:z.cps[i]?=some z.cps[i]:=getElem?_eq_getElem hlt;obtain⟨f0,f1,f2,f3,f4,f5⟩:=hf it (by simp);refine wpAny_pyNext_wide_item st hi λh' st' sb=>?_
  have I1:Inv X pins σ H { s with heap:=h',toks:=s.toks+1 }:=I.turned (t':=s.toks+1) (λb o hb e=>(sb.2 b hb).trans e) f0 f1 f3 f4 f5;obtain⟨o,e,c,d⟩:=id st';exact⟨_,U,qv (s:={ s with heap:=h',toks:=s.toks+1 }) e c d (by decide) ⟨.str ⟨#[z.cps[i]]⟩,H,I1,⟨_,U⟩,⟨U,_,hi,U⟩,st',λb hb=>(hf b hb).1⟩⟩
 done:=by
  intro X hP hw hK hc i pins s σ H E I hf st hg;subst hP hw hK;obtain⟨f0,f1,f2,f3,f4,f5⟩:=hf it (by simp);exact wpAny_pyNext_wide_end (I.ok.hd hc) st (by simpa using(show z.cps.size<=i from hg)) λh' eb=>⟨U,I.turned (t':=s.toks) (λb o hb e=>eb b o hb e) f0 f1 f3 f4 f5⟩
 self:=λ_ _ _ _ _ st h=>wpAny_pyIter_striter_wide st h
variable{tg:Expr}
inductive u4  (R:(It->Hp->Prop))(x:V)(H1:Hp):Prop
 |mk (z:_)(_:x=.str z)(_:R (Its z) H1):u4 R x H1
def zk(tl:TE):W.Frag->St->Hp->(It->Hp->Prop)->Prop:=λ_ σ H R=>tl σ H λx H1=>u4 R x H1
theorem we{l:Expr}{tl:TE}(hl:PE X l tl):PI X tg l (zk tl X.K):=by
 intro pins s σ H R I h;refine thn (hl pins s σ H _ I h) λv s1 ⟨x,H1,I1,r1,q1⟩=>?_
 obtain⟨z,e,q⟩:=q1;subst e;obtain⟨t,rfl⟩:=r1;have fpo:∀b∈[s1.heap.objs.size],jq X pins H1 b:=λb hb=>by
  rw[show b=s1.heap.objs.size by simpa using hb];exact I1.fpOk (le_refl _) (I1.hok.fresh (le_refl _))
 cases ha:z.cps.all (· < 128) with
 |true=>exact wpAny_pyIter_ascii ha ⟨s1.heap.objs.size,[s1.heap.objs.size],_,_,H1,U,I1.kept (t':=s1.toks) λb o e=>Heap.get?_push_of_some _ e,pZ z t _,⟨_,Heap.get?_push_size _ U,U,U⟩,fpo,q⟩
 |false=>exact wpAny_pyIter_wide ha ⟨s1.heap.objs.size,[s1.heap.objs.size],_,_,H1,U,I1.kept (t':=s1.toks) λb o e=>Heap.get?_push_of_some _ e,rg z t _,⟨_,Heap.get?_push_size _ U,U,U⟩,fpo,q⟩
theorem uo{z:Str}{g:TG}{tb:TS}{D:Ends}{σ:St}{H:Hp}(Pv:Nat->St->Hp->Prop)(h0:Pv 0 σ H)
  (hs:∀i c σ H,z.cps.toList[i]?=some c->Pv i σ H->g (.str ⟨#[c]⟩) σ H λσ2 H2=>tb { D with nx:=Pv (i+1),ct:=Pv (i+1),bk:=D.nx } σ2 H2)(hd:∀σ H,Pv z.cps.size σ H->D.nx σ H) :
  ∃W:Nat->Nat->St->Hp->Prop,(∃m,W 0 m σ H)/\∀i m σ H,W i m σ H ->
   ((Its z).stop i H/\D.nx σ H)\/((Its z).go i H/\∃N:St->Hp->Prop,(∀σ' H',N σ' H'->∃m',m'<m/\W (i+1) m' σ' H')/\∀x H',(Its z).yld i H x H'->g x σ H' λσ2 H2=>tb { D with nx:=N,ct:=N,bk:=D.nx } σ2 H2):=by
 refine⟨λi m σ H=>m=z.cps.size-i/\i<=z.cps.size/\Pv i σ H,⟨_,U,zero_le _,h0⟩,?_⟩;rintro i m σ H ⟨rfl,hi,p⟩;by_cases hlt:i<z.cps.size
 ·refine .inr ⟨hlt,Pv (i+1),λσ' H' p'=>⟨z.cps.size-(i+1),by lia,U,hlt,p'⟩,λx H' y=>?_⟩;obtain⟨e,c,y1,y2⟩:=y;subst e;subst y2;exact hs i c σ _ (by simpa using y1) p
 ·have e:i=z.cps.size:=by lia
  subst e;exact .inl ⟨le_refl _,hd σ H p⟩
theorem ow{x:Str}{v:V}{pos:Pos}(hg:Gl X x)(h:∃u,X.mg x=some u/\RelV v u)(hd:(x == ("__debug__" : Str))=false:=by decide):PE X (.Name x pos) (tC v):=by
 obtain⟨_,m,r⟩:=h;exact bX hg m r hd
def sg(g:Str)(c:Nat):Bool:=!(Builtin.Str.occurrences g ⟨#[c]⟩ 0 g.length 1).isEmpty
def kF(z g:Str):Bool:=z.cps.toList.all (sg g)
open PySem.NumText
structure Bz(cs:List Nat):Prop where
 all:AllDigits cs
 one:cs.length=1\/∃c r,cs=c :: r/\49<=c
theorem qC{X:Cx}:OpR X (binaryOp .Mult) (rI IntMulOk λi j=>.int (i*j)):=opI λ_ _ _ _ _ _ _ hc q=>mul_int q hc
def zl(h:Heap)(e T:Addr)(cls a0:Value):Prop :=
 ∃oe vs oT ts,h.get? e=some oe/\(oe.cls=cls/\vs[0]?=some a0)/\oe.data=.fields vs/\vs[1]?=some (.ref T)/\T≠e/\h.get? T=some oT/\oT.data=.fields ts/\ts[3]?=some .none
structure Stp(F X:List Addr)(h h':Heap):Prop where
 keep:∀b o,b ∉ F->b ∉ X->h.get? b=some o->h'.get? b=some o
 slot:∀b o,b∈F->h.get? b=some o->∃sl,h'.get? b=some { o with slots:=sl }
variable{base:Heap}{outer:List Env}{T:Addr}{oe:Obj}
section
variable{M:Model}{env:Env}{L e:Addr}{vs:Array Value}{a0 cls:Value}{Q:Unit->Shared->Prop}
end
variable{P:Program}{H H':Hp}{h h':Heap}
section
variable{a:Addr}{o:HO}{F Y fs:List Addr}
end
structure u5(X:Cx)(pins:List (Addr×Obj))(H:Hp)(b:Addr):Prop where
 ent:X.s₀.heap.get? b=none
 unt:H b=none
 loc:b≠X.env.locals
 cel:∀x c,X.env.cells.lookup x=some c->c≠b
 pin:∀p∈X.pn++pins,p.1≠b
variable{pins:List (Addr×Obj)}{σ:St}
section
variable{e:Addr}
end
structure zm(K:W.Frag)(C:Addr):Prop where
 ex:∃(bmB bmN:List Value)(newId B Bn nid wg inN:String),W.excIn K C bmB newId=true/\ExcBaseFacts Bn newId inN bmN/\bmB.contains (Value.type Bn)=true/\ExcBaseFacts B nid wg bmB
variable{K:W.Frag}{N:List Str}{scope:Scope}{f:Addr}
section
variable{mg:Str->Option Value}{qual:Str}{cd:Value}{s0:Shared}{H0:Hp}{E:XK}
end
def XP(X:Cx)(pins:List (Addr×Obj))(σ:St)(EX:Addr->Hp->Prop)(ev:Value)(s':Shared):Prop :=
 ∃(e T C:Addr)(a0:Value)(H':Hp),ev=.ref e/\Inv X pins σ H' s'/\zl s'.heap e T (.ref C) a0/\u5 X pins H' e/\u5 X pins H' T/\EX C H'
section
variable{s':Shared}
end
variable{e:Expr}{k:Nat}{x:Str}{ps:List Str}{sp:Sp}{es:List Expr}{t:TA}{p pos:Pos}
abbrev TSX:=Ends->St->Hp->(Addr->Hp->Prop)->Prop
section
variable{s':Shared}{e:Addr}
end
variable{np:Pos}
section
variable{st b₀:Stmt}{su:List Stmt}{tb:TSX}{ts:Addr->Addr->TS}{Tn n:Str}{B:Addr}{BA:Pos}
end
structure yM(K:W.Frag)(C:Addr):Prop where
 ga:W.findIn K (.ref C) "__getattribute__" = some (some (.builtin "BaseException.__getattribute__"))
 hk:W.findIn K (.ref C) "__getattr__" = some none
 cl:W.findIn K (.ref C) "__class__" = some (some (.builtin "object.__class__"))
 gt:W.specialIn K (.builtin "object.__class__") "__get__" = some (some (.builtin "getset_descriptor.__get__"))
 tk:W.takesIn K (.builtin "object.__class__")=some true
 ob:W.mroIn K C (.type "object")=some true
 be:W.mroIn K C (.type "BaseException")=some true
 me:W.kitCls K (.ref C) (.ref C)=some true
variable{C:Addr}
section
variable{e:Addr}
end
section
variable{e:Addr}
end
theorem len_app(x y:Str):(x++y).length=x.length+y.length:=by
 show(Str.append x y).cps.size=x.cps.size+y.cps.size;unfold Str.append;simp
theorem kG:OpR X (binaryOp .Mult) (λx y H Q=>∃z n,x=.str z/\y=.int n/\MulOk z n/\Q (.str (Txt.mul z n)) H):=by
 intro pins s σ H x y v u Q I rx ry h;obtain⟨z,n,rfl,rfl,hk,q⟩:=h;obtain⟨t,rfl⟩:=rx;obtain⟨t',rfl⟩:=ry;exact PySem.SB.mul hk λt' k=>⟨.str _,H,I.tok _,⟨_,U⟩,q⟩
def bp(CX:CXT)(P:Program)(w:World)(K:W.Frag)(mg:Str->Option Value)(base:Heap)(k:Nat)(C:Addr)(m:Str)(ps:List Str)(sp:Sp):Prop :=
 ∃f fd,Meth K C m f/\aK P w K mg base CX k f fd ps sp/\Binds K fd ps []
def br(CX:CXT)(P:Program)(w:World)(K:W.Frag)(mg:Str->Option Value)(base:Heap)(k:Nat)(x:Str)(C:Addr)(ps:List Str)(sp:Sp):Prop :=
 ∃f fd,Mk K C f/\aK P w K mg base CX k f fd ps sp/\Binds K fd ps []/\mg x=some (.ref C)
structure xO(K:W.Frag)(B:Addr)(m:Str)(f:Addr):Prop where
 sp:W.specialIn K (.ref B) "__getattribute__" = some (some (.builtin "type.__getattribute__"))
 rd:W.readsIn K B (.type "type")=true
 at_:W.findCls K (.ref B) (.type "type") m=some (.val (.ref f))
 kp:W.keepIn K (.ref f)=true
def bU(CX:CXT)(P:Program)(w:World)(K:W.Frag)(mg:Str->Option Value)(base:Heap)(k:Nat)(x:Str)(m:Str)(ps:List Str)(sp:Sp):Prop :=
 ∃f fd B,xO K B m f/\aK P w K mg base CX k f fd ps sp/\Binds K fd ps []/\mg x=some (.ref B)
variable{CX:CXT}{m:Str}
section
variable{mg:Str->Option Value}{j:Nat}
theorem bp.mono(c:bp CX P w K mg base j C m ps sp)(h:j<=k):bp CX P w K mg base k C m ps sp:=by
 obtain⟨f,fd,M,F,b⟩:=c;exact⟨f,fd,M,F.mono h,b⟩
theorem br.mono(c:br CX P w K mg base j x C ps sp)(h:j<=k):br CX P w K mg base k x C ps sp:=by
 obtain⟨f,fd,M,F,b⟩:=c;exact⟨f,fd,M,F.mono h,b⟩
theorem bU.mono(c:bU CX P w K mg base j x m ps sp)(h:j<=k):bU CX P w K mg base k x m ps sp:=by
 obtain⟨f,fd,B,M,F,b⟩:=c;exact⟨f,fd,B,M,F.mono h,b⟩
end
inductive xP(C:Addr)(m:Str)(sp:Sp)(t:TA)(σ:St)(Q:VK)(x:V)(H1:Hp):Prop
 |mk (a dx fs:_)(_:x=.ref a)(_:H1 a=some (.ins C dx fs))(_:fs.lookup m=none)(_:t σ H1 λvs H2=>sp (x :: vs) H2 Q E0):xP C m sp t σ Q x H1
def tMt(C:Addr)(m:Str)(sp:Sp)(ta:TE)(t:TA):TE:=λσ H Q=>ta σ H λx H1=>xP C m sp t σ Q x H1
def tMk(C:Addr)(sp:Sp)(t:TA):TE:=λσ H Q=>t σ H λvs H1=>∀x dx,H1 x=none->H1 dx=none->dx≠x ->
 sp (.ref x :: vs) (upd (upd H1 dx (.own x)) x (.ins C dx [])) (λv H2=>v=.non/\Q (.ref x) H2) E0
variable{fd:FuncData}{apos:Pos}{o:Expr}{ta:TE}
theorem wj{pins:List (Addr×Obj)}{σ:St}{H:Hp}{s:Shared}{Q:VK}{us:List Value}{vs:List V}{E:XK}(F:aK X.prog X.w X.K X.mg X.base CX k f fd ps sp)(hr:bT k X.A)(hb:Binds X.K fd ps [])(hx:Passes CX X E)
  (I:Inv X pins σ H s)(r:Vals vs us)(h:sp vs H Q E):wpAny (model X.prog X.w) X.A (call (.ref f) us) (EP X pins σ Q) X.xe s :=
 pU (dvs:=[]) (ds:=[]) F hr hb .nil hx I r (by rw[append_nil];exact h)
theorem mq{pl:Sem Bool}(M:bp CX X.prog X.w X.K X.mg X.base k C m ps sp)(hx:Passes CX X E0)(c:Cls X.K C)(hr:bT k X.A)(he:PE X o ta)(ha:PA X (e :: es) t)
  (hst:starEach (e :: es) X.env=(false,eval e X.env) :: starEach es X.env:=by rfl)(hpl:(backTo pos (starEach es X.env)).any (·.1)=false:=by rfl)
  (ht:eval (.Call (.Attribute o m apos) (e :: es) [] pos) X.env=(do
   let ov ←eval o X.env
   standAt apos.atName
   let (f,first) ←holding [ov] (getMethod ov m pl)
   callWith pos f first (backTo pos (starEach (e :: es) X.env)) (backToKw pos (keywordEach [] X.env))):=by rfl) :
  PE X (.Call (.Attribute o m apos) (e :: es) [] pos) (tMt C m sp ta t):=by
 obtain⟨f,fd,hm,F,hb⟩:=M;intro pins s σ H Q I h;refine W.methodCall_KW (pl:=pl) (thn (he pins s σ H _ I h) λu s1 ⟨x,H1,I1,rx,a,dx,fs,ex,ea,l,q⟩=>?_) ht;subst ex;obtain rfl:u=Value.ref a:=rx;refine kv I1 ea c hm l ?_;refine W.callWith_K (first:=[.ref a]) (h₀:=X.base) I.ok.mod.kin hm.kp (thn (ha pos pins s1 σ H1 _ I1 q) λus s2 ⟨vs,H2,I2,r,q2⟩=>⟨I2.kIn,?_⟩) hst hpl;exact wj (us:=.ref a :: us) (vs:=.ref a :: vs) F hr hb hx I2 (.cons U r) q2
theorem eJ{pl:Sem Bool}(M:bU CX X.prog X.w X.K X.mg X.base k x m ps sp)(hx:Passes CX X E0)(hr:bT k X.A)(hg:Gl X x)(ha:PA X (e :: es) t)(hdb:(x == ("__debug__" : Str))=false:=by decide)
  (hst:starEach (e :: es) X.env=(false,eval e X.env) :: starEach es X.env:=by rfl)(hpl:(backTo pos (starEach es X.env)).any (·.1)=false:=by rfl)
  (ht:eval (.Call (.Attribute (.Name x np) m apos) (e :: es) [] pos) X.env=(do
   let ov ←eval (.Name x np) X.env
   standAt apos.atName
   let (f,first) ←holding [ov] (getMethod ov m pl)
   callWith pos f first (backTo pos (starEach (e :: es) X.env)) (backToKw pos (keywordEach [] X.env))):=by rfl) :
  PE X (.Call (.Attribute (.Name x np) m apos) (e :: es) [] pos) (tFn sp t):=by
 obtain⟨f,fd,B,hB,F,hb,hm⟩:=M;intro pins s σ H Q I h;refine W.methodCall_KW (pl:=pl) (gJ I hg hm ?_ hdb) ht;refine W.method_cls I.kIn hB.sp (W.cls_value (mc:=.type "type") I.kIn hB.rd hB.at_ (mf (v:=.ref f) U) ?_);refine W.callWith_K (first:=[]) (h₀:=X.base) I.ok.mod.kin hB.kp (thn (ha pos pins _ σ H _ (I.tok _) h) λus s2 ⟨vs,H2,I2,r,q2⟩=>⟨I2.kIn,?_⟩) hst hpl;exact wj (us:=us) (vs:=vs) F hr hb hx I2 r q2
theorem qD(M:br CX X.prog X.w X.K X.mg X.base k x C ps sp)(hx:Passes CX X E0)(hr:bT (k+1) X.A)(hg:Gl X x)(ha:PA X (e :: es) t)(hdb:(x == ("__debug__" : Str))=false:=by decide)
  (he:starEach (e :: es) X.env=(false,eval e X.env) :: starEach es X.env:=by rfl)(hpl:(backTo pos (starEach es X.env)).any (·.1)=false:=by rfl) :
  PE X (.Call (.Name x p) (e :: es) [] pos) (tMk C sp t):=by
 obtain⟨f,fd,M,F,hb,hm⟩:=M;have h:=ui (E:=E0) (dvs:=[]) (ds:=[]) (p:=p) M F hr hg hm hb .nil hx ha hdb he hpl;intro pins s σ H Q I q;refine h pins s σ H Q I ?_;have q':t σ H λvs H1=>∀x dx,H1 x=none->H1 dx=none->dx≠x->sp (.ref x :: vs) (upd (upd H1 dx (.own x)) x (.ins C dx [])) (λv H2=>v=.non/\Q (.ref x) H2) E0:=q
 show t σ H λvs H1=>∀x dx,H1 x=none->H1 dx=none->dx≠x->sp (.ref x :: (vs++[])) (upd (upd H1 dx (.own x)) x (.ins C dx [])) (λv H2=>v=.non/\Q (.ref x) H2) E0
 have e1:(λ(vs:List V)(H1:Hp)=>∀x dx,H1 x=none->H1 dx=none->dx≠x->sp (.ref x :: (vs++[])) (upd (upd H1 dx (.own x)) x (.ins C dx [])) (λv H2=>v=.non/\Q (.ref x) H2) E0)=λvs H1=>∀x dx,H1 x=none->H1 dx=none->dx≠x->sp (.ref x :: vs) (upd (upd H1 dx (.own x)) x (.ins C dx [])) (λv H2=>v=.non/\Q (.ref x) H2) E0:=by
  funext vs H1
  rw[append_nil]
 rw[e1];exact q'
inductive wm(K:W.Frag)(neg:Bool)(x:V)(y:V)(H:Hp)(Q:VK):Prop
 |mk (a b xs ys:_)(_:x=.ref a)(_:y=.ref b)(_:SqT K H a xs)(_:SqT K H b ys)(f:Nat->Bool)(_:(∀j x y,xs[j]?=some x->ys[j]?=some y->EqI K H x y (f j)))(_:Q (.bl (if neg then !((List.range (min xs.length ys.length)).all f && xs.length == ys.length) else(List.range (min xs.length ys.length)).all f && xs.length == ys.length)) H):wm K neg x y H Q
theorem wo{k:Nat}(hr:bT k X.A):OpR X (compareOp .Eq) (wm X.K false):=by
 intro pins s σ H x y v u Q I rx ry h;obtain⟨a,b,xs,ys,rfl,rfl,ha,hb,f,hf,q⟩:=h;cases (show v=Value.ref a from rx);cases (show u=Value.ref b from ry);obtain⟨its,r,p,_⟩:=I.tuple ha;obtain⟨its',r',p',_⟩:=I.tuple hb;have l1:=r.length;have l2:=r'.length;have hu:=hr.units;refine SeqAt.eq_tupleAt (e:=f) (show s.heap.IsTuple a its.toArray from p) (show s.heap.IsTuple b its'.toArray from p') (by lia) (pY I (by show X.A.units+1+1<cLine;lia) r r' hf) ⟨.bl _,H,I,U,?_⟩;simp only[size_toArray];rw[←l1,←l2];exact q
theorem rh{K:W.Frag}{H:Hp}{Q:VK}{a b:Addr}{xs:List V}(ha:SqT K H a xs)(hb:SqT K H b xs)(fl:∀x∈xs,dG x=true)(q:Q (.bl true) H):wm K false (.ref a) (.ref b) H Q:=by
 refine⟨a,b,xs,xs,U,U,ha,hb,λ_=>true,λj x y e1 e2=>?_,?_⟩
 ·rw[e1]at e2;cases e2;have z:=fl x (BR e1);have:=EqI.flat (K:=K) (H:=H) z z;rw[i4 z]at this;exact this
 ·have:(List.range (min xs.length xs.length)).all (λ_=>true)=true:=by simp
  show Q (.bl ((List.range (min xs.length xs.length)).all (λ_=>true) && xs.length == xs.length)) H;rw[this,beq_self_eq_true,Bool.and_true];exact q
set_option maxRecDepth 100000
inductive DEq(K:W.Frag)(H:Hp):Nat->V->V->Bool->Prop where
 |flat {n:Nat}{x y:V}(fx:dG x=true)(fy:dG y=true):DEq K H n x y (eqV x y)
 |same {n:Nat}(a:Addr):DEq K H n (.ref a) (.ref a) true
 |lst {n:Nat}{a b:Addr}{xs ys:List V}{f:Nat->Bool}(ne:a≠b)(ha:SqL K H a xs)(hb:SqL K H b ys)(hl:xs.length=ys.length)(h:∀(j:Nat)(x y:V),xs[j]?=some x->ys[j]?=some y->DEq K H n x y (f j)):DEq K H (n+1) (.ref a) (.ref b) ((List.range xs.length).all f)
 |lst_ne {n:Nat}{a b:Addr}{xs ys:List V}(ne:a≠b)(ha:SqL K H a xs)(hb:SqL K H b ys)(hl:xs.length≠ys.length):DEq K H (n+1) (.ref a) (.ref b) false
 |tup {n:Nat}{a b:Addr}{xs ys:List V}{f:Nat->Bool}(ne:a≠b)(ha:SqT K H a xs)(hb:SqT K H b ys)(h:∀(j:Nat)(x y:V),xs[j]?=some x->ys[j]?=some y->DEq K H n x y (f j)):DEq K H (n+1) (.ref a) (.ref b) ((List.range (min xs.length ys.length)).all f && xs.length == ys.length)
theorem jv{xs:List V}{its:List Value}(r:Vals xs its){j:Nat}(h:j<its.toArray.size):∃x,xs[j]?=some x/\RelV x its.toArray[j]:=by
 have j1:j<its.length:=by simpa using h
 have l1:=r.length;have x1:xs[j]?=some xs[j]:=BP (by lia);obtain⟨u1,q1,r1⟩:=r.get x1;have eu:its.toArray[j]=u1:=by
  have:=BP j1;rw[this]at q1;simpa using Option.some.inj q1
 exact⟨xs[j],x1,eu ▸ r1⟩
theorem DEq.at{n:Nat}{x y:V}{b:Bool}(e:DEq X.K H n x y b)(I:Inv X pins σ H s):∀{A:Around}{u v:Value},A.units+n<cLine->RelV x u->RelV y v->SeqAt.EqAt A s u v b:=by
 induction e with
 |flat fx fy=>intro A u v hu rx ry;exact pW rx ry fx fy
 |same a =>
  intro A u v hu rx ry;cases (show u=Value.ref a from rx);cases (show v=Value.ref a from ry);exact SeqAt.EqAt.same _
 | @lst n a b xs ys f ne ha hb hl h ih =>
  intro A u v hu rx ry;cases (show u=Value.ref a from rx);cases (show v=Value.ref b from ry);obtain⟨its,r,p,_⟩:=I.list ha;obtain⟨its',r',p',_⟩:=I.list hb;have l1:=r.length;have l2:=r'.length;have h0:=SeqAt.RcAt.lists (A:=A) (e:=f) p.isList p'.isList (by simp only[size_toArray];lia) (by lia) (λj h1 h2=>by
   obtain⟨x,e1,q1⟩:=jv r h1;obtain⟨y,e2,q2⟩:=jv r' h2;exact ih j x y e1 e2 (by show A.units+1+n<cLine;lia) q1 q2)
  rw[show its.toArray.size=xs.length by simp only[size_toArray];lia]at h0;exact SeqAt.EqAt.of_refs ne h0
 | @lst_ne n a b xs ys ne ha hb hl =>
  intro A u v hu rx ry;cases (show u=Value.ref a from rx);cases (show v=Value.ref b from ry);obtain⟨its,r,p,_⟩:=I.list ha;obtain⟨its',r',p',_⟩:=I.list hb;have l1:=r.length;have l2:=r'.length;exact SeqAt.EqAt.of_refs ne (SeqAt.RcAt.lists_lengths p.isList p'.isList (by simp only[size_toArray,bne_iff_ne,ne_eq];lia) (by lia))
 | @tup n a b xs ys f ne ha hb h ih =>
  intro A u v hu rx ry;cases (show u=Value.ref a from rx);cases (show v=Value.ref b from ry);obtain⟨its,r,p,_⟩:=I.tuple ha;obtain⟨its',r',p',_⟩:=I.tuple hb;have l1:=r.length;have l2:=r'.length;have h0:=SeqAt.RcAt.tuples (A:=A) (e:=f) (show s.heap.IsTuple a its.toArray from p) (show s.heap.IsTuple b its'.toArray from p') (by lia) (λj h1 h2=>by
   obtain⟨x,e1,q1⟩:=jv r h1;obtain⟨y,e2,q2⟩:=jv r' h2;exact ih j x y e1 e2 (by show A.units+1+n<cLine;lia) q1 q2)
  rw[show its.toArray.size=xs.length by simp only[size_toArray];lia,show its'.toArray.size=ys.length by simp only[size_toArray];lia]at h0;exact SeqAt.EqAt.of_refs ne h0
inductive ox(K:W.Frag)(neg:Bool)(x:V)(y:V)(H:Hp)(Q:VK):Prop
 |mk (a b xs ys:_)(_:x=.ref a)(_:y=.ref b)(_:SqL K H a xs)(_:SqL K H b ys)(_:((xs.length≠ys.length/\Q (.bl neg) H)\/(xs.length=ys.length/\∃f:Nat->Bool,(∀(j:Nat)(x y:V),xs[j]?=some x->ys[j]?=some y->DEq K H 60 x y (f j))/\Q (.bl (if neg then !(List.range xs.length).all f else(List.range xs.length).all f)) H))):ox K neg x y H Q
theorem qE{pins:List (Addr×Obj)}{σ:St}{H:Hp}{s:Shared}{A:Around}{xs ys:List V}{its its':List Value}{f:Nat->Bool}(I:Inv X pins σ H s)(hu:A.units+60<cLine)(r:Vals xs its)(r':Vals ys its')
  (hf:∀(j:Nat)(x y:V),xs[j]?=some x->ys[j]?=some y->DEq X.K H 60 x y (f j)):∀j (h1:j<its.toArray.size)(h2:j<its'.toArray.size),SeqAt.EqAt A s its.toArray[j] its'.toArray[j] (f j):=λj h1 h2=>by
 obtain⟨x,e1,q1⟩:=jv r h1;obtain⟨y,e2,q2⟩:=jv r' h2;exact(hf j x y e1 e2).at I hu q1 q2
theorem uq{k:Nat}(hr:bT k X.A):OpR X (compareOp .Eq) (ox X.K false):=by
 intro pins s σ H x y v u Q I rx ry h;obtain⟨a,b,xs,ys,rfl,rfl,ha,hb,h⟩:=h;cases (show v=Value.ref a from rx);cases (show u=Value.ref b from ry);obtain⟨its,r,p,_⟩:=I.list ha;obtain⟨its',r',p',_⟩:=I.list hb;have l1:=r.length;have l2:=r'.length;have hu:=hr.units;rcases h with⟨hn,q⟩|⟨hl,f,hf,q⟩
 ·refine SeqAt.eq_list_lengthsAt p.isList p'.isList (by simp only[size_toArray,bne_iff_ne,ne_eq];lia) (by lia) ⟨.bl false,H,I,U,q⟩
 ·refine SeqAt.eq_listAt (e:=f) p.isList p'.isList (by simp only[size_toArray];lia) (by lia) (qE I (by show X.A.units+1+60<cLine;lia) r r' hf) ⟨.bl _,H,I,U,?_⟩;rw[show its.toArray.size=xs.length by simp only[size_toArray];lia];exact q
theorem qF{k:Nat}(hr:bT k X.A):OpR X (compareOp .NotEq) (ox X.K true):=by
 intro pins s σ H x y v u Q I rx ry h;obtain⟨a,b,xs,ys,rfl,rfl,ha,hb,h⟩:=h;cases (show v=Value.ref a from rx);cases (show u=Value.ref b from ry);obtain⟨its,r,p,_⟩:=I.list ha;obtain⟨its',r',p',_⟩:=I.list hb;have l1:=r.length;have l2:=r'.length;have hu:=hr.units;rcases h with⟨hn,q⟩|⟨hl,f,hf,q⟩
 ·refine SeqAt.RcNeAt.lists_lengths p.isList p'.isList (by simp only[size_toArray,bne_iff_ne,ne_eq];lia) (by lia) X.prog X.w X.xe _ ⟨.bl true,H,I,U,q⟩
 ·refine SeqAt.RcNeAt.lists (e:=f) p.isList p'.isList (by simp only[size_toArray];lia) (by lia) (qE I (by show X.A.units+1+60<cLine;lia) r r' hf) X.prog X.w X.xe _ ⟨.bl _,H,I,U,?_⟩;rw[show its.toArray.size=xs.length by simp only[size_toArray];lia];exact q
section
variable{κ:Type} [DecidableEq κ]
def cntK(ks:List κ):Nat->Nat
 |0=>0
 |i+1=>match ks[i]? with
  |some k=>if k∈ks.take i then cntK ks i else cntK ks i+1
  |none=>cntK ks i
theorem ja(ks:List κ):∀i,cntK ks i<=i
 |0=>le_refl _
 |i+1=>by
  have ih:=ja ks i;unfold cntK;split
  ·split <;> lia
  ·lia
theorem jw(ks:List κ):∀i,i<=ks.length->(cntK ks i=i↔(ks.take i).Nodup)
 |0,_=>by simp[cntK]
 |i+1,h=>by
  have ih:=jw ks i (by lia);have le:=ja ks i;have e:ks[i]?=some ks[i]:=BP (by lia);have et:ks.take (i+1)=ks.take i++[ks[i]]:=by rw[take_add_one,e];rfl
  unfold cntK;rw[e,et,List.nodup_append];dsimp only;by_cases m:ks[i]∈ks.take i
  ·rw[if_pos m];exact⟨λz=>absurd z (by lia),λz=>absurd U (z.2.2 _ m _ (by simp))⟩
  ·rw[if_neg m];refine⟨λz=>⟨ih.mp (by lia),by simp,λa ha b hb=>?_⟩,λz=>by rw[ih.mpr z.1]⟩;rw[show b=ks[i] by simpa using hb];exact λq=>m (q ▸ ha)
variable{knd:KeyKind prog w κ}
theorem fM{h h':Heap}{a:Addr}{S:κ->Bool}{n:Nat}(x:h.SetOf knd a S n)(k:∀o,h.get? a=some o->h'.get? a=some o):h'.SetOf knd a S n:=by
 obtain⟨o,es,ep,t,ho,r⟩:=x;exact⟨o,es,ep,t,k o ho,r⟩
theorem kI{h:Heap}{a:Addr}{S S':κ->Bool}{n n':Nat}(x:h.SetOf knd a S n)(e1:S=S')(e2:n=n'):h.SetOf knd a S' n':=e1 ▸ e2 ▸ x
theorem rj{R:Result->Shared->Prop}{I:Addr}{fp wr:List Addr}{G:Array GenState->Array GenState->Prop}{n:Nat}{P:Nat->Value->Prop}{St:Nat->Shared->Prop}(W:WalksS prog w A.in1 I fp wr G n P St){a:Addr}(ha:a ∉ fp){ks:List κ}
  (hv:∀i v,P i v->∃k,ks[i]?=some k/\knd.is k v=true/\v.scannable=true)(hb:n+1<scanBound):∀(d i:Nat)(s:Shared),n=i+d->St i s->s.heap.SetOf knd a (λk=>decide (k∈ks.take i)) (cntK ks i) ->
   (∀s',Moved (a :: wr) G s s'->s'.heap.SetOf knd a (λk=>decide (k∈ks.take n)) (cntK ks n)->R (.ok (.ret .none)) s')->codeAny (model prog w) A (.builtin "set.update.loop" ⟨[.ref a,.ref I],[]⟩) R s:=by
 have hw:a ∉ wr:=λz=>ha (W.sub a z)
 intro d;induction d with
 |zero =>
  intro i s e st x fin;rw[show n=i by lia]at W fin;refine codeAny_builtin (R:=R) (A:=A) F.entry_set_update_loop ?_;rw[Around.under_plainId (A:=A) F.plain_set_update_loop _];show wpAny (model prog w) A.in1 (pyNext (.ref I) >>= _) _ _ s;exact wpAny_bind (W.done s _ _ st λs' m=>wpAny_pure (fin s' (m.mono λb hb=>mem_cons_of_mem a hb) (fM x λo q=>m.heap a o hw q)))
 |succ d ih =>
  intro i s e st x fin;refine codeAny_builtin (R:=R) (A:=A) F.entry_set_update_loop ?_;rw[Around.under_plainId (A:=A) F.plain_set_update_loop _];show wpAny (model prog w) A.in1 (pyNext (.ref I) >>= _) _ _ s;refine wpAny_bind (W.item i s _ _ (by lia) st λv s1 p st1 m=>?_);obtain⟨k,ek,ik,sc⟩:=hv i v p;have x1:=fM x λo q=>m.heap a o hw q
  show wpAny (model prog w) A.in1 (holding [v] (setAdd a v) >>= _) _ _ s1;refine wpAny_bind (wpAny_holding (show wpAny (model prog w) A.in1 (setAdd a v) _ _ s1 from ?_));unfold setAdd;refine wpAny_holding (wpAny_bind (knd.pyHash ik ?_));have le:=ja ks i;refine wpAny_setAddHashed_of (knd:=knd) (s:={ s1 with toks:=s1.toks+1 }) ik sc x1 (by lia) λh' sb x2=>?_
  have et:ks.take (i+1)=ks.take i++[k]:=by rw[take_add_one,ek];rfl
  have x3:h'.SetOf knd a (λq=>decide (q∈ks.take (i+1))) (cntK ks (i+1)):=by
   refine kI x2 (funext λq=>?_) ?_
   ·rw[et];by_cases z:q∈ks.take i <;> by_cases y:q=k <;> simp[z,y]
   ·show(if decide (k∈ks.take i)=true then cntK ks i else cntK ks i+1)=match ks[i]? with|some k=>if k∈ks.take i then cntK ks i else cntK ks i+1|none=>cntK ks i
    rw[ek];by_cases z:k∈ks.take i <;> simp[z]
  refine wpAny_pure ⟨plainId_quiet F.plain_set_update_loop _,ih (i+1) { s1 with heap:=h',toks:=s1.toks+1 } (by lia) (W.frame (i+1) s1 h' (s1.toks+1) st1 (le_succ _) λb hbf o q=>(sb.2 b λz=>ha (z ▸ hbf)).trans q) x3 λs2 m2 x4=>?_⟩;refine fin s2 (Moved.trans W.gtrans ((m.mono λb hb=>mem_cons_of_mem a hb).then_heap (le_succ _) λb o hbn q=>?_) m2) x4;exact(sb.2 b λz=>hbn (z ▸ mem_cons_self)).trans q
abbrev cI(led:Bool):Obj:={ cls:=.type "set",dict:=none,data:=.set #[] 0 (.fresh 0 0 led) }
def Filled(knd:KeyKind prog w κ)(s:Shared)(ks:List κ)(h':Heap):Prop :=
 h'.SetOf knd s.heap.objs.size (λk=>decide (k∈ks)) (cntK ks ks.length)/\∀b o,b<s.heap.objs.size->s.heap.get? b=some o->h'.get? b=some o
theorem sO{l:Addr}{items:Array Value}{ks:List κ}{led:Bool}(hh:A.handled=none)(hl:s.heap.IsList l items)(hk:∀(i:Nat)(v:Value),items[i]?=some v->∃k,ks[i]?=some k/\knd.is k v=true/\v.scannable=true)(hn:ks.length=items.size)(hb:items.size+1<scanBound) :
  codeAny (model prog w) A (.call (.builtin "set.__init__") ⟨[.ref s.heap.objs.size,.ref l],[]⟩) (wants (λr s2=>r=.none/\∃h' tk,s2={ s with heap:=h',toks:=tk }/\Filled knd s ks h') E) { s with heap:=s.heap.push (cI led) }:=by
 have g0:(s.heap.push (cI led)).get? s.heap.objs.size=some (cI led):=Heap.get?_push_size s.heap U;have ty:Shared.TypeIs { s with heap:=s.heap.push (cI led) } (.ref s.heap.objs.size) "set" := ⟨cI led,g0,U⟩;refine codeAny_call_builtin F.called_set.init.plain F.entry_set_init (check_set_init_1 ty ?_);obtain⟨⟨c1,c2,c3,c4⟩,ho,hc,m,hd⟩:=hl;dsimp only at hc hd;subst hc hd;have g1:(s.heap.push (cI led)).get? l=some { cls:=.type "list",dict:=c2,data:=.seq items m,slots:=c4 }:=Heap.get?_push_of_some _ ho;have y1:=F.sub_list_set;have y2:=F.sub_list_frozenset;have y3:(Value.type "list" == Value.type "dict")=false:=by decide
 have l1:(s.heap.push (cI led)).IsList l items:=⟨_,g1,U,m,U⟩;have lt:l<s.heap.objs.size:=Heap.lt_size ho;unfold Builtin.«set.__init__» Builtin.Frozenset.updateFrom noKeywords;generalize hI:pyIter=it
 wp_walk
 subst hI;refine wpAny_pyIter_list l1 (wpAny_bind (wpAny_runValue ?_));have nl:l≠(s.heap.push (cI led)).objs.size:=by rw[Heap.size_push];exact ne_of_lt (lt_succ_of_lt lt)
 have nf:s.heap.objs.size ∉ [(s.heap.push (cI led)).objs.size,l]:=by
  rw[Heap.size_push];intro z;rcases mem_cons.mp z with z|z
  ·exact absurd z (ne_of_lt (lt_succ_self _))
  ·exact absurd (by simpa using z) (ne_of_gt lt)
 refine rj (knd:=knd) ((Walks.list (by simp[hh]) _ l nl items).toS) nf (ks:=ks) hk hb items.size 0 _ (zero_add _).symm ⟨⟨_,Heap.get?_push_size _ U,U,U⟩,l1.push _⟩ (kI ((setObjOf_fresh (knd:=knd) led).setOf (Heap.get?_push_of_some _ g0) (by unfold scanBound;lia)) (funext λk=>by simp) U) λs' mv x=>?_
 obtain⟨h',g',d',t',o'⟩:=s';obtain rfl:g'=s.gens:=mv.gens;obtain rfl:d'=s.drawn:=mv.drawn;obtain rfl:o'=s.os:=mv.os;refine wpAny_pure (show wpAny (model prog w) _ (ret Value.none) _ _ _ from wpAny_pure ⟨U,h',t',U,?_,λb o hb' q=>?_⟩)
 ·rw[←hn]at x;exact kI x (funext λk=>by rw[take_length]) U
 ·refine mv.heap b o (λz=>?_) (Heap.get?_push_of_some _ (Heap.get?_push_of_some _ q));rcases mem_cons.mp z with z|z
  ·exact absurd z (ne_of_lt hb')
  ·have z2:b=(s.heap.push (cI led)).objs.size:=by simpa using z
   rw[Heap.size_push]at z2;exact absurd z2 (ne_of_lt (lt_succ_of_lt hb'))
set_option maxRecDepth 100000 in
theorem mr{l:Addr}{items:Array Value}{ks:List κ}{Q:Value->Shared->Prop}(hh:A.handled=none)(hl:s.heap.IsList l items)(hk:∀(i:Nat)(v:Value),items[i]?=some v->∃k,ks[i]?=some k/\knd.is k v=true/\v.scannable=true)(hn:ks.length=items.size)(hb:items.size+1<scanBound)
  (h:∀h' tk,Filled knd s ks h'->Q (.ref s.heap.objs.size) { s with heap:=h',toks:=tk }):wpAny (model prog w) A (call (.type "set") [.ref l]) Q E s:=by
 obtain⟨c,tl,mro⟩:=F.called_set.mro;have a1:=F.called_set.made;have a2:=F.called_set.sub;have a3:=F.called_set.notType;have a4:=F.called_set.canCreate;have a5:=F.typeCall_set_1 (.ref l);refine wpAny_call (codeAny_of_tree (show wpAny (model prog w) _ (callAny (.type "set") _) _ _ _ from wpAny_pure ⟨Code.quiet_builtin _ (by decide+kernel),codeAny_builtin F.entry_type_call ?_⟩));rw[Around.under_plain (A:=A) (weight_type_call_type "set" [.ref l] []) U]
 repeat (any_goals (first|assumption|wp_step))
 refine codeAny_mono (code_set_new_1 (.ref l) (E:=E) (Q₁:=λob s1=>∃led,ob=.ref s.heap.objs.size/\s1={ s with heap:=s.heap.push (cI led) }) λled=>⟨led,U,U⟩) λr s1 hr=>?_
 cases r with
 |error e=>exact hr
 |ok fl =>
  cases fl with
  |ret ob =>
   obtain⟨led,rfl,rfl⟩:=hr;have g0:(s.heap.push (cI led)).get? s.heap.objs.size=some (cI led):=Heap.get?_push_size s.heap U;have ty:Shared.TypeIs { s with heap:=s.heap.push (cI led) } (.ref s.heap.objs.size) "set" := ⟨cI led,g0,U⟩;have b1:=F.called_set.init.lookup;have b2:=F.called_set.init.bind (.ref s.heap.objs.size)
   repeat (any_goals (first|assumption|wp_step))
   refine codeAny_mono (sO (E:=E) (knd:=knd) (by simp[hh]) hl hk hn hb) λr2 s2 hr2=>?_
   cases r2 with
   |error e=>exact hr2
   |ok f2 =>
    cases f2 with
    |ret r =>
     obtain⟨rfl,h',tk,rfl,x⟩:=hr2
     repeat (any_goals (first|assumption|wp_step))
     exact h h' tk x
    |_=>exact hr2.elim
  |_=>exact hr.elim
end
def lO(P:Program)(w:World)(a:Addr)(zs:List Str):HO:=.ext λh=>h.SetOf (strKind P w) a (λz=>decide (z∈zs)) (cntK zs zs.length)
theorem mw:∀{zs:List Str}{us:List Value},Vals (zs.map V.str) us->∀(i:Nat)(v:Value),us[i]?=some v->∃z t,zs[i]?=some z/\v=.str z t
 | [],_,.nil,i,v,h=>by simp at h
 |z :: zs,_,.cons ⟨t,e⟩ r,0,v,h=>by simp at h;exact⟨z,t,U,by rw[←h,e]⟩
 |z :: zs,_,.cons _ r,i+1,v,h=>by
  obtain⟨z',t,e1,e2⟩:=mw r i v (by simpa using h);exact⟨z',t,by simpa using e1,e2⟩
theorem hX(hc:X.calm=true):cO X (.type "set") (λxs H Q=>∃(p:Addr)(zs:List Str),xs=[.ref p]/\SqL X.K H p (zs.map V.str)/\zs.length<=1000/\∀l,H l=none->Q (.ref l) (upd H l (lO X.prog X.w l zs))):=by
 intro pins s σ H xs us Q I r h;obtain⟨p,zs,rfl,hS,hz,q⟩:=h;obtain⟨u,rfl,ru⟩:=r.one;obtain rfl:u=Value.ref p:=ru;obtain⟨its,rv,pl,_⟩:=I.list hS;have hl:=rv.length;rw[length_map]at hl;refine mr (knd:=strKind X.prog X.w) (ks:=zs) (I.ok.hd hc) pl.isList (λi v e=>?_) (by simpa using hl) (by unfold scanBound;simp;lia) λh' tk x=>?_
 ·obtain⟨z,t,e1,rfl⟩:=mw rv i v (by simpa using e);exact⟨z,e1,by show Value.isStrOf z (.str z t)=true;simp[Value.isStrOf],U⟩
 ·obtain⟨x1,x2⟩:=x;refine⟨.ref s.heap.objs.size,_,I.laid (a:=s.heap.objs.size) (o:=lO X.prog X.w s.heap.objs.size zs) (h':=h') (t':=tk) (λb o q=>x2 b o (Heap.lt_size q) q) (le_refl _) ?_,U,q _ I.fresh⟩;refine⟨x1,?_,λh1 h2 y k=>fM y k⟩;obtain⟨o,_,_,_,g,_⟩:=x1;exact⟨o,g⟩
def Asc(xs:Array Nat):Prop:=xs.toList.Pairwise (· < ·)
theorem Asc.lt{xs:Array Nat}(h:Asc xs){i j:Nat}(hij:i<j)(hj:j<xs.size):xs[i]<xs[j]:=by
 have:=List.pairwise_iff_getElem.mp h i j (by simp;lia) (by simpa using hj) hij;simpa using this
theorem sP{xs:Array Nat}(h:Asc xs)(j:Nat):∀(fuel lo hi:Nat),lo<=hi->hi<=xs.size->hi-lo<=fuel ->
  (∀(i:Nat)(hi':i<xs.size),i<lo->xs[i]<j)->(∀(i:Nat)(hi':i<xs.size),hi<=i->j<=xs[i]) ->
  SetTable.below.go xs j fuel lo hi<=xs.size/\(∀(i:Nat)(hi':i<xs.size),i<SetTable.below.go xs j fuel lo hi->xs[i]<j)/\(∀(i:Nat)(hi':i<xs.size),SetTable.below.go xs j fuel lo hi<=i->j<=xs[i]):=by
 intro fuel;induction fuel with
 |zero =>
  intro lo hi h1 h2 h3 h4 h5;have e:lo=hi:=by lia
  subst e;exact⟨by unfold SetTable.below.go;exact h2,by unfold SetTable.below.go;exact h4,by unfold SetTable.below.go;exact h5⟩
 |succ fuel ih =>
  intro lo hi h1 h2 h3 h4 h5;unfold SetTable.below.go;by_cases c:lo<hi
  ·rw[if_pos c];have hm:(lo+hi) / 2<xs.size:=by lia
   have eg:xs.getD ((lo+hi) / 2) j=xs[(lo+hi) / 2]:=by simp[Array.getD,hm]
   dsimp only;rw[eg];by_cases c2:xs[(lo+hi) / 2]<j
   ·rw[if_pos c2];refine ih _ _ (by lia) h2 (by lia) (λi hi' hlt=>?_) h5;by_cases e:i=(lo+hi) / 2
    ·subst e;exact c2
    ·exact Nat.lt_trans (h.lt (by lia) hm) c2
   ·rw[if_neg c2];refine ih _ _ (by lia) (by lia) (by lia) h4 λi hi' hle=>?_
    by_cases e:i=(lo+hi) / 2
    ·subst e;lia
    ·exact le_trans (Nat.le_of_not_lt c2) (le_of_lt (h.lt (by lia) hi'))
  ·rw[if_neg c];have e:lo=hi:=by lia
   subst e;exact⟨h2,h4,h5⟩
theorem iy{xs:Array Nat}(h:Asc xs)(j:Nat):SetTable.below xs j<=xs.size/\(∀(i:Nat)(hi:i<xs.size),i<SetTable.below xs j->xs[i]<j)/\(∀(i:Nat)(hi:i<xs.size),SetTable.below xs j<=i->j<=xs[i]) :=
 sP h j xs.size 0 xs.size (zero_le _) (le_refl _) (by lia) (λ_ _ z=>absurd z (by lia)) (λi hi z=>absurd z (by lia))
theorem p3{xs:Array Nat}(h:Asc xs){i:Nat}(hi:i<xs.size):SetTable.below xs (xs[i]+1)=i+1:=by
 obtain⟨b1,b2,b3⟩:=iy h (xs[i]+1);have c1:¬ SetTable.below xs (xs[i]+1)<=i:=λz=>absurd (b3 i hi z) (by lia)
 have c2:¬ i+1<SetTable.below xs (xs[i]+1):=λz=>by
  have:=b2 (i+1) (by lia) z;have:=h.lt (show i<i+1 by lia) (show i+1<xs.size by lia);lia
 lia
theorem oy{xs:Array Nat}(h:Asc xs):SetTable.below xs 0=0:=by
 obtain⟨b1,b2,b3⟩:=iy h 0;by_cases z:SetTable.below xs 0=0
 ·exact z
 ·exact absurd (b2 0 (by lia) (by lia)) (by lia)
theorem p4{xs:Array Nat}(h:Asc xs){j:Nat}(hn:xs[SetTable.below xs j]?≠some j):Asc (SetTable.insertAt xs (SetTable.below xs j) j):=by
 obtain⟨b1,b2,b3⟩:=iy h j;unfold Asc;rw[SetTable.toList_insertAt,List.pairwise_append];refine⟨h.sublist (take_sublist _ _),pairwise_cons.mpr ⟨λb hb=>?_,h.sublist (List.drop_sublist _ _)⟩,λa ha b hb=>?_⟩
 ·obtain⟨k,hk,rfl⟩:=List.mem_iff_getElem.mp hb;have hk':SetTable.below xs j+k<xs.size:=by simp at hk;lia
  have z:=b3 _ hk' (by lia);have e:(xs.toList.drop (SetTable.below xs j))[k]=xs[SetTable.below xs j+k]:=by simp
  rw[e];by_cases q:j=xs[SetTable.below xs j+k]
  ·exfalso;by_cases k0:k=0
   ·subst k0;refine hn ?_;rw[getElem?_eq_getElem (by lia)];simpa using q.symm
   ·have l1:=b3 _ (show SetTable.below xs j<xs.size by lia) (le_refl _);have l2:=h.lt (show SetTable.below xs j<SetTable.below xs j+k by lia) hk';lia
  ·lia
 ·have la:a<j:=by
   obtain⟨k,hk,rfl⟩:=List.mem_iff_getElem.mp ha;have hk':k<SetTable.below xs j/\k<xs.size:=by simp at hk;lia
   have:=b2 k hk'.2 hk'.1;simpa using this
  rcases mem_cons.mp hb with rfl|hb
  ·exact la
  ·obtain⟨k,hk,rfl⟩:=List.mem_iff_getElem.mp hb;have hk':SetTable.below xs j+k<xs.size:=by simp at hk;lia
   have z:=b3 _ hk' (by lia);have e:(xs.toList.drop (SetTable.below xs j))[k]=xs[SetTable.below xs j+k]:=by simp
   rw[e];lia
def oz(t:SetTable)(j:Nat):Prop:=t.place[SetTable.below t.place j]?≠some j
theorem kJ{t:SetTable}{j:Nat}(h:t.slot j=.empty\/t.slot j=.dummy):oz t j:=by
 intro e;have:t.slot j=.live (SetTable.below t.place j):=by
  unfold SetTable.slot;simp[e]
 rw[this]at h;rcases h with h|h <;> cases h
theorem p5(t:SetTable)(f:Nat->Int)(h:Int):∀(fuel:Nat)(p:SetTable.Probe),(∀d,p.dummy=some d->oz t d)->∀j dm,SetTable.probe.go t f h fuel p=some (.empty j dm)->oz t j/\∀d,dm=some d->oz t d:=by
 intro fuel;induction fuel with
 |zero=>intro p _ j dm e;unfold SetTable.probe.go at e;cases e
 |succ fuel ih =>
  intro p hp j dm e;unfold SetTable.probe.go at e;have adv:∀q:SetTable.Probe,(t.advance q).dummy=q.dummy:=λq=>by
   unfold SetTable.advance;split <;> rfl
  split at e
  ·rename_i he
   injection e with e;injection e with e1 e2;subst e1 e2;exact⟨kJ (.inl he),hp⟩
  ·rename_i he
   refine ih _ (λd hd=>?_) j dm e;rw[adv]at hd;injection hd with hd;subst hd;exact kJ (.inr he)
  ·split at e
   ·injection e with e;cases e
   ·refine ih _ (λd hd=>hp d ?_) j dm e;rw[adv]at hd;exact hd
theorem lP{t:SetTable}{h:Int}{j:Nat}{b:Bool}(e:t.freeSlot h=some (j,b)):oz t j:=by
 unfold SetTable.freeSlot at e;split at e
 ·rename_i j' dm he
  obtain⟨a1,a2⟩:=p5 t _ h _ _ (λd hd=>by simp[SetTable.probeStart]at hd) _ _ he;injection e with e;injection e with e1 e2;subst e1;cases dm with
  |none=>exact a1
  |some d=>exact a2 d U
 ·cases e
theorem rk(n:Nat):Asc (Array.range n):=by
 unfold Asc;rw[Array.toList_range];exact List.pairwise_lt_range
theorem eK(t:SetTable)(n:Nat):Asc (t.standIn n).place:=rk n
theorem p6{t:SetTable}(ha:Asc t.place)(es:Array (Int×Value))(h:Int)(x:Value):Asc (layNew t es h x).2.1.place/\(layNew t es h x).2.1.led=t.led:=by
 unfold layNew;split
 ·rename_i slot wd e
  have hp:Asc (t.put slot).1.place:=p4 ha (lP e);dsimp only;unfold SetTable.orStandIn;split
  ·exact⟨hp,U⟩
  ·exact⟨eK _ _,U⟩
 ·exact⟨eK _ _,U⟩
theorem oA(f:Nat->Option Nat):∀l:List Nat,((l.filterMap λj=>(f j).map (j,·)).map (·.1)).Sublist l
 | []=>by simp
 |j :: l=>by
  have ih:=oA f l;rw[filterMap_cons];cases e:f j with
  |none=>exact ih.trans (List.sublist_cons_self _ _)
  |some v=>exact ih.cons_cons j
theorem p7{t t':SetTable}{hs:Array Int}{n:Nat}{o:Array Nat}(e:t.relaid hs n=some (t',o)):Asc t'.place/\t'.led=t.led:=by
 unfold SetTable.relaid SetTable.laid at e;cases hc:SetTable.layClean (SetTable.sizeAbove n-1) hs with
 |none=>rw[hc]at e;cases e
 |some owner =>
  rw[hc]at e;injection e with e;injection e with e1 e2;subst e1;exact⟨List.pairwise_lt_range.sublist (oA _ _),U⟩
theorem ng{t:SetTable}(ha:Asc t.place)(es:Array (Int×Value))(n:Nat):Asc (relayAll t es n).2.1.place/\(relayAll t es n).2.1.led=t.led:=by
 unfold relayAll;split
 ·rename_i t' o e
  dsimp only;split
  ·exact p7 e
  ·exact⟨eK _ _,U⟩
 ·exact⟨eK _ _,U⟩
theorem fc{α:Type}:∀{l:List α}{i:Nat}{x:α},l[i]?=some x->(x :: l.eraseIdx i).Perm l
 | [],i,x,h=>by simp at h
 |a :: l,0,x,h=>by simp at h;subst h;exact .refl _
 |a :: l,i+1,x,h=>by
  have ih:=fc (l:=l) (i:=i) (x:=x) (by simpa using h);rw[List.eraseIdx_cons_succ];exact(List.Perm.swap _ _ _).trans (ih.cons a)
theorem ur{α:Type}(next:Nat->Nat):∀(fuel k:Nat)(left:List α)(out:Array α),fuel=left.length->∃l:List α,l.Perm left/\(pickOrder.go next fuel k left out).toList=out.toList++l:=by
 intro fuel;induction fuel with
 |zero =>
  intro k left out e;exact⟨left,.refl _,by unfold pickOrder.go;rw[List.length_eq_zero_iff.mp e.symm];simp⟩
 |succ fuel ih =>
  intro k left out e;have hlt:next k%left.length<left.length:=mod_lt _ (by lia);have eg:left[next k%left.length]?=some left[next k%left.length]:=BP hlt;unfold pickOrder.go;rw[eg];dsimp only;obtain⟨l,p,el⟩:=ih (k+1) (left.eraseIdx (next k%left.length)) (out.push left[next k%left.length]) (by rw[List.length_eraseIdx_of_lt hlt];lia);exact⟨left[next k%left.length] :: l,(p.cons _).trans (fc eg),by rw[el];simp⟩
theorem rm{α:Type}(next:Nat->Nat)(xs:Array α):(pickOrder next xs).toList.Perm xs.toList:=by
 obtain⟨l,p,e⟩:=ur next xs.size 0 xs.toList #[] (by simp);have:(pickOrder next xs).toList=l:=by unfold pickOrder;rw[e];simp
 rw[this];exact p
def dg(w:World):Bool:=w.params.followText "set-order"
def jx:Value->Int
 | .int k _=>k
 |_=>0
structure gp(es:Array (Int×Value))(ks:List Int):Prop where
 ent:∀e∈es.toList,e.1=hashInt (jx e.2)/\∃u,e.2=.int (jx e.2) u
 nd:(es.toList.map λe=>jx e.2).Nodup
 mem:∀k,k∈ks↔k∈es.toList.map λe=>jx e.2
theorem gp.perm{es es':Array (Int×Value)}{ks:List Int}(h:gp es ks)(p:es'.toList.Perm es.toList):gp es' ks :=
 ⟨λe he=>h.ent e (p.mem_iff.mp he),(p.map _).nodup_iff.mpr h.nd,λk=>(h.mem k).trans (p.map _).mem_iff.symm⟩
theorem gp.push{es:Array (Int×Value)}{ks:List Int}{k:Int}{u:Tok}(h:gp es ks)(hk:k ∉ ks):gp (es.push (hashInt k,.int k u)) (ks++[k]):=by
 refine⟨λe he=>?_,?_,λq=>?_⟩
 ·rw[toList_push]at he;rcases mem_append.mp he with he|he
  ·exact h.ent e he
  ·rw[mem_singleton]at he;subst he;exact⟨U,u,U⟩
 ·rw[toList_push,map_append,List.nodup_append];refine⟨h.nd,by simp,λa ha b hb=>?_⟩;have eb:b=k:=by simpa[jx]using hb
  subst eb;exact λe=>hk ((h.mem b).mpr (e ▸ ha))
 ·rw[toList_push,map_append,mem_append,mem_append,h.mem q];simp[jx]
theorem gp.again{es:Array (Int×Value)}{ks:List Int}{k:Int}(h:gp es ks)(hk:k∈ks):gp es (ks++[k]) :=
 ⟨h.ent,h.nd,λq=>by
  rw[←h.mem q,mem_append,mem_singleton];exact⟨λz=>z.elim id λz=>z ▸ hk,.inl⟩⟩
theorem gp.elems{es:Array (Int×Value)}{ks:List Int}(h:gp es ks):ElemsOf (intKind prog w) es.toList:=λe he=>by
 obtain⟨h1,u,h2⟩:=h.ent e he;refine⟨⟨jx e.2,?_,h1⟩,?_⟩
 ·rw[h2];exact intKind_is _ _ _ _
 ·rw[h2];rfl
theorem gp.found{es:Array (Int×Value)}{ks:List Int}(h:gp es ks){k:Int}{e:Int×Value}(he:e∈es.toList)(hk:(intKind prog w).is k e.2=true):k∈ks:=by
 obtain⟨_,u,h2⟩:=h.ent e he;refine(h.mem k).mpr (mem_map.mpr ⟨e,he,?_⟩);exact(intKind prog w).inj e.2 _ _ (by rw[h2];exact intKind_is _ _ _ _) hk
def dc(h:Heap)(a:Addr)(led:Bool)(ks:List Int)(n:Nat):Prop :=
 ∃o es ep t,h.get? a=some o/\o.ExactSet/\o.data=.set es ep t/\gp es ks/\es.size<scanBound/\t.fits es.size=true/\Asc t.place/\t.led=led/\es.size=n
theorem dc.stay{h h':Heap}{a:Addr}{led:Bool}{ks:List Int}{n:Nat}(x:dc h a led ks n)(k:∀o,h.get? a=some o->h'.get? a=some o):dc h' a led ks n:=by
 obtain⟨o,es,ep,t,ho,r⟩:=x;exact⟨o,es,ep,t,k o ho,r⟩
theorem dc.store{h:Heap}{a:Addr}{o:Obj}{es:Array (Int×Value)}{ep:Nat}{t:SetTable}(ho:h.get? a=some o)(hex:o.ExactSet)(hd:o.data=.set es ep t)
  {es':Array (Int×Value)}{t':SetTable}{ks:List Int}(he:gp es' ks)(hb:es'.size<scanBound)(hf:t'.fits es'.size=true)(ha:Asc t'.place) :
  (h.update a (Obj.putSet es' t')).get? a=some { o with data:=.set es' (ep+1) t' }/\dc (h.update a (Obj.putSet es' t')) a t'.led ks es'.size:=by
 have hg:(h.update a (Obj.putSet es' t')).get? a=some { o with data:=.set es' (ep+1) t' }:=by
  have:=Heap.get?_update_self (Obj.putSet es' t') ho (by rw[putSet_of es' t' hd];rfl);rw[putSet_of es' t' hd]at this;exact this
 exact⟨hg,_,es',ep+1,t',hg,hex,U,he,hb,hf,ha,U,U⟩
theorem oB{g:Bool->Sem Unit}(hg:∀(b:Bool)(s₁:Shared)(Q':Unit->Shared->Prop),Q' () s₁->wpAny (model prog w) A (g b) Q' E s₁)
  {a:Addr}{o:Obj}{es:Array (Int×Value)}{ep:Nat}{t:SetTable}(ho:s.heap.get? a=some o)(hex:o.ExactSet)(hd:o.data=.set es ep t)
  {es1:Array (Int×Value)}{t2:SetTable}{ks:List Int}{led:Bool}(he1:gp es1 ks)
  (hb1:es1.size<scanBound)(hf2:t2.fits es1.size=true)(ha2:Asc t2.place)(hl2:t2.led=led){oC:Bool}{R:Option Bool->Shared->Prop}
  (h:∀h',Heap.SameBut a s.heap h'->dc h' a led ks es1.size->R (some true) { s with heap:=h' }) :
  wpAny (model prog w) A (do
    storeSet a es1 t2
    if (!oC && t2.tooFull)=true then do
      g (relayAll t2 es1 (SetTable.grown es1.size)).2.2
      storeSet a (relayAll t2 es1 (SetTable.grown es1.size)).1 (relayAll t2 es1 (SetTable.grown es1.size)).2.1
      pure (some true)
     else pure (some true)) R E s:=by
 refine wpAny_bind (wpAny_storeSet_of ho hd ?_ (fits_of_scanBound hb1));obtain⟨ho1,hS1⟩:=dc.store ho hex hd he1 hb1 hf2 ha2;rw[hl2]at hS1;have xQ:=Heap.SameBut.update s.heap a (Obj.putSet es1 t2);split
 ·have hp:=relayAll_perm t2 es1 (SetTable.grown es1.size);have hfr:=relayAll_fits t2 es1 (SetTable.grown es1.size);obtain⟨har,hlr⟩:=ng ha2 es1 (SetTable.grown es1.size);generalize hRl:relayAll t2 es1 (SetTable.grown es1.size)=Rl at hp hfr har hlr⊢;obtain⟨es2,t3,Bq⟩:=Rl;dsimp only at hp hfr har hlr⊢;have hsz:es2.size=es1.size:=by rw[←length_toList,hp.length_eq,length_toList]
  have hb2:es2.size<scanBound:=by rw[hsz];exact hb1
  refine wpAny_bind (hg _ _ _ ?_);refine wpAny_bind (wpAny_storeSet_of ho1 U ?_ (fits_of_scanBound hb2));obtain⟨_,hS2⟩:=dc.store ho1 hex U (he1.perm hp) hb2 hfr har;rw[hsz,hlr,hl2]at hS2;exact wpAny_pure (h _ (xQ.trans (Heap.SameBut.update _ a _)) hS2)
 ·exact wpAny_pure (h _ xQ hS1)
theorem addW{a:Addr}{led:Bool}{ks:List Int}{n:Nat}{k:Int}{u:Tok}{Q:Bool->Shared->Prop}(hS:dc s.heap a led ks n)(u6:n+1<scanBound)
  (h:∀h' n' b,Heap.SameBut a s.heap h'->n'<=n+1->dc h' a led (ks++[k]) n'->Q b { s with heap:=h' }) :
  wpAny (model prog w) A (setAddHashed a (.int k u) ((intKind prog w).hash k)) Q E s:=by
 obtain⟨o,es,ep,t,ho,hex,hd,hE,hb,hf,hA,uu,hn⟩:=hS;have vV:(intKind prog w).is k (.int k u)=true:=intKind_is _ _ _ _;have hsc:(Value.int k u).scannable=true:=rfl;have hel:=hE.elems (prog:=prog) (w:=w);have hb1:es.size+1<scanBound:=by rw[hn];exact u6
 unfold setAddHashed setAddHashedIn;refine wpAny_holding (wpAny_bind (wpAny_setState_of ho hd hf ?_));dsimp only;rw[byScan_of hsc hb hel];simp only[↓reduceIte];unfold setAddByScan;refine wpAny_bind ?_;refine wpAny_bind (wpAny_rule ?_);refine wpAny_bind (wpAny_setScan_of vV ho hd hf hel ?_);cases hr:List.findIdx? (λe=>(intKind prog w).is k e.2) es.toList with
 |some j =>
  dsimp only;obtain⟨hj,hpj,_⟩:=List.findIdx?_eq_some_iff_getElem.mp hr;have hk:k∈ks:=hE.found (getElem_mem hj) hpj;refine wpAny_pure (wpAny_pure ?_);have e:s={ s with heap:=s.heap }:=by cases s;rfl
  rw[e];exact h s.heap n false (Heap.SameBut.refl a s.heap) (le_succ _) ⟨o,es,ep,t,ho,hex,hd,hE.again hk,hb,hf,hA,uu,hn⟩
 |none =>
  dsimp only;have hk:k ∉ ks:=λz=>by
   obtain⟨e,he,q⟩:=mem_map.mp ((hE.mem k).mp z);have:=List.findIdx?_eq_none_iff.mp hr e he;obtain⟨_,v,h2⟩:=hE.ent e he;rw[h2]at this;rw[←q]at this;rw[intKind_is]at this;exact Bool.noConfusion this
  have hgw:∀(b:Bool){s₁:Shared}{Q':Unit->Shared->Prop},Q' () s₁->wpAny (model prog w) A (match b with|true=>rule "set.scan.the-table-gave-way" | false=>pure ()) Q' E s₁ :=
   λb s₁ Q' hq=>by cases b <;> first|exact wpAny_pure hq|exact wpAny_rule hq
  have mx:=layNew_perm t es ((intKind prog w).hash k) (.int k u);have oE:=layNew_fits t es ((intKind prog w).hash k) (.int k u);obtain⟨hA1,hl1⟩:=p6 hA es ((intKind prog w).hash k) (.int k u);generalize hL:layNew t es ((intKind prog w).hash k) (.int k u)=L at mx oE hA1 hl1⊢;obtain⟨es1,t1,oC,BB⟩:=L;dsimp only at mx oE hA1 hl1⊢;have hE1:gp es1 (ks++[k]):=(hE.push (u:=u) hk).perm mx;have zo:es1.size=n+1:=by rw[←length_toList,mx.length_eq,length_toList,Array.size_push,hn]
  have xR:es1.size<scanBound:=by rw[zo];exact u6
  refine wpAny_bind (hgw _ ?_);have xS:∀h',Heap.SameBut a s.heap h'->dc h' a led (ks++[k]) es1.size->Q true { s with heap:=h' }:=λh' hsb hS'=>h h' _ true hsb (by lia) hS'
  split
  ·refine wpAny_bind ?_;rw[hashByValue_scannable 8 hsc];refine wpAny_pure ?_;refine oB ?_ ho hex hd hE1 xR ?_ ?_ (led:=led) ?_ ?_
   ·intro b s₁ Q' hq;cases b <;> first|exact wpAny_pure hq|exact wpAny_rule hq
   ·split
    ·exact oE
    ·exact SetTable.fits_plain_off oE
   ·split
    ·exact hA1
    ·exact hA1
   ·split
    ·exact hl1.trans uu
    ·exact hl1.trans uu
   ·intro h' hsb hS';dsimp only;exact wpAny_pure (xS h' hsb hS')
  ·refine wpAny_bind (wpAny_pure ?_);simp only[↓reduceIte];refine oB ?_ ho hex hd hE1 xR oE hA1 (hl1.trans uu) ?_
   ·intro b s₁ Q' hq;cases b <;> first|exact wpAny_pure hq|exact wpAny_rule hq
   ·intro h' hsb hS';dsimp only;exact wpAny_pure (xS h' hsb hS')
theorem p8(a:Value){Q₁:Value->Shared->Prop}
  (h:Q₁ (.ref s.heap.objs.size) { s with heap:=s.heap.push { cls:=.type "set",dict:=none,data:=.set #[] 0 (.fresh 0 0 (!dg w)) } }) :
  codeAny (model prog w) A (.call (.builtin "set.__new__") ⟨[.type "set",a],[]⟩) (wants Q₁ E) s:=by
 refine codeAny_of_tree ?_;show wpAny _ A.in1 (do checkBuiltinCall "set.__new__" ⟨[.type "set",a],[]⟩;again (.builtin "set.__new__" ⟨[.type "set",a],[]⟩)) _ _ s;refine wpAny_bind (wpAny_of_eq (F.newCall_set_1 a) (wpAny_pure ⟨plainId_quiet F.plain_set_new _,codeAny_builtin F.entry_set_new ?_⟩));rw[Around.under_plainId F.plain_set_new _];unfold Builtin.«set.__new__» Builtin.Frozenset.newClass;have BC:=sub_set_self;obtain⟨hp,g,d,tk,os⟩:=s;dsimp only
 wp_walk
 refine wpAny_askSetting (wpAny_pure ?_);dsimp only;simp only[newObj];refine wpAny_bind (wpAny_alloc (wpAny_pure ?_));exact wpAny_pure h
theorem wq{R:Result->Shared->Prop}{I:Addr}{fp wr:List Addr}{G:Array GenState->Array GenState->Prop}{n:Nat}{P:Nat->Value->Prop}{St:Nat->Shared->Prop}(W:WalksS prog w A.in1 I fp wr G n P St){a:Addr}(ha:a ∉ fp){ks:List Int}{led:Bool}
  (hv:∀i v,P i v->∃k u,ks[i]?=some k/\v=.int k u)(hb:n+1<scanBound):∀(d i:Nat)(s:Shared)(m:Nat),n=i+d->m<=i->St i s->dc s.heap a led (ks.take i) m ->
   (∀s' m',Moved (a :: wr) G s s'->dc s'.heap a led (ks.take n) m'->m'<=n->R (.ok (.ret .none)) s')->codeAny (model prog w) A (.builtin "set.update.loop" ⟨[.ref a,.ref I],[]⟩) R s:=by
 have hw:a ∉ wr:=λz=>ha (W.sub a z)
 intro d;induction d with
 |zero =>
  intro i s m e hm st x fin;rw[show n=i by lia]at W fin;refine codeAny_builtin (R:=R) (A:=A) F.entry_set_update_loop ?_;rw[Around.under_plainId (A:=A) F.plain_set_update_loop _];show wpAny (model prog w) A.in1 (pyNext (.ref I) >>= _) _ _ s;exact wpAny_bind (W.done s _ _ st λs' mv=>wpAny_pure (fin s' m (mv.mono λb hb=>mem_cons_of_mem a hb) (x.stay λo q=>mv.heap a o hw q) hm))
 |succ d ih =>
  intro i s m e hm st x fin;refine codeAny_builtin (R:=R) (A:=A) F.entry_set_update_loop ?_;rw[Around.under_plainId (A:=A) F.plain_set_update_loop _];show wpAny (model prog w) A.in1 (pyNext (.ref I) >>= _) _ _ s;refine wpAny_bind (W.item i s _ _ (by lia) st λv s1 p st1 mv=>?_);obtain⟨k,u,ek,rfl⟩:=hv i v p;have x1:=x.stay λo q=>mv.heap a o hw q
  show wpAny (model prog w) A.in1 (holding [.int k u] (setAdd a (.int k u)) >>= _) _ _ s1;refine wpAny_bind (wpAny_holding (show wpAny (model prog w) A.in1 (setAdd a (.int k u)) _ _ s1 from ?_));unfold setAdd;refine wpAny_holding (wpAny_bind ((intKind prog w).pyHash (k:=k) (intKind_is _ _ _ _) ?_));refine addW (s:={ s1 with toks:=s1.toks+1 }) x1 (by lia) λh' n' _ sb hn' x2=>?_
  have et:ks.take (i+1)=ks.take i++[k]:=by rw[take_add_one,ek];rfl
  rw[←et]at x2;refine wpAny_pure ⟨plainId_quiet F.plain_set_update_loop _,ih (i+1) { s1 with heap:=h',toks:=s1.toks+1 } n' (by lia) (by lia) (W.frame (i+1) s1 h' (s1.toks+1) st1 (le_succ _) λb hbf o q=>(sb.2 b λz=>ha (z ▸ hbf)).trans q) x2 λs2 m2 mv2 x4 hm2=>?_⟩;refine fin s2 m2 (Moved.trans W.gtrans ((mv.mono λb hb=>mem_cons_of_mem a hb).then_heap (le_succ _) λb o hbn q=>?_) mv2) x4 hm2;exact(sb.2 b λz=>hbn (z ▸ mem_cons_self)).trans q
theorem wt{l:Addr}{items:Array Value}{ks:List Int}(hh:A.handled=none)(hl:s.heap.IsList l items)(hk:∀(i:Nat)(v:Value),items[i]?=some v->∃k u,ks[i]?=some k/\v=.int k u)(hn:ks.length=items.size)(hb:items.size+1<scanBound) :
  codeAny (model prog w) A (.call (.builtin "set.__init__") ⟨[.ref s.heap.objs.size,.ref l],[]⟩) (wants (λr s2=>r=.none/\∃h' tk m,s2={ s with heap:=h',toks:=tk }/\dc h' s.heap.objs.size (!dg w) ks m/\m<=ks.length/\∀b o,b<s.heap.objs.size->s.heap.get? b=some o->h'.get? b=some o) E) { s with heap:=s.heap.push (cI (!dg w)) }:=by
 have g0:(s.heap.push (cI (!dg w))).get? s.heap.objs.size=some (cI (!dg w)):=Heap.get?_push_size s.heap U;have ty:Shared.TypeIs { s with heap:=s.heap.push (cI (!dg w)) } (.ref s.heap.objs.size) "set" := ⟨cI (!dg w),g0,U⟩;refine codeAny_call_builtin F.called_set.init.plain F.entry_set_init (check_set_init_1 ty ?_);obtain⟨⟨c1,c2,c3,c4⟩,ho,hc,m,hd⟩:=hl;dsimp only at hc hd;subst hc hd;have g1:(s.heap.push (cI (!dg w))).get? l=some { cls:=.type "list",dict:=c2,data:=.seq items m,slots:=c4 }:=Heap.get?_push_of_some _ ho;have y1:=F.sub_list_set;have y2:=F.sub_list_frozenset;have y3:(Value.type "list" == Value.type "dict")=false:=by decide
 have l1:(s.heap.push (cI (!dg w))).IsList l items:=⟨_,g1,U,m,U⟩;have lt:l<s.heap.objs.size:=Heap.lt_size ho;have s0:dc (s.heap.push (cI (!dg w))) s.heap.objs.size (!dg w) [] 0:=⟨_,#[],0,_,g0,⟨U,U,U⟩,U,⟨by simp,by simp,by simp⟩,by unfold scanBound;decide,U,List.Pairwise.nil,U,U⟩;unfold Builtin.«set.__init__» Builtin.Frozenset.updateFrom noKeywords;generalize hI:pyIter=it;generalize hB:dg w=bt at *
 wp_walk
 subst hI;refine wpAny_pyIter_list l1 (wpAny_bind (wpAny_runValue ?_));have nl:l≠(s.heap.push (cI (!bt))).objs.size:=by rw[Heap.size_push];exact ne_of_lt (lt_succ_of_lt lt)
 have nf:s.heap.objs.size ∉ [(s.heap.push (cI (!bt))).objs.size,l]:=by
  rw[Heap.size_push];intro z;rcases mem_cons.mp z with z|z
  ·exact absurd z (ne_of_lt (lt_succ_self _))
  ·exact absurd (by simpa using z) (ne_of_gt lt)
 refine wq ((Walks.list (by simp[hh]) _ l nl items).toS) nf (ks:=ks) (led:=!bt) hk hb items.size 0 _ 0 (zero_add _).symm (le_refl _) ⟨⟨_,Heap.get?_push_size _ U,U,U⟩,l1.push _⟩ (s0.stay λo q=>Heap.get?_push_of_some _ q) λs' m' mv x hm'=>?_
 obtain⟨h',g',d',t',o'⟩:=s';obtain rfl:g'=s.gens:=mv.gens;obtain rfl:d'=s.drawn:=mv.drawn;obtain rfl:o'=s.os:=mv.os;refine wpAny_pure (show wpAny (model prog w) _ (ret Value.none) _ _ _ from wpAny_pure ⟨U,h',t',m',U,?_,by lia,λb o hb' q=>?_⟩)
 ·rw[←hn,take_length]at x;exact x
 ·refine mv.heap b o (λz=>?_) (Heap.get?_push_of_some _ (Heap.get?_push_of_some _ q));rcases mem_cons.mp z with z|z
  ·exact absurd z (ne_of_lt hb')
  ·have z2:b=(s.heap.push (cI (!bt))).objs.size:=by simpa using z
   rw[Heap.size_push]at z2;exact absurd z2 (ne_of_lt (lt_succ_of_lt hb'))
set_option maxRecDepth 100000 in
theorem rn{l:Addr}{items:Array Value}{ks:List Int}{Q:Value->Shared->Prop}(hh:A.handled=none)(hl:s.heap.IsList l items)(hk:∀(i:Nat)(v:Value),items[i]?=some v->∃k u,ks[i]?=some k/\v=.int k u)(hn:ks.length=items.size)(hb:items.size+1<scanBound)
  (h:∀h' tk m,dc h' s.heap.objs.size (!dg w) ks m->m<=ks.length->(∀b o,b<s.heap.objs.size->s.heap.get? b=some o->h'.get? b=some o)->Q (.ref s.heap.objs.size) { s with heap:=h',toks:=tk }):wpAny (model prog w) A (call (.type "set") [.ref l]) Q E s:=by
 obtain⟨c,tl,mro⟩:=F.called_set.mro;have a1:=F.called_set.made;have a2:=F.called_set.sub;have a3:=F.called_set.notType;have a4:=F.called_set.canCreate;have a5:=F.typeCall_set_1 (.ref l);refine wpAny_call (codeAny_of_tree (show wpAny (model prog w) _ (callAny (.type "set") _) _ _ _ from wpAny_pure ⟨Code.quiet_builtin _ (by decide+kernel),codeAny_builtin F.entry_type_call ?_⟩));rw[Around.under_plain (A:=A) (weight_type_call_type "set" [.ref l] []) U]
 repeat (any_goals (first|assumption|wp_step))
 refine codeAny_mono (p8 (.ref l) (E:=E) (Q₁:=λob s1=>ob=.ref s.heap.objs.size/\s1={ s with heap:=s.heap.push (cI (!dg w)) }) ⟨U,U⟩) λr s1 hr=>?_
 cases r with
 |error e=>exact hr
 |ok fl =>
  cases fl with
  |ret ob =>
   obtain⟨rfl,rfl⟩:=hr;have g0:(s.heap.push (cI (!dg w))).get? s.heap.objs.size=some (cI (!dg w)):=Heap.get?_push_size s.heap U;have ty:Shared.TypeIs { s with heap:=s.heap.push (cI (!dg w)) } (.ref s.heap.objs.size) "set" := ⟨cI (!dg w),g0,U⟩;have b1:=F.called_set.init.lookup;have b2:=F.called_set.init.bind (.ref s.heap.objs.size)
   repeat (any_goals (first|assumption|wp_step))
   refine codeAny_mono (wt (E:=E) (by simp[hh]) hl hk hn hb) λr2 s2 hr2=>?_
   cases r2 with
   |error e=>exact hr2
   |ok f2 =>
    cases f2 with
    |ret r =>
     obtain⟨rfl,h',tk,m,rfl,x,hm,kp⟩:=hr2
     repeat (any_goals (first|assumption|wp_step))
     exact h h' tk m x hm kp
    |_=>exact hr2.elim
  |_=>exact hr.elim
set_option maxRecDepth 100000
theorem aU:Slot "set_iterator" "__next__" "set_iterator.__next__" :=
 .of (owner := "set_iterator") (n := "__next__") (by rw[typeLookup_type,builtinLookup_eq_fast];kernel_rfl) (by decide+kernel) (by decide+kernel) (by decide+kernel)
  (by first|exact .inl (by decide+kernel)|exact .inr (by decide+kernel)) (by rw[isSubtype_type];kernel_rfl)
theorem gc:Slot "set_iterator" "__iter__" "set_iterator.__iter__" :=
 .of (owner := "set_iterator") (n := "__iter__") (by rw[typeLookup_type,builtinLookup_eq_fast];kernel_rfl) (by decide+kernel) (by decide+kernel) (by decide+kernel)
  (by first|exact .inl (by decide+kernel)|exact .inr (by decide+kernel)) (by rw[isSubtype_type];kernel_rfl)
theorem cx:entryFor table "set_iterator.__next__" = some Builtin.«set_iterator.__next__»:=entryFor_of_fast (by kernel_rfl)
theorem jy:entryFor table "set_iterator.__iter__" = some Builtin.«dict_keyiterator.__iter__» :=
 entryFor_alias (id' := "dict_keyiterator.__iter__") (by kernel_rfl) U (by decide+kernel) (by kernel_rfl)
theorem kK:entryFor table "set.__iter__" = some Builtin.«frozenset.__iter__» :=
 entryFor_alias (id' := "frozenset.__iter__") (by kernel_rfl) U (by decide+kernel) (by kernel_rfl)
theorem cF(a:Value):argsOk "set_iterator.__next__" ⟨[a],[]⟩:=by unfold argsOk;kernel_rfl
theorem j4(a:Value):argsOk "set_iterator.__iter__" ⟨[a],[]⟩:=by unfold argsOk;kernel_rfl
abbrev dU(first:Value)(i:Int)(s:Value)(n ep:Nat):Obj:={ cls:=.type "set_iterator",data:=.fields #[first,.int i 0,s,.int n 0,.int ep 0] }
theorem nh{src:Source}{n:Nat}{Q:Nat->Shared->Prop}(hn:n≠0)(h:Q (w.draws src (s.drawn.get src)%n) { s with drawn:=s.drawn.bump src }) :
  wpAny (model prog w) A (choose src n) Q E s:=λ_ _ _=>⟨hn,h⟩
theorem kL{α:Type}:∀(n:Nat)(xs:List α)(s:Shared){Q:List α->Shared->Prop},n=xs.length->(∀ys d,ys.Perm xs->Q ys { s with drawn:=d })->wpAny (model prog w) A (drawOrder n xs) Q E s:=by
 intro n;induction n with
 |zero =>
  intro xs s Q e h;have:xs=[]:=List.length_eq_zero_iff.mp e.symm;subst this;unfold drawOrder;exact wpAny_pure (h [] s.drawn (.refl _))
 |succ n ih =>
  intro xs s Q e h;cases xs with
  |nil=>simp at e
  |cons x r =>
   unfold drawOrder;refine wpAny_bind (nh (by simp) ?_);generalize hi:w.draws Source.order (s.drawn.get Source.order)%(x :: r).length=i;have hlt:i<(x :: r).length:=by rw[←hi];exact mod_lt _ (by simp)
   have eg:(x :: r)[i]?=some (x :: r)[i]:=BP hlt;rw[eg]
   try dsimp only
   refine wpAny_bind (ih _ _ (by rw[List.length_eraseIdx_of_lt hlt];lia) λys d p=>wpAny_pure ?_);exact h _ d ((p.cons _).trans (fc eg))
theorem rq{I a:Addr}{slot i:Nat}{o:Obj}{es:Array (Int×Value)}{ep:Nat}{t:SetTable}{Q:Option Value->Shared->Prop}
  (hI:s.heap.get? I=some (dU (.int slot 0) i (.ref a) es.size ep))(ho:s.heap.get? a=some o)(hd:o.data=.set es ep t)(hf:t.fits es.size=true)
  {x:Value}{nx:Nat}(hN:∀(Q':Option (Value×Nat)->Shared->Prop) E',Q' (some (x,nx)) s->wpAny (model prog w) A.in1 (setNext a slot i ep) Q' E' s)
  (hQ:∀h',h'.get? I=some (dU (.int nx 0) ((i+1:Nat):Int) (.ref a) es.size ep)->Heap.SameBut I s.heap h'->Q (some x) { s with heap:=h' }) :
  wpAny (model prog w) A (pyNext (.ref I)) Q E s:=by
 have hT:s.TypeIs (.ref I) "set_iterator" := ⟨_,hI,U⟩;unfold pyNext;refine wpAny_bind (wpAny_attempt (wpAny_callSpecial?_slot (name:=Str.ofString "__next__") hT aU (wpAny_call_entry aU hT cx ?_ (cF _))));unfold Builtin.«set_iterator.__next__»;refine wpAny_bind (m:=slotArgs "__next__" 0 _) (wpAny_pure ?_);refine wpAny_bind (wpAny_fieldsOf hI U ?_)
 try dsimp only
 refine wpAny_bind (wpAny_setEntries_of ho hd hf ?_);rw[if_neg (by simp)]
 try dsimp only
 simp only[toNat_natCast];refine wpAny_bind (hN _ _ ?_)
 try dsimp only
 refine wpAny_bind (wpAny_setField_rec hI (by simp) λh1 g1 sb1=>?_);refine wpAny_bind (wpAny_setField_rec (s:={ s with heap:=h1 }) g1 (by simp) λh2 g2 sb2=>?_);refine wpAny_pure ⟨x,U,wpAny_pure (hQ h2 ?_ (sb1.trans sb2))⟩;rw[g2];simp[dU,rawInt]
theorem rz{I a:Addr}{slot i:Nat}{o:Obj}{es:Array (Int×Value)}{ep:Nat}{t:SetTable}{Q:Option Value->Shared->Prop}(hh:A.handled=none)
  (hI:s.heap.get? I=some (dU (.int slot 0) i (.ref a) es.size ep))(ho:s.heap.get? a=some o)(hd:o.data=.set es ep t)(hf:t.fits es.size=true)
  (hN:∀(Q':Option (Value×Nat)->Shared->Prop) E',Q' none s->wpAny (model prog w) A.in1 (setNext a slot i ep) Q' E' s)
  (hQ:∀h',Heap.ExtBut I s.heap h'->Q none { s with heap:=h' }) :
  wpAny (model prog w) A (pyNext (.ref I)) Q E s:=by
 have hT:s.TypeIs (.ref I) "set_iterator" := ⟨_,hI,U⟩;unfold pyNext;refine wpAny_bind (wpAny_attempt (wpAny_callSpecial?_slot (name:=Str.ofString "__next__") hT aU (wpAny_call_entry aU hT cx ?_ (cF _))));unfold Builtin.«set_iterator.__next__»;refine wpAny_bind (m:=slotArgs "__next__" 0 _) (wpAny_pure ?_);refine wpAny_bind (wpAny_fieldsOf hI U ?_)
 try dsimp only
 refine wpAny_bind (wpAny_setEntries_of ho hd hf ?_);rw[if_neg (by simp)]
 try dsimp only
 simp only[toNat_natCast];refine wpAny_bind (hN _ _ ?_)
 try dsimp only
 refine wpAny_bind (wpAny_setField hI U (by simp) ?_);show wpAny _ _ (newExc (.type "StopIteration") [] >>= _) _ _ _;refine wpAny_bind ?_;simp only[newExc,newTuple];refine wpAny_bind (wpAny_newObj_type ?_ (by size_fits));refine wpAny_bind (m:=firstArgMember _ _) (wpAny_of_eq (a:=Value.none) (by first|rfl|(simp only[firstArgMember];rfl)) ?_);refine wpAny_newObj_type ?_ (by size_fits);simp only[raiseNew];refine wpAny_bind (wpAny_handled ?_);rw[show A.in1.handled=none from hh];refine wpAny_bind (wpAny_pure (wpAny_throw ?_));refine wpAny_bind (wpAny_isInstance (T := "StopIteration") (b:=true) ⟨_,Heap.get?_push_size _ U,U⟩ isSubtype_stop ?_);exact wpAny_pure (hQ _ (((Heap.SameBut.update ..).extBut.push _).push _))
theorem p9{I a tp:Addr}{i:Nat}{o:Obj}{es:Array (Int×Value)}{ep:Nat}{t:SetTable}{places:List Nat}{m:Nat}{to:Obj}{Q:Option Value->Shared->Prop}
  (hI:s.heap.get? I=some (dU (.ref tp) i (.ref a) es.size ep))(ht:s.heap.get? tp=some to)(htd:to.data=.seq (places.map λ(p:Nat)=>rawInt p).toArray m)(ho:s.heap.get? a=some o)(hd:o.data=.set es ep t)(hf:t.fits es.size=true)
  {p:Nat}(hp:places[i]?=some p){e:Int×Value}(he:es[p]?=some e)
  (hQ:∀h',h'.get? I=some (dU (.ref tp) ((i+1:Nat):Int) (.ref a) es.size ep)->Heap.SameBut I s.heap h'->Q (some e.2) { s with heap:=h' }) :
  wpAny (model prog w) A (pyNext (.ref I)) Q E s:=by
 have hT:s.TypeIs (.ref I) "set_iterator" := ⟨_,hI,U⟩;unfold pyNext;refine wpAny_bind (wpAny_attempt (wpAny_callSpecial?_slot (name:=Str.ofString "__next__") hT aU (wpAny_call_entry aU hT cx ?_ (cF _))));unfold Builtin.«set_iterator.__next__»;refine wpAny_bind (m:=slotArgs "__next__" 0 _) (wpAny_pure ?_);refine wpAny_bind (wpAny_fieldsOf hI U ?_)
 try dsimp only
 refine wpAny_bind (wpAny_setEntries_of ho hd hf ?_);rw[if_neg (by simp)]
 try dsimp only
 refine wpAny_bind (wpAny_seqItems ht htd ?_)
 try dsimp only
 have eg:(places.map λ(p:Nat)=>rawInt p).toArray[(i:Int).toNat]?=some (.int p 0):=by simp[hp,rawInt]
 rw[eg]
 try dsimp only
 unfold setNextDrawn;refine wpAny_bind (wpAny_bind (wpAny_setState_of ho hd hf ?_))
 try dsimp only
 rw[if_neg (by simp)];refine wpAny_bind (wpAny_pure ?_);simp only[toNat_natCast,he];refine wpAny_pure ?_;refine wpAny_bind (wpAny_setField_rec hI (by simp) λh1 g1 sb1=>?_);refine wpAny_pure ⟨e.2,U,wpAny_pure (hQ h1 ?_ sb1)⟩;rw[g1];simp[dU,rawInt]
theorem kM{I a tp:Addr}{i:Nat}{o:Obj}{es:Array (Int×Value)}{ep:Nat}{t:SetTable}{places:List Nat}{m:Nat}{to:Obj}{Q:Option Value->Shared->Prop}(hh:A.handled=none)
  (hI:s.heap.get? I=some (dU (.ref tp) i (.ref a) es.size ep))(ht:s.heap.get? tp=some to)(htd:to.data=.seq (places.map λ(p:Nat)=>rawInt p).toArray m)(ho:s.heap.get? a=some o)(hd:o.data=.set es ep t)(hf:t.fits es.size=true)
  (hp:places[i]?=none)(hQ:∀h',Heap.ExtBut I s.heap h'->Q none { s with heap:=h' }) :
  wpAny (model prog w) A (pyNext (.ref I)) Q E s:=by
 have hT:s.TypeIs (.ref I) "set_iterator" := ⟨_,hI,U⟩;unfold pyNext;refine wpAny_bind (wpAny_attempt (wpAny_callSpecial?_slot (name:=Str.ofString "__next__") hT aU (wpAny_call_entry aU hT cx ?_ (cF _))));unfold Builtin.«set_iterator.__next__»;refine wpAny_bind (m:=slotArgs "__next__" 0 _) (wpAny_pure ?_);refine wpAny_bind (wpAny_fieldsOf hI U ?_)
 try dsimp only
 refine wpAny_bind (wpAny_setEntries_of ho hd hf ?_);rw[if_neg (by simp)]
 try dsimp only
 refine wpAny_bind (wpAny_seqItems ht htd ?_)
 try dsimp only
 have eg:(places.map λ(p:Nat)=>rawInt p).toArray[(i:Int).toNat]?=none:=by simp at hp⊢;exact hp
 rw[eg]
 try dsimp only
 refine wpAny_bind (wpAny_setField_rec hI (by simp) λh1 g1 sb1=>?_);refine wpAny_bind (wpAny_setField (s:={ s with heap:=h1 }) g1 U (by simp) ?_);show wpAny _ _ (newExc (.type "StopIteration") [] >>= _) _ _ _;refine wpAny_bind ?_;simp only[newExc,newTuple];refine wpAny_bind (wpAny_newObj_type ?_ (by size_fits));refine wpAny_bind (m:=firstArgMember _ _) (wpAny_of_eq (a:=Value.none) (by first|rfl|(simp only[firstArgMember];rfl)) ?_);refine wpAny_newObj_type ?_ (by size_fits);simp only[raiseNew];refine wpAny_bind (wpAny_handled ?_);rw[show A.in1.handled=none from hh];refine wpAny_bind (wpAny_pure (wpAny_throw ?_));refine wpAny_bind (wpAny_isInstance (T := "StopIteration") (b:=true) ⟨_,Heap.get?_push_size _ U,U⟩ isSubtype_stop ?_);exact wpAny_pure (hQ _ (((sb1.trans (Heap.SameBut.update ..)).extBut.push _).push _))
theorem kN{I:Addr}{first:Value}{i:Int}{v:Value}{n ep:Nat}{Q:Value->Shared->Prop}(hI:s.heap.get? I=some (dU first i v n ep))(h:Q (.ref I) s):wpAny (model prog w) A (pyIter (.ref I)) Q E s:=by
 have hT:s.TypeIs (.ref I) "set_iterator" := ⟨_,hI,U⟩;refine wpAny_pyIter_slot hT gc (wpAny_call_entry gc hT jy ?_ (j4 _));show wpAny _ _ (ret (.ref I)) _ _ s;exact wpAny_pure ⟨_,U,"set_iterator",_,hT,aU.lookup,h⟩
theorem jb{a:Addr}{o:Obj}{es:Array (Int×Value)}{ep:Nat}{t:SetTable}{slot i:Nat}(hb:dg w=true)(ho:s.heap.get? a=some o)(hd:o.data=.set es ep t)(hf:t.fits es.size=true)
  {Q:Option (Value×Nat)->Shared->Prop}(h:Q (((pickOrder (w.params.setOrder a ep) es)[i]?).map λe=>(e.2,slot)) s):wpAny (model prog w) A (setNext a slot i ep) Q E s:=by
 have hb':((Setting.mk prog w.params).params.followText "set-order")=true:=hb;unfold setNext;refine wpAny_bind (wpAny_setState_of ho hd hf ?_)
 try dsimp only
 unfold setsByText;refine wpAny_bind (wpAny_bind (wpAny_askSetting (wpAny_pure ?_)));show wpAny _ _ (if (Setting.mk prog w.params).params.followText "set-order" = true then _ else _) _ _ _;rw[if_pos hb',if_neg (by simp)];unfold setWalk;refine wpAny_bind (wpAny_bind (wpAny_setState_of ho hd hf ?_))
 try dsimp only
 unfold setsByText;refine wpAny_bind (wpAny_bind (wpAny_askSetting (wpAny_pure ?_)));show wpAny _ _ (if (Setting.mk prog w.params).params.followText "set-order" = true then _ else _) _ _ _;rw[if_pos hb'];refine wpAny_bind (wpAny_askSetting (wpAny_pure (wpAny_pure h)))
theorem hZ{a:Addr}{o:Obj}{es:Array (Int×Value)}{ep:Nat}{t:SetTable}{slot i:Nat}(hb:dg w=false)(ho:s.heap.get? a=some o)(hd:o.data=.set es ep t)(hf:t.fits es.size=true)(hl:t.led=true)(hp:(!t.plain && decide (es.size>1))=false)
  {Q:Option (Value×Nat)->Shared->Prop}(h:Q (match es[SetTable.below t.place slot]?,t.place[SetTable.below t.place slot]? with|some (_,x),some j=>some (x,j+1)|_,_=>none) s):wpAny (model prog w) A (setNext a slot i ep) Q E s:=by
 have hb':((Setting.mk prog w.params).params.followText "set-order")=false:=hb;unfold setNext;refine wpAny_bind (wpAny_setState_of ho hd hf ?_)
 try dsimp only
 unfold setsByText;refine wpAny_bind (wpAny_bind (wpAny_askSetting (wpAny_pure ?_)));show wpAny _ _ (if (Setting.mk prog w.params).params.followText "set-order" = true then _ else _) _ _ _;rw[if_neg (by rw[hb'];exact Bool.false_ne_true)];show wpAny _ _ (if (!t.plain && decide (es.size>1))=true then _ else _) _ _ _;rw[if_neg (by rw[hp];exact Bool.false_ne_true)];show wpAny _ _ ((if (!t.led && !es.isEmpty)=true then unsupported "set:maker-not-led" else pure ()) >>= _) _ _ _;rw[hl,if_neg (by simp)];exact wpAny_bind (wpAny_pure (wpAny_pure h))
set_option maxRecDepth 100000
abbrev oF:Array GenState->Array GenState->Prop:=λg g'=>g'=g
theorem my{I:Addr}{h':Heap}(sb:Heap.SameBut I s.heap h'):Moved [I] oF s { s with heap:=h' } :=
 ⟨λb o hb e=>(sb.2 b λz=>hb (z ▸ mem_cons_self)).trans e,U,U,U,le_refl _⟩
theorem mz{I:Addr}{h':Heap}(sb:Heap.ExtBut I s.heap h'):Moved [I] oF s { s with heap:=h' } :=
 ⟨λb o hb e=>sb b o (λz=>hb (z ▸ mem_cons_self)) e,U,U,U,le_refl _⟩
theorem kO(hh:A.handled=none){I a:Addr}(hne:a≠I){o:Obj}{es:Array (Int×Value)}{ep:Nat}{t:SetTable}(hd:o.data=.set es ep t)(hf:t.fits es.size=true){ord:List Value}(hlen:ord.length=es.size)(sl:Nat->Nat)
  (hN:∀(i:Nat)(x:Value)(s:Shared)(Q':Option (Value×Nat)->Shared->Prop) E',s.heap.get? a=some o->ord[i]?=some x->Q' (some (x,sl (i+1))) s->wpAny (model prog w) A.in1 (setNext a (sl i) i ep) Q' E' s)
  (hE:∀(s:Shared)(Q':Option (Value×Nat)->Shared->Prop) E',s.heap.get? a=some o->Q' none s->wpAny (model prog w) A.in1 (setNext a (sl es.size) es.size ep) Q' E' s) :
  WalksS prog w A I [I,a] [I] oF es.size (λi v=>ord[i]?=some v) (λi s=>s.heap.get? I=some (dU (.int (sl i) 0) i (.ref a) es.size ep)/\s.heap.get? a=some o) where
 sub:=λb hb=>by simp at hb;simp[hb]
 grefl:=λ_=>U
 gtrans:=λ_ _ _ h1 h2=>h2.trans h1
 frame:=λi s h' tk st _ k=>⟨k I (by simp) _ st.1,k a (by simp) _ st.2⟩
 item:=λi s Q E hi st hQ=>by
  have ex:ord[i]?=some ord[i]:=BP (by lia);refine rq st.1 st.2 hd hf (x:=ord[i]) (nx:=sl (i+1)) (λQ' E' q=>hN i _ s Q' E' st.2 ex q) λh' g sb=>?_
  exact hQ _ _ ex ⟨g,(sb.2 a hne).trans st.2⟩ (my sb)
 done:=λs Q E st hQ=>rz hh st.1 st.2 hd hf (λQ' E' q=>hE s Q' E' st.2 q) λh' eb=>hQ _ (mz eb)
 self:=λi s Q E st hQ=>kN st.1 hQ
theorem oG(hh:A.handled=none){I a tp:Addr}(hne:a≠I)(hnt:tp≠I){o to:Obj}{es:Array (Int×Value)}{ep m:Nat}{t:SetTable}(hd:o.data=.set es ep t)(hf:t.fits es.size=true){places:List Nat}(htd:to.data=.seq (places.map λ(p:Nat)=>rawInt p).toArray m)
  (hpl:places.length=es.size){ord:List Value}(zp:∀(i:Nat),i<es.size->∃p e,places[i]?=some p/\es[p]?=some e/\ord[i]?=some e.2) :
  WalksS prog w A I [I,a,tp] [I] oF es.size (λi v=>ord[i]?=some v) (λi s=>s.heap.get? I=some (dU (.ref tp) i (.ref a) es.size ep)/\s.heap.get? a=some o/\s.heap.get? tp=some to) where
 sub:=λb hb=>by simp at hb;simp[hb]
 grefl:=λ_=>U
 gtrans:=λ_ _ _ h1 h2=>h2.trans h1
 frame:=λi s h' tk st _ k=>⟨k I (by simp) _ st.1,k a (by simp) _ st.2.1,k tp (by simp) _ st.2.2⟩
 item:=λi s Q E hi st hQ=>by
  obtain⟨p,e,h1,h2,h3⟩:=zp i hi;refine p9 st.1 st.2.2 htd st.2.1 hd hf h1 h2 λh' g sb=>?_
  exact hQ _ _ h3 ⟨g,(sb.2 a hne).trans st.2.1,(sb.2 tp hnt).trans st.2.2⟩ (my sb)
 done:=λs Q E st hQ=>kM hh st.1 st.2.2 htd st.2.1 hd hf (getElem?_eq_none (by lia)) λh' eb=>hQ _ (mz eb)
 self:=λi s Q E st hQ=>kN st.1 hQ
theorem sQ{a:Addr}{o:Obj}{es:Array (Int×Value)}{ep:Nat}{t:SetTable}{Q:Value->Shared->Prop}(ho:s.heap.get? a=some o)(hex:o.ExactSet)(hd:o.data=.set es ep t)(hb:es.size<scanBound)(hf:t.fits es.size=true)(ha:Asc t.place)(hl:t.led = !dg w)
  (h:∀(I:Addr)(h':Heap)(d:Drawn)(ord:List Value)(fp:List Addr)(St:Nat->Shared->Prop),(∀b u,s.heap.get? b=some u->h'.get? b=some u)->ord.Perm (es.toList.map (·.2)) ->
   (∀A':Around,A'.handled=none->WalksS prog w A' I fp [I] oF es.size (λi v=>ord[i]?=some v) St)->St 0 { s with heap:=h',drawn:=d }->s.heap.objs.size<=I->(∀b∈fp,b=a\/s.heap.objs.size<=b)->Q (.ref I) { s with heap:=h',drawn:=d }) :
  wpAny (model prog w) A (pyIter (.ref a)) Q E s:=by
 have hT:s.TypeIs (.ref a) "set" := ⟨o,ho,hex.1⟩;have la:a<s.heap.objs.size:=Heap.lt_size ho;refine wpAny_pyIter_slot hT F.slot_set_iter (wpAny_call_entry F.slot_set_iter hT kK ?_ (F.args_set_iter_1 _));unfold Builtin.«frozenset.__iter__» Builtin.Frozenset.slot0;refine wpAny_bind (wpAny_bind (m:=slotArgs "__iter__" 0 _) (wpAny_pure ?_));unfold Builtin.Frozenset.addrOf;refine wpAny_pure ?_;unfold Builtin.Frozenset.sizeOf;refine wpAny_bind (wpAny_bind (wpAny_setEntries_of ho hd hf (wpAny_pure ?_)));unfold setDrawn;refine wpAny_bind (wpAny_bind (wpAny_setState_of ho hd hf ?_))
 try dsimp only
 unfold setsByText;refine wpAny_bind (wpAny_bind (wpAny_askSetting (wpAny_pure ?_)));refine wpAny_pure ?_;show wpAny _ _ (if (!dg w && (!t.plain && decide (es.size>1)))=true then _ else _) _ _ _;have hsz:es.toList.length=es.size:=length_toList;by_cases c:(!dg w && (!t.plain && decide (es.size>1)))=true
 ·rw[if_pos c];refine wpAny_bind (kL es.size (List.range es.size) s (by simp) λys d p=>?_);refine wpAny_bind (wpAny_newTuple ?_ ?_)
  rotate_left
  ·rw[length_map,p.length_eq,length_range];unfold scanBound at hb;unfold sizeLine;lia
  generalize hto:({ cls:=.type "tuple",data:=.seq (ys.map λ(i:Nat)=>rawInt i).toArray }:Obj)=to;have gt:(s.heap.push to).get? s.heap.objs.size=some to:=by rw[←hto];exact Heap.get?_push_size _ U
  have ga:(s.heap.push to).get? a=some o:=Heap.get?_push_of_some _ ho;refine wpAny_bind (m:=setEpoch a) (wpAny_setEpoch_of (s:={ s with heap:=s.heap.push to,drawn:=d }) ga hd hf ?_);refine wpAny_bind (wpAny_newObj_type ?_ (by size_fits));have hI:((s.heap.push to).push (dU (.ref s.heap.objs.size) (0:Nat) (.ref a) es.size ep)).get? (s.heap.push to).objs.size=some (dU (.ref s.heap.objs.size) (0:Nat) (.ref a) es.size ep):=Heap.get?_push_size _ U;refine wpAny_pure ⟨_,U,"set_iterator",_,⟨_,hI,U⟩,aU.lookup,?_⟩;have hp:∀i,i<es.size->∃p e,ys[i]?=some p/\es[p]?=some e/\(ys.map λp=>(es[p]?.map (·.2)).getD .none)[i]?=some e.2:=λi hi=>by
   have hi':i<ys.length:=by rw[p.length_eq,length_range];exact hi
   have e1:ys[i]?=some ys[i]:=BP hi';have lt:ys[i]<es.size:=mem_range.mp (p.mem_iff.mp (getElem_mem hi'));have e2:es[ys[i]]?=some es[ys[i]]:=getElem?_eq_getElem lt;exact⟨ys[i],es[ys[i]],e1,e2,by rw[getElem?_map,e1];simp[e2]⟩
  have mx:(ys.map λp=>(es[p]?.map (·.2)).getD Value.none).Perm (es.toList.map (·.2)):=by
   refine(p.map _).trans (List.Perm.of_eq ?_);apply List.ext_getElem
   ·simp
   ·intro i h1 h2;simp at h1;simp[h1]
  refine h _ _ d _ [(s.heap.push to).objs.size,a,s.heap.objs.size] _ (λb u e=>Heap.get?_push_of_some _ (Heap.get?_push_of_some _ e)) mx
   (λA' hA=>oG hA (places:=ys) (to:=to) (m:=0) (by rw[Heap.size_push];exact ne_of_lt (lt_succ_of_lt la)) (by rw[Heap.size_push];exact ne_of_lt (lt_succ_self _)) hd hf (by rw[←hto]) (by rw[p.length_eq,length_range]) hp)
   ⟨hI,Heap.get?_push_of_some _ ga,Heap.get?_push_of_some _ gt⟩ (by rw[Heap.size_push];exact le_succ _) λb hb=>?_
  rcases mem_cons.mp hb with rfl|hb
  ·exact .inr (by rw[Heap.size_push];exact le_succ _)
  ·rcases mem_cons.mp hb with rfl|hb
   ·exact .inl U
   ·have:b=s.heap.objs.size:=by simpa using hb
    exact .inr (by rw[this];exact le_refl _)
 ·rw[if_neg c];refine wpAny_bind (wpAny_pure ?_);refine wpAny_bind (m:=setEpoch a) (wpAny_setEpoch_of ho hd hf ?_);refine wpAny_bind (wpAny_newObj_type ?_ (by size_fits));have hI:(s.heap.push (dU (.int (0:Nat) 0) (0:Nat) (.ref a) es.size ep)).get? s.heap.objs.size=some (dU (.int (0:Nat) 0) (0:Nat) (.ref a) es.size ep):=Heap.get?_push_size _ U;refine wpAny_pure ⟨_,U,"set_iterator",_,⟨_,hI,U⟩,aU.lookup,?_⟩;have ne:a≠s.heap.objs.size:=ne_of_lt la;have fpa:∀b∈[s.heap.objs.size,a],b=a\/s.heap.objs.size<=b:=λb hb=>by
   rcases mem_cons.mp hb with rfl|hb
   ·exact .inr (le_refl _)
   ·exact .inl (by simpa using hb)
  cases hbt:dg w with
  |true =>
   have pp:=rm (w.params.setOrder a ep) es;have hlen:((pickOrder (w.params.setOrder a ep) es).toList.map (·.2)).length=es.size:=by rw[length_map,pp.length_eq,hsz]
   refine h _ _ s.drawn ((pickOrder (w.params.setOrder a ep) es).toList.map (·.2)) [s.heap.objs.size,a] _ (λb u e=>Heap.get?_push_of_some _ e) (pp.map _)
    (λA' hA=>kO hA ne hd hf hlen (λ_=>0) (λi x s' Q' E' g ex q=>jb hbt g hd hf ?_) λs' Q' E' g q=>jb hbt g hd hf ?_) ⟨hI,Heap.get?_push_of_some _ ho⟩ (le_refl _) fpa
   ·rw[getElem?_map,Array.getElem?_toList]at ex;cases e:(pickOrder (w.params.setOrder a ep) es)[i]? with
    |none=>rw[e]at ex;cases ex
    |some z=>rw[e]at ex;injection ex with ex;subst ex;exact q
   ·have e:(pickOrder (w.params.setOrder a ep) es)[es.size]?=none:=by
     rw[←Array.getElem?_toList];exact getElem?_eq_none (by rw[length_map]at hlen;lia)
    rw[e];exact q
  |false =>
   have hl':t.led=true:=by rw[hl,hbt];rfl
   have hp:(!t.plain && decide (es.size>1))=false:=by
    rw[hbt]at c;simpa using c
   have hps:t.place.size=es.size:=by
    have:=hf;simp only[SetTable.fits,and_eq_true,beq_iff_eq]at this;exact this.1
   have bel:∀i,i<=es.size->SetTable.below t.place (match i with|0=>0|k+1=>t.place.getD k 0+1)=i:=λi hi=>by
    cases i with
    |zero=>exact oy ha
    |succ k =>
     have hk:k<t.place.size:=by lia
     have eg:t.place.getD k 0=t.place[k]:=by simp[Array.getD,hk]
     show SetTable.below t.place (t.place.getD k 0+1)=k+1;rw[eg];exact p3 ha hk
   refine h _ _ s.drawn (es.toList.map (·.2)) [s.heap.objs.size,a] _ (λb u e=>Heap.get?_push_of_some _ e) (.refl _)
    (λA' hA=>kO hA ne hd hf (by rw[length_map,hsz]) (λi=>match i with|0=>0|k+1=>t.place.getD k 0+1) (λi x s' Q' E' g ex q=>hZ hbt g hd hf hl' hp ?_) λs' Q' E' g q=>hZ hbt g hd hf hl' hp ?_) ⟨hI,Heap.get?_push_of_some _ ho⟩ (le_refl _) fpa
   ·have hi:i<es.size:=by
     obtain⟨z,_⟩:=BQ.mp ex;rw[length_map,hsz]at z;exact z
    rw[bel i (le_of_lt hi)];have e1:es[i]?=some es[i]:=getElem?_eq_getElem hi;have e2:t.place[i]?=some t.place[i]:=getElem?_eq_getElem (by lia);have e3:x=es[i].2:=by
     rw[getElem?_map,Array.getElem?_toList,e1]at ex;injection ex with ex;exact ex.symm
    rw[e1,e2];have e4:t.place.getD i 0=t.place[i]:=by simp[Array.getD,show i<t.place.size by lia]
    subst e3;have q2:Q' (some (es[i].2,t.place.getD i 0+1)) s':=q;rw[e4]at q2;exact q2
   ·rw[bel es.size (le_refl _)];have e1:es[es.size]?=none:=Array.getElem?_eq_none (le_refl _);rw[e1];exact q
set_option maxRecDepth 100000
theorem rA{ord:List Value}{acc:Array Value}{n:Nat}(h:ItemsOf (λi v=>ord[i]?=some v) acc n)(hn:ord.length=n):acc.toList=ord:=by
 apply List.ext_getElem
 ·rw[length_toList,h.1,hn]
 ·intro i h1 h2;have e:ord[i]?=some acc[i]:=h.2 i acc[i] (getElem?_eq_getElem (by simpa using h1));rw[BP h2]at e;injection e with e;simpa using e.symm
theorem oH{a:Addr}{o:Obj}{es:Array (Int×Value)}{ep:Nat}{t:SetTable}{Q:List Value->Shared->Prop}(hh:A.handled=none)(ho:s.heap.get? a=some o)(hex:o.ExactSet)(hd:o.data=.set es ep t)(hb:es.size<scanBound)(hf:t.fits es.size=true)(ha:Asc t.place)(hl:t.led = !dg w)
  (h:∀(ord:List Value)(s':Shared),ord.Perm (es.toList.map (·.2))->(∀b u,s.heap.get? b=some u->s'.heap.get? b=some u)->s'.gens=s.gens->s'.os=s.os->s.heap.objs.size<s'.heap.objs.size->Q ord s') :
  wpAny (model prog w) A (collect (.ref a)) Q E s:=by
 have la:a<s.heap.objs.size:=Heap.lt_size ho;unfold collect;refine wpAny_bind (wpAny_runValue (codeAny_builtin F.entry_proto_collect ?_));rw[Around.under_plainId F.plain_proto_collect _];show wpAny _ A.in1 (newList [] >>= λl=>again (.builtin "list.__iadd__" ⟨[l,.ref a],[]⟩)) _ _ s;refine wpAny_bind (wpAny_newObj_type ?_);refine wpAny_pure ⟨plainId_quiet F.plain_list_iadd _,codeAny_builtin F.entry_list_iadd ?_⟩;rw[Around.under_plainId F.plain_list_iadd _];generalize hlo:({ cls:=.type "list",data:=.seq ([]:List Value).toArray }:Obj)=lo;have g1:(s.heap.push lo).get? a=some o:=Heap.get?_push_of_some _ ho;have gS:(s.heap.push lo).get? s.heap.objs.size=some lo:=by rw[←hlo];exact Heap.get?_push_size _ U
 have hT1:Shared.TypeIs { s with heap:=s.heap.push lo } (.ref a) "set" := ⟨o,g1,hex.1⟩;show wpAny _ A.in1 (Builtin.List.listExtendWith (.ref s.heap.objs.size) (.ref a) (.ref s.heap.objs.size)) _ _ _;unfold Builtin.List.listExtendWith;refine wpAny_bind (wpAny_typeOf hT1 ?_);have h1:Builtin.List.listSameRef (.ref s.heap.objs.size) (.ref a)=false:=by simp[Builtin.List.listSameRef];exact ne_of_gt la
 have h2:(Value.type "set" == Value.type "list")=false:=by decide
 have h3:(Value.type "set" == Value.type "tuple")=false:=by decide
 simp only[h1,h2,h3,Bool.or_false,Bool.false_eq_true,if_false];refine wpAny_bind (sQ (s:={ s with heap:=s.heap.push lo }) g1 hex hd hb hf ha hl λI h' d ord fp St kp pm W st hI hfp=>?_);have g2:h'.get? a=some o:=kp a o g1;have hT2:Shared.TypeIs { s with heap:=h',drawn:=d } (.ref a) "set" := ⟨o,g2,hex.1⟩;refine wpAny_bind (wpAny_holding ?_);unfold Builtin.List.listLengthHint;refine wpAny_bind (wpAny_specialOf hT2 F.slot_set_len.lookup ?_)
 (generalize hid:("set.__len__" : String)=id0;(fail_if_success (clear hid id0));wp_delta;rw[show splitId id0=some ("set","__len__")from by subst hid;decide+kernel];subst hid)
 refine wpAny_bind (wpAny_isInstance (b:=true) hT2 sub_set_self ?_);refine wpAny_bind (wpAny_typeOf hT2 ?_);refine wpAny_pure ?_;show wpAny _ A.in1 (rule "list.extend.makes-room" >>= λ_=>Builtin.List.listTouch (.ref s.heap.objs.size) >>= λ_ =>
  again (.builtin "list.extend.loop" ⟨[.ref s.heap.objs.size,.ref I,.ref s.heap.objs.size],[]⟩)) _ _ _
 refine wpAny_bind (wpAny_rule ?_);have hS₁:h'.get? s.heap.objs.size=some lo:=kp _ _ gS;rw[←hlo]at hS₁;refine wpAny_bind ?_;show wpAny _ A.in1 (updateSeq s.heap.objs.size (·.push .none) >>= λ_=>updateSeq s.heap.objs.size (·.pop)) _ _ _;refine wpAny_bind (wpAny_updateSeq hS₁ U ?_);have hS₂:=Heap.get?_update_self (Obj.mapSeq (·.push Value.none)) hS₁ U;refine wpAny_updateSeq hS₂ U ?_;have hS₃:=Heap.get?_update_self (Obj.mapSeq (·.pop)) hS₂ U
 have oth:∀b u,b≠s.heap.objs.size->h'.get? b=some u ->
   ((h'.update s.heap.objs.size (Obj.mapSeq (·.push Value.none))).update s.heap.objs.size (Obj.mapSeq (·.pop))).get? b=some u :=
  λb u hb e=>(Heap.get?_update_other _ _ (Ne.symm hb)).trans ((Heap.get?_update_other _ _ (Ne.symm hb)).trans e)
 have sz1:(s.heap.push lo).objs.size=s.heap.objs.size+1:=Heap.size_push ..;have hSf:s.heap.objs.size ∉ fp:=λhm=>by
  rcases hfp _ hm with z|z
  ·exact ne_of_gt la z
  ·have z':(s.heap.push lo).objs.size<=s.heap.objs.size:=z;rw[sz1]at z';exact Nat.not_succ_le_self _ z'
 have hW:=W A.in1 (by simp[hh]);have hlen:ord.length=es.size:=by rw[pm.length_eq,length_map,length_toList]
 have st':=hW.frame 0 ({ s with heap:=h',drawn:=d }:Shared) ((h'.update s.heap.objs.size (Obj.mapSeq (·.push Value.none))).update s.heap.objs.size (Obj.mapSeq (·.pop))) s.toks st (le_refl _) λb hb' o' e=>oth b o' (λz=>hSf (z ▸ hb')) e
 refine wpAny_pure ⟨plainId_quiet F.plain_extend_loop _,codeAny_extend_loopS hW (by unfold scanBound at hb;unfold sizeLine;lia) _ hSf _ es.size 0 _ _ _ U (zero_le _)
  st' hS₃ (ItemsOf.nil _) λs' BD c' hm hS' sL=>?_⟩
 show wpAny _ A (load s.heap.objs.size >>= _) _ _ s';refine wpAny_bind (wpAny_load hS' ?_);refine wpAny_pure ?_;rw[rA sL hlen];refine h ord s' pm (λb u e=>?_) hm.gens hm.os (Heap.lt_size hS');have hb':b<s.heap.objs.size:=Heap.lt_size e;refine hm.heap b u (λz=>?_) (oth b u (ne_of_lt hb') (kp b u (Heap.get?_push_of_some _ e)));rcases mem_cons.mp z with z|z
 ·exact ne_of_lt hb' z
 ·have z2:b=I:=by simpa using z
  have z3:(s.heap.push lo).objs.size<=I:=hI;rw[sz1,←z2]at z3;exact lt_irrefl _ (lt_of_lt_of_le hb' (Nat.le_of_succ_le z3))
section
variable{M:Model}{env:Env}{L e:Addr}{a0 cls fl:Value}{Q:Unit->Shared->Prop}{Ts:List Addr}
end
section
variable{Y:List Addr}
end
section
variable{mg:Str->Option Value}{qual:Str}{cd:Value}{s0:Shared}{H0:Hp}{E:XK}
end
theorem ia:cO X (.builtin "len") (λxs H Q=>∃(l:Addr)(zs:List Str),xs=[.ref l]/\H l=some (lO X.prog X.w l zs)/\zs.length<=1000/\Q (.int ((cntK zs zs.length:Nat):Int)) H):=by
 intro pins s σ H xs us Q I r h;obtain⟨l,zs,rfl,e,hz,q⟩:=h;obtain⟨u,rfl,ru⟩:=r.one;obtain rfl:u=Value.ref l:=ru;obtain⟨⟨o,es,ep,t,g1,g2,g3,_,_,_,g4,g5⟩,_,_⟩:=I.hok l _ e;have le:=ja zs zs.length;refine call_len_set g1 g2 g3 g4 (by rw[g5];lia) ⟨.int _,H,I.tok _,⟨_,U⟩,?_⟩;rw[g5];exact q
section
variable{E:XK}
end
theorem iz:∀{ns:List Int}{us:List Value},Vals (ns.map V.int) us->∃xs:List (Int×Tok),us.toArray=intItems xs.toArray/\ns=xs.map (·.1)
 | [],_,.nil=>⟨[],by simp[intItems],U⟩
 |n :: ns,_,.cons ⟨t,e⟩ r=>by
  obtain⟨xs,e1,e2⟩:=iz r;refine⟨(n,t) :: xs,?_,by rw[e2];rfl⟩;subst e;have e1':=congrArg Array.toList e1;simp[intItems]at e1'⊢;exact e1'
theorem mB{xs:Array (Int×Tok)}{i:Nat}(h:i<xs.size):numAt xs i∈xs.toList.map (·.1):=by
 rw[numAt_eq];exact getD_mem (by rw[length_map,length_toList];lia)
theorem fe(hc:X.calm=true):cO X (.builtin "min") (λus H Q=>∃(a:Addr)(ns:List Int),us=[.ref a]/\SqL X.K H a (ns.map V.int)/\0<ns.length/\∀m,m∈ns->(∀b∈ns,m<=b)->Q (.int m) H):=by
 intro pins s σ H us vs Q I r h;obtain⟨a,ns,rfl,hq,hne,q⟩:=h;obtain⟨u,rfl,rx⟩:=r.one;cases (show u=Value.ref a from rx);obtain⟨its,rv,pl,hz⟩:=I.list hq;obtain⟨xs,e1,e2⟩:=iz rv;have hl:=pl.isList;rw[e1]at hl;have hsz:0<xs.toArray.size:=by
  rw[e2,length_map]at hne;simpa using hne
 refine min_intList (I.ok.hd hc) hl hsz λv h' tk hv hk=>?_
 obtain⟨t,rfl⟩:=intItems_at hv;obtain⟨h1,h2⟩:=argBest_lt (numAt xs.toArray) (xs.toArray.size-1);refine⟨.int _,H,I.kept (t':=tk) λb o e=>hk b o e,⟨t,U⟩,q _ ?_ λb hb=>?_⟩
 ·rw[e2];exact mB (xs:=xs.toArray) (by lia)
 ·rw[e2]at hb;obtain⟨j,hj,rfl⟩:=mem_getD hb;rw[length_map]at hj;have z:=h2 j (by simp;lia);rw[numAt_eq]at z⊢;rw[numAt_eq]at z;simpa using z
theorem ff(hc:X.calm=true):cO X (.builtin "max") (λus H Q=>∃(a:Addr)(ns:List Int),us=[.ref a]/\SqL X.K H a (ns.map V.int)/\0<ns.length/\∀m,m∈ns->(∀b∈ns,b<=m)->Q (.int m) H):=by
 intro pins s σ H us vs Q I r h;obtain⟨a,ns,rfl,hq,hne,q⟩:=h;obtain⟨u,rfl,rx⟩:=r.one;cases (show u=Value.ref a from rx);obtain⟨its,rv,pl,hz⟩:=I.list hq;obtain⟨xs,e1,e2⟩:=iz rv;have hl:=pl.isList;rw[e1]at hl;have hsz:0<xs.toArray.size:=by
  rw[e2,length_map]at hne;simpa using hne
 refine max_intList (I.ok.hd hc) hl hsz λv h' tk hv hk=>?_
 obtain⟨t,rfl⟩:=intItems_at hv;obtain⟨h1,h2⟩:=argBest_gt (numAt xs.toArray) (xs.toArray.size-1);refine⟨.int _,H,I.kept (t':=tk) λb o e=>hk b o e,⟨t,U⟩,q _ ?_ λb hb=>?_⟩
 ·rw[e2];exact mB (xs:=xs.toArray) (by lia)
 ·rw[e2]at hb;obtain⟨j,hj,rfl⟩:=mem_getD hb;rw[length_map]at hj;have z:=h2 j (by simp;lia);rw[numAt_eq]at z⊢;rw[numAt_eq]at z;simpa using z
def uv(P:Program)(w:World)(a:Addr)(ns:List Int):HO:=.ext λh=>h.SetOf (intKind P w) a (λz=>decide (z∈ns)) (cntK ns ns.length)
theorem kP:∀{zs:List Int}{us:List Value},Vals (zs.map V.int) us->∀(i:Nat)(v:Value),us[i]?=some v->∃z t,zs[i]?=some z/\v=.int z t
 | [],_,.nil,i,v,h=>by simp at h
 |z :: zs,_,.cons ⟨t,e⟩ r,0,v,h=>by simp at h;exact⟨z,t,U,by rw[←h,e]⟩
 |z :: zs,_,.cons _ r,i+1,v,h=>by
  obtain⟨z',t,e1,e2⟩:=kP r i v (by simpa using h);exact⟨z',t,by simpa using e1,e2⟩
theorem lQ(hc:X.calm=true):cO X (.type "set") (λxs H Q=>∃(p:Addr)(zs:List Int),xs=[.ref p]/\SqL X.K H p (zs.map V.int)/\zs.length<=1000/\∀l,H l=none->Q (.ref l) (upd H l (uv X.prog X.w l zs))):=by
 intro pins s σ H xs us Q I r h;obtain⟨p,zs,rfl,hS,hz,q⟩:=h;obtain⟨u,rfl,ru⟩:=r.one;obtain rfl:u=Value.ref p:=ru;obtain⟨its,rv,pl,_⟩:=I.list hS;have hl:=rv.length;rw[length_map]at hl;refine mr (knd:=intKind X.prog X.w) (ks:=zs) (I.ok.hd hc) pl.isList (λi v e=>?_) (by simpa using hl) (by unfold scanBound;simp;lia) λh' tk x=>?_
 ·obtain⟨z,t,e1,rfl⟩:=kP rv i v (by simpa using e);exact⟨z,e1,by show Value.isInt z (.int z t)=true;simp[Value.isInt],U⟩
 ·obtain⟨x1,x2⟩:=x;refine⟨.ref s.heap.objs.size,_,I.laid (a:=s.heap.objs.size) (o:=uv X.prog X.w s.heap.objs.size zs) (h':=h') (t':=tk) (λb o q=>x2 b o (Heap.lt_size q) q) (le_refl _) ?_,U,q _ I.fresh⟩;refine⟨x1,?_,λh1 h2 y k=>fM y k⟩;obtain⟨o,_,_,_,g,_⟩:=x1;exact⟨o,g⟩
theorem lT:cO X (.builtin "len") (λxs H Q=>∃(l:Addr)(zs:List Int),xs=[.ref l]/\H l=some (uv X.prog X.w l zs)/\zs.length<=1000/\Q (.int ((cntK zs zs.length:Nat):Int)) H):=by
 intro pins s σ H xs us Q I r h;obtain⟨l,zs,rfl,e,hz,q⟩:=h;obtain⟨u,rfl,ru⟩:=r.one;obtain rfl:u=Value.ref l:=ru;obtain⟨⟨o,es,ep,t,g1,g2,g3,_,_,_,g4,g5⟩,_,_⟩:=I.hok l _ e;have le:=ja zs zs.length;refine call_len_set g1 g2 g3 g4 (by rw[g5];lia) ⟨.int _,H,I.tok _,⟨_,U⟩,?_⟩;rw[g5];exact q
theorem oI{κ:Type} [DecidableEq κ] {k:κ}{ks:List κ}:∀i,i<=ks.length->1<=cntK (k :: ks) (i+1)/\(cntK (k :: ks) (i+1)=1↔∀x∈ks.take i,x=k)
 |0,_=>by simp[cntK]
 |i+1,h=>by
  obtain⟨h1,h2⟩:=oI (k:=k) (ks:=ks) i (by lia);have e:(k :: ks)[i+1]?=some ks[i]:=by simp
  have e':ks[i]?=some ks[i]:=BP (by lia);have et:ks.take (i+1)=ks.take i++[ks[i]]:=by rw[take_add_one,e'];rfl
  have e2:(k :: ks).take (i+1)=k :: ks.take i:=rfl;rw[show cntK (k :: ks) (i+1+1)=match (k :: ks)[i+1]? with
   |some x=>if x∈(k :: ks).take (i+1)then cntK (k :: ks) (i+1)else cntK (k :: ks) (i+1)+1
   |none=>cntK (k :: ks) (i+1)from U,e,et,e2]
  dsimp only;by_cases m:ks[i]∈k :: ks.take i
  ·rw[if_pos m];refine⟨h1,h2.trans ⟨λz x hx=>?_,λz x hx=>z x (mem_append_left _ hx)⟩⟩;rcases mem_append.mp hx with hx|hx
   ·exact z x hx
   ·have:x=ks[i]:=by simpa using hx
    rw[this];rcases mem_cons.mp m with m|m
    ·exact m
    ·exact z _ m
  ·rw[if_neg m];refine⟨by lia,⟨λz=>absurd z (by lia),λz=>?_⟩⟩;exact absurd (z ks[i] (mem_append_right _ (by simp))) λq=>m (by rw[q];exact mem_cons_self)
theorem mC{κ:Type} [DecidableEq κ] {k:κ}{ks:List κ}:cntK (k :: ks) (k :: ks).length=1↔∀x∈ks,x=k:=by
 have:=(oI (k:=k) (ks:=ks) ks.length (le_refl _)).2;rw[take_length]at this;exact this
def TyG(K:W.Frag)(H:Hp)(x:V)(t:Value):Prop:=jt K H x t\/∃a ys,x=.ref a/\SqT K H a ys/\t=.type "tuple"
inductive ClV:V->Value->Prop where
 |ty (T:String):ClV (.ty T) (.type T)
 |ref (C:Addr):ClV (.ref C) (.ref C)
theorem bJ:cO X (.builtin "isinstance") (λxs H Q=>∃x c cv t b,xs=[x,c]/\ClV c cv/\TyG X.K H x t/\W.kitOne X.K t cv=some b/\Q (.bl b) H):=by
 intro pins s σ H xs us Q I r h;obtain⟨x,c,cv,t,b,rfl,rc,ty,e,q⟩:=h;cases r with
 |cons rx r2 =>
  cases r2 with
  | @cons _ cu _ _ ry r3 =>
   cases r3;have ec:cu=cv:=by cases rc <;> exact ry
   subst ec;rcases ty with ty|⟨a,ys,rfl,hS,rfl⟩
   ·exact qY I rx ty e λtk=>⟨.bl b,H,I.tok tk,U,q⟩
   ·cases (show _=Value.ref a from rx);obtain⟨its,r,⟨o,h1,h2,_⟩,_⟩:=I.tuple hS;exact W.kia_one W.kitx_tuple I.kIn ⟨o,h1,h2⟩ e (λz=>nomatch z) λtk=>⟨.bl b,H,I.tok tk,U,q⟩
structure kQ(K:W.Frag)(C:Addr):Prop where
 cl:Cls K C
 ha:W.findIn K (.ref C) "__class__" = some (some (.builtin "object.__class__"))
 hn:W.specialIn K (.builtin "object.__class__") "__get__" = some (some (.builtin "getset_descriptor.__get__"))
 tk:W.takesIn K (.builtin "object.__class__")=some true
 hm:W.mroIn K C (.type "object")=some true
theorem kQ.ty{K:W.Frag}{C:Addr}(h:kQ K C){H:Hp}{a dx:Addr}{fs:List (Str×V)}(e:H a=some (.ins C dx fs)):TyG K H (.ref a) (.ref C):=.inl (.ins e h.cl h.ha h.hn h.tk h.hm)
def uw(CX:CXT)(P:Program)(w:World)(K:W.Frag)(mg:Str->Option Value)(base:Heap)(k:Nat)(m:Str)(ps:List Str)(cs:List (Addr×Sp)):Prop :=
 ∀p∈cs,bp CX P w K mg base k p.1 m ps p.2/\Cls K p.1
section
variable{mg:Str->Option Value}{cs:List (Addr×Sp)}
theorem xT:uw CX P w K mg base k m ps []:=λ_ h=>nomatch h
theorem oJ(M:bp CX P w K mg base k C m ps sp)(c:Cls K C)(r:uw CX P w K mg base k m ps cs):uw CX P w K mg base k m ps ((C,sp) :: cs):=λp h=>by
 rcases mem_cons.mp h with rfl|h
 ·exact⟨M,c⟩
 ·exact r p h
end
inductive u7(cs:List (Addr×Sp))(m:Str)(t:TA)(σ:St)(Q:VK)(x:V)(H1:Hp):Prop
 |mk (a p dx fs:_)(_:x=.ref a)(_:p∈cs)(_:H1 a=some (.ins p.1 dx fs))(_:fs.lookup m=none)(_:t σ H1 λvs H2=>p.2 (x :: vs) H2 Q E0):u7 cs m t σ Q x H1
def zq(cs:List (Addr×Sp))(m:Str)(ta:TE)(t:TA):TE:=λσ H Q=>ta σ H λx H1=>u7 cs m t σ Q x H1
section
variable{cs:List (Addr×Sp)}
theorem sR{pl:Sem Bool}(M:uw CX X.prog X.w X.K X.mg X.base k m ps cs)(hx:Passes CX X E0)(hr:bT k X.A)(he:PE X o ta)(ha:PA X (e :: es) t)
  (hst:starEach (e :: es) X.env=(false,eval e X.env) :: starEach es X.env:=by rfl)(hpl:(backTo pos (starEach es X.env)).any (·.1)=false:=by rfl)
  (ht:eval (.Call (.Attribute o m apos) (e :: es) [] pos) X.env=(do
   let ov ←eval o X.env
   standAt apos.atName
   let (f,first) ←holding [ov] (getMethod ov m pl)
   callWith pos f first (backTo pos (starEach (e :: es) X.env)) (backToKw pos (keywordEach [] X.env))):=by rfl) :
  PE X (.Call (.Attribute o m apos) (e :: es) [] pos) (zq cs m ta t):=by
 intro pins s σ H Q I h;refine W.methodCall_KW (pl:=pl) (thn (he pins s σ H _ I h) λu s1 ⟨x,H1,I1,rx,a,p,dx,fs,ex,hp,ea,l,q⟩=>?_) ht;obtain⟨⟨f,fd,hm,F,hb⟩,c⟩:=M p hp;subst ex;obtain rfl:u=Value.ref a:=rx;refine kv I1 ea c hm l ?_;refine W.callWith_K (first:=[.ref a]) (h₀:=X.base) I.ok.mod.kin hm.kp (thn (ha pos pins s1 σ H1 _ I1 q) λus s2 ⟨vs,H2,I2,r,q2⟩=>⟨I2.kIn,?_⟩) hst hpl;exact wj (us:=.ref a :: us) (vs:=.ref a :: vs) F hr hb hx I2 (.cons U r) q2
theorem jz(M:br CX X.prog X.w X.K X.mg X.base k x C ps sp)(hx:Passes CX X E0)(hr:bT (k+1) X.A)(hg:Gl X x)(hdb:(x == ("__debug__" : Str))=false:=by decide) :
  PE X (.Call (.Name x p) [] [] pos) (tMk C sp vW):=by
 obtain⟨f,fd,M,F,hb,hm⟩:=M;have h:=sG (E:=E0) (dvs:=[]) (ds:=[]) (p:=p) (pos:=pos) M F hr hg hm hb .nil hx hdb;intro pins s σ H Q I q;exact h pins s σ H Q I q
end
def ModT(K:W.Frag)(a:Addr)(xs:List V):Prop:=∃(o:Obj)(its:Array Value)(n:Nat),K.lookup a=some o/\o.cls=.type "tuple" /\ o.data=.seq its n/\its.size<=sizeLine/\Vals xs its.toList
theorem ModT.sq{K:W.Frag}{a:Addr}{xs:List V}(h:ModT K a xs)(H:Hp):SqT K H a xs:=.inr h
theorem ModT.mk{K:W.Frag}{a:Addr}{xs:List V}{od:Option Addr}{its:Array Value}{n:Nat}{sl:Array (Option Value)}(h:K.lookup a=some ⟨.type "tuple",od,.seq its n,sl⟩) (hs:its.size<=sizeLine)(hv:Vals xs its.toList):ModT K a xs :=
 ⟨_,its,n,h,U,U,hs,hv⟩
theorem ar.seqT{K:W.Frag}{H H':Hp}{a:Addr}{xs:List V}(e:ar H H')(h:SqT K H a xs):SqT K H' a xs:=by
 rcases h with(h|⟨o,h⟩)|h
 ·exact .inl (.inl (e _ _ h))
 ·exact .inl (.inr ⟨o,e _ _ h⟩)
 ·exact .inr h
theorem rB{K:W.Frag}{H:Hp}{Q:VK}{a b:Addr}{xs:List V}(ha:SqL K H a xs)(hb:SqL K H b xs)(fl:∀x∈xs,dG x=true\/∃r,x=.ref r)(q:Q (.bl true) H):sI K false (.ref a) (.ref b) H Q:=by
 refine⟨a,b,xs,xs,U,U,ha,hb,.inr ⟨U,λ_=>true,λj x y e1 e2=>?_,?_⟩⟩
 ·rw[e1]at e2;cases e2;rcases fl x (BR e1)with z|⟨r,rfl⟩
  ·have:=EqI.flat (K:=K) (H:=H) z z;rw[i4 z]at this;exact this
  ·exact .same r
 ·have:(List.range xs.length).all (λ_=>true)=true:=by simp
  rw[this];exact q
theorem eL{c A B:Prop} [Decidable c] (hc:c)(h:A):if decide c=true then A else B:=by rw[if_pos (decide_eq_true hc)];exact h
theorem bI{c A B:Prop} [Decidable c] (hc:¬ c)(h:B):if decide c=true then A else B:=by rw[if_neg (by rw[decide_eq_false hc];decide)];exact h
theorem ls0{P:List Value->Prop}(h:P []):∀us:List Value,us.length=0->P us:=λus e=>by
 cases us
 ·exact h
 ·cases e
theorem lsS{P:List Value->Prop}{n:Nat}(h:∀a us,us.length=n->P (a :: us)):∀us:List Value,us.length=n+1->P us:=λus e=>by
 cases us
 ·cases e
 ·exact h _ _ (Nat.succ.inj e)
theorem ls1{P:List Value->Prop}(h:∀a,P [a]):∀us:List Value,us.length=1->P us:=lsS λa=>ls0 (P:=λv=>P (a :: v)) (h a)
theorem ls2{P:List Value->Prop}(h:∀a b,P [a,b]):∀us:List Value,us.length=2->P us:=lsS λa=>ls1 (P:=λv=>P (a :: v)) (h a)
theorem ls3{P:List Value->Prop}(h:∀a b c,P [a,b,c]):∀us:List Value,us.length=3->P us:=lsS λa=>ls2 (P:=λv=>P (a :: v)) (h a)
theorem ls4{P:List Value->Prop}(h:∀a b c d,P [a,b,c,d]):∀us:List Value,us.length=4->P us:=lsS λa=>ls3 (P:=λv=>P (a :: v)) (h a)
theorem ls5{P:List Value->Prop}(h:∀a b c d e,P [a,b,c,d,e]):∀us:List Value,us.length=5->P us:=lsS λa=>ls4 (P:=λv=>P (a :: v)) (h a)
theorem ls6{P:List Value->Prop}(h:∀a b c d e f,P [a,b,c,d,e,f]):∀us:List Value,us.length=6->P us:=lsS λa=>ls5 (P:=λv=>P (a :: v)) (h a)
theorem ls7{P:List Value->Prop}(h:∀a b c d e f g,P [a,b,c,d,e,f,g]):∀us:List Value,us.length=7->P us:=lsS λa=>ls6 (P:=λv=>P (a :: v)) (h a)
theorem lb1{fd:FuncData}{ps:List Str}(h:∀a,bindArgs fd ⟨[a],[]⟩=pure (ps.zip [a])):∀us:List Value,us.length=1->bindArgs fd ⟨us,[]⟩=pure (ps.zip us):=ls1 (P:=λus=>bindArgs fd ⟨us,[]⟩=pure (ps.zip us)) h
theorem lb2{fd:FuncData}{ps:List Str}(h:∀a b,bindArgs fd ⟨[a,b],[]⟩=pure (ps.zip [a,b])):∀us:List Value,us.length=2->bindArgs fd ⟨us,[]⟩=pure (ps.zip us):=ls2 (P:=λus=>bindArgs fd ⟨us,[]⟩=pure (ps.zip us)) h
theorem lb3{fd:FuncData}{ps:List Str}(h:∀a b c,bindArgs fd ⟨[a,b,c],[]⟩=pure (ps.zip [a,b,c])):∀us:List Value,us.length=3->bindArgs fd ⟨us,[]⟩=pure (ps.zip us):=ls3 (P:=λus=>bindArgs fd ⟨us,[]⟩=pure (ps.zip us)) h
theorem lb4{fd:FuncData}{ps:List Str}(h:∀a b c d,bindArgs fd ⟨[a,b,c,d],[]⟩=pure (ps.zip [a,b,c,d])):∀us:List Value,us.length=4->bindArgs fd ⟨us,[]⟩=pure (ps.zip us):=ls4 (P:=λus=>bindArgs fd ⟨us,[]⟩=pure (ps.zip us)) h
theorem lb5{fd:FuncData}{ps:List Str}(h:∀a b c d e,bindArgs fd ⟨[a,b,c,d,e],[]⟩=pure (ps.zip [a,b,c,d,e])):∀us:List Value,us.length=5->bindArgs fd ⟨us,[]⟩=pure (ps.zip us):=ls5 (P:=λus=>bindArgs fd ⟨us,[]⟩=pure (ps.zip us)) h
theorem lb7{fd:FuncData}{ps:List Str}(h:∀a b c d e f g,bindArgs fd ⟨[a,b,c,d,e,f,g],[]⟩=pure (ps.zip [a,b,c,d,e,f,g])):∀us:List Value,us.length=7->bindArgs fd ⟨us,[]⟩=pure (ps.zip us):=ls7 (P:=λus=>bindArgs fd ⟨us,[]⟩=pure (ps.zip us)) h
section
variable{mg:Str->Option Value}{j:Nat}{q:Str}{st:Stmt}
theorem fsc{P:List Str}{sc:Scope}(a:sc.kind=.function:=by rfl)(b:sc.isCoroutine=false:=by rfl)(c:sc.isGenerator=false:=by rfl)(d:N.Nodup:=by decide+kernel)(e:N.take P.length=P:=by rfl)(g:∀x∈P,sc.names.lookup x=some .local\/sc.names.lookup x=some .cell:=by decide+kernel)(h:∀y∈sc.names,y.2≠.free:=by decide+kernel):ao N P sc:=⟨a,b,c,d,e,g,h⟩
theorem Fun.okA(F:Fun K x q st f fd)(S:ao N ps (ai st))(gk:∀(cdv:Value)(A:Around)(outer:List Env)(s:Shared)(H:Hp)(vs:List V)(Q:VK)(E:XK),bT k (A.deeper (envOfC q (ai st) s.heap.objs.size f cdv))->sp vs H Q E->∃t,PSs (oj CX0 P w K mg base N q (ai st) f cdv A outer s H E).nox (cU st) t/\t { nx:=λ_ H'=>Q .non H',rt:=Q } (start N vs) H)(len:∀vs H Q E,sp vs H Q E->vs.length=ps.length:=by intro vs H Q E h;cases h;subst_vars;rfl):aK P w K mg base CX0 (k+1) f fd ps sp:=F.ok S len gk
theorem Callee.up(c:Callee P w K mg base j x ps sp)(h:j<=k:=by decide):Callee P w K mg base k x ps sp:=c.mono h
theorem bp.up(c:bp CX P w K mg base j C m ps sp)(h:j<=k:=by decide):bp CX P w K mg base k C m ps sp:=c.mono h
theorem br.up(c:br CX P w K mg base j x C ps sp)(h:j<=k:=by decide):br CX P w K mg base k x C ps sp:=c.mono h
theorem bU.up(c:bU CX P w K mg base j x m ps sp)(h:j<=k:=by decide):bU CX P w K mg base k x m ps sp:=c.mono h
inductive GF(K:W.Frag)(x q:Str)(st:Stmt):Prop
 |mk {f:Addr}{fd:FuncData}(a:W.nsIn K mainGlobals x=some (some (.ref f)))(F:Fun K q q st f fd):GF K x q st
inductive MF(K:W.Frag)(C:Addr)(x q:Str)(st:Stmt):Prop
 |mk {f:Addr}{fd:FuncData}(a:W.findIn K (.ref C) x=some (some (.ref f)))(i:W.isFn K (.ref f)=true)(F:Fun K x q st f fd):MF K C x q st
inductive KF(K:W.Frag)(C:Addr)(x q:Str)(st:Stmt):Prop
 |mk {f:Addr}{fd:FuncData}(a:W.findIn K (.ref C) "__init__" = some (some (.ref f))) (i:W.isFn K (.ref f)=true)(m:W.makesIn K C=true)(k:W.keepIn K (.ref C)=true)(n:W.nsIn K mainGlobals x=some (some (.ref C)))(F:Fun K "__init__" q st f fd):KF K C x q st
inductive BF(K:W.Frag)(C:Addr)(x m q:Str)(st:Stmt):Prop
 |mk {f:Addr}{fd:FuncData}(s:W.specialIn K (.ref C) "__getattribute__" = some (some (.builtin "type.__getattribute__"))) (r:W.readsIn K C (.type "type")=true) (a:W.findCls K (.ref C) (.type "type") m=some (.val (.ref f))) (n:W.nsIn K mainGlobals x=some (some (.ref C)))(F:Fun K m q st f fd):BF K C x m q st
inductive Zb(P:Program)(w:World)(K:W.Frag)(mg:Str->Option Value)(base:Heap):Prop
 |mk {h:Heap}(X:K.In h)(G:h.Ns mainGlobals mg):Zb P w K mg base
theorem Zb.g(Z:Zb P w K mg base){v:Value}(e:W.nsIn K mainGlobals x=some (some v)):mg x=some v:=by cases Z with|mk X G=>exact W.mg_of X G e
theorem mkC(Z:Zb P w K mg base)(h:GF K x q st)(O:∀{f:Addr}{fd:FuncData},Fun K q q st f fd->aK P w K mg base CX0 k f fd ps sp)(b:∀{f:Addr}{fd:FuncData},Fun K q q st f fd->Binds K fd ps []:=by exact λF=>F.binds λ_ _ _ _ _ _=>by first|exact L2.lb0 rfl|exact L2.lb1 λ_=>U|exact L2.lb2 λ_ _=>U|exact L2.lb3 λ_ _ _=>U|exact L2.lb4 λ_ _ _ _=>U|exact L2.lb5 λ_ _ _ _ _=>U|exact L2.lb6 λ_ _ _ _ _ _=>U|exact L2.lb7 λ_ _ _ _ _ _ _=>U|exact L2.lb8 λ_ _ _ _ _ _ _ _=>U|exact L2.lb9 λ_ _ _ _ _ _ _ _ _=>U):Callee P w K mg base k x ps sp:=by
 cases h with|mk a F=>exact⟨_,_,O F,b F,F.kp,Z.g a⟩
theorem mkM(_:Zb P w K mg base)(h:MF K C m q st)(O:∀{f:Addr}{fd:FuncData},Fun K m q st f fd->aK P w K mg base CX k f fd ps sp)(b:∀{f:Addr}{fd:FuncData},Fun K m q st f fd->Binds K fd ps []:=by exact λF=>F.binds λ_ _ _ _ _ _=>by first|exact L2.lb0 rfl|exact L2.lb1 λ_=>U|exact L2.lb2 λ_ _=>U|exact L2.lb3 λ_ _ _=>U|exact L2.lb4 λ_ _ _ _=>U|exact L2.lb5 λ_ _ _ _ _=>U|exact L2.lb6 λ_ _ _ _ _ _=>U|exact L2.lb7 λ_ _ _ _ _ _ _=>U|exact L2.lb8 λ_ _ _ _ _ _ _ _=>U|exact L2.lb9 λ_ _ _ _ _ _ _ _ _=>U):bp CX P w K mg base k C m ps sp:=by
 cases h with|mk a i F=>exact⟨_,_,⟨a,i,F.kp⟩,O F,b F⟩
theorem mkK(Z:Zb P w K mg base)(h:KF K C x q st)(O:∀{f:Addr}{fd:FuncData},Fun K "__init__" q st f fd->aK P w K mg base CX k f fd ps sp) (b:∀{f:Addr}{fd:FuncData},Fun K "__init__" q st f fd->Binds K fd ps []:=by exact λF=>F.binds λ_ _ _ _ _ _=>by first|exact L2.lb0 rfl|exact L2.lb1 λ_=>U|exact L2.lb2 λ_ _=>U|exact L2.lb3 λ_ _ _=>U|exact L2.lb4 λ_ _ _ _=>U|exact L2.lb5 λ_ _ _ _ _=>U|exact L2.lb6 λ_ _ _ _ _ _=>U|exact L2.lb7 λ_ _ _ _ _ _ _=>U|exact L2.lb8 λ_ _ _ _ _ _ _ _=>U|exact L2.lb9 λ_ _ _ _ _ _ _ _ _=>U):br CX P w K mg base k x C ps sp:=by
 cases h with|mk a i m k n F=>exact⟨_,_,⟨m,a,i,k⟩,O F,b F,Z.g n⟩
theorem mkB(Z:Zb P w K mg base)(h:BF K C x m q st)(O:∀{f:Addr}{fd:FuncData},Fun K m q st f fd->aK P w K mg base CX k f fd ps sp)(b:∀{f:Addr}{fd:FuncData},Fun K m q st f fd->Binds K fd ps []:=by exact λF=>F.binds λ_ _ _ _ _ _=>by first|exact L2.lb0 rfl|exact L2.lb1 λ_=>U|exact L2.lb2 λ_ _=>U|exact L2.lb3 λ_ _ _=>U|exact L2.lb4 λ_ _ _ _=>U|exact L2.lb5 λ_ _ _ _ _=>U|exact L2.lb6 λ_ _ _ _ _ _=>U|exact L2.lb7 λ_ _ _ _ _ _ _=>U|exact L2.lb8 λ_ _ _ _ _ _ _ _=>U|exact L2.lb9 λ_ _ _ _ _ _ _ _ _=>U):bU CX P w K mg base k x m ps sp:=by
 cases h with|mk s r a n F=>exact⟨_,_,_,⟨s,r,a,F.kp⟩,O F,b F,Z.g n⟩
theorem gv_mk{v:V}{u:Value}(a:W.nsIn K mainGlobals x=some (some u))(r:RelV v u):∃u,W.nsIn K mainGlobals x=some (some u)/\RelV v u:=⟨u,a,r⟩
end
theorem Inv.turnedPair{ch:List Addr}{T:Addr}{x y:V}{u v:Value}(I:Inv X pins σ H s)(hf:∀b∈ch,jq X pins H b)(k:∀b o,b ∉ ch->s.heap.get? b=some o->h'.get? b=some o)
  (nT:s.heap.get? T=none)(hT:H T=none)(gT:IsPair h' T u v)(rx:RelV x u)(ry:RelV y v):Inv X pins σ (upd H T (.tup [x,y])) { s with heap:=h' }:=by
 have out:∀b u,H b=some u->b ∉ ch:=λb u e z=>by
  have f:=(hf b z).1;rw[f]at e;cases e
 have neT:∀{b o},s.heap.get? b=some o->b≠T:=λe z=>by rw[z,nT]at e;cases e
 have neH:∀{b u},H b=some u->b≠T:=λe z=>by rw[z,hT]at e;cases e
 have J:=Inv.step (H':=upd H T (.tup [x,y])) (h':=h') (g':=s.gens) (d':=s.drawn) (t':=s.toks) (ch:=ch) I
  (λb hb=>by obtain⟨_,f1,_,f3,f4,f5⟩:=hf b hb;exact⟨f3,f1,f4,f5⟩)
  (λb o _ _ hc e _=>k b o hc e)
  (λb o _ _ hc e _=>⟨o.slots,k b o hc e⟩)
  (λb o _ e n=>by rw[au (neT e)];exact n)
  (λb o hc e=>⟨o,k b o hc e⟩)
  (λb xs e=>by rw[au (neH e)];exact e)
  (λb o w e=>by rw[au (neH e)];exact e)
  (λb ps e=>⟨#[],by rw[au (neH e),e];simp⟩)
  (λm hm=>by
   obtain⟨o,es,ep,ho,r⟩:=hm;refine⟨o,es,ep,k _ o (λz=>?_) ho,r⟩;obtain⟨_,f1,_⟩:=hf _ z;exact f1 U)
  (λb w e=>by
   by_cases hb:b=T
   ·subst hb;rw[ab]at e;cases e;exact⟨by show 2<=sizeLine;decide,[u,v],.cons rx (.cons ry .nil),_,gT,U,_,U⟩
   ·rw[au hb]at e;refine(I.hok b w e).stay (λc z hc q=>k c z ?_ q) (λc q=>?_) λc xs q=>?_
    ·rcases hc with z|z
     ·rw[z];exact out b w e
     ·exact out c _ z
    ·rw[au (neH q)];exact q
    ·rw[au (neH q)];exact q)
  I.bare
 exact J
theorem Inv.turnedL{ch:List Addr}(I:Inv X pins σ H s)(hf:∀b∈ch,jq X pins H b)(k:∀b o,b ∉ ch->s.heap.get? b=some o->h'.get? b=some o):Inv X pins σ H { s with heap:=h' }:=by
 have out:∀b u,H b=some u->b ∉ ch:=λb u e z=>by
  have f:=(hf b z).1;rw[f]at e;cases e
 have J:=Inv.step (H':=H) (h':=h') (g':=s.gens) (d':=s.drawn) (t':=s.toks) (ch:=ch) I
  (λb hb=>by obtain⟨_,f1,_,f3,f4,f5⟩:=hf b hb;exact⟨f3,f1,f4,f5⟩)
  (λb o _ _ hc e _=>k b o hc e)
  (λb o _ _ hc e _=>⟨o.slots,k b o hc e⟩)
  (λb o _ _ n=>n)
  (λb o hc e=>⟨o,k b o hc e⟩)
  (λb xs e=>e) (λb o w e=>e) (λb ps e=>⟨#[],by rw[e];simp⟩)
  (λm hm=>by
   obtain⟨o,es,ep,ho,r⟩:=hm;refine⟨o,es,ep,k _ o (λz=>?_) ho,r⟩;obtain⟨_,f1,_⟩:=hf _ z;exact f1 U)
  (λb w e=>by
   refine(I.hok b w e).stay (λc z hc q=>k c z ?_ q) (λc q=>q) λc xs q=>q
   rcases hc with z|z
   ·rw[z];exact out b w e
   ·exact out c _ z)
  I.bare
 exact J
def Itz(K:W.Frag)(a b:Addr):It :=
 ⟨λi H=>∃xs ys x y,SqL K H a xs/\SqL K H b ys/\xs[i]?=some x/\ys[i]?=some y,
 λi H v H'=>∃T,H T=none/\v=.ref T/\∀xs ys x y,SqL K H a xs->SqL K H b ys->xs[i]?=some x->ys[i]?=some y->H'=upd H T (.tup [x,y]),
 λi H=>∃xs ys,SqL K H a xs/\SqL K H b ys/\(xs.length<=i\/ys.length<=i)⟩
def vc(z TI TO i1 i2 a b:Addr)(i:Nat)(h:Heap):Prop:=IsZip h z TI TO .none/\IsPair h TI (.ref i1) (.ref i2)/\(∃p q,IsPair h TO p q)/\h.IsListIter i1 a i/\h.IsListIter i2 b i
theorem sS{P:Program}{w:World}{K:W.Frag}{elts:List Expr} {x1} {tp:Pos}{z TI TO i1 i2 a b:Addr}(D:ZipApart z TI TO i1 i2 a b) :
  Turn P w K (.Tuple elts x1 tp) (Itz K a b) [z,TI,TO,i1,i2] z (vc z TI TO i1 i2 a b) where
 mem:=by simp
 obj:=λi h st c hc=>by
  obtain⟨g1,g2,⟨p,q,g3⟩,⟨o4,g4,_,d4⟩,⟨o5,g5,_,d5⟩⟩:=st;simp only[mem_cons,not_mem_nil,or_false]at hc;rcases hc with rfl|rfl|rfl|rfl|rfl
  ·exact⟨_,g1,λv q=>nomatch q⟩
  ·exact⟨_,g2,λv q=>nomatch q⟩
  ·exact⟨_,g3,λv q=>nomatch q⟩
  ·exact⟨_,g4,λv q=>by rw[d4]at q;cases q⟩
  ·exact⟨_,g5,λv q=>by rw[d5]at q;cases q⟩
 keep:=λi h h' st k=>by
  obtain⟨g1,g2,⟨p,q,g3⟩,g4,g5⟩:=st;exact⟨k z (by simp) _ g1,k TI (by simp) _ g2,⟨p,q,k TO (by simp) _ g3⟩,g4.at λo e=>k i1 (by simp) o e,g5.at λo e=>k i2 (by simp) o e⟩
 item:=by
  intro X hP hw hK hc i pins s σ H E I hf st hg;subst hP hw hK;obtain⟨xs,ys,x,y,qa,qb,ex,ey⟩:=hg;obtain⟨g1,g2,⟨p,q,g3⟩,g4,g5⟩:=st;obtain⟨us,ru,pu,_⟩:=I.list qa;obtain⟨vs,rv,pv,_⟩:=I.list qb;obtain⟨u,eu,r1⟩:=ru.get ex;obtain⟨v,ev,r2⟩:=rv.get ey;refine wpAny_pyNext_zip_item D g1 g2 g3 g4 g5 pu.isList pv.isList (x:=u) (y:=v) (by simpa using eu) (by simpa using ev) λh1 a1 a2 a3 a4 a5 a6 a7=>?_
  refine⟨_,U,wpAny_letOwnedTupleGo_zip (s:={ s with heap:=h1 }) a1 λh2 b1 b2=>?_⟩;have nT:s.heap.get? s.heap.objs.size=none:=by
   cases q:s.heap.get? s.heap.objs.size with
   |none=>rfl
   |some o=>exact absurd (Heap.lt_size q) (lt_irrefl _)
  have hT:H s.heap.objs.size=none:=I.hok.fresh (le_refl _);have nz:s.heap.objs.size≠z:=ne_of_gt (Heap.lt_size g1);have kk:∀c o,c ∉ [z,TO,i1,i2]->s.heap.get? c=some o->h2.get? c=some o:=λc o hc e=>by
   simp only[mem_cons,not_mem_nil,or_false,not_or]at hc;exact b2.extBut _ _ hc.1 (a7 c o hc.1 hc.2.1 hc.2.2.1 hc.2.2.2 e)
  have J:=I.turnedPair (h':=h2) (ch:=[z,TO,i1,i2]) (T:=s.heap.objs.size) (x:=x) (y:=y) (u:=u) (v:=v) (λc hc=>hf c (by simp at hc⊢;rcases hc with e|e|e|e <;> simp[e])) kk nT hT (b2.extBut _ _ nz a5) r1 r2;refine⟨.ref s.heap.objs.size,upd H s.heap.objs.size (.tup [x,y]),J,U,⟨_,hT,U,λxs' ys' x' y' q1 q2 e1 e2=>?_⟩,⟨b1,b2.extBut _ _ D.TIz (a7 TI _ D.TIz D.TITO D.TIi1 D.TIi2 g2),⟨_,_,b2.extBut _ _ D.TOz a2⟩,a3.extBut b2.extBut D.i1z,a4.extBut b2.extBut D.i2z⟩,λc hc=>?_⟩
  ·rw[I.list_inj q1 qa]at e1;rw[I.list_inj q2 qb]at e2;rw[ex]at e1;rw[ey]at e2;cases e1;cases e2;rfl
  ·have h0:=(hf c hc).1;have:c≠s.heap.objs.size:=by
    obtain⟨o4,g4',_⟩:=g4;obtain⟨o5,g5',_⟩:=g5;simp only[mem_cons,not_mem_nil,or_false]at hc;rcases hc with rfl|rfl|rfl|rfl|rfl
    ·exact nz.symm
    ·exact ne_of_lt (Heap.lt_size g2)
    ·exact ne_of_lt (Heap.lt_size g3)
    ·exact ne_of_lt (Heap.lt_size g4')
    ·exact ne_of_lt (Heap.lt_size g5')
   rw[au this];exact h0
 done:=by
  intro X hP hw hK hc i pins s σ H E I hf st hg;subst hP hw hK;obtain⟨xs,ys,qa,qb,hl⟩:=hg;obtain⟨g1,g2,⟨p,q,g3⟩,g4,g5⟩:=st;obtain⟨us,ru,pu,_⟩:=I.list qa;obtain⟨vs,rv,pv,_⟩:=I.list qb;have l1:=ru.length;have l2:=rv.length;refine wpAny_pyNext_zip_end (I.ok.hd hc) D g1 g2 g3 g4 g5 pu.isList pv.isList ?_ λh2 k=>⟨U,I.turnedL (ch:=[z,TO,i1,i2]) (λc hc=>hf c (by simp at hc⊢;rcases hc with e|e|e|e <;> simp[e])) λc o hc e=>?_⟩
  ·rcases hl with hl|hl
   ·exact .inl (by simp;lia)
   ·exact .inr (by simp;lia)
  ·simp only[mem_cons,not_mem_nil,or_false,not_or]at hc;exact k c o hc.1 hc.2.1 hc.2.2.1 hc.2.2.2 e
 self:=λ_ _ _ _ _ st h=>wpAny_pyIter_zip st.1 h
inductive vd(K:W.Frag)(R:It->Hp->Prop)(vs:List V)(H1:Hp):Prop
 |mk (a b:_)(_:vs=[.ref a,.ref b])(_:(∃xs,SqL K H1 a xs))(_:(∃ys,SqL K H1 b ys))(_:R (Itz K a b) H1):vd K R vs H1
def zr(K:W.Frag)(ta:TA):TI:=λσ H R=>ta σ H λvs H1=>vd K R vs H1
theorem iA{e1 e2:Expr}{ta:TA}{p pos:Pos}{elts:List Expr} {x1} {tp:Pos}(hg:Gl X "zip") (hm:X.mg "zip" = none) (ha:PA X [e1,e2] ta)
  (hs:starEach [e1,e2] X.env=[(false,eval e1 X.env),(false,eval e2 X.env)]:=by rfl)(hs2:starEach [e2] X.env=[(false,eval e2 X.env)]:=by rfl) :
  PI X (.Tuple elts x1 tp) (.Call (.Name "zip" p) [e1,e2] [] pos) (zr X.K ta):=by
 intro pins s σ H R I h;refine Call_ (jo I hg hm PyProof.Rows.boot_zip (PyProof.Rows.callWith_type1 (thn (ha pos pins s σ H _ I h) λus s1 ⟨vs,H1,I1,r1,q1⟩=>?_) (by rw[hs,hs2]) (by rw[hs2];rfl)));obtain⟨a,b,rfl,⟨xs,qa⟩,⟨ys,qb⟩,q⟩:=q1;obtain⟨u,v,rfl,ru,rv⟩:=r1.two;cases (show u=Value.ref a from ru);cases (show v=Value.ref b from rv);obtain⟨us,_,pu,_⟩:=I1.list qa;obtain⟨vs,_,pv,_⟩:=I1.list qb;obtain⟨oa,ea,_⟩:=id pu.isList;obtain⟨ob,eb,_⟩:=id pv.isList;have la:a<s1.heap.objs.size:=Heap.lt_size ea;have lb:b<s1.heap.objs.size:=Heap.lt_size eb;refine call_zip_2 pu.isList pv.isList λh' z1 z2 z3 z4 z5 z6 z7=>?_
 refine wpAny_pyIter_zip (s:={ s1 with heap:=h' }) z1 ?_;refine⟨s1.heap.objs.size+4,[s1.heap.objs.size+4,s1.heap.objs.size+2,s1.heap.objs.size+3,s1.heap.objs.size,s1.heap.objs.size+1],vc (s1.heap.objs.size+4) (s1.heap.objs.size+2) (s1.heap.objs.size+3) s1.heap.objs.size (s1.heap.objs.size+1) a b,Itz X.K a b,H1,U,I1.kept (t':=s1.toks) z7,sS ?_,⟨z1,z2,⟨_,_,z3⟩,z4,z5⟩,λc hc=>?_,q⟩
 ·refine⟨?_,?_,?_,?_,?_,?_,?_,?_,?_,?_,?_,?_,?_,?_,?_,?_,?_,?_⟩ <;> first|exact ne_of_lt (by lia)|exact ne_of_gt (by lia)|exact ne_of_lt la|exact ne_of_lt lb|exact ne_of_lt (lt_of_lt_of_le la (Nat.le_add_right _ _))|exact ne_of_lt (lt_of_lt_of_le lb (Nat.le_add_right _ _))
 ·have hc':s1.heap.objs.size<=c:=by
   simp only[mem_cons,not_mem_nil,or_false]at hc;rcases hc with rfl|rfl|rfl|rfl|rfl <;> lia
  exact I1.fpOk hc' (I1.hok.fresh hc')
theorem kg{K:W.Frag}{a b:Addr}{xs ys:List V}{g:TG}{tb:TS}{D:Ends}{σ:St}{H:Hp}(Pv:Nat->St->Hp->Prop)(h0:Pv 0 σ H)(hl:∀i σ H,Pv i σ H->SqL K H a xs/\SqL K H b ys)
  (hs:∀i x y σ H T,xs[i]?=some x->ys[i]?=some y->Pv i σ H->H T=none->g (.ref T) σ (upd H T (.tup [x,y])) λσ2 H2=>tb { D with nx:=Pv (i+1),ct:=Pv (i+1),bk:=D.nx } σ2 H2)
  (hd:∀σ H,Pv (min xs.length ys.length) σ H->D.nx σ H) :
  ∃W:Nat->Nat->St->Hp->Prop,(∃m,W 0 m σ H)/\∀i m σ H,W i m σ H ->
   ((Itz K a b).stop i H/\D.nx σ H)\/((Itz K a b).go i H/\∃N:St->Hp->Prop,(∀σ' H',N σ' H'->∃m',m'<m/\W (i+1) m' σ' H')/\∀x H',(Itz K a b).yld i H x H'->g x σ H' λσ2 H2=>tb { D with nx:=N,ct:=N,bk:=D.nx } σ2 H2):=by
 refine⟨λi m σ H=>m=min xs.length ys.length-i/\i<=min xs.length ys.length/\Pv i σ H,⟨min xs.length ys.length,by simp,zero_le _,h0⟩,?_⟩;rintro i m σ H ⟨rfl,hi,p⟩;obtain⟨q1,q2⟩:=hl i σ H p;by_cases lt:i<min xs.length ys.length
 ·have e1:xs[i]?=some xs[i]:=BP (by lia);have e2:ys[i]?=some ys[i]:=BP (by lia);refine .inr ⟨⟨xs,ys,_,_,q1,q2,e1,e2⟩,Pv (i+1),λσ' H' p'=>⟨_,?_,U,lt,p'⟩,λv H' yl=>?_⟩
  ·lia
  ·obtain⟨T,hT,rfl,e⟩:=yl;rw[e xs ys _ _ q1 q2 e1 e2];exact hs i _ _ σ H T e1 e2 p hT
 ·have e:i=min xs.length ys.length:=by lia
  subst e;exact .inl ⟨⟨xs,ys,q1,q2,by lia⟩,hd σ H p⟩
theorem oK{a b:Int}{m n:Nat}(ha:a.natAbs<2^m)(hb:b.natAbs<2^n)(hm:m<=2^20)(hn:n<=2^20):IntMulOk a b :=
 .of_bits (le_trans (PyProof.Rows.intBits_le ha) hm) (le_trans (PyProof.Rows.intBits_le hb) hn)
theorem lU{X:Cx}{K:W.Frag}(h:X.K=K):cO X (.type "list") (λxs H Q=>∃p ys,xs=[.ref p]/\(SqL K H p ys\/SqT K H p ys)/\∀l,H l=none->Q (.ref l) (upd H l (.lst ys))):=h ▸ cR
set_option maxRecDepth 100000
section
variable{R:Result->Shared->Prop}
end
set_option maxRecDepth 100000
set_option maxRecDepth 100000
theorem fg:∀{l L:List Int},l.Nodup->(∀x∈l,x∈L)->l.length<=L.length
 | [],_,_,_=>zero_le _
 |x :: l,L,hn,hs=>by
  obtain⟨h1,h2⟩:=nodup_cons.mp hn;have hx:=hs x mem_cons_self;have ih:=fg (L:=L.erase x) h2 λy hy=>(List.mem_erase_of_ne (λ(e:y=x)=>h1 (e ▸ hy))).mpr (hs y (mem_cons_of_mem _ hy))
  rw[List.length_erase_of_mem hx]at ih;have:0<L.length:=List.length_pos_of_mem hx;rw[length_cons];lia
theorem qG:∀{vs:List Value},(∀v∈vs,∃u,v=.int (jx v) u)->IntsAre vs (vs.map jx)
 | [],_=>.nil
 |v :: vs,h=>by
  obtain⟨u,e⟩:=h v mem_cons_self;rw[e];exact .cons _ u (qG λx hx=>h x (mem_cons_of_mem _ hx))
theorem mD:∀{vs:List Value}{ns:List Int},IntsAre vs ns->Vals (ns.map V.int) vs
 |_,_,.nil=>.nil
 |_,_,.cons n t r=>.cons ⟨t,U⟩ (mD r)
theorem gq:∀{ns:List Int},ns.Pairwise (· <= ·)->ns.Nodup->ns.Pairwise (· < ·)
 | [],_,_=>.nil
 |n :: ns,h1,h2=>by
  obtain⟨a1,a2⟩:=pairwise_cons.mp h1;obtain⟨b1,b2⟩:=nodup_cons.mp h2;refine .cons (λm hm=>?_) (gq a2 b2);have:=a1 m hm;have:n≠m:=λe=>b1 (e ▸ hm)
  lia
theorem qc{a:Addr}{ks:List Int}{m:Nat}{Q:Value->Shared->Prop}(hh:A.handled=none)(hW:dc s.heap a (!dg w) ks m)(hm:m<64)
  (h:∀(ns:List Int)(vs:List Value)(s':Shared)(D:Addr)(c:Nat),Vals (ns.map V.int) vs->ns.Pairwise (· < ·)->(∀k,k∈ns↔k∈ks)->s.heap.objs.size<=D->(∀b u,s.heap.get? b=some u->s'.heap.get? b=some u)->s'.heap.get? D=some (seqObj "list" vs.toArray c)->s'.gens=s.gens->s'.os=s.os->ns.length=m->Q (.ref D) s') :
  wpAny (model prog w) A (call (.builtin "sorted") [.ref a]) Q E s:=by
 obtain⟨o,es,ep,t,ho,hex,hd,hE,hb,hf,ha,hl,hn⟩:=hW;refine Calls.call_function_entry kind_sorted plain_sorted entry_sorted (args_sorted1 _) ?_;unfold Builtin.«sorted»;refine wpAny_bind (m:=checkCount "sorted" 1 1 _) (wpAny_pure ?_);refine wpAny_bind (oH (by simp[hh]) ho hex hd hb hf ha hl λord s1 pm kp hg hos hss=>?_);have hlen:ord.length=m:=by rw[pm.length_eq,length_map,length_toList,hn]
 have hint:∀v∈ord,∃u,v=.int (jx v) u:=λv hv=>by
  obtain⟨e,he,rfl⟩:=mem_map.mp (pm.mem_iff.mp hv);exact(hE.ent e he).2
 have hI:=qG hint;have pk:(ord.map jx).Perm (es.toList.map λe=>jx e.2):=by
  have:=pm.map jx;rw[List.map_map]at this;exact this
 refine wpAny_bind (wpAny_newList ?_ (by rw[sizeLine_eq];lia));have hoL:(s1.heap.push (seqObj "list" ord.toArray 0)).get? s1.heap.objs.size=some (seqObj "list" ord.toArray 0):=Heap.get?_push_size _ U;have keep:∀b u,s.heap.get? b=some u->(s1.heap.push (seqObj "list" ord.toArray 0)).get? b=some u:=λb u q=>Heap.get?_push_of_some _ (kp b u q)
 show wpAny _ _ _ _ _ { s1 with heap:=s1.heap.push (seqObj "list" ord.toArray 0) };refine wpAny_bind (wpAny_holding (wpAny_call_entry slot_list_sort ⟨_,hoL,U⟩ entry_list_sort ?body (args_list_sort _)))
 case body =>
  refine list_sort_tree (s:={ s1 with heap:=s1.heap.push (seqObj "list" ord.toArray 0) }) hoL hI (by lia) λout ns' a1 a2 a3=>⟨_,U,wpAny_pure ⟨_,U,?_⟩⟩
  have nd:ns'.Nodup:=a2.nodup_iff.mpr (pk.nodup_iff.mpr hE.nd);have hlt:s1.heap.objs.size<(s1.heap.push (seqObj "list" ord.toArray 0)).objs.size:=Heap.lt_size hoL;obtain⟨e1,ho1⟩:∃e1,((s1.heap.push (seqObj "list" ord.toArray 0)).update s1.heap.objs.size (Obj.mapSeq λ_=>#[])).get? s1.heap.objs.size=some (seqObj "list" #[] e1):=⟨_,get?_update_seq hoL (λ_=>#[])⟩;have h3:∀b,b<(s1.heap.push (seqObj "list" ord.toArray 0)).objs.size->((((s1.heap.push (seqObj "list" ord.toArray 0)).update s1.heap.objs.size (Obj.mapSeq λ_=>#[])).push (seqObj "tuple" ord.toArray 0)).push (seqObj "list" #[] 0)).get? b=((s1.heap.push (seqObj "list" ord.toArray 0)).update s1.heap.objs.size (Obj.mapSeq λ_=>#[])).get? b:=λb hb=>by
   rw[Heap.get?_push_ne _ _ _ (by rw[size_push',Heap.size_update];exact ne_of_lt (lt_succ_of_lt hb)),Heap.get?_push_ne _ _ _ (by rw[Heap.size_update];exact ne_of_lt hb)]
  have e6:((((s1.heap.push (seqObj "list" ord.toArray 0)).update s1.heap.objs.size (Obj.mapSeq λ_=>#[])).push (seqObj "tuple" ord.toArray 0)).push (seqObj "list" #[] 0)).get? s1.heap.objs.size=some (seqObj "list" #[] e1):=by rw[h3 _ hlt];exact ho1
  have sz:s.heap.objs.size<=s1.heap.objs.size:=le_of_lt hss;refine h ns' out.toList { s1 with heap:=sortedHeap (s1.heap.push (seqObj "list" ord.toArray 0)) s1.heap.objs.size ord out } s1.heap.objs.size _ (mD a1) (gq a3 nd) (λk=>(a2.mem_iff).trans ((pk.mem_iff).trans (hE.mem k).symm)) sz (λb u q=>?_) (get?_update_seq e6 (λ_=>out)) hg hos ?_
  ·have hb1:b<s1.heap.objs.size:=Heap.lt_size (kp b u q);show(Heap.update _ _ _).get? b=some u;rw[Heap.get?_update_ne _ _ _ _ (ne_of_lt hb1),h3 _ (Nat.lt_trans hb1 hlt),Heap.get?_update_ne _ _ _ _ (ne_of_lt hb1)];exact keep b u q
  ·rw[a2.length_eq,length_map,hlen]
theorem Inv.grow{s':Shared}(I:Inv X pins σ H s)(k:∀b o,s.heap.get? b=some o->s'.heap.get? b=some o)(hg:s'.gens=s.gens)(hos:s'.os=s.os)(hold:∀b,b<s.heap.objs.size->H' b=H b)
  (zt:∀b u,s.heap.objs.size<=b->H' b=some u->cD X.prog X.w H' s'.heap b u):Inv X pins σ H' s':=by
 obtain⟨h',g',d',t',o'⟩:=s';obtain rfl:g'=s.gens:=hg;obtain rfl:o'=s.os:=hos;have lt:∀{b u},H b=some u->b<s.heap.objs.size:=λ{b u} e=>by
  rcases lt_or_ge b s.heap.objs.size with z|z
  ·exact z
  ·rw[I.hok.fresh z]at e;cases e
 have same:∀{b u},H b=some u->H' b=some u:=λe=>by rw[hold _ (lt e)];exact e
 exact I.step (h':=h') (g':=s.gens) (d':=d') (t':=t') (ch:=[]) (λ_ z=>nomatch z) (λb o _ _ _ e _=>k b o e) (λb o _ _ _ e _=>⟨o.slots,k b o e⟩)
  (λb o _ e n=>by rw[hold _ (Heap.lt_size e)];exact n) (λb o _ e=>⟨o,k b o e⟩) (λb xs e=>same e) (λb o u e=>same e) (λb ps e=>⟨#[],by rw[same e];simp⟩)
  (λm hm=>by
   obtain⟨o,es,ep,ho,r⟩:=hm;exact⟨o,es,ep,k _ o ho,r⟩)
  (λb u e=>by
   rcases lt_or_ge b s.heap.objs.size with z|z
   ·rw[hold _ z]at e;exact(I.hok b u e).stay (λc u' _ q=>k c u' q) (λc q=>same q) λc xs q=>same q
   ·exact zt b u z e)
  I.bare
def wu(w:World)(a:Addr)(zs:List Int):HO:=.ext λh=>∃m,dc h a (!dg w) zs m
theorem kR:∀{zs:List Int}{us:List Value},Vals (zs.map V.int) us->∀(i:Nat)(v:Value),us[i]?=some v->∃z t,zs[i]?=some z/\v=.int z t
 | [],_,.nil,i,v,h=>by simp at h
 |z :: zs,_,.cons ⟨t,e⟩ r,0,v,h=>by simp at h;exact⟨z,t,U,by rw[←h,e]⟩
 |z :: zs,_,.cons _ r,i+1,v,h=>by
  obtain⟨z',t,e1,e2⟩:=kR r i v (by simpa using h);exact⟨z',t,by simpa using e1,e2⟩
theorem rC{w:World}(hw:X.w=w)(hc:X.calm=true):cO X (.type "set") (λxs H Q=>∃(p:Addr)(zs:List Int),xs=[.ref p]/\SqL X.K H p (zs.map V.int)/\zs.length<=1000/\∀l,H l=none->Q (.ref l) (upd H l (wu w l zs))):=by
 subst hw;intro pins s σ H xs us Q I r h;obtain⟨p,zs,rfl,hS,hz,q⟩:=h;obtain⟨u,rfl,ru⟩:=r.one;obtain rfl:u=Value.ref p:=ru;obtain⟨its,rv,pl,_⟩:=I.list hS;have hl:=rv.length;rw[length_map]at hl;refine rn (ks:=zs) (I.ok.hd hc) pl.isList (λi v e=>?_) (by simpa using hl) (by unfold scanBound;simp;lia) λh' tk m x hm kp=>?_
 ·exact kR rv i v (by simpa using e)
 ·refine⟨.ref s.heap.objs.size,_,I.laid (a:=s.heap.objs.size) (o:=wu X.w s.heap.objs.size zs) (h':=h') (t':=tk) (λb o q=>kp b o (Heap.lt_size q) q) (le_refl _) ?_,U,q _ I.fresh⟩;refine⟨⟨m,x⟩,?_,λh1 h2 ⟨m',y⟩ k=>⟨m',y.stay k⟩⟩;obtain⟨o,_,_,_,g,_⟩:=x;exact⟨o,g⟩
theorem jA{w:World}(hw:X.w=w)(hc:X.calm=true):cO X (.builtin "sorted") (λus H Q=>∃(a:Addr)(zs L:List Int),us=[.ref a]/\H a=some (wu w a zs)/\L.length<64/\(∀k∈zs,k∈L) /\
  ∀(D:Addr)(ns:List Int),H D=none->ns.Pairwise (· < ·)->(∀k,k∈ns↔k∈zs)->Q (.ref D) (upd H D (.lst (ns.map V.int)))):=by
 subst hw;intro pins s σ H us vs Q I r h;obtain⟨a,zs,L,rfl,e,hL,hs,q⟩:=h;obtain⟨u,rfl,ru⟩:=r.one;obtain rfl:u=Value.ref a:=ru;obtain⟨⟨m,x⟩,_,_⟩:=I.hok a _ e;have hm:m<64:=by
  obtain⟨o,es,ep,t,_,_,_,hE,_,_,_,_,hn⟩:=id x;have:=fg (L:=L) hE.nd λk hk=>hs k ((hE.mem k).mpr hk)
  rw[length_map,length_toList,hn]at this;lia
 refine qc (I.ok.hd hc) x hm λns us s' D c a1 a2 a3 a4 a5 a6 a7 a8 a9=>?_
 have hD:H D=none:=I.hok.fresh a4;refine⟨.ref D,upd H D (.lst (ns.map V.int)),I.grow a5 a7 a8 (λb hb=>by rw[au (ne_of_lt (lt_of_lt_of_le hb a4))]) (λb u hb eu=>?_),U,q D ns hD a2 a3⟩;by_cases z:b=D
 ·subst z;rw[ab]at eu;cases eu;exact⟨by rw[length_map,sizeLine_eq];lia,us,c,a1,a6⟩
 ·rw[au z,I.hok.fresh hb]at eu;cases eu
def Ite(K:W.Frag)(a:Addr):It :=
 ⟨λi H=>∃xs x,SqL K H a xs/\xs[i]?=some x,
 λi H v H'=>∃T,H T=none/\v=.ref T/\∀xs x,SqL K H a xs->xs[i]?=some x->H'=upd H T (.tup [.int i,x]),
 λi H=>∃xs,SqL K H a xs/\xs.length<=i⟩
def sT(e it a:Addr)(i:Nat)(h:Heap):Prop:=(∃old,IsEnum h e it i old)/\h.IsListIter it a i
theorem rD{P:Program}{w:World}{K:W.Frag}{elts:List Expr} {x1} {tp:Pos}{e it a:Addr}(hne:e≠it) :
  Turn P w K (.Tuple elts x1 tp) (Ite K a) [e,it] e (sT e it a) where
 mem:=by simp
 obj:=λi h st c hc=>by
  obtain⟨⟨old,g1⟩,⟨o2,g2,_,d2⟩⟩:=st;simp only[mem_cons,not_mem_nil,or_false]at hc;rcases hc with rfl|rfl
  ·exact⟨_,g1,λv q=>nomatch q⟩
  ·exact⟨_,g2,λv q=>by rw[d2]at q;cases q⟩
 keep:=λi h h' st k=>by
  obtain⟨⟨old,g1⟩,g2⟩:=st;exact⟨⟨old,k e (by simp) _ g1⟩,g2.at λo q=>k it (by simp) o q⟩
 item:=by
  intro X hP hw hK hc i pins s σ H E I hf st hg;subst hP hw hK;obtain⟨xs,x,qa,ex⟩:=hg;obtain⟨⟨old,g1⟩,g2⟩:=st;obtain⟨us,ru,pu,_⟩:=I.list qa;obtain⟨u,eu,r1⟩:=ru.get ex;refine wpAny_pyNext_enum_item g1 g2 pu.isList (x:=u) (by simpa using eu) hne λh1 a1 a2 a3 a4 a5=>?_
  refine⟨_,U,wpAny_letOwnedTupleGo_enum (s:={ s with heap:=h1,toks:=s.toks+1 }) a1 λh2 b1 b2=>?_⟩;have nT:s.heap.get? s.heap.objs.size=none:=by
   cases q:s.heap.get? s.heap.objs.size with
   |none=>rfl
   |some o=>exact absurd (Heap.lt_size q) (lt_irrefl _)
  have hT:H s.heap.objs.size=none:=I.hok.fresh (le_refl _);have nz:s.heap.objs.size≠e:=ne_of_gt (Heap.lt_size g1);have kk:∀c o,c ∉ [e,it]->s.heap.get? c=some o->h2.get? c=some o:=λc o hc q=>by
   simp only[mem_cons,not_mem_nil,or_false,not_or]at hc;exact b2.extBut _ _ hc.1 (a5 c o hc.1 hc.2 q)
  have J:=I.turnedPair (h':=h2) (ch:=[e,it]) (T:=s.heap.objs.size) (x:=.int i) (y:=x) (u:=.int i s.toks) (v:=u) (λc hc=>hf c (by simp at hc⊢;rcases hc with q|q <;> simp[q])) kk nT hT (b2.extBut _ _ nz a3) ⟨_,U⟩ r1;refine⟨.ref s.heap.objs.size,upd H s.heap.objs.size (.tup [.int i,x]),J.tok _,U,⟨_,hT,U,λxs' x' q1 e1=>?_⟩,⟨⟨_,b1⟩,a2.extBut b2.extBut hne.symm⟩,λc hc=>?_⟩
  ·rw[I.list_inj q1 qa,ex]at e1;cases e1;rfl
  ·have h0:=(hf c hc).1;have:c≠s.heap.objs.size:=by
    obtain⟨o2,g2',_⟩:=g2;simp only[mem_cons,not_mem_nil,or_false]at hc;rcases hc with rfl|rfl
    ·exact nz.symm
    ·exact ne_of_lt (Heap.lt_size g2')
   rw[au this];exact h0
 done:=by
  intro X hP hw hK hc i pins s σ H E I hf st hg;subst hP hw hK;obtain⟨xs,qa,hl⟩:=hg;obtain⟨⟨old,g1⟩,g2⟩:=st;obtain⟨us,ru,pu,_⟩:=I.list qa;have l1:=ru.length;refine wpAny_pyNext_enum_end (I.ok.hd hc) g1 g2 pu.isList (by simp;lia) λh2 k=>⟨U,I.turnedL (ch:=[e,it]) (λc hc=>hf c (by simp at hc⊢;rcases hc with q|q <;> simp[q])) λc o hc q=>?_⟩
  simp only[mem_cons,not_mem_nil,or_false,not_or]at hc;exact k c o hc.2 q
 self:=λ_ _ _ _ _ st h=>let ⟨⟨_,g⟩,_⟩:=st;wpAny_pyIter_enum g h
inductive sU(K:W.Frag)(R:It->Hp->Prop)(vs:List V)(H1:Hp):Prop
 |mk (a:_)(_:vs=[.ref a])(_:(∃xs,SqL K H1 a xs))(_:R (Ite K a) H1):sU K R vs H1
def xU(K:W.Frag)(ta:TA):TI:=λσ H R=>ta σ H λvs H1=>sU K R vs H1
theorem kh{e1:Expr}{ta:TA}{p pos:Pos}{elts:List Expr} {x1} {tp:Pos}(hg:Gl X "enumerate") (hm:X.mg "enumerate" = none) (ha:PA X [e1] ta)
  (hs:starEach [e1] X.env=[(false,eval e1 X.env)]:=by rfl) :
  PI X (.Tuple elts x1 tp) (.Call (.Name "enumerate" p) [e1] [] pos) (xU X.K ta):=by
 intro pins s σ H R I h;refine Call_ (jo I hg hm PyProof.Rows.boot_enumerate (PyProof.Rows.callWith_type1 (thn (ha pos pins s σ H _ I h) λus s1 ⟨vs,H1,I1,r1,q1⟩=>?_) (by rw[hs];rfl) U));obtain⟨a,rfl,⟨xs,qa⟩,q⟩:=q1;obtain⟨u,rfl,ru⟩:=r1.one;cases (show u=Value.ref a from ru);obtain⟨us,_,pu,_⟩:=I1.list qa;refine call_enumerate_list pu.isList λh' z1 z2 z3 z4=>?_
 refine wpAny_pyIter_enum (s:={ s1 with heap:=h' }) z1 ?_;refine⟨s1.heap.objs.size+1,[s1.heap.objs.size+1,s1.heap.objs.size],sT (s1.heap.objs.size+1) s1.heap.objs.size a,Ite X.K a,H1,U,I1.kept (t':=s1.toks) z4,rD (ne_of_gt (lt_succ_self _)),⟨⟨_,z1⟩,z2⟩,λc hc=>?_,q⟩;have hc':s1.heap.objs.size<=c:=by
  simp only[mem_cons,not_mem_nil,or_false]at hc;rcases hc with rfl|rfl
  ·exact le_succ _
  ·exact le_refl _
 exact I1.fpOk hc' (I1.hok.fresh hc')
variable{gt:TG}{fr:List Nat}{tt:TT}{te:TE}
theorem qd{K:W.Frag}{a:Addr}{xs:List V}{σ:St}{H1:Hp}{Q:VK}(Pv:Addr->Nat->List V->Hp->Prop)(h0:∀D,H1 D=none->Pv D 0 [] (upd H1 D (.lst [])))
  (hk:∀D i ys H,H1 D=none->i<=xs.length->Pv D i ys H->SqL K H a xs)
  (hs:∀D i x ys H T,H1 D=none->xs[i]?=some x->Pv D i ys H->H T=none->∀ts:St,ts.length=k->gt (.ref T) (cV σ fr ts) (upd H T (.tup [.int i,x])) λσ2 H2=>(∃ts2:St,ts2.length=k/\σ2=cV σ fr ts2)/\tt σ2 H2 λb H3=>if b=true then te σ2 H3 (dD Pv D i xs.length)else f9 Pv D i xs.length H3)
  (hd:∀D ys H,H1 D=none->Pv D xs.length ys H->Q (.ref D) H):i6 (Ite K a) gt k fr tt te σ Q H1:=by
 intro D hD;refine⟨λi m H=>m=xs.length-i/\i<=xs.length/\∃ys,Pv D i ys H,⟨_,U,zero_le _,[],h0 D hD⟩,?_⟩;rintro i m H ⟨rfl,hi,ys,p⟩;have q:=hk D i ys H hD hi p;by_cases hlt:i<xs.length
 ·have ex:xs[i]?=some xs[i]:=BP hlt;refine .inr ⟨⟨xs,xs[i],q,ex⟩,λx H' y=>?_⟩;obtain⟨T,hT,rfl,e⟩:=y;rw[e xs _ q ex];exact hs D i _ ys _ T hD ex p hT
 ·have e:i=xs.length:=by lia
  subst e;exact .inl ⟨⟨xs,q,le_refl _⟩,hd D ys H hD p⟩
theorem jB{K:W.Frag}{a b:Addr}{xs ys:List V}{σ:St}{H1:Hp}{Q:VK}(Pv:Addr->Nat->List V->Hp->Prop)(h0:∀D,H1 D=none->Pv D 0 [] (upd H1 D (.lst [])))
  (hk:∀D i zs H,H1 D=none->i<=min xs.length ys.length->Pv D i zs H->SqL K H a xs/\SqL K H b ys)
  (hs:∀D i x y zs H T,H1 D=none->xs[i]?=some x->ys[i]?=some y->Pv D i zs H->H T=none->∀ts:St,ts.length=k->gt (.ref T) (cV σ fr ts) (upd H T (.tup [x,y])) λσ2 H2=>(∃ts2:St,ts2.length=k/\σ2=cV σ fr ts2)/\tt σ2 H2 λb H3=>if b=true then te σ2 H3 (dD Pv D i (min xs.length ys.length))else f9 Pv D i (min xs.length ys.length) H3)
  (hd:∀D zs H,H1 D=none->Pv D (min xs.length ys.length) zs H->Q (.ref D) H):i6 (Itz K a b) gt k fr tt te σ Q H1:=by
 intro D hD;refine⟨λi m H=>m=min xs.length ys.length-i/\i<=min xs.length ys.length/\∃zs,Pv D i zs H,⟨_,U,zero_le _,[],h0 D hD⟩,?_⟩;rintro i m H ⟨rfl,hi,zs,p⟩;obtain⟨q1,q2⟩:=hk D i zs H hD hi p;by_cases hlt:i<min xs.length ys.length
 ·have ex:xs[i]?=some xs[i]:=BP (by lia);have ey:ys[i]?=some ys[i]:=BP (by lia);refine .inr ⟨⟨xs,ys,xs[i],ys[i],q1,q2,ex,ey⟩,λx H' y=>?_⟩;obtain⟨T,hT,rfl,e⟩:=y;rw[e xs ys _ _ q1 q2 ex ey];exact hs D i _ _ zs _ T hD ex ey p hT
 ·have e:i=min xs.length ys.length:=by lia
  subst e;exact .inl ⟨⟨xs,ys,q1,q2,by lia⟩,hd D zs H hD p⟩
theorem eN{X:Cx}{N:List Str}{k:Nat}{fr:List Nat}{scope:Scope}{cl:List (Str×Addr)}(clos:closureFor scope X.env=pure cl)(kind:scope.kind=.function)(nocell:∀y∈scope.names,y.2≠.cell)
  (names:∀y∈scope.names,y.2=.local->scope.names.lookup y.1=some .local)(len:N.length=k+fr.length)
  (sub:((List.range fr.length).all λi=>match N[k+i]?,fr[i]? with|some y,some j=>(X.N[j]? == some y) && ((X.env.kindOf y == some .cell) && ((relabel scope X.env).names.lookup y == some .cell))|_,_=>false)=true)
  (cells:∀p∈cl,X.env.cells.lookup p.1=some p.2)(has:((relabel scope X.env).names.all λp=>(p.2 != .cell && p.2 != .free) || (cl.lookup p.1).isSome)=true):kB X N k fr scope cl:=by
 refine⟨clos,kind,nocell,names,len,λi y e=>?_,λy c e=>cells _ (mem_of_lookup e),λy h=>?_⟩
 ·have hi:i<fr.length:=by have:=(BQ.mp e).1;lia
  have z:=all_eq_true.mp sub i (mem_range.mpr hi);rw[e,BP hi]at z;simp only[and_eq_true,beq_iff_eq]at z;exact⟨_,BP hi,z.1,.inl z.2.1,.inl z.2.2⟩
 ·have look:∀k,(relabel scope X.env).names.lookup y=some k->(k=.cell\/k=.free)->∃c,cl.lookup y=some c:=λk e hk=>by
   have z:=all_eq_true.mp has _ (mem_of_lookup e);rcases hk with rfl|rfl
   ·exact isSome_iff_exists.mp (by simpa using z)
   ·exact isSome_iff_exists.mp (by simpa using z)
  rcases h with h|h
  ·exact look _ h (.inl U)
  ·exact look _ h (.inr U)
theorem sV(bs:List Bool):(List.range bs.length).all (λi=>bs.getD i true)=bs.all id:=by
 rw[Bool.eq_iff_iff,all_eq_true,all_eq_true];constructor
 ·intro h b hb;obtain⟨i,hi,rfl⟩:=List.getElem_of_mem hb;have:=h i (mem_range.mpr hi);simpa[getD_eq_getElem?_getD,hi]using this
 ·intro h i hi;have hi':=mem_range.mp hi;have:=h bs[i] (getElem_mem hi');simpa[getD_eq_getElem?_getD,hi']using this
theorem mE{K:W.Frag}(hK:X.K=K){a:Expr}{ta:TE}(ha:PE X a ta)(he:∀whole,isTrue a X.env whole=(do let v ←whole;standAt a.pos;holding [v] (truthy v)):=by intro _;rfl) :
  PT X a (λσ H Q=>ta σ H λx H'=>∃k,vS K x H' k/\Q k H'):=hK ▸ dr ha he
theorem kS(hc:X.calm=true):cO X (.builtin "all") (λus H Q=>∃(a:Addr)(bs:List Bool),us=[.ref a]/\SqL X.K H a (bs.map V.bl)/\Q (.bl (bs.all id)) H):=by
 intro pins s σ H us vs Q I r h;obtain⟨a,bs,rfl,hq,q⟩:=h;obtain⟨u,rfl,rx⟩:=r.one;cases (show u=Value.ref a from rx);obtain⟨its,rv,pl,hz⟩:=I.list hq;have hl:=rv.length;rw[length_map]at hl;obtain⟨o,eo,_⟩:=id pl.isList;have la:a<s.heap.objs.size:=Heap.lt_size eo;refine call_all_walk (wpAny_pyIter_list pl.isList ⟨s.heap.objs.size,[s.heap.objs.size,a],[s.heap.objs.size],its.toArray.size,_,_,λi=>bs.getD i true,U,Walks.list (by simp[I.ok.hd hc]) _ a (ne_of_lt la) its.toArray,⟨⟨_,Heap.get?_push_size _ U,U,U⟩,pl.isList.push _⟩,?_,λh' tk k=>?_⟩)
 ·intro i v s2 Q2 E2 hp hq2;have e1:its[i]?=some v:=by simpa using hp
  have hi:i<bs.length:=by have:=(BQ.mp e1).1;lia
  obtain⟨u,e2,ru⟩:=rv.get (show(bs.map V.bl)[i]?=some (.bl bs[i]) by rw[getElem?_map,BP hi];rfl);rw[e1]at e2;cases e2;obtain rfl:v=.bool bs[i]:=ru;refine wpAny_truthy_bool ?_;have:bs.getD i true=bs[i]:=by simp[getD_eq_getElem?_getD,hi]
  replace hq2:Q2 (bs.getD i true) s2:=hq2
  rw[this]at hq2;exact hq2
 ·refine⟨.bl (bs.all id),H,I.kept (t':=tk) λb o e=>k b o (λz=>?_) (Heap.get?_push_of_some _ e),?_,q⟩
  ·have:b=s.heap.objs.size:=by simpa using z
   exact absurd (Heap.lt_size e) (by rw[this];exact lt_irrefl _)
  ·show Value.bool ((List.range its.toArray.size).all λi=>bs.getD i true)=.bool (bs.all id);rw[show its.toArray.size=bs.length by simp;lia,sV]
section
variable{elt iter:Expr}{ifs:List Expr}{cl:List (Str×Addr)}
theorem oM{wi:TI}{i:Nat}{y:Str}{py sM:Pos}(hN:X.N.Nodup)(hy:X.N[i]?=some y)(hl:Loc X.env.scope y)(hi:PI X tg iter wi)(O:kB X N k fr scope cl)(hc:X.calm=true)(hg:∀fp C s H,PG (bz X N scope cl fp C s H) tg gt)
  (ht:∀fp C s H,PIf (bz X N scope cl fp C s H) ifs tt)(he:∀fp C s H,PE (bz X N scope cl fp C s H) elt te)(hs:∀v,foldedSetIterable iter X.env v=pure v:=by intro _;rfl)
  (hsw:swapsWith (.ListComp elt [⟨tg,iter,ifs,0⟩] scope pos) (some (.Name y py)) sM.line X.env=pure true:=by rfl)(hf:X.fn y=true\/X.env.scope.names.lookup y=some .local:=by first|exact .inl U|exact .inr U|assumption) :
  PS X (.Assign [.Name y py] (.ListComp elt [⟨tg,iter,ifs,0⟩] scope pos) sM) (ue (sN wi gt k fr tt te) (ma i)):=by
 intro pins s σ H D0 I h;rw[exec_Assign_Name_used _ _ _ _ hsw];refine wpAny_bind (wpAny_standAt (wpAny_bind ?_));show wpAny _ X.A (do let _ ←comprehension (.ListComp elt [⟨tg,iter,ifs,0⟩] scope pos) scope X.env _ (newList []) false (eval iter X.env) (some (assign (.Name y py) X.env))) _ _ s;refine wpAny_bind (wpAny_mono (wpAny_comprehension_free (use:=some (assign (.Name y py) X.env)) (Q:=λ_ s'=>SP X pins D0 .next s') U hs O.clos O.kind O.names (thn (hi pins s σ H _ I h) λv s1 h1=>thn h1 λitv s2 h2=>?_)) (λ_ s' hq=>wpAny_pure (wpAny_pure hq)) λ_ _ z=>z);obtain⟨it,fp,tn,J,H2,e,I2,T,st2,f2,hW⟩:=h2;subst e;refine kC (Q:=λv H1=>ma i v σ H1 D0.nx) (RR:=λacc C=>compPost (model X.prog X.w) X.A X.xe (some (assign (.Name y py) X.env)) (λ_ s'=>SP X pins D0 .next s') acc C) O hc I2 T st2 f2 ht he hg hW λD C s' H' hC hn ⟨m,hm⟩ I' q=>?_
 show wpAny _ X.A (assign (.Name y py) X.env (.ref D)) _ _ s';refine wpAny_assign_Name (jn I' hN hy hl (v:=.ref D) U (λs3 I3 ⟨a,hsa,ha⟩=>?_) hf);have hCa:C≠a:=by
  rcases ha with z|z
  ·rw[z];exact ne_of_gt (lt_of_lt_of_le I2.lt hC)
  ·obtain⟨v,o,ho,_⟩:=I2.cell y a z;exact ne_of_gt (lt_of_lt_of_le (Heap.lt_size ho) hC)
 exact⟨m,hm.sameBut hsa hCa,λh' hs'=>⟨_,H',I2.left I3 hC hn hs',q⟩⟩
end
set_option maxRecDepth 100000
theorem kT{K:W.Frag}{a:Addr}{xs:List V}{g:TG}{tb:TS}{D:Ends}{σ:St}{H:Hp}(Pv:Nat->St->Hp->Prop)(h0:Pv 0 σ H)(hl:∀i σ H,Pv i σ H->SqL K H a xs)
  (hs:∀i x σ H T,xs[i]?=some x->Pv i σ H->H T=none->g (.ref T) σ (upd H T (.tup [.int i,x])) λσ2 H2=>tb { D with nx:=Pv (i+1),ct:=Pv (i+1),bk:=D.nx } σ2 H2)
  (hd:∀σ H,Pv xs.length σ H->D.nx σ H) :
  ∃W:Nat->Nat->St->Hp->Prop,(∃m,W 0 m σ H)/\∀i m σ H,W i m σ H ->
   ((Ite K a).stop i H/\D.nx σ H)\/((Ite K a).go i H/\∃N:St->Hp->Prop,(∀σ' H',N σ' H'->∃m',m'<m/\W (i+1) m' σ' H')/\∀x H',(Ite K a).yld i H x H'->g x σ H' λσ2 H2=>tb { D with nx:=N,ct:=N,bk:=D.nx } σ2 H2):=by
 refine⟨λi m σ H=>m=xs.length-i/\i<=xs.length/\Pv i σ H,⟨xs.length,by simp,zero_le _,h0⟩,?_⟩;rintro i m σ H ⟨rfl,hi,p⟩;have q1:=hl i σ H p;by_cases lt:i<xs.length
 ·have e1:xs[i]?=some xs[i]:=BP lt;refine .inr ⟨⟨xs,_,q1,e1⟩,Pv (i+1),λσ' H' p'=>⟨_,?_,U,lt,p'⟩,λv H' yl=>?_⟩
  ·lia
  ·obtain⟨T,hT,rfl,e⟩:=yl;rw[e xs _ q1 e1];exact hs i _ σ H T e1 p hT
 ·have e:i=xs.length:=by lia
  subst e;exact .inl ⟨⟨xs,q1,le_refl _⟩,hd σ H p⟩
structure zu(X:Cx)(N:List Str)(k:Nat)(fr:List Nat)(scope:Scope)(cl:List (Str×Addr)):Prop where
 clos:closureFor scope X.env=pure cl
 kind:scope.kind=.function
 names:∀y∈scope.names,y.2=.local->scope.names.lookup y.1=some .local
 len:N.length=k+fr.length
 sub:∀(i:Nat)(y:Str),N[k+i]?=some y->∃j,fr[i]?=some j/\X.N[j]?=some y/\(X.env.kindOf y=some .cell\/X.env.kindOf y=some .free)/\((relabel scope X.env).names.lookup y=some .cell\/(relabel scope X.env).names.lookup y=some .free)/\∃c,cl.lookup y=some c/\∀C:Addr,(cellsFrom (C+1) scope.names cl).lookup y=some c
 cells:∀y c,cl.lookup y=some c->X.env.cells.lookup y=some c
 has:∀(C:Addr)(y:Str),((relabel scope X.env).names.lookup y=some .cell\/(relabel scope X.env).names.lookup y=some .free)->∃c,(cellsFrom (C+1) scope.names cl).lookup y=some c
section
variable{elt iter:Expr}{ifs:List Expr}{cl:List (Str×Addr)}
end
abbrev TTh:HO:=.ext λ_=>True
theorem oN{P:Program}{w:World}{H:Hp}{h:Heap}{a:Addr}{o:Obj}(e:h.get? a=some o):cD P w H h a (.frz o TTh):=⟨e,trivial,⟨o,e⟩,λ_ _ _ _=>trivial⟩
def hideL(H:Hp)(cs:List Addr):Hp:=λb=>if b∈cs then none else H b
def gr(H:Hp)(fz:List (Addr×Obj)):Hp:=λb=>match fz.lookup b with
 |some o=>some (.frz o TTh)
 |none=>H b
def backL(H H':Hp)(cs:List Addr):Hp:=λb=>if b∈cs then H b else H' b
theorem jc{H:Hp}{cs:List Addr}{b:Addr}(h:b∈cs):hideL H cs b=none:=if_pos h
theorem bB{H:Hp}{cs:List Addr}{b:Addr}(h:b ∉ cs):hideL H cs b=H b:=if_neg h
theorem kU{H H':Hp}{cs:List Addr}{b:Addr}(h:b∈cs):backL H H' cs b=H b:=if_pos h
theorem b8{H H':Hp}{cs:List Addr}{b:Addr}(h:b ∉ cs):backL H H' cs b=H' b:=if_neg h
theorem fN{H:Hp}{cs:List Addr}{b:Addr}(h:H b=none):hideL H cs b=none:=by
 unfold hideL;split
 ·rfl
 ·exact h
theorem qe{H:Hp}{cs:List Addr}{b:Addr}{o:HO}(h:hideL H cs b=some o):b ∉ cs/\H b=some o:=by
 unfold hideL at h;split at h
 ·cases h
 ·rename_i n
  exact⟨n,h⟩
def Fzs(H:Hp)(cs:List Addr):Prop:=∀c∈cs,∃o,H c=some (.frz o TTh)
theorem Fzs.out{H:Hp}{cs:List Addr}(h:Fzs H cs){b:Addr}{u:HO}(e:H b=some u)(n:∀o,u≠.frz o TTh):b ∉ cs:=λz=>by
 obtain⟨o,q⟩:=h b z;rw[e]at q;exact n o (Option.some.inj q)
section
variable{cs:List Addr}
theorem HOk.hideL(x:HOk P w H h)(f:Fzs H cs):HOk P w (hideL H cs) h:=λb o e=>by
 obtain⟨n,e⟩:=qe e;refine(x b o e).stay (λ_ _ _ q=>q) (λc q=>?_) λc xs q=>?_
 ·rw[bB (f.out q λ_ z=>by cases z)];exact q
 ·rw[bB (f.out q λ_ z=>by cases z)];exact q
theorem HOk.backL(x:HOk P w H' h')(f:Fzs H cs)(n:∀c∈cs,H' c=none)(k:∀c∈cs,∀o,H c=some (.frz o TTh)->h'.get? c=some o):HOk P w (backL H H' cs) h':=λb o e=>by
 by_cases hb:b∈cs
 ·rw[kU hb]at e;obtain⟨ob,q⟩:=f b hb;rw[q]at e;cases e;exact oN (k b hb ob q)
 ·rw[b8 hb]at e;have out:∀{c:Addr}{u:HO},H' c=some u->c ∉ cs:=λ{c u} q z=>by rw[n c z]at q;cases q
  refine(x b o e).stay (λ_ _ _ q=>q) (λc q=>?_) λc xs q=>?_
  ·rw[b8 (out q)];exact q
  ·rw[b8 (out q)];exact q
theorem kW(s:ar (hideL H cs) H'):ar H (backL H H' cs):=λb o e=>by
 by_cases hb:b∈cs
 ·rw[kU hb];exact e
 ·rw[b8 hb];exact s b o (by rw[bB hb];exact e)
end
section
variable{fs:List Addr}{cs:List Addr}
theorem Un.backL(u:Un fs [] (hideL H cs) H' h h')(f:Fzs H cs):Un fs [] H (backL H H' cs) h h' where
 keep:=λb o e n hb hx=>u.keep b o e (fN n) hb hx
 slot:=λb o e n hb hx=>u.slot b o e (fN n) hb hx
 free:=λb o e n hx=>by
  have:b ∉ cs:=λz=>by obtain⟨ob,q⟩:=f b z;rw[n]at q;cases q
  rw[b8 this];exact u.free b o e (fN n) hx
 there:=u.there
 tups:=λb xs e=>by
  have hb:=f.out e λ_ z=>by cases z
  rw[b8 hb];exact u.tups b xs (by rw[bB hb];exact e)
 frzs:=λb o v e=>by
  by_cases hb:b∈cs
  ·rw[kU hb];exact e
  ·rw[b8 hb];exact u.frzs b o v (by rw[bB hb];exact e)
 tbls:=λb ps e=>by
  have hb:=f.out e λ_ z=>by cases z
  rw[b8 hb];exact u.tbls b ps (by rw[bB hb];exact e)
end
def oO(oc:Obj)(qual:Str):Prop:=∃vs t,oc.data=.fields vs/\vs[1]?=some (.str qual t)
structure ni(N ps:List Str)(sc:Scope)(cl:List (Str×Addr)):Prop where
 kind:sc.kind=.function
 co:sc.isCoroutine=false
 gen:sc.isGenerator=false
 nd:N.Nodup
 pre:N.take ps.length=ps
 par:∀x∈ps,sc.names.lookup x=some .local
 nocell:∀y∈sc.names,y.2≠.cell
 has:∀y∈sc.names,y.2=.free->∃c,cl.lookup y.1=some c
def cxC(CX:CXT)(P:Program)(w:World)(K:W.Frag)(mg:Str->Option Value)(base:Heap)(N:List Str)(qual:Str)(scope:Scope)(f:Addr)(cd:Value)(cl:List (Str×Addr))(A:Around)(outer:List Env)(s:Shared)(H:Hp)(E:XK):Cx where
 prog:=P
 w:=w
 K:=K
 mg:=mg
 base:=base
 A:=A.deeper (W.envX qual scope s.heap.objs.size f cd cl)
 N:=N
 s₀:=s
 H₀:=hideL H (cl.map (·.2))
 env:=W.envX qual scope s.heap.objs.size f cd cl
 outer:=outer
 stack:=W.envX qual scope s.heap.objs.size f cd cl :: outer
 ex:=[]
 calm:=true
 fn:=λ_=>false
 pn:=[]
 xe:=λe s'=>wpAny (model P w) (A.deeper (W.envX qual scope s.heap.objs.size f cd cl)) (leaving (W.envX qual scope s.heap.objs.size f cd cl) e) (λ_ s''=>CX outer H s E e s'') (λe' s''=>CX outer H s E e' s'') s'
def eO(H:Hp)(cl:List (Str×Addr))(ws:List (Str×V)):Prop :=
 (∀c∈cl.map (·.2),∃o v,H c=some (.frz o TTh)/\o.data=.cell v)/\∀(x:Str)(v:V),ws.lookup x=some v->∃c o u,cl.lookup x=some c/\H c=some (.frz o TTh)/\o.data=.cell (some u)/\RelV v u
theorem eO.fzs{H:Hp}{cl:List (Str×Addr)}{ws:List (Str×V)}(h:eO H cl ws):Fzs H (cl.map (·.2)):=λc hc=>let ⟨o,_,e,_⟩:=h.1 c hc;⟨o,e⟩
theorem eO.same{H H':Hp}{cl:List (Str×Addr)}{ws:List (Str×V)}(h:eO H cl ws)(s:ar H H'):eO H' cl ws :=
 ⟨λc hc=>let ⟨o,v,e,d⟩:=h.1 c hc;⟨o,v,s _ _ e,d⟩,λx v e=>let ⟨c,o,u,a,b,d,r⟩:=h.2 x v e;⟨c,o,u,a,s _ _ b,d,r⟩⟩
def jC(N ps:List Str)(vs:List V)(ws:List (Str×V)):St:=vs.map some++(N.drop ps.length).map λx=>ws.lookup x
theorem kX{cl:List (Str×Addr)}{x:Str}{c:Addr}(h:cl.lookup x=some c):c∈cl.map (·.2):=mem_map.mpr ⟨(x,c),mem_of_lookup h,U⟩
theorem qf{ps:List Str}{us:List Value}{i:Nat}{y:Str}{u:Value}(nd:ps.Nodup)(h1:ps[i]?=some y)(h2:us[i]?=some u)(hl:us.length=ps.length):(ps.zip us).reverse.lookup y=some u:=by
 have hnd:((ps.zip us).map (·.1)).Nodup:=by rw[map_fst_zip (by lia)];exact nd
 rw[PySem.lookup_reverse_of_nodup _ hnd];have hm:(y,u)∈ps.zip us:=by
  have:(ps.zip us)[i]?=some (y,u):=by rw[List.getElem?_zip_eq_some];exact⟨h1,h2⟩
  exact BR this
 cases e:(ps.zip us).lookup y with
 |none =>
  exact absurd hm (by
   intro hm;have:=List.lookup_eq_none_iff.mp e (y,u) hm;simp at this)
 |some v =>
  have:=mem_of_lookup e;obtain⟨j,ej⟩:=getElem?_of_mem this;rw[List.getElem?_zip_eq_some]at ej;have:=i3 nd ej.1 h1;subst this;rw[h2]at ej;rw[Option.some.inj ej.2]
def HFn(P:Program)(w:World)(K:W.Frag)(mg:Str->Option Value)(base:Heap)(k:Nat)(f:Addr)(sp:Sp):Prop:=∃fd ps,aK P w K mg base CX0 k f fd ps sp/\Binds K fd ps []
def FnO(H:Hp)(f:Addr):Prop:=∃o fd,H f=some (.frz o TTh)/\o.data=.func fd
inductive ve(X:Cx)(k i:Nat)(t:TA)(σ:St)(H:Hp)(Q:VK):Prop
 |mk (f:Addr)(sp:Sp)(_:σ[i]?=some (some (.ref f)))(_:FnO H f)(_:HFn X.prog X.w X.K X.mg X.base k f sp)(_:t σ H λvs H1=>FnO H1 f/\sp vs H1 Q E0):ve X k i t σ H Q
theorem ux(hr:bT k X.A)(hN:X.N[i]?=some x)(hv:Vis X.env.scope x)(ha:PA X (e :: es) t)(hd:(x == ("__debug__" : Str))=false:=by decide) (hcd:(x == ("__classdict__" : Str))=false:=by decide)
  (he:starEach (e :: es) X.env=(false,eval e X.env) :: starEach es X.env:=by rfl)(hpl:(backTo pos (starEach es X.env)).any (·.1)=false:=by rfl):PE X (.Call (.Name x p) (e :: es) [] pos) (ve X k i t):=by
 intro pins s σ H Q I h;obtain⟨f,sp,ef,fo,⟨fd,pn,F,hb⟩,h⟩:=h;have at_:∀{H:Hp}{s:Shared}{σ:St},Inv X pins σ H s->FnO H f->W.FnAt f s.heap:=λI' ⟨o,fd,e,d⟩=>by
  have:=(I'.hok f _ e).1;obtain⟨oc,od,dt,sl⟩:=o;simp only at d;subst d;exact⟨oc,od,fd,sl,this⟩
 refine wpAny_Call_Name_kw (thn (rY hN hv hd hcd pins s σ H (λv H'=>v=.ref f/\H'=H) I ⟨_,ef,U,U⟩) λu s1 ⟨v,H1,I1,r1,q1⟩=>?_);obtain⟨rfl,rfl⟩:=q1;cases (show u=Value.ref f from r1);refine W.callWith_F (at_ I1 fo) (thn (ha pos pins s1 σ H1 _ I1 h) λus s2 ⟨vs,H2,I2,r2,fo2,q2⟩=>⟨at_ I2 fo2,?_⟩) he hpl;exact pU (E:=E0) (dvs:=[]) (ds:=[]) F hr hb .nil bP I2 r2 (by rw[append_nil];exact q2)
theorem ck{H:Hp}{fz:List (Addr×Obj)}{b:Addr}(h:b ∉ fz.map (·.1)):gr H fz b=H b:=by
 unfold gr;cases e:fz.lookup b with
 |none=>rfl
 |some o=>exact absurd (mem_map.mpr ⟨(b,o),W.mem_of_lookupK e,U⟩) h
theorem fO{H:Hp}{fz:List (Addr×Obj)}{b:Addr}(h:b∈fz.map (·.1)):∃o,(b,o)∈fz/\gr H fz b=some (.frz o TTh):=by
 unfold gr;cases e:fz.lookup b with
 |none =>
  obtain⟨⟨b',o⟩,hm,rfl⟩:=mem_map.mp h;have:=List.lookup_eq_none_iff.mp e _ hm;simp at this
 |some o=>exact⟨o,W.mem_of_lookupK e,U⟩
structure nj(X:Cx)(s:Shared)(fz:List (Addr×Obj)):Prop where
 cell:∀p∈fz,∃x,X.env.cells.lookup x=some p.1
 nb:∀p∈fz,X.base.get? p.1=none
 nf:∀p∈fz,p.1 ∉ X.fs
 at_:∀p∈fz,s.heap.get? p.1=some p.2
theorem nj.free{fz:List (Addr×Obj)}(z:nj X s fz)(I:Inv X pins σ H s):∀b∈fz.map (·.1),H b=none:=λb hb=>by
 obtain⟨p,hp,rfl⟩:=mem_map.mp hb;obtain⟨x,e⟩:=z.cell p hp;exact I.freeC x _ e
theorem nj.hok{fz:List (Addr×Obj)}(z:nj X s fz)(I:Inv X pins σ H s):HOk X.prog X.w (gr H fz) s.heap:=λb u e=>by
 by_cases hb:b∈fz.map (·.1)
 ·obtain⟨o,hm,q⟩:=fO (H:=H) hb;rw[q]at e;cases e;exact oN (z.at_ _ hm)
 ·rw[ck hb]at e;have out:∀{d:Addr}{u:HO},H d=some u->gr H fz d=some u:=λ{d u} q=>by
   rw[ck λm=>by rw[z.free I d m]at q;cases q];exact q
  exact(I.hok b u e).stay (λ_ _ _ q=>q) (λd q=>out q) λd xs q=>out q
theorem nj.env0{fz:List (Addr×Obj)}(z:nj X s fz)(I:Inv X pins σ H s):oh X.prog X.w X.K X.mg X.base X.A X.stack s (gr H fz):=by
 have e:=I.env0;refine⟨e.frames,e.mod,λb o q=>⟨(e.bs b o q).1,?_⟩,e.bsz,e.funs,λb hb=>?_,z.hok I,e.bare⟩
 ·rw[ck λm=>?_]
  ·exact(e.bs b o q).2
  ·obtain⟨p,hp,rfl⟩:=mem_map.mp m;rw[z.nb p hp]at q;cases q
 ·rw[ck λm=>?_]
  ·exact e.frf b hb
  ·obtain⟨p,hp,rfl⟩:=mem_map.mp m;rcases mem_cons.mp (I.stkSub _ hb)with q|q
   ·obtain⟨x,ex⟩:=z.cell p hp;exact I.cne x _ ex q
   ·exact z.nf p hp q
theorem Inv.cellNew(I:Inv X pins σ H s){x:Str}{c:Addr}(e:X.env.cells.lookup x=some c)(hf:X.fn x=true):X.base.get? c=none/\c ∉ X.fs:=by
 have old:=I.ok.cab x c hf e;refine⟨Heap.get?_none_of_le (le_trans I.ok.bsz old),λq=>?_⟩;obtain⟨_,o,ho,_⟩:=I.ok.funs.mem q;exact absurd (Heap.lt_size ho) (not_lt.mpr old)
theorem nj.after{fz:List (Addr×Obj)}{Q:VK}{u:Value}{s':Shared}(z:nj X s fz)(I:Inv X pins σ H s)(h:CE X.stack X.prog X.w (gr H fz) s (λv H2=>Q v (hideL H2 (fz.map (·.1)))) u s'):EP X pins σ Q u s':=by
 obtain⟨v,H2,os,bare,un,hok,r,q⟩:=h;have fzs:Fzs H2 (fz.map (·.1)):=λc hc=>by
  obtain⟨o,_,e⟩:=fO (H:=H) hc;exact⟨o,un.frzs c o _ e⟩
 have out:∀{d:Addr}{u:HO},H d=some u->d ∉ fz.map (·.1):=λ{d u} q m=>by rw[z.free I d m]at q;cases q
 refine⟨v,hideL H2 (fz.map (·.1)),I.call' (ch:=[]) os ⟨λb o e n hb hx=>?_,λb o e n hb hx=>?_,λb o e n hx=>?_,un.there,λb xs e=>?_,λb o w' e=>?_,λb ps e=>?_⟩ (hok.hideL fzs) bare (λb hb=>absurd hb (by simp)),r,q⟩
 ·by_cases hm:b∈fz.map (·.1)
  ·obtain⟨ob,wx,q2⟩:=fO (H:=H) hm;have:=(hok b _ (un.frzs b ob _ q2)).1;have e':=z.at_ _ wx;rw[e]at e';cases e';exact this
  ·exact un.keep b o e (by rw[ck hm];exact n) hb hx
 ·by_cases hm:b∈fz.map (·.1)
  ·obtain⟨ob,wx,q2⟩:=fO (H:=H) hm;have:=(hok b _ (un.frzs b ob _ q2)).1;have e':=z.at_ _ wx;rw[e]at e';cases e';exact⟨_,this⟩
  ·exact un.slot b o e (by rw[ck hm];exact n) hb hx
 ·by_cases hm:b∈fz.map (·.1)
  ·exact jc hm
  ·rw[bB hm];exact un.free b o e (by rw[ck hm];exact n) hx
 ·have hm:=out e;rw[bB hm];exact un.tups b xs (by rw[ck hm];exact e)
 ·have hm:=out e;rw[bB hm];exact un.frzs b o w' (by rw[ck hm];exact e)
 ·have hm:=out e;rw[bB hm];exact un.tbls b ps (by rw[ck hm];exact e)
def tZ(zs:List (Str×Nat×Addr))(sp:Sp)(t:TA):TE:=λσ H Q=>t σ H λvs H1=>∀os:List Obj,os.length=zs.length->(∀z∈zs,H1 z.2.2=none) ->
 (∀(j:Nat)(z:Str×Nat×Addr),zs[j]?=some z->∃o w,os[j]?=some o/\o.data=.cell w/\∀v,σ[z.2.1]?=some (some v)->∃u,w=some u/\RelV v u) ->
 sp vs (gr H1 ((zs.map (·.2.2)).zip os)) (λv H2=>Q v (hideL H2 (zs.map (·.2.2)))) E0
theorem mF{pins:List (Addr×Obj)}{σ:St}{H:Hp}{s:Shared}(I:Inv X pins σ H s):∀(zs:List (Str×Nat×Addr)),(∀z∈zs,X.N[z.2.1]?=some z.1/\(X.env.scope.names.lookup z.1=some .cell\/X.env.scope.names.lookup z.1=some .free)/\X.env.cells.lookup z.1=some z.2.2/\(X.fn z.1=true\/(X.base.get? z.2.2=none/\z.2.2 ∉ X.fs))) ->
  ∃os:List Obj,os.length=zs.length/\(∀(j:Nat)(z:Str×Nat×Addr),zs[j]?=some z->∃o w,os[j]?=some o/\s.heap.get? z.2.2=some o/\o.data=.cell w/\∀v,σ[z.2.1]?=some (some v)->∃u,w=some u/\RelV v u)
 | [],_=>⟨[],U,λj z e=>by simp at e⟩
 |z :: zs,h=>by
  obtain⟨os,hl,ho⟩:=mF I zs λq hq=>h q (mem_cons_of_mem _ hq)
  obtain⟨h1,h2,h3,h4⟩:=h z mem_cons_self;obtain⟨w,o,e,d⟩:=I.cell _ _ h3;refine⟨o :: os,by rw[length_cons,length_cons,hl],λj q hq=>?_⟩
  match j,hq with
  |0,hq =>
   cases hq;refine⟨o,w,U,e,d,λv hv=>?_⟩;obtain⟨m,hn,zw⟩:=I.loc;obtain⟨u,r,l⟩:=zw _ _ v h1 hv (.inr h2);rcases l with⟨hk,_⟩|⟨_,c,hc,o',e',d'⟩
   ·have hk:X.env.scope.names.lookup z.1=some .local:=hk;rcases h2 with h2|h2 <;> rw[h2]at hk <;> cases hk
   ·rw[h3]at hc;cases hc;rw[e]at e';cases e';rw[d]at d';injection d' with d';exact⟨u,d',r⟩
  |j+1,hq=>exact ho j q (by simpa using hq)
theorem wz{pins:List (Addr×Obj)}{σ:St}{H:Hp}{s:Shared}{zs:List (Str×Nat×Addr)}{os:List Obj}(I:Inv X pins σ H s)
  (hz:∀z∈zs,X.N[z.2.1]?=some z.1/\(X.env.scope.names.lookup z.1=some .cell\/X.env.scope.names.lookup z.1=some .free)/\X.env.cells.lookup z.1=some z.2.2/\(X.fn z.1=true\/(X.base.get? z.2.2=none/\z.2.2 ∉ X.fs)))(hl:os.length=zs.length)
  (ho:∀(j:Nat)(z:Str×Nat×Addr),zs[j]?=some z->∃o w,os[j]?=some o/\s.heap.get? z.2.2=some o/\o.data=.cell w/\∀v,σ[z.2.1]?=some (some v)->∃u,w=some u/\RelV v u):nj X s ((zs.map (·.2.2)).zip os):=by
 have at_:∀p∈(zs.map (·.2.2)).zip os,∃z∈zs,z.2.2=p.1/\s.heap.get? p.1=some p.2:=λp hp=>by
  obtain⟨j,ej⟩:=getElem?_of_mem hp;rw[List.getElem?_zip_eq_some,getElem?_map]at ej;cases ez:zs[j]? with
  |none=>rw[ez]at ej;cases ej.1
  |some z =>
   rw[ez]at ej;have e1:z.2.2=p.1:=Option.some.inj ej.1;obtain⟨o,w,e2,e3,_⟩:=ho j z ez;rw[ej.2]at e2;cases e2;exact⟨z,BR ez,e1,e1 ▸ e3⟩
 have new:∀z∈zs,X.base.get? z.2.2=none/\z.2.2 ∉ X.fs:=λz hm=>by
  obtain⟨_,_,h3,h4⟩:=hz z hm;rcases h4 with h4|h4
  ·exact I.cellNew h3 h4
  ·exact h4
 refine⟨λp hp=>?_,λp hp=>?_,λp hp=>?_,λp hp=>?_⟩
 ·obtain⟨z,hm,e,_⟩:=at_ p hp;exact⟨z.1,e ▸ (hz z hm).2.2.1⟩
 ·obtain⟨z,hm,e,_⟩:=at_ p hp;rw[←e];exact(new z hm).1
 ·obtain⟨z,hm,e,_⟩:=at_ p hp;rw[←e];exact(new z hm).2
 ·obtain⟨z,hm,e,e2⟩:=at_ p hp;exact e2
theorem sW{zs:List (Str×Nat×Addr)}(C:Callee X.prog X.w X.K X.mg X.base k x ps sp)(hr:bT k X.A)(hg:Gl X x)(ha:PA X (e :: es) t)(hz:∀z∈zs,X.N[z.2.1]?=some z.1/\(X.env.scope.names.lookup z.1=some .cell\/X.env.scope.names.lookup z.1=some .free)/\X.env.cells.lookup z.1=some z.2.2/\(X.fn z.1=true\/(X.base.get? z.2.2=none/\z.2.2 ∉ X.fs)))
  (hdb:(x == ("__debug__" : Str))=false:=by decide) (he:starEach (e :: es) X.env=(false,eval e X.env) :: starEach es X.env:=by rfl)(hpl:(backTo pos (starEach es X.env)).any (·.1)=false:=by rfl):PE X (.Call (.Name x p) (e :: es) [] pos) (tZ zs sp t):=by
 obtain⟨f,fd,F,b,kk,m⟩:=C;intro pins s σ H Q I h;refine wpAny_Call_Name_kw (gJ I hg m ?_ hdb);refine W.callWith_K (h₀:=X.base) I.ok.mod.kin kk (thn (ha pos pins s σ H _ I h) λus s1 ⟨vs,H1,I1,r,q⟩=>⟨I1.kIn,?_⟩) he hpl;obtain⟨os,hl,ho⟩:=mF I1 zs hz;have wA:((zs.map (·.2.2)).zip os).map (·.1)=zs.map (·.2.2):=map_fst_zip (by rw[length_map];lia);have zok:=wz I1 hz hl ho;have hs:=q os hl (λz hm=>I1.freeC z.1 _ (hz z hm).2.2.1) λj z ez=>let ⟨o,w,a1,_,a3,a4⟩:=ho j z ez;⟨o,w,a1,a3,a4⟩
 have hlu:us.length=ps.length:=by rw[←r.length];exact F.len _ _ _ _ hs
 refine wpAny_call (codeAny_mono (F.run X.A X.stack s1 _ ⟨us,[]⟩ us vs _ E0 hr (zok.env0 I1) (by have:=b s1 us I1.kIn (by rw[append_nil];exact hlu);rw[append_nil]at this;exact this) r hs) λr' s' hq=>?_);cases r' with
 |error e=>exact bP pins σ H1 s1 e s' I1 hq
 |ok fl =>
  cases fl with
  |ret u =>
   have hq:CE X.stack X.prog X.w _ s1 _ u s':=hq;refine zok.after I1 ?_;rw[wA];exact hq
  |next=>exact False.elim hq
  |brk=>exact False.elim hq
  |cont=>exact False.elim hq
def sX(tabs:List (Addr×Addr))(H:Hp):Prop:=∀b,H b=none\/(∃o xs,H b=some (.frz o (.lst xs)))\/(b∈tabs.map (·.2)/\H b=some (.tbl #[]))
theorem rE{P:Program}{w:World}{K:W.Frag}{mg mb:Str->Option Value}{CX:CXT}{k:Nat}{fa a:Addr}{fd:FuncData}{x:Str}{sp:Sp}{s₁:Shared}{vs:List Value}{ns:List Int}{tabs:List (Addr×Addr)}
  (KX:K.In s₁.heap)(hns:s₁.heap.Ns mainGlobals mg)(hb:s₁.heap.Ns builtinsNs mb)(hbb:∀x:Str,x ≠ "__name__" -> mb x=bootBuiltins x) (zy:s₁.heap.NoLimit)(hg:s₁.gens = #[])
  (ha:s₁.heap.get? a=some { cls:=.type "list",data:=.seq vs.toArray }) (hi:IntsAre vs ns)(hl:ns.length<=sizeLine)(hr:bT k callerA)
  (hT:TabsAt tabs s₁.heap)(hnK:noTabs K=true)(hbm:∃bm ob,mg "__builtins__" = some (.ref bm)/\bm≠builtinsNs/\s₁.heap.get? bm=some ob/\ob.cls=.type "module" /\ ob.dict=some builtinsNs/\ob.data=.plain)
  (F:∀base:Heap,K.In base->base.Ns mainGlobals mg->(∀q∈tabs,CodeHd base q.1 q.2/\base.BuiltinsAt mg q.2)->aK P w K mg base CX k fa fd [x] sp)(xV:∀(s:Shared)(u:Value),BindsTo s fd ⟨[u],[]⟩ [(x,u)])
  (hsp:∀H:Hp,sX tabs H->SqL K H a (ns.map V.int)->(∀q∈tabs,H q.2=some (.tbl #[]))->sp [.ref a] H (λv _=>v=.bl true) λ_ _ _=>False)
  (hCX:∀H e s',CX [] H s₁ (λ_ _ _=>False) e s'->False) :
  codeAny (model P w) callerA (.call (.ref fa) ⟨[.ref a],[]⟩) (λr s'=>r=.ok (.ret (.bool true))/\OldK s₁.heap s'.heap/\s'.os=s₁.os/\AllBare s'.gens) s₁:=by
 have rv:=mm hi;have zz:=hi.length;have rF:∀b∈tabs.map (·.2),s₁.heap.get? b=some (tabObj #[]):=λb hb'=>by
  obtain⟨q,hq,rfl⟩:=mem_map.mp hb';exact(hT q hq).2
 have aT:a ∉ tabs.map (·.2):=λz=>by
  have e:=rF a z;rw[ha]at e;cases e
 have core:∀H:Hp,sX tabs H->SqL K H a (ns.map V.int)->HOk P w H s₁.heap->(∀b,H b≠none->b=a\/b∈tabs.map (·.2))->(H a≠none->K.lookup a=none)->(∀q∈tabs,H q.2=some (.tbl #[])) ->
   codeAny (model P w) callerA (.call (.ref fa) ⟨[.ref a],[]⟩) (λr s'=>r=.ok (.ret (.bool true))/\OldK s₁.heap s'.heap/\s'.os=s₁.os/\AllBare s'.gens) s₁:=by
  intro H hO hS hok hA hK hTb;have ki:∀{b:Addr}{o:Obj},s₁.heap.get? b=some o->H b=none->(km s₁.heap H).get? b=some o:=λe n=>rX e n
  have noO:∀{b:Addr}{o:Obj},s₁.heap.get? b=some o->(b=a->False)->o≠tabObj #[]->H b=none:=λ{b o} e n1 n2=>by
   cases q:H b with
   |none=>rfl
   |some u =>
    rcases hA b (by rw[q];simp)with z|z
    ·exact(n1 z).elim
    ·have:=rF b z;rw[e]at this;exact absurd (Option.some.inj this) n2
  have noA:∀{b:Addr}{o:Obj}{es:Array DictEntry}{ep:Nat},s₁.heap.get? b=some o->o.data=.dict es ep->H b=none:=λ{b o es ep} e d=>noO e (λz=>by
   subst z;rw[ha]at e;cases e;have d':Data.seq vs.toArray _=Data.dict es ep:=d;cases d') (λz=>by rw[z]at d;cases d)
  have noC:∀{b:Addr}{o:Obj}{T:String},s₁.heap.get? b=some o->o.cls=.type T->T ≠ "list" -> H b=none:=λ{b o T} e d hT'=>noO e (λz=>by
   subst z;rw[ha]at e;cases e;have d':Value.type "list" = Value.type T:=d;injection d' with d';exact hT' d'.symm) (λz=>by rw[z]at d;cases d)
  have nsK:∀{b:Addr}{m:Str->Option Value},s₁.heap.Ns b m->(km s₁.heap H).Ns b m:=λ{b m} ⟨o,es,ep,e,d,r⟩=>⟨o,es,ep,ki e (noA e d),d,r⟩
  have hKb:K.In (km s₁.heap H):=λb o e=>ki (KX b o e) (by
   cases q:H b with
   |none=>rfl
   |some u =>
    rcases hA b (by rw[q];simp)with z|z
    ·subst z;rw[hK (by rw[q];simp)]at e;cases e
    ·have e2:=rF b z;rw[KX b o e]at e2;cases e2;have h2:=all_eq_true.mp hnK (b,tabObj #[]) (mem_of_lookupK e);exact absurd (show false=true from h2) Bool.false_ne_true)
  have hM:Mod K mg (km s₁.heap H):=⟨hKb,nsK hns,⟨mb,nsK hb,hbb⟩,let ⟨mc,h1,h2⟩:=zy;⟨mc,nsK h1,h2⟩⟩;have e0:oh P w K mg (km s₁.heap H) callerA [] s₁ H:=⟨U,hM,λb o e=>uc e,Nat.le_of_eq (qU _ _),trivial,λb hb=>absurd (show b∈([]:List Addr)from hb) (by simp),hok,.of_eq hg⟩;have hTB:∀q∈tabs,CodeHd (km s₁.heap H) q.1 q.2/\(km s₁.heap H).BuiltinsAt mg q.2:=λq hq=>by
   obtain⟨o,vs',file,tf,flags,tg,inF,text,tt,e1,r1,r2⟩:=(hT q hq).1;obtain⟨bm,ob,b1,b2,b3,b4,b5,b6⟩:=hbm;refine⟨⟨o,vs',file,tf,flags,tg,inF,text,tt,ki e1 (noC e1 r1 (by decide)),r1,r2⟩,bm,ob,b1,b2,λz=>?_,λz=>?_,ki b3 (noC b3 b4 (by decide)),b4,b5,b6⟩
   ·obtain⟨o',es,ep,e,d,_⟩:=hns;rw[z,e]at b3;cases b3;rw[d]at b6;cases b6
   ·have e2:=(hT q hq).2;rw[z,e2]at b3;cases b3;cases b4
  refine codeAny_mono ((F _ hKb (nsK hns) hTB).run callerA [] s₁ H ⟨[.ref a],[]⟩ [.ref a] [.ref a] _ _ hr e0 (xV s₁ (.ref a)) (.cons U .nil) (hsp H hO hS hTb)) λr s' h=>?_
  cases r with
  |error e=>exact(hCX H e s' h).elim
  |ok fl =>
   cases fl with
   |next=>exact False.elim h
   |brk=>exact False.elim h
   |cont=>exact False.elim h
   |ret u =>
    obtain⟨v,H',os,bare,un,xW,r',q⟩:=h;have q':v=.bl true:=q;subst q';obtain rfl:u=Value.bool true:=r';have kept:∀b o,b ∉ tabs.map (·.2)->s₁.heap.get? b=some o->s'.heap.get? b=some o:=λb o hb' e=>by
     cases q:H b with
     |none=>exact un.keep b o e q (by intro z;exact absurd (show b∈([]:List Addr)from z) (by simp)) (by simp)
     |some u =>
      rcases hO b with z|⟨ob,xs,z⟩|⟨z,_⟩
      ·rw[q]at z;cases z
      ·have z2:=un.frzs b ob _ z;obtain⟨e1,_⟩:=hok b _ z;obtain⟨e2,_⟩:=xW b _ z2;rw[e]at e1;cases e1;exact e2
      ·exact absurd z hb'
    have grown:∀b∈tabs.map (·.2),isCodeTable s₁.heap b/\∃more,s'.heap.get? b=some (tabObj more):=λb hb'=>by
     obtain⟨qq,hq,rfl⟩:=mem_map.mp hb';obtain⟨more,e⟩:=un.tbls _ _ (hTb qq hq);have e2:s'.heap.get? qq.2=some (tabObj (#[]++more)):=xW _ _ e;exact⟨((hT qq hq).1.tab (hT qq hq).2).isCodeTable,_,e2⟩
    refine⟨U,⟨λb o e=>?_,λb o e=>?_⟩,os,bare⟩
    ·by_cases hb':b∈tabs.map (·.2)
     ·obtain⟨ht,more,e2⟩:=grown b hb';have e3:=rF b hb';rw[e]at e3;cases e3;exact .inr (.inl ⟨ht,U,#[],more,U,by rw[Array.empty_append];exact e2⟩)
     ·exact .inl (kept b o hb' e)
    ·by_cases hb':b∈tabs.map (·.2)
     ·obtain⟨_,more,e2⟩:=grown b hb';exact⟨_,e2⟩
     ·exact⟨o,kept b o hb' e⟩
 cases hk:K.lookup a with
 |some o =>
  have e:=KX a o hk;rw[ha]at e;cases e;refine core (λb=>if b∈tabs.map (·.2)then some (.tbl #[])else none) (λb=>?_) (.inr ⟨_,vs.toArray,_,hk,U,U,U,by rw[size_toArray,zz];exact hl,by simpa using rv⟩) (λb u z=>?_) (λb z=>?_) (λz=>absurd (if_neg aT) z) λq hq=>if_pos (mem_map.mpr ⟨q,hq,U⟩)
  ·by_cases hb':b∈tabs.map (·.2)
   ·exact .inr (.inr ⟨hb',if_pos hb'⟩)
   ·exact .inl (if_neg hb')
  ·by_cases hb':b∈tabs.map (·.2)
   ·have z':=(if_pos hb').symm.trans z;cases z';exact rF b hb'
   ·have z':=(if_neg hb').symm.trans z;cases z'
  ·by_cases hb':b∈tabs.map (·.2)
   ·exact .inr hb'
   ·exact absurd (if_neg hb') z
 |none =>
  refine core (λb=>if b=a then some (.frz { cls:=.type "list",data:=.seq vs.toArray } (.lst (ns.map V.int)))else if b∈tabs.map (·.2)then some (.tbl #[])else none) (λb=>?_) (.inl (.inr ⟨{ cls:=.type "list",data:=.seq vs.toArray },if_pos U⟩)) (λb u z=>?_) (λb z=>?_) (λ_=>hk) λq hq=>?_
  ·by_cases hb':b=a
   ·exact .inr (.inl ⟨_,_,if_pos hb'⟩)
   ·by_cases hc:b∈tabs.map (·.2)
    ·exact .inr (.inr ⟨hc,(if_neg hb').trans (if_pos hc)⟩)
    ·exact .inl ((if_neg hb').trans (if_neg hc))
  ·by_cases hb':b=a
   ·have z':=(if_pos hb').symm.trans z;cases z';subst hb';exact⟨ha,by rw[length_map];exact hl,vs,_,rv,ha⟩
   ·by_cases hc:b∈tabs.map (·.2)
    ·have z':=((if_neg hb').trans (if_pos hc)).symm.trans z;cases z';exact rF b hc
    ·have z':=((if_neg hb').trans (if_neg hc)).symm.trans z;cases z'
  ·by_cases hb':b=a
   ·exact .inl hb'
   ·by_cases hc:b∈tabs.map (·.2)
    ·exact .inr hc
    ·exact absurd ((if_neg hb').trans (if_neg hc)) z
  ·have hm:q.2∈tabs.map (·.2):=mem_map.mpr ⟨q,hq,U⟩;have hne:q.2≠a:=λz=>aT (z ▸ hm)
   exact(if_neg hne).trans (if_pos hm)
theorem walk_ofT{l:W.OpenLaw}{n k:Nat}{q:Program}{loose:List Str}{XP:(Str->Option Value)->Heap->Prop}{YP:World->Heap->Prop}{d:DefRec}{K:Params->W.Frag}{CX:World->CXT}{sp:World->Sp}{x:Str}{tabs:Params->List (Addr×Addr)}{xs:List Str}
  (hn:l.most=some n)(hn2:n<=sizeLine)(hdf:d.params.defaults=[])(hr:bT k callerA)
  (hY:∀(w:World)(h:Heap),YP w h->(K w.params).In h)(hnK:∀p:Params,noTabs (K p)=true)
  (hxs:∀y∈xs,∃d',(recsOf q).find? (λe=>e.name == y)=some d')(uy:∀p:Params,∀t∈tabs p,∃y∈xs,tabIn (K p) y=some t)
  (F:∀(w:World)(mg:Str->Option Value)(fa:Addr)(h:Heap),(K w.params).In h->h.Ns mainGlobals mg->mg d.name=some (.ref fa) ->
   ∃fd:FuncData,(∀(s:Shared)(u:Value),BindsTo s fd ⟨[u],[]⟩ [(x,u)]) /\
    ∀base:Heap,(K w.params).In base->base.Ns mainGlobals mg->(∀q∈tabs w.params,CodeHd base q.1 q.2/\base.BuiltinsAt mg q.2)->aK l.prog w (K w.params) mg base (CX w) k fa fd [x] (sp w))
  (hsp:∀(w:World)(H:Hp)(a:Addr)(ns:List Int),ns.length<=n->sX (tabs w.params) H->SqL (K w.params) H a (ns.map V.int)->(∀q∈tabs w.params,H q.2=some (.tbl #[]))->sp w [.ref a] H (λv _=>v=.bl true) λ_ _ _=>False)
  (hCX:∀(w:World)(H:Hp)(s:Shared)(e:Value)(s':Shared),CX w [] H s (λ_ _ _=>False) e s'->False) :
  W.WalkO q loose XP YP l.row.toRowW d [] (λf vs=>PySem.call f vs):=by
 refine Att.attach_call hn hdf λw s₀ s₁ mg mb fa o pm cd doc a vs ns G Y ho hd hcd hmg wa hints hlen hg=>?_
 have KX:=hY w _ Y;obtain⟨fd,hb,hF⟩:=F w mg fa _ KX G.T.g hmg;refine rE KX G.T.g G.T.b G.T.builtins G.T.nolimit hg wa hints (le_trans hlen hn2) hr (tabs:=tabs w.params) (λt ht=>?_) (hnK w.params) G.T.bmain hF hb (λH hO hS hTb=>hsp w H a ns hlen hO hS hTb) λH e s'=>hCX w H s₁ e s'
 obtain⟨y,hy,e⟩:=uy w.params t ht;obtain⟨d',hd'⟩:=hxs y hy;exact tab_of G.T KX hd' e
section
variable{mg:Str->Option Value}
theorem Fun.okT{x qual:Str}{st:Stmt}{f c:Addr}{fd:FuncData}{N ps:List Str}{k:Nat}{sp:Sp}(F:Fun K x qual st f fd)(hc:fd.code=.ref c)(S:ao N ps (ai st))(len:∀vs H Q E,sp vs H Q E->vs.length=ps.length)
  (gk:∀(A:Around)(outer:List Env)(s:Shared)(H:Hp)(vs:List V)(Q:VK)(E:XK),bT k (A.deeper (envOfC qual (ai st) s.heap.objs.size f (.ref c)))->sp vs H Q E ->
   ∃t,PSs (oj CX0 P w K mg base N qual (ai st) f (.ref c) A outer s H E).nox (cU st) t/\t { nx:=λ_ H'=>Q .non H',rt:=Q } (start N vs) H):aK P w K mg base CX0 (k+1) f fd ps sp:=by
 obtain⟨oc,od,kV,doc,pm,an,cdv,ct,osl,rfl,lk,hcd⟩:=F.ex;have hc:cdv=.ref c:=hc;subst hc;refine uX lk hcd S len λA outer s H vs Q E hr hsp=>?_
 obtain⟨t,h,q⟩:=gk A outer s H vs Q E hr hsp;exact⟨t,h.nox,q⟩
def ib(H:Hp)(f c':Addr)(fo:Obj)(qual:Str)(cl:List (Str×Addr))(ws:List (Str×V)):Prop:=H f=some (.frz fo TTh)/\(∃oc,H c'=some (.frz oc TTh)/\oO oc qual)/\eO H cl ws
theorem ib.same{H H':Hp}{f c':Addr}{fo:Obj}{qual:Str}{cl:List (Str×Addr)}{ws:List (Str×V)}(h:ib H f c' fo qual cl ws)(s:ar H H'):ib H' f c' fo qual cl ws :=
 ⟨s _ _ h.1,let ⟨oc,e,q⟩:=h.2.1;⟨oc,s _ _ e,q⟩,h.2.2.same s⟩
theorem oP{zs:List (Str×Nat×Addr)}{os:List Obj}{H:Hp}{σ:St}{cl:List (Str×Addr)}{ws:List (Str×V)}(hl:os.length=zs.length)(nd:(zs.map (·.2.2)).Nodup)
  (ho:∀(j:Nat)(z:Str×Nat×Addr),zs[j]?=some z->∃o w,os[j]?=some o/\o.data=.cell w/\∀v,σ[z.2.1]?=some (some v)->∃u,w=some u/\RelV v u)
  (h1:∀c∈cl.map (·.2),∃z∈zs,z.2.2=c)(h2:∀(x:Str)(v:V),ws.lookup x=some v->∃z∈zs,cl.lookup x=some z.2.2/\σ[z.2.1]?=some (some v)):eO (gr H ((zs.map (·.2.2)).zip os)) cl ws:=by
 have at_:∀z∈zs,∃o w,gr H ((zs.map (·.2.2)).zip os) z.2.2=some (.frz o TTh)/\o.data=.cell w/\∀v,σ[z.2.1]?=some (some v)->∃u,w=some u/\RelV v u:=λz hz=>by
  obtain⟨j,ej⟩:=getElem?_of_mem hz;obtain⟨o,w,e1,e2,e3⟩:=ho j z ej;have wA:((zs.map (·.2.2)).zip os).map (·.1)=zs.map (·.2.2):=map_fst_zip (by rw[length_map];lia);obtain⟨o',hm,e4⟩:=fO (H:=H) (fz:=(zs.map (·.2.2)).zip os) (b:=z.2.2) (by rw[wA];exact mem_map.mpr ⟨z,hz,U⟩);obtain⟨i,ei⟩:=getElem?_of_mem hm;rw[List.getElem?_zip_eq_some]at ei;have ez:(zs.map (·.2.2))[j]?=some z.2.2:=by rw[getElem?_map,ej];rfl
  obtain⟨a1,b1⟩:=BQ.mp ei.1;obtain⟨a2,b2⟩:=BQ.mp ez;have hij:i=j:=(List.getElem_inj nd).mp (b1.trans b2.symm);subst hij;have eo:o=o':=Option.some.inj (e1.symm.trans ei.2);subst eo;exact⟨o,w,e4,e2,e3⟩
 refine⟨λc hc=>?_,λx v e=>?_⟩
 ·obtain⟨z,hz,rfl⟩:=h1 c hc;obtain⟨o,w,a,b,_⟩:=at_ z hz;exact⟨o,w,a,b⟩
 ·obtain⟨z,hz,e1,e2⟩:=h2 x v e;obtain⟨o,w,a,b,d⟩:=at_ z hz;obtain⟨u,rfl,r⟩:=d v e2;exact⟨z.2.2,o,u,e1,a,b,r⟩
end
theorem sY{sc:Scope}{cl:List (Str×Addr)}(h:(sc.names.all λy=>match y.2 with | .free=>(cl.map (·.1)).any (y.1 == ·)|_=>true)=true):∀y∈sc.names,y.2=.free->∃c,cl.lookup y.1=some c:=λy hy e=>by
 have:=all_eq_true.mp h y hy;rw[e]at this;obtain⟨z,hz,ez⟩:=any_eq_true.mp this;obtain⟨p,hp,rfl⟩:=mem_map.mp hz;cases q:cl.lookup y.1 with
 |some c=>exact⟨c,U⟩
 |none =>
  have:=List.lookup_eq_none_iff.mp q p hp;simp[bne,ez]at this
theorem qH{N:List Str}{sc:Scope}{ws:List (Str×V)}(h:((ws.map (·.1)).all λx=>match sc.names.lookup x with|some .free=>true|_=>false)=true):∀y∈N,∀v,ws.lookup y=some v->sc.names.lookup y=some .free:=λy _ v e=>by
 have:=all_eq_true.mp h y (mem_map.mpr ⟨(y,v),mem_of_lookup e,U⟩);split at this
 ·assumption
 ·cases this
theorem wB{K:Frag}{x qual:Str}{st:Stmt}{f c P:Addr}{oc kV doc pm ct:Value}{od an:Option Addr}{osl:Array (Option Value)}{o1:Value}{o2:Option Addr}{vs:Array Value}{o3:Array (Option Value)}(a:nsIn K mainGlobals x=some (some (.ref f)))
  (l:K.lookup f=some ⟨oc,od,.func (fnOf x qual (fJ st) (cU st) (ai st) .none kV doc pm an (.ref c) ct),osl⟩)(lc:K.lookup c=some ⟨o1,o2,.fields vs,o3⟩)(e:vs[11]?=some (.ref P)):tabIn K x=some (c,P):=by
 unfold tabIn;rw[a];simp only[l];show(match K.lookup c with|some ⟨_,_,.fields vs,_⟩=>(match (vs[11]?:Option Value)with|some (.ref P)=>some (c,P)|_=>none)|_=>none)=some (c,P);rw[lc];simp only[e]
section
variable{zs:List (Str×Nat×Addr)}{os:List Obj}{H2:Hp}
theorem kY(hl:os.length=zs.length):((zs.map (·.2.2)).zip os).map (·.1)=zs.map (·.2.2):=map_fst_zip (by rw[length_map];lia)
theorem kZ(hl:os.length=zs.length)(hf:∀z∈zs,H z.2.2=none):ar H (gr H ((zs.map (·.2.2)).zip os)):=λb u e=>by
 rw[ck λm=>?_]
 ·exact e
 ·rw[kY hl]at m;obtain⟨z,hz,rfl⟩:=mem_map.mp m;rw[hf z hz]at e;cases e
theorem hide_same(hl:os.length=zs.length)(hf:∀z∈zs,H z.2.2=none)(s:ar (gr H ((zs.map (·.2.2)).zip os)) H2):ar H (hideL H2 (zs.map (·.2.2))):=λb u e=>by
 rw[bB λm=>?_]
 ·exact s _ _ (kZ hl hf _ _ e)
 ·obtain⟨z,hz,rfl⟩:=mem_map.mp m;rw[hf z hz]at e;cases e
end
theorem mG(p:Pos)(a b:Int)(c:Value):∀(l:List Value),TriplesOk l->codeAmong p (l++[rawInt a,rawInt b,c])=(codeAmong p l).or (codeAmong p [rawInt a,rawInt b,c])
 | [],_=>rfl
 | .int x t :: .int y u :: d :: rest,h=>by
  have ih:=mG p a b c rest h;show codeAmong p (.int x t :: .int y u :: d :: (rest++[rawInt a,rawInt b,c]))=_;rw[codeAmong,codeAmong];split
  ·rfl
  ·exact ih
def ie(H:Hp)(P:Addr)(L:List (Pos×Str)):Prop:=∃ps,H P=some (.tbl ps)/\TriplesOk ps.toList/\∀p∈L,codeAmong p.1 ps.toList=none\/∃(c':Addr)(oc:Obj),codeAmong p.1 ps.toList=some (.ref c')/\H c'=some (.frz oc TTh)/\oO oc p.2
theorem ie.same{H H':Hp}{P:Addr}{L:List (Pos×Str)}(h:ie H P L)(s:ar H H'):ie H' P L:=by
 obtain⟨ps,h1,h2,h3⟩:=h;exact⟨ps,s _ _ h1,h2,λp hp=>(h3 p hp).imp id λ⟨c,o,a,b,d⟩=>⟨c,o,a,s _ _ b,d⟩⟩
theorem ie.new{H:Hp}{P:Addr}{L:List (Pos×Str)}(h:H P=some (.tbl #[])):ie H P L:=⟨#[],h,trivial,λ_ _=>.inl U⟩
def zA(P:Addr)(pos:Pos)(qual:Str)(mk:Value->Addr->Value->Obj)(clos:List (Str×Addr)):TE:=λ_ H Q=>∃L,(pos,qual)∈L/\(∀p∈L,p.1.line=pos.line->p.1.col=pos.col->p.2=qual)/\ie H P L /\
 ∀(f c':Addr)(oc:Obj)(pm ctv:Value)(H':Hp),H f=none->(∀b o,b≠P->H b=some o->H' b=some o)->H' f=some (.frz (mk pm c' ctv) TTh)->H' c'=some (.frz oc TTh)->oO oc qual->ie H' P L->(∀x y a,clos.lookup x=some a->clos.lookup y=some a->x=y)->Q (.ref f) H'
theorem sZ{params:Arguments}{body:Expr}{scope:Scope}{pos:Pos}{c P:Addr}{clos:List (Str×Addr)}(vf:X.env.code=.ref c)
  (C:W.CodeHd X.base c P)(hb:X.base.BuiltinsAt X.mg P)(hcl:closureFor scope X.env=pure clos)(hin:∀p∈clos,X.env.cells.lookup p.1=some p.2)(xX:defaultsOf params X.env=([],[]):=by rfl) :
  PE X (.Lambda params body scope pos) (zA P pos (X.env.qual ++ "<lambda>") (λpm c' ctv=>W.kla_obj "<lambda>" (X.env.qual ++ "<lambda>") params body scope clos pm c' ctv) clos):=by
 intro pins s σ H Q I h;obtain⟨L,hL,hLu,⟨ps,hP,ht,hps⟩,k⟩:=h;have ePh:s.heap.get? P=some (W.tabObj ps):=I.hok P _ hP;have hgs:s.heap.Ns mainGlobals X.mg:=I.mod.glob.keeps I.bk;have hgP:mainGlobals≠P:=λq=>by
  obtain⟨o,es,ep,e,hd,_⟩:=hgs;rw[q,ePh]at e;cases e;cases hd
 have inj:∀x y a,clos.lookup x=some a->clos.lookup y=some a->x=y:=λx y a h1 h2=>I.ok.inj x y a (hin _ (mem_of_lookup h1)) (hin _ (mem_of_lookup h2))
 rcases hps _ hL with hnf|⟨c',oc,hf,hHc,hko⟩
 ·refine W.kla_eval xX (W.kla_makeFunction hcl I.ok.glob hgs vf (C.keeps I.bk) ePh ht hnf hgP (hb.keeps I.bk) λc' ctv h' tk hx' hge hlt zB htb=>?_);obtain⟨c₂,oc,vs,t,e2,hoc,hdd,hv⟩:=zB;cases e2;have hfr:∀b,s.heap.objs.size<=b->H b=none:=λb hb'=>I.hok.fresh hb'
  have hPl:P<s.heap.objs.size:=Heap.lt_size ePh;have ncP:c'≠P:=λz=>by rw[z]at hge;exact absurd hPl (not_lt.mpr hge)
  have hfs:s.heap.objs.size<=h'.objs.size:=le_trans hge (le_of_lt hlt);have nfP:h'.objs.size≠P:=λz=>by rw[z]at hfs;exact absurd hPl (not_lt.mpr hfs)
  have nfc:h'.objs.size≠c':=ne_of_gt hlt;have hHf:=hfr _ hfs;have hHc:=hfr _ hge;have at3:∀{b:Addr}{u:HO},b≠P->H b=some u->upd (upd (upd H P (.tbl (ps ++ #[rawInt pos.line,rawInt pos.col,.ref c']))) c' (.frz oc TTh)) h'.objs.size (.frz (W.kla_obj "<lambda>" (X.env.qual ++ "<lambda>") params body scope clos ((X.mg "__name__").getD .none) c' ctv) TTh) b=some u:=λ{b u} hb' e=>by
   rw[au (aY e hHf),au (aY e hHc),au hb'];exact e
  have atP:upd (upd (upd H P (.tbl (ps ++ #[rawInt pos.line,rawInt pos.col,.ref c']))) c' (.frz oc TTh)) h'.objs.size (.frz (W.kla_obj "<lambda>" (X.env.qual ++ "<lambda>") params body scope clos ((X.mg "__name__").getD .none) c' ctv) TTh) P=some (.tbl (ps ++ #[rawInt pos.line,rawInt pos.col,.ref c'])):=by
   rw[au nfP.symm,au ncP.symm,ab]
  have neP:∀{b:Addr},H b=none->b≠P:=λe z=>by rw[z,hP]at e;cases e
  have keep:∀b o,b≠P->s.heap.get? b=some o->(h'.push (W.kla_obj "<lambda>" (X.env.qual ++ "<lambda>") params body scope clos ((X.mg "__name__").getD .none) c' ctv)).get? b=some o:=λb o hb' e=>Heap.get?_push_of_some _ (hx' b o hb' e)
  have un:Un X.fs [] H (upd (upd (upd H P (.tbl (ps ++ #[rawInt pos.line,rawInt pos.col,.ref c']))) c' (.frz oc TTh)) h'.objs.size (.frz (W.kla_obj "<lambda>" (X.env.qual ++ "<lambda>") params body scope clos ((X.mg "__name__").getD .none) c' ctv) TTh)) s.heap (h'.push (W.kla_obj "<lambda>" (X.env.qual ++ "<lambda>") params body scope clos ((X.mg "__name__").getD .none) c' ctv)):=by
   refine⟨λb o e n _ _=>keep b o (neP n) e,λb o e n _ _=>⟨o.slots,keep b o (neP n) e⟩,λb o e n _=>?_,λb o e _=>?_,λb xs e=>at3 (λz=>by rw[z,hP]at e;cases e) e,λb o u e=>at3 (λz=>by rw[z,hP]at e;cases e) e,λb ps' e=>?_⟩
   ·have hb':=Heap.lt_size e;rw[au (ne_of_lt (lt_of_lt_of_le hb' hfs)),au (ne_of_lt (lt_of_lt_of_le hb' hge)),au (neP n)];exact n
   ·by_cases hb':b=P
    ·subst hb';exact⟨_,Heap.get?_push_of_some _ htb⟩
    ·exact⟨o,keep b o hb' e⟩
   ·by_cases hb':b=P
    ·subst hb';rw[hP]at e;cases e;exact⟨_,atP⟩
    ·exact⟨#[],by rw[at3 hb' e];simp⟩
  have hok:HOk X.prog X.w (upd (upd (upd H P (.tbl (ps ++ #[rawInt pos.line,rawInt pos.col,.ref c']))) c' (.frz oc TTh)) h'.objs.size (.frz (W.kla_obj "<lambda>" (X.env.qual ++ "<lambda>") params body scope clos ((X.mg "__name__").getD .none) c' ctv) TTh)) (h'.push (W.kla_obj "<lambda>" (X.env.qual ++ "<lambda>") params body scope clos ((X.mg "__name__").getD .none) c' ctv)):=λb u e=>by
   by_cases h1:b=h'.objs.size
   ·subst h1;rw[ab]at e;cases e;exact oN (Heap.get?_push_size _ U)
   rw[au h1]at e;by_cases h2:b=c'
   ·subst h2;rw[ab]at e;cases e;exact oN (Heap.get?_push_of_some _ hoc)
   rw[au h2]at e;by_cases h3:b=P
   ·subst h3;rw[ab]at e;cases e;exact Heap.get?_push_of_some _ htb
   rw[au h3]at e;refine(I.hok b u e).stay (λd v hd q=>keep d v ?_ q) (λd q=>at3 (λz=>by rw[z,hP]at q;cases q) q) λd xs q=>at3 (λz=>by rw[z,hP]at q;cases q) q
   rcases hd with rfl|hd
   ·exact h3
   ·exact λz=>by rw[z,hP]at hd;cases hd
  have I2:=I.un (t':=tk) un hok;have hko:oO oc (X.env.qual ++ "<lambda>"):=⟨vs,t,hdd,hv⟩;have ec':upd (upd (upd H P (.tbl (ps ++ #[rawInt pos.line,rawInt pos.col,.ref c']))) c' (.frz oc TTh)) h'.objs.size (.frz (W.kla_obj "<lambda>" (X.env.qual ++ "<lambda>") params body scope clos ((X.mg "__name__").getD .none) c' ctv) TTh) c'=some (.frz oc TTh):=(au nfc.symm).trans ab;refine⟨.ref h'.objs.size,_,I2,U,k _ c' oc _ ctv _ hHf (λb o hb' e=>at3 hb' e) ab ec' hko ⟨_,atP,?_,λp hp=>?_⟩ inj⟩
  ·rw[Array.toList_append];exact TriplesOk_snoc _ _ _ _ ht
  ·rw[Array.toList_append];show codeAmong p.1 (ps.toList++[rawInt pos.line,rawInt pos.col,.ref c'])=none\/∃(d:Addr)(oc:Obj),codeAmong p.1 (ps.toList++[rawInt pos.line,rawInt pos.col,.ref c'])=some (.ref d)/\_;rw[mG _ _ _ _ _ ht];rcases hps p hp with q|⟨d,od,q1,q2,q3⟩
   ·rw[q];show codeAmong p.1 [rawInt pos.line,rawInt pos.col,.ref c']=none\/∃(d:Addr)(oc:Obj),codeAmong p.1 [rawInt pos.line,rawInt pos.col,.ref c']=some (.ref d)/\_;by_cases e:p.1.line=pos.line/\p.1.col=pos.col
    ·have e3:codeAmong p.1 [rawInt pos.line,rawInt pos.col,.ref c']=some (.ref c'):=by
      show(if ((pos.line:Int) == (p.1.line:Int) && (pos.col:Int) == (p.1.col:Int))=true then some (Value.ref c')else none)=_;rw[e.1,e.2];simp
     exact .inr ⟨c',oc,e3,ec',by rw[hLu p hp e.1 e.2];exact hko⟩
    ·left
     show(if ((pos.line:Int) == (p.1.line:Int) && (pos.col:Int) == (p.1.col:Int))=true then some (Value.ref c')else none)=none;rw[if_neg λz=>e ?_];rw[and_eq_true,beq_iff_eq,beq_iff_eq]at z;lia
   ·exact .inr ⟨d,od,by rw[q1];rfl,at3 (λz=>by rw[z,hP]at q2;cases q2) q2,q3⟩
 ·refine W.kla_eval xX (W.kla_makeFunctionHit hcl I.ok.glob hgs vf (C.keeps I.bk) ePh ht hf (hb.keeps I.bk) λctv h' tk kp hfs=>?_);have hHf:H h'.objs.size=none:=I.hok.fresh hfs;have s':ar H (upd H h'.objs.size (.frz (W.kla_obj "<lambda>" (X.env.qual ++ "<lambda>") params body scope clos ((X.mg "__name__").getD .none) c' ctv) TTh)):=ag hHf _;have keep:∀b o,s.heap.get? b=some o->(h'.push (W.kla_obj "<lambda>" (X.env.qual ++ "<lambda>") params body scope clos ((X.mg "__name__").getD .none) c' ctv)).get? b=some o:=λb o e=>Heap.get?_push_of_some _ (kp b o e)
  have un:Un X.fs [] H (upd H h'.objs.size (.frz (W.kla_obj "<lambda>" (X.env.qual ++ "<lambda>") params body scope clos ((X.mg "__name__").getD .none) c' ctv) TTh)) s.heap (h'.push (W.kla_obj "<lambda>" (X.env.qual ++ "<lambda>") params body scope clos ((X.mg "__name__").getD .none) c' ctv)):=by
   refine⟨λb o e n _ _=>keep b o e,λb o e n _ _=>⟨o.slots,keep b o e⟩,λb o e n _=>?_,λb o e _=>⟨o,keep b o e⟩,λb xs e=>s' _ _ e,λb o u e=>s' _ _ e,λb ps' e=>⟨#[],by rw[s' _ _ e];simp⟩⟩;have hb':=Heap.lt_size e;rw[au (ne_of_lt (lt_of_lt_of_le hb' hfs))];exact n
  have hok:HOk X.prog X.w (upd H h'.objs.size (.frz (W.kla_obj "<lambda>" (X.env.qual ++ "<lambda>") params body scope clos ((X.mg "__name__").getD .none) c' ctv) TTh)) (h'.push (W.kla_obj "<lambda>" (X.env.qual ++ "<lambda>") params body scope clos ((X.mg "__name__").getD .none) c' ctv)):=λb u e=>by
   by_cases h1:b=h'.objs.size
   ·subst h1;rw[ab]at e;cases e;exact oN (Heap.get?_push_size _ U)
   rw[au h1]at e;exact(I.hok b u e).stay (λd v _ q=>keep d v q) (λd q=>s' _ _ q) λd xs q=>s' _ _ q
  have I2:=I.un (t':=tk) un hok;exact⟨.ref h'.objs.size,_,I2,U,k _ c' oc _ ctv _ hHf (λb o _ e=>s' _ _ e) ab (s' _ _ hHc) hko (ie.same ⟨ps,hP,ht,hps⟩ s') inj⟩
theorem wC{CX:CXT}{P:Program}{w:World}{K:W.Frag}{mg:Str->Option Value}{base:Heap}{k:Nat}{f c':Addr}{name qual:Str}{params:Arguments}{body:Expr}{scope:Scope}{cl:List (Str×Addr)}{pm ctv:Value}{N ps:List Str}{sp:Sp}
  (S:ni N ps scope cl)(inj:∀x y c,cl.lookup x=some c->cl.lookup y=some c->x=y)
  (len:∀vs H Q E,sp vs H Q E->vs.length=ps.length)
  (gk:∀(A:Around)(outer:List Env)(s:Shared)(H:Hp)(vs:List V)(Q:VK)(E:XK),bT k (A.deeper (W.envX qual scope s.heap.objs.size f (.ref c') cl))->sp vs H Q E ->
   (∃oc,H f=some (.frz (W.kla_obj name qual params body scope cl pm c' ctv) TTh)/\H c'=some (.frz oc TTh)/\oO oc qual)/\∃ws,eO H cl ws/\(∀x∈N.drop ps.length,∀v,ws.lookup x=some v->scope.names.lookup x=some .free) /\
   ((∀c∈cl.map (·.2),base.get? c=none/\c ∉ frs outer)->∃t:TE,PE (cxC CX P w K mg base N qual scope f (.ref c') cl A outer s H E) body t/\t (jC N ps vs ws) (hideL H (cl.map (·.2))) λv H'=>(∀c∈cl.map (·.2),H' c=none)->Q v (backL H H' (cl.map (·.2))))) :
  aK P w K mg base CX (k+1) f (W.kla_fn name qual params body scope cl pm (.ref c') ctv) ps sp:=by
 refine⟨len,λA outer s H args us vs Q E hr e0 hb r hsp=>?_⟩;have hl:=len _ _ _ _ hsp;obtain⟨⟨oc,ef,ec,vs',t',hcd,hcq⟩,ws,c9,qu,xY⟩:=gk A outer s H vs Q E (hr.deeper _) hsp;obtain⟨t,ht,hq⟩:=xY λc hc=>by
  obtain⟨o,e⟩:=c9.fzs c hc;refine⟨?_,λz=>by rw[e0.frf c z]at e;cases e⟩;cases eb:base.get? c with
  |none=>rfl
  |some ob=>rw[(e0.bs c ob eb).2]at e;cases e
 have lim:s.heap.NoLimit:=e0.mod.nolimit.keeps λb o e=>(e0.bs b o e).1
 have eo:s.heap.get? f=some (W.kla_obj name qual params body scope cl pm c' ctv):=(e0.hok f _ ef).1;have eoc:s.heap.get? c'=some oc:=(e0.hok c' _ ec).1;have hul:us.length=ps.length:=by rw[←r.length];exact hl
 have ndP:ps.Nodup:=by rw[←S.pre];exact S.nd.sublist (take_sublist _ _)
 have fz:=c9.fzs;have hcs:∀{x:Str}{c:Addr},cl.lookup x=some c->c∈cl.map (·.2):=λe=>kX e
 refine W.kla_callFunE hr.depth eo U S.co S.gen U ⟨c',oc,vs',t',U,eoc,hcd,hcq⟩ (hb _ _ _ _ ?_);refine wpAny_newFunctionEnv S.nocell (λx hx=>S.par x.1 (of_mem_zip hx).1) (λh₁ hns hsb=>?_) S.kind;have hk₁:∀b o,s.heap.get? b=some o->h₁.get? b=some o:=λb o e=>hsb.extBut b o (ne_of_lt (Heap.lt_size e)) (Heap.get?_push_of_some _ e)
 refine⟨lim.keeps hk₁,W.kla_codeExpr ?_⟩;have hH0:∀{b:Addr},H b=none->hideL H (cl.map (·.2)) b=none:=λh=>fN h
 have I:Inv (cxC CX P w K mg base N qual scope f (.ref c') cl A outer s H E) [] (jC N ps vs ws) (hideL H (cl.map (·.2))) { s with heap:=h₁,toks:=s.toks+(ps.zip us).length }:=by
  have noA:∀b:Addr,b ∉ (cxC CX P w K mg base N qual scope f (.ref c') cl A outer s H E).ex:=λb z=>absurd (show b∈([]:List Addr)from z) (by simp)
  refine⟨⟨e0.mod,S.kind,U,U,le_refl _,λx y c h1 h2=>inj x y c h1 h2,λx hx=>?_,λx c hf=>?_,λ_=>hr.hd,Around.frames_deeper e0.frames,.inr ⟨U,U⟩,λb z=>absurd z (noA b),λb o e=>⟨(e0.bs b o e).1,hH0 (e0.bs b o e).2⟩,e0.bsz,λb _ _=>noA b,λb z=>absurd z (noA b),e0.funs,λb hb=>hH0 (e0.frf b hb)⟩,
   rfl,e0.bare,Un.kept hk₁,⟨_,hns,λi x v h1 h2 h3=>?_⟩,λx c h=>?_,hH0 (e0.hok.fresh (le_refl _)),λx c h=>jc (hcs h),λp hp=>absurd (show p∈([]:List (Addr×Obj))from hp) (by simp),(e0.hok.hideL fz).kept hk₁,?_⟩
  ·have hx:scope.names.lookup x=some .cell\/scope.names.lookup x=some .free:=hx;rcases hx with hx|hx
   ·exact absurd U (S.nocell _ (mem_of_lookup hx))
   ·exact S.has _ (mem_of_lookup hx) U
  ·exact absurd (show false=true from hf) Bool.false_ne_true
  ·have h1:N[i]?=some x:=h1;unfold jC at h2;by_cases hi:i<vs.length
   ·rw[getElem?_append_left (by simpa using hi),getElem?_map]at h2;have ha:vs[i]?=some v:=by
     cases e:vs[i]? with
     |none=>rw[e]at h2;cases h2
     |some a=>rw[e]at h2;cases h2;rfl
    obtain⟨u,hu,rv⟩:=r.get ha;have hp:ps[i]?=some x:=by rw[←S.pre,List.getElem?_take_of_lt (by lia)];exact h1
    exact⟨u,rv,.inl ⟨S.par x (BR hp),qf ndP hp hu hul⟩⟩
   ·rw[getElem?_append_right (by simpa using hi),getElem?_map,length_map]at h2;cases e:(N.drop ps.length)[i-vs.length]? with
    |none=>rw[e]at h2;cases h2
    |some y =>
     rw[e]at h2;have h2:some (ws.lookup y)=some (some v):=h2;have h2:=Option.some.inj h2;have hy:y=x:=by
      rw[getElem?_drop,show ps.length+(i-vs.length)=i by lia,h1]at e;exact(Option.some.inj e).symm
     subst hy;obtain⟨c,o,u,e1,e2,e3,rv⟩:=c9.2 y v h2;exact⟨u,rv,.inr ⟨.inr (qu y (BR e) v h2),c,e1,o,hk₁ _ _ (e0.hok c _ e2).1,e3⟩⟩
  ·obtain⟨o,v,e,d⟩:=c9.1 c (hcs h);exact⟨v,o,hk₁ _ _ (e0.hok c _ e).1,d⟩
  ·unfold jC;show _=N.length;have hpl:ps.length<=N.length:=by have:=congrArg List.length S.pre;rw[length_take]at this;lia
   rw[length_append,length_map,length_map,length_drop];lia
 refine wpAny_mono (ht [] _ (jC N ps vs ws) _ _ I hq) (λu s' hs=>?_) λe s' hs=>hs
 have fin:∀{σ':St}{H':Hp}{v:V}{u:Value},Inv (cxC CX P w K mg base N qual scope f (.ref c') cl A outer s H E) [] σ' H' s'->RelV v u->((∀c∈cl.map (·.2),H' c=none)->Q v (backL H H' (cl.map (·.2))))->CE outer P w H s Q u s':=λ{σ' H' v u} J rv q=>by
  have un:Un (frs outer) [] (hideL H (cl.map (·.2))) H' s.heap s'.heap:=J.base;have nc:∀c∈cl.map (·.2),H' c=none:=λc hc=>by
   obtain⟨⟨x,d⟩,hm,rfl⟩:=mem_map.mp hc;obtain⟨o,e⟩:=fz d hc;exact un.free d o (e0.hok d _ e).1 (jc hc) (by simp)
  refine⟨v,backL H H' (cl.map (·.2)),J.os,J.bare,un.backL fz,J.hok.backL fz nc λc hc o e=>?_,rv,q nc⟩;refine un.keep c o (e0.hok c _ e).1 (jc hc) (λz=>?_) (by simp);rw[e0.frf c z]at e;cases e
 obtain⟨v,H',J,rv,q⟩:=hs;exact fin J rv q
def vg(st:Stmt)(k:Nat):Expr:=match st with
 | .Assign _ (.Call _ as _ _) _=>as.getD k (.Name "" ⟨0,0,0,0⟩)
 | .Return (some (.Call _ as _ _)) _=>as.getD k (.Name "" ⟨0,0,0,0⟩)
 |_=>.Name "" ⟨0,0,0,0⟩
def nq(e:Expr):Arguments:=match e with
 | .Lambda a _ _ _=>a
 |_=>fJ (.Pass ⟨0,0,0,0⟩)
def lV(e:Expr):Expr:=match e with
 | .Lambda _ b _ _=>b
 |e=>e
def jd(e:Expr):Scope:=match e with
 | .Lambda _ _ s _=>s
 |_=>ai (.Pass ⟨0,0,0,0⟩)
def rG(e:Expr):Pos:=match e with
 | .Lambda _ _ _ p=>p
 |_=>⟨0,0,0,0⟩
section
variable{mg:Str->Option Value}
theorem td{qual:Str}{ps:List Str}{e:Expr}{f c':Addr}{cl:List (Str×Addr)}{pm ctv:Value}{N:List Str}{k:Nat}{sp:Sp}(S:ni N ps (jd e) cl)(inj:∀x y c,cl.lookup x=some c->cl.lookup y=some c->x=y)
  (hb:∀us:List Value,us.length=ps.length->bindArgs (W.kla_fn "<lambda>" qual (nq e) (lV e) (jd e) cl pm (.ref c') ctv) ⟨us,[]⟩=pure (ps.zip us))
  (len:∀vs H Q E,sp vs H Q E->vs.length=ps.length)
  (gk:∀(A:Around)(outer:List Env)(s:Shared)(H:Hp)(vs:List V)(Q:VK)(E:XK),bT k (A.deeper (W.envX qual (jd e) s.heap.objs.size f (.ref c') cl))->sp vs H Q E ->
   ∃ws,ib H f c' (W.kla_obj "<lambda>" qual (nq e) (lV e) (jd e) cl pm c' ctv) qual cl ws/\(∀y∈N.drop ps.length,∀v,ws.lookup y=some v->(jd e).names.lookup y=some .free) /\
   ((∀c∈cl.map (·.2),base.get? c=none/\c ∉ frs outer)->∃t:TE,PE (cxC CX0 P w K mg base N qual (jd e) f (.ref c') cl A outer s H E).nox (lV e) t/\t (jC N ps vs ws) (hideL H (cl.map (·.2))) λv H'=>(∀c∈cl.map (·.2),H' c=none)->Q v (backL H H' (cl.map (·.2))))) :
  HFn P w K mg base (k+1) f sp:=by
 refine⟨_,ps,wC (name := "<lambda>") (qual:=qual) (c':=c') (params:=nq e) (body:=lV e) (pm:=pm) (ctv:=ctv) S inj len λA outer s H vs Q E hr hsp=>?_,.all λus hl=>?_⟩
 ·obtain⟨ws,⟨h1,⟨oc,h2,h3⟩,h4⟩,h5,h6⟩:=gk A outer s H vs Q E hr hsp;refine⟨⟨oc,h1,h2,h3⟩,ws,h4,h5,λhc=>?_⟩;obtain⟨t,a,b⟩:=h6 hc;exact⟨t,a.nox,b⟩
 ·exact hb us hl
end
inductive tj(P:Program)(w:World)(K:W.Frag)(mg:Str->Option Value)(base:Heap)(k i:Nat)(t:TA)(σ:St)(H:Hp)(Q:VK):Prop
 |mk (f:Addr)(sp:Sp)(_:σ[i]?=some (some (.ref f)))(_:FnO H f)(_:HFn P w K mg base k f sp)(_:t σ H λvs H1=>FnO H1 f/\sp vs H1 Q E0):tj P w K mg base k i t σ H Q
theorem tm{P:Program}{w:World}{K:W.Frag}{mg:Str->Option Value}{base:Heap}(e1:X.prog=P)(e2:X.w=w)(e3:X.K=K)(e4:X.mg=mg)(e5:X.base=base)(hr:bT k X.A)(hN:X.N[i]?=some x)(hv:Vis X.env.scope x)(ha:PA X (e :: es) t)(hd:(x == ("__debug__" : Str))=false:=by decide) (hcd:(x == ("__classdict__" : Str))=false:=by decide)
  (he:starEach (e :: es) X.env=(false,eval e X.env) :: starEach es X.env:=by rfl)(hpl:(backTo pos (starEach es X.env)).any (·.1)=false:=by rfl):PE X (.Call (.Name x p) (e :: es) [] pos) (tj P w K mg base k i t):=λpins s σ H Q I h =>
 ux hr hN hv ha hd hcd he hpl pins s σ H Q I (by
  subst e1 e2 e3 e4 e5;cases h with|mk f sp a b c d=>exact⟨f,sp,a,b,c,d⟩)
inductive TFn(K:W.Frag)(x:Str)(st:Stmt):Prop
 |mk {f c t:Addr}{fd:FuncData}(a:W.nsIn K mainGlobals x=some (some (.ref f)))(F:Fun K x x st f fd)(hc:fd.code=.ref c)(ht:W.tabIn K x=some (c,t)):TFn K x st
theorem tfn_mk{K:W.Frag}{x:Str}{st:Stmt}{f c t:Addr}{oc kV doc pm ct:Value}{od an:Option Addr}{osl:Array (Option Value)}{o1:Value}{o2:Option Addr}{vs:Array Value}{o3:Array (Option Value)}(a:W.nsIn K mainGlobals x=some (some (.ref f)))
  (l:K.lookup f=some ⟨oc,od,.func (W.fnOf x x (fJ st) (cU st) (ai st) .none kV doc pm an (.ref c) ct),osl⟩)(cd:W.codeIn K (.ref c) x=true)(kp:W.keepIn K (.ref f)=true)(lc:K.lookup c=some ⟨o1,o2,.fields vs,o3⟩)(e:vs[11]?=some (.ref t)):TFn K x st :=
 ⟨a,fun_mk l cd kp,U,wB a l lc e⟩
theorem mkT{P:Program}{w:World}{K:W.Frag}{mg:Str->Option Value}{base:Heap}{k:Nat}{x:Str}{ps:List Str}{sp:Sp}{st:Stmt}(Z:Zb P w K mg base)(h:TFn K x st)(hq:∀q∈(W.tabIn K x).toList,W.CodeHd base q.1 q.2/\base.BuiltinsAt mg q.2)
  (O:∀{f c t:Addr}{fd:FuncData},Fun K x x st f fd->fd.code=.ref c->W.tabIn K x=some (c,t)->W.CodeHd base c t/\base.BuiltinsAt mg t->aK P w K mg base CX0 k f fd ps sp)
  (b:∀{f:Addr}{fd:FuncData},Fun K x x st f fd->Binds K fd ps []:=by exact λF=>F.binds λ_ _ _ _ _ _=>by first|exact L2.lb0 rfl|exact L2.lb1 λ_=>U|exact L2.lb2 λ_ _=>U|exact L2.lb3 λ_ _ _=>U|exact L2.lb4 λ_ _ _ _=>U|exact L2.lb5 λ_ _ _ _ _=>U|exact L2.lb6 λ_ _ _ _ _ _=>U|exact L2.lb7 λ_ _ _ _ _ _ _=>U|exact L2.lb8 λ_ _ _ _ _ _ _ _=>U|exact L2.lb9 λ_ _ _ _ _ _ _ _ _=>U):Callee P w K mg base k x ps sp:=by
 cases h with|mk a F hc ht=>exact⟨_,_,O F hc ht (hq _ (by rw[ht];exact mem_cons_self)),b F,F.kp,Z.g a⟩
theorem yN{K:W.Frag}{x:Str}{t:Addr×Addr}(h:t∈(W.tabIn K x).toList):W.tabIn K x=some t:=by
 cases e:W.tabIn K x with
 |none=>rw[e]at h;cases h
 |some z=>rw[e]at h;rw[mem_singleton.mp h]
end L2
set_option Elab.async false
set_option maxRecDepth 100000
set_option maxHeartbeats 4000000
set_option linter.all false
namespace My
open PySem L2
def top(i:Nat):Stmt:=PySem.Challenge.pw_rowjudge_k63_parted_in_two.main.body.getD i (.Pass ⟨0,0,0,0⟩)
abbrev Y32:Stmt:=top 13
abbrev Y38:Stmt:=top 14
abbrev Y37:Stmt:=top 15
abbrev Y31:Stmt:=top 19
abbrev Y36:Stmt:=top 21
abbrev Y33:Stmt:=top 22
abbrev Y77:Stmt:=top 23
abbrev Y35:Stmt:=top 24
abbrev Y74:Stmt:=top 35
abbrev Y70:Stmt:=top 40
abbrev Y69:Stmt:=top 41
abbrev Y72:Stmt:=top 42
abbrev Y71:Stmt:=top 43
abbrev Y65:Stmt:=top 44
abbrev Y34:Stmt:=top 45
abbrev Y63:Stmt:=top 46
abbrev Y39:Stmt:=top 47
abbrev Y73:Stmt:=top 48
abbrev Y76:Stmt:=top 49
abbrev Y75:Stmt:=top 51
abbrev Y66:Stmt:=top 52
abbrev Y64:Stmt:=top 53
abbrev Y44:Stmt:=top 55
abbrev Y53:Stmt:=top 56
abbrev Y58:Stmt:=top 57
abbrev Y62:Stmt:=top 58
abbrev Y46:Stmt:=top 59
abbrev Y48:Stmt:=top 60
abbrev Y59:Stmt:=top 61
abbrev Y42:Stmt:=top 62
abbrev Y43:Stmt:=top 63
abbrev Y56:Stmt:=top 64
abbrev Y60:Stmt:=top 65
abbrev Y55:Stmt:=top 66
abbrev Y45:Stmt:=top 67
abbrev Y50:Stmt:=top 68
abbrev Y61:Stmt:=top 69
abbrev Y49:Stmt:=top 70
abbrev Y57:Stmt:=top 71
abbrev Y41:Stmt:=top 72
abbrev Y51:Stmt:=top 73
abbrev Y47:Stmt:=top 74
abbrev Y54:Stmt:=top 75
abbrev Y52:Stmt:=top 76
abbrev Y17:Stmt:=inClass (top 39) 0
abbrev Y4:Stmt:=inClass (top 29) 0
abbrev Y18:Stmt:=inClass (top 28) 0
abbrev Y13:Stmt:=inClass (top 30) 0
abbrev Y22:Stmt:=inClass (top 28) 0
abbrev Y8:Stmt:=inClass (top 31) 0
abbrev Y20:Stmt:=inClass (top 28) 0
abbrev Y10:Stmt:=inClass (top 32) 0
abbrev Y21:Stmt:=inClass (top 28) 0
abbrev Y6:Stmt:=inClass (top 33) 0
abbrev Y19:Stmt:=inClass (top 28) 0
abbrev Y15:Stmt:=inClass (top 34) 0
abbrev Y23:Stmt:=inClass (top 28) 0
abbrev Y2:Stmt:=inClass (top 16) 5
abbrev Y3:Stmt:=inClass (top 16) 5
abbrev Y12:Stmt:=inClass (top 17) 0
abbrev Y0:Stmt:=inClass (top 16) 0
abbrev Y30:Stmt:=inClass (top 18) 0
abbrev Y1:Stmt:=inClass (top 16) 0
abbrev Y24:Stmt:=inClass (top 28) 1
abbrev Y5:Stmt:=inClass (top 29) 1
abbrev Y28:Stmt:=inClass (top 28) 1
abbrev Y14:Stmt:=inClass (top 30) 1
abbrev Y26:Stmt:=inClass (top 28) 1
abbrev Y9:Stmt:=inClass (top 31) 1
abbrev Y27:Stmt:=inClass (top 28) 1
abbrev Y11:Stmt:=inClass (top 32) 1
abbrev Y25:Stmt:=inClass (top 28) 1
abbrev Y7:Stmt:=inClass (top 33) 1
abbrev Y29:Stmt:=inClass (top 28) 1
abbrev Y16:Stmt:=inClass (top 34) 1
abbrev Y40:Stmt:=top 77
abbrev Y67:Expr:=vg ((cU Y66).getD 0 (.Pass ⟨0,0,0,0⟩)) 2
theorem Z67{c_0:Addr}:ni ["own","spans"] ["own"] (jd Y67) [("spans",c_0)]:=⟨U,U,U,by decide+kernel,U,by decide+kernel,by decide+kernel,sY U⟩
abbrev Y68:Expr:=vg ((cU Y66).getD 1 (.Pass ⟨0,0,0,0⟩)) 2
theorem Z68{c_0:Addr}:ni ["own","spans"] ["own"] (jd Y68) [("spans",c_0)]:=⟨U,U,U,by decide+kernel,U,by decide+kernel,by decide+kernel,sY U⟩
theorem Z32:ao ["text","signs","sign"] ["text","signs"] (ai Y32):=fsc
theorem Z38:ao ["text"] ["text"] (ai Y38):=fsc
theorem Z37:ao ["value"] ["value"] (ai Y37):=fsc
theorem Z31:ao ["one","other"] ["one","other"] (ai Y31):=fsc
theorem Z36:ao ["spans","number","low","high"] ["spans","number"] (ai Y36):=fsc
theorem Z33:ao ["ones","others","shared","at_one","at_other","one","other","low","high"] ["ones","others"] (ai Y33):=fsc
theorem Z77:ao ["ones","others"] ["ones","others"] (ai Y77):=fsc
theorem Z35:ao ["spans","low","high","free","start","first","last","end"] ["spans","low","high"] (ai Y35):=fsc
theorem Z74:ao ["name","way"] ["name"] (ai Y74):=fsc
theorem Z70:ao ["names","name"] ["names"] (ai Y70):=fsc
theorem Z69:ao ["names","rows"] ["names","rows"] (ai Y69):=fsc
theorem Z72:ao ["way","outcome"] ["way","outcome"] (ai Y72):=fsc
theorem Z71:ao ["domains","outcome","cells","code","domain","spans","low","high"] ["domains","outcome","cells","code"] (ai Y71):=fsc
theorem Z65:ao ["cells","code"] ["cells","code"] (ai Y65):=fsc
theorem Z34:ao ["table","k","codes","cells","spans","code"] ["table","k","codes"] (ai Y34):=fsc
theorem Z63:ao ["table","codes"] ["table","codes"] (ai Y63):=fsc
theorem Z39:ao ["table","rows","codes"] ["table","rows"] (ai Y39):=fsc
theorem Z73:ao ["table","codes"] ["table","codes"] (ai Y73):=fsc
theorem Z76:ao ["table","rows"] ["table","rows"] (ai Y76):=fsc
theorem Z75:ao ["cells","column","spans"] ["cells","column","spans"] (ai Y75):=fsc
theorem Z66:ao ["table","column","spans","inside","outside"] ["table","column","spans"] (ai Y66):=fsc
theorem Z64:ao ["table","column","narrow","rows"] ["table","column","narrow"] (ai Y64):=fsc
theorem Z44:ao ["script","k"] ["script","k"] (ai Y44):=fsc
theorem Z53:ao ["cell","k","big"] ["cell","k"] (ai Y53):=fsc
theorem Z58:ao ["cells","most","seeds","k","cell","at"] ["cells","most"] (ai Y58):=fsc
theorem Z62:ao ["cell","k","ahead","behind"] ["cell","k"] (ai Y62):=fsc
theorem Z46:ao ["m","most","words","at","pairs","k","wide"] ["m","most"] (ai Y46):=fsc
theorem Z48:ao ["column"] ["column"] (ai Y48):=fsc
theorem Z59:ao ["pairs","bits","spans","k","pair"] ["pairs","bits"] (ai Y59):=fsc
theorem Z42:ao ["m","columns","out","last","bits","seed","j","column","every","code","at"] ["m","columns","out","last"] (ai Y42):=fsc
theorem Z43:ao ["seeds","columns","out","rows","last","m"] ["seeds","columns","out"] (ai Y43):=fsc
theorem Z56:ao ["bit_rows","columns","rows","bits","code"] ["bit_rows","columns"] (ai Y56):=fsc
theorem Z60:ao ["head","columns","out","way","bit_rows","names","domains"] ["head","columns","out","way","bit_rows"] (ai Y60):=fsc
theorem Z55:ao ["columns","points","column","more","point","k"] ["columns"] (ai Y55):=fsc
theorem Z45:ao ["columns","point","turn"] ["columns","point","turn"] (ai Y45):=fsc
theorem Z50:ao ["bit_row","point"] ["bit_row","point"] (ai Y50):=fsc
theorem Z61:ao ["turn","out","way"] ["turn","out"] (ai Y61):=fsc
theorem Z49:ao ["way","bit_rows","out","point","codes"] ["way","bit_rows","out","point"] (ai Y49):=fsc
theorem Z57:ao ["found","due"] ["found","due"] (ai Y57):=fsc
theorem Z41:ao ["spans","column","turn","low"] ["spans","column","turn"] (ai Y41):=fsc
theorem Z51:ao ["spans","code","low","high"] ["spans","code"] (ai Y51):=fsc
theorem Z47:ao ["spans","other","within","marks","told","low","past"] ["spans","other","within"] (ai Y47):=fsc
theorem Z54:ao ["rows","at","spans","within","told","cells","code","left"] ["rows","at","spans","within"] (ai Y54):=fsc
theorem Z52:ao ["found","table","rows","one","other"] ["found","table","rows"] (ai Y52):=fsc
theorem Z17:ao ["self","name","names","domains","outcome","way","rows","cells","code"] ["self","name","names","domains","outcome","way","rows"] (ai Y17):=fsc
theorem Z4:ao ["self"] ["self"] (ai Y4):=fsc
theorem Z18:ao ["self","called"] ["self","called"] (ai Y18):=fsc
theorem Z13:ao ["self"] ["self"] (ai Y13):=fsc
theorem Z22:ao ["self","called"] ["self","called"] (ai Y22):=fsc
theorem Z8:ao ["self"] ["self"] (ai Y8):=fsc
theorem Z20:ao ["self","called"] ["self","called"] (ai Y20):=fsc
theorem Z10:ao ["self"] ["self"] (ai Y10):=fsc
theorem Z21:ao ["self","called"] ["self","called"] (ai Y21):=fsc
theorem Z6:ao ["self"] ["self"] (ai Y6):=fsc
theorem Z19:ao ["self","called"] ["self","called"] (ai Y19):=fsc
theorem Z15:ao ["self"] ["self"] (ai Y15):=fsc
theorem Z23:ao ["self","called"] ["self","called"] (ai Y23):=fsc
theorem Z2:ao ["self","value"] ["self","value"] (ai Y2):=fsc
theorem Z3:ao ["self","value"] ["self","value"] (ai Y3):=fsc
theorem Z12:ao ["self","low","high"] ["self","low","high"] (ai Y12):=fsc
theorem Z0:ao ["self","low","high"] ["self","low","high"] (ai Y0):=fsc
theorem Z30:ao ["self","words","word"] ["self","words"] (ai Y30):=fsc
theorem Z1:ao ["self","low","high"] ["self","low","high"] (ai Y1):=fsc
theorem Z24:ao ["self","codes","outcome"] ["self","codes","outcome"] (ai Y24):=fsc
theorem Z5:ao ["self","codes","outcome"] ["self","codes","outcome"] (ai Y5):=fsc
theorem Z28:ao ["self","codes","outcome"] ["self","codes","outcome"] (ai Y28):=fsc
theorem Z14:ao ["self","codes","outcome"] ["self","codes","outcome"] (ai Y14):=fsc
theorem Z26:ao ["self","codes","outcome"] ["self","codes","outcome"] (ai Y26):=fsc
theorem Z9:ao ["self","codes","outcome"] ["self","codes","outcome"] (ai Y9):=fsc
theorem Z27:ao ["self","codes","outcome"] ["self","codes","outcome"] (ai Y27):=fsc
theorem Z11:ao ["self","codes","outcome"] ["self","codes","outcome"] (ai Y11):=fsc
theorem Z25:ao ["self","codes","outcome"] ["self","codes","outcome"] (ai Y25):=fsc
theorem Z7:ao ["self","codes","outcome"] ["self","codes","outcome"] (ai Y7):=fsc
theorem Z29:ao ["self","codes","outcome"] ["self","codes","outcome"] (ai Y29):=fsc
theorem Z16:ao ["self","codes","outcome"] ["self","codes","outcome"] (ai Y16):=fsc
theorem Z40:ao ["script","head","turn","count","columns","out","way","bit_rows","table","rows","at","spans","handed","found","point","codes","told"] ["script"] (ai Y40):=fsc
structure AD where (a b c d e f g h i j k l m:Addr)
structure Bk(K:W.Frag)(Y:AD):Prop where
 n_Way:W.nsIn K mainGlobals "Way" = some (some (.ref Y.a))
 n_First:W.nsIn K mainGlobals "First" = some (some (.ref Y.b))
 n_Only:W.nsIn K mainGlobals "Only" = some (some (.ref Y.c))
 n_Like:W.nsIn K mainGlobals "Like" = some (some (.ref Y.d))
 n_Low:W.nsIn K mainGlobals "Low" = some (some (.ref Y.e))
 n_High:W.nsIn K mainGlobals "High" = some (some (.ref Y.f))
 n_Sum:W.nsIn K mainGlobals "Sum" = some (some (.ref Y.g))
 n_Domain:W.nsIn K mainGlobals "Domain" = some (some (.ref Y.h))
 n_Numbers:W.nsIn K mainGlobals "Numbers" = some (some (.ref Y.i))
 n_Words:W.nsIn K mainGlobals "Words" = some (some (.ref Y.j))
 n_Table:W.nsIn K mainGlobals "Table" = some (some (.ref Y.k))
 n_NONE:W.nsIn K mainGlobals "NONE" = some (some (.ref Y.l))
 n_CLASH:W.nsIn K mainGlobals "CLASH" = some (some (.ref Y.m))
 k_First:Cls K Y.b
 k_Only:Cls K Y.c
 k_Like:Cls K Y.d
 k_Low:Cls K Y.e
 k_High:Cls K Y.f
 k_Sum:Cls K Y.g
 k_Numbers:Cls K Y.i
 k_Words:Cls K Y.j
 k_Table:Cls K Y.k
 t_First:kQ K Y.b
 t_Only:kQ K Y.c
 t_Like:kQ K Y.d
 t_Low:kQ K Y.e
 t_High:kQ K Y.f
 t_Sum:kQ K Y.g
 t_Numbers:kQ K Y.i
 t_Words:kQ K Y.j
 t_Table:kQ K Y.k
 q_NONE:ModT K Y.l [.str "none",.int (0)]
 q_CLASH:ModT K Y.m [.str "clash",.int (0)]
 na_First_called:NoAttr K Y.b "called"
 na_Only_called:NoAttr K Y.c "called"
 na_Like_called:NoAttr K Y.d "called"
 na_Low_called:NoAttr K Y.e "called"
 na_High_called:NoAttr K Y.f "called"
 na_Sum_called:NoAttr K Y.g "called"
 na_Numbers_low:NoAttr K Y.i "low"
 na_Numbers_high:NoAttr K Y.i "high"
 na_Numbers_words:NoAttr K Y.i "words"
 na_Words_low:NoAttr K Y.j "low"
 na_Words_high:NoAttr K Y.j "high"
 na_Words_words:NoAttr K Y.j "words"
 na_Table_name:NoAttr K Y.k "name"
 na_Table_names:NoAttr K Y.k "names"
 na_Table_domains:NoAttr K Y.k "domains"
 na_Table_outcome:NoAttr K Y.k "outcome"
 na_Table_way:NoAttr K Y.k "way"
 na_Table_rows:NoAttr K Y.k "rows"
 f_nn:W.kitOne K (.ref Y.i) (.ref Y.i)=some true
 f_wn:W.kitOne K (.ref Y.j) (.ref Y.i)=some false
 f_ww:W.kitOne K (.ref Y.j) (.ref Y.j)=some true
 f_tt:W.kitOne K (.ref Y.k) (.ref Y.k)=some true
 f_nw:W.kitOne K (.ref Y.i) (.ref Y.j)=some false
structure Bl(K:W.Frag)(mg:Str->Option Value)(Y:AD):Prop extends Bk K Y where
 Way_:mg "Way" = some (.ref Y.a)
 First_:mg "First" = some (.ref Y.b)
 Only_:mg "Only" = some (.ref Y.c)
 Like_:mg "Like" = some (.ref Y.d)
 Low_:mg "Low" = some (.ref Y.e)
 High_:mg "High" = some (.ref Y.f)
 Sum_:mg "Sum" = some (.ref Y.g)
 Domain_:mg "Domain" = some (.ref Y.h)
 Numbers_:mg "Numbers" = some (.ref Y.i)
 Words_:mg "Words" = some (.ref Y.j)
 Table_:mg "Table" = some (.ref Y.k)
 NONE_:mg "NONE" = some (.ref Y.l)
 CLASH_:mg "CLASH" = some (.ref Y.m)
 len_:mg "len" = none
 isinstance_:mg "isinstance" = none
 int_:mg "int" = none
 bool_:mg "bool" = none
 max_:mg "max" = none
 min_:mg "min" = none
 set_:mg "set" = none
 zip_:mg "zip" = none
 list_:mg "list" = none
 sum_:mg "sum" = none
 range_:mg "range" = none
 enumerate_:mg "enumerate" = none
 all_:mg "all" = none
 tuple_:mg "tuple" = none
 str_:mg "str" = none
 sorted_:mg "sorted" = none
 MOST_SIGNS_:∃u,mg "MOST_SIGNS" = some u/\RelV (V.int 12) u
 SMALL_LETTERS_:∃u,mg "SMALL_LETTERS" = some u/\RelV (V.str "abcdefghijklmnopqrstuvwxyz") u
 MOST_ROWS_:∃u,mg "MOST_ROWS" = some u/\RelV (V.int 200) u
 MOST_COLUMNS_:∃u,mg "MOST_COLUMNS" = some u/\RelV (V.int 4) u
 MOST_WORDS_:∃u,mg "MOST_WORDS" = some u/\RelV (V.int 40) u
theorem tq(ns:List Int)(k:Nat)(hi:Option Int):∃ms:List Int,jZ (ns.map V.int) (some (k:Int)) hi=ms.map V.int/\ms.length<=ns.length-k:=by
 unfold jZ;have e:HT.sIx (ns.map V.int).length 0 (some (k:Int))=min k ns.length:=by
  simp only[HT.sIx,length_map];split <;> lia
 refine⟨(ns.drop (HT.sIx (ns.map V.int).length 0 (some (k:Int)))).take (HT.sIx (ns.map V.int).length (ns.map V.int).length hi-HT.sIx (ns.map V.int).length 0 (some (k:Int))),?_,?_⟩
 ·rw[List.map_take,List.map_drop]
 ·rw[length_take,length_drop,e];lia
theorem p10(n:Nat):(0:Int)<10^n:=Int.pow_pos (by decide)
theorem xZ{n:Int}{p:Int×Int}(c:decide (p.1<=n)=true)(d:decide (n<=p.2)=true):inR n p=true:=by unfold inR;rw[c,d];rfl
theorem vh{n:Int}{p:Int×Int}(c:¬ decide (p.1<=n)=true):inR n p=false:=by unfold inR;rw[eq_false_iff.mpr c];rfl
theorem vi{n:Int}{p:Int×Int}(d:¬ decide (n<=p.2)=true):inR n p=false:=by unfold inR;rw[eq_false_iff.mpr d,Bool.and_false]
theorem z0(a b:Int):atI [V.int a,V.int b] 0=some (V.int a):=rfl
theorem z1(a b:Int):atI [V.int a,V.int b] 1=some (V.int b):=rfl
theorem bQ{H:Hp}{r:Addr}{o:HO}{b:Addr}{u:HO}(h:H r=some u)(n:H b=none):upd H b o r=some u:=by rw[au (aY h n)];exact h
theorem oQ{n:Nat}(h:0<n):ixN n (-1)=some (n-1):=by
 unfold ixN;rw[if_neg (by decide),if_pos (by lia)]
 congr 1
 lia
theorem oR{α:Type}(l:List α)(x y:α):(l++[x]).set ((l++[x]).length-1) y=l++[y]:=by
 have e:(l++[x]).length-1=l.length:=by simp
 rw[e,List.set_append_right _ _ (le_refl _),Nat.sub_self];rfl
theorem take_snoc{α:Type}{l:List α}{i:Nat}{x:α}(e:l[i]?=some x):l.take (i+1)=l.take i++[x]:=by rw[take_add_one,e];rfl
theorem get_map{ns:List Int}{i:Nat}{c:Int}(e:ns[i]?=some c):(ns.map V.int)[i]?=some (.int c):=by rw[getElem?_map,e];rfl
theorem of_map{ns:List Int}{i:Nat}{x:V}(e:(ns.map V.int)[i]?=some x):∃c,x=.int c/\ns[i]?=some c:=by
 rw[getElem?_map]at e;cases q:ns[i]? with
 |none=>rw[q]at e;cases e
 |some c=>rw[q]at e;cases e;exact⟨c,U,U⟩
def lets:Str := "abcdefghijklmnopqrstuvwxyz"
def isw(z:Str):Bool:=decide ((1:Int)<=((z.length:Nat):Int)) && (decide (((z.length:Nat):Int)<=12) && (!decide (V.str z=V.str "not") && kF z lets))
theorem wD{l:List Nat}{i:Nat}{c:Nat}{p:Nat->Bool}(e:l[i]?=some c)(h:p c=false):l.all p=false:=by
 cases q:l.all p with
 |false=>rfl
 |true=>rw[all_eq_true.mp q c (BR e)]at h;cases h
theorem all_succ{l:List Nat}{i:Nat}{c:Nat}{p:Nat->Bool}(e:l[i]?=some c)(h:p c=true)(ha:(l.take i).all p=true):(l.take (i+1)).all p=true:=by
 rw[take_snoc e,List.all_append,ha];simp[h]
theorem tu{z g:Str}(h:(z.cps.toList.take z.cps.size).all (sg g)=true):kF z g=true:=by
 have e:z.cps.toList.take z.cps.size=z.cps.toList:=by rw[←length_toList];exact take_length
 rw[e]at h;exact h
theorem wF{g:Str}{c:Nat}(h:(!(!(Builtin.Str.occurrences g ⟨#[c]⟩ 0 g.length 1).isEmpty))=true):sg g c=false:=by unfold sg;simpa using h
theorem ya{g:Str}{c:Nat}(h:¬ (!(!(Builtin.Str.occurrences g ⟨#[c]⟩ 0 g.length 1).isEmpty))=true):sg g c=true:=by unfold sg;simpa using h
theorem big{n:Nat}(h:n<=1000):n<=sizeLine:=le_of_lt (ax h)
def mkd(C:Addr)(H:Hp)(x dx:Addr)(lo hi:Int):Hp:=upd (upd H x (.ins C dx [("low",.int lo)])) x (.ins C dx [("low",.int lo),("high",.int hi)])
theorem put2(v u:V):bu (Str.ofString "high") u [(Str.ofString "low",v)]=[(Str.ofString "low",v),(Str.ofString "high",u)]:=by
 unfold bu bu;rw[if_neg (by decide)]
theorem put3(v u t:V):bu (Str.ofString "words") t [(Str.ofString "low",v),(Str.ofString "high",u)]=[(Str.ofString "low",v),(Str.ofString "high",u),(Str.ofString "words",t)]:=by
 unfold bu bu bu;rw[if_neg (by decide),if_neg (by decide)]
def hiW(zs:List Str):Int:=((zs.length:Nat):Int)-1
structure Good(zs:List Str):Prop where
 some_:1<=zs.length
 few:zs.length<=40
 words:∀z∈zs,isw z=true
 once:zs.Nodup
theorem mH(zs:List Str):(zs.map V.str).all dG=true:=by
 rw[all_map];exact all_eq_true.mpr λ_ _=>U
theorem oS{zs:List Str}{i:Nat}{x:V}(e:(zs.map V.str)[i]?=some x):∃z,x=.str z/\zs[i]?=some z:=by
 rw[getElem?_map]at e;cases q:zs[i]? with
 |none=>rw[q]at e;cases e
 |some z=>rw[q]at e;cases e;exact⟨z,U,U⟩
def six:List Str:=[Str.ofString "first",Str.ofString "only",Str.ofString "like",Str.ofString "low",Str.ofString "high",Str.ofString "sum"]
theorem uz{i j:Nat}{z:Str}(h:six[i]?=some z)(k:six[j]?=some z):i=j:=i3 (show six.Nodup by decide+kernel) h k
def WyN(C:Addr)(H:Hp)(x:Addr)(z:Str):Prop:=∃dx,H x=some (.ins C dx [("called",.str z)])
theorem WyN.same{C:Addr}{H H':Hp}{x:Addr}{z:Str}(h:WyN C H x z)(s:ar H H'):WyN C H' x z:=by obtain⟨dx,e⟩:=h;exact⟨dx,s _ _ e⟩
def rH(C:Addr)(z:Str):Sp:=λvs H Q _=>∃(x dx:Addr),vs=[.ref x]/\H x=some (.ins C dx [])/\Q .non (upd H x (.ins C dx [("called",.str z)]))
theorem aV:2<=sizeLine:=by decide
def cl6(a b c d e f:Addr):List Addr:=[a,b,c,d,e,f]
def wG(C:Addr)(H:Hp)(a:Addr)(lo hi:Int):Prop:=∃dx fs,H a=some (.ins C dx fs)/\fs.lookup (Str.ofString "low")=some (.int lo)/\fs.lookup (Str.ofString "high")=some (.int hi)/\fs.lookup (Str.ofString "has_code")=none
def Dom(cN cW:Addr)(H:Hp)(a:Addr)(b:Int×Int):Prop:=∃C,(C=cN\/C=cW)/\wG C H a b.1 b.2
theorem Dom.same{cN cW:Addr}{H H':Hp}{a:Addr}{b:Int×Int}(h:Dom cN cW H a b)(s:ar H H'):Dom cN cW H' a b:=by obtain⟨C,hC,dx,fs,e,r⟩:=h;exact⟨C,hC,dx,fs,s _ _ e,r⟩
def aI{α:Type}(xs:List V)(as:List α)(P:Addr->α->Prop):Prop:=xs.length=as.length/\∀(j:Nat)(a:α),as[j]?=some a->∃r,xs[j]?=some (.ref r)/\P r a
theorem aI.mono{α:Type}{xs:List V}{as:List α}{P Q:Addr->α->Prop}(h:aI xs as P)(k:∀r a,P r a->Q r a):aI xs as Q:=⟨h.1,λj a e=>let ⟨r,e1,p⟩:=h.2 j a e;⟨r,e1,k r a p⟩⟩
theorem aI.nil{α:Type}{P:Addr->α->Prop}:aI [] [] P:=⟨U,(λj a e=>by simp at e)⟩
theorem aI.snoc{α:Type}{xs:List V}{as:List α}{P:Addr->α->Prop}{r:Addr}{a:α}(h:aI xs as P)(p:P r a):aI (xs++[.ref r]) (as++[a]) P:=by
 refine⟨by simp[h.1],λj b e=>?_⟩;by_cases hj:j<as.length
 ·rw[getElem?_append_left hj]at e;obtain⟨r',e1,q⟩:=h.2 j b e;exact⟨r',by rw[getElem?_append_left (by rw[h.1];exact hj)];exact e1,q⟩
 ·have hj2:j=as.length:=by
   have:=(BQ.mp e).1;simp at this;lia
  subst hj2;simp at e;subst e;exact⟨r,by rw[←h.1];simp,p⟩
theorem aI.get{α:Type}{xs:List V}{as:List α}{P:Addr->α->Prop}(h:aI xs as P){j:Nat}{x:V}(e:xs[j]?=some x):∃r a,x=.ref r/\as[j]?=some a/\P r a:=by
 have hj:=(BQ.mp e).1;have ea:=BP (l:=as) (i:=j) (by rw[←h.1];exact hj);obtain⟨r,e1,p⟩:=h.2 j _ ea;rw[e]at e1;cases e1;exact⟨r,_,U,ea,p⟩
abbrev Prs:=List (Int×Int)
def SpA(N:Addr->Prop)(H:Hp)(l:Addr)(ps:Prs):Prop:=N l/\∃ys,H l=some (.lst ys)/\PL H ys ps
def CL(N:Addr->Prop)(H:Hp)(xs:List V)(pss:List Prs):Prop:=aI xs pss (SpA N H)
abbrev Rw:=List Prs×Int
def fA(N:Addr->Prop)(H:Hp)(r:Addr)(rw_:Rw):Prop:=∃ce cs,H r=some (.tup [.ref ce,.int rw_.2])/\N ce/\H ce=some (.lst cs)/\CL N H cs rw_.1
def RL(N:Addr->Prop)(H:Hp)(xs:List V)(rws:List Rw):Prop:=aI xs rws (fA N H)
theorem SpA.same{N:Addr->Prop}{H H':Hp}{l:Addr}{ps:Prs}(h:SpA N H l ps)(s:ar H H'):SpA N H' l ps:=by obtain⟨n,ys,e,p⟩:=h;exact⟨n,ys,s _ _ e,p.mono s.tups⟩
theorem CL.same{N:Addr->Prop}{H H':Hp}{xs:List V}{pss:List Prs}(h:CL N H xs pss)(s:ar H H'):CL N H' xs pss:=aI.mono h λ_ _ p=>p.same s
theorem fA.same{N:Addr->Prop}{H H':Hp}{r:Addr}{w:Rw}(h:fA N H r w)(s:ar H H'):fA N H' r w:=by obtain⟨ce,cs,e,n,f,c⟩:=h;exact⟨ce,cs,s _ _ e,n,s _ _ f,c.same s⟩
theorem RL.same{N:Addr->Prop}{H H':Hp}{xs:List V}{rws:List Rw}(h:RL N H xs rws)(s:ar H H'):RL N H' xs rws:=aI.mono h λ_ _ p=>p.same s
abbrev NT:Addr->Prop:=λ_=>True
theorem SpA.any{N:Addr->Prop}{H:Hp}{l:Addr}{ps:Prs}(h:SpA N H l ps):SpA NT H l ps:=⟨trivial,h.2⟩
theorem CL.any{N:Addr->Prop}{H:Hp}{xs:List V}{pss:List Prs}(h:CL N H xs pss):CL NT H xs pss:=aI.mono h λ_ _ p=>p.any
theorem fA.any{N:Addr->Prop}{H:Hp}{r:Addr}{w:Rw}(h:fA N H r w):fA NT H r w:=by obtain⟨ce,cs,e,_,f,c⟩:=h;exact⟨ce,cs,e,trivial,f,c.any⟩
theorem RL.any{N:Addr->Prop}{H:Hp}{xs:List V}{rws:List Rw}(h:RL N H xs rws):RL NT H xs rws:=aI.mono h λ_ _ p=>p.any
theorem SpA.wk{N N':Addr->Prop}{H:Hp}{l:Addr}{ps:Prs}(h:SpA N H l ps)(k:∀a,N a->N' a):SpA N' H l ps:=⟨k _ h.1,h.2⟩
theorem CL.wk{N N':Addr->Prop}{H:Hp}{xs:List V}{pss:List Prs}(h:CL N H xs pss)(k:∀a,N a->N' a):CL N' H xs pss:=aI.mono h λ_ _ p=>p.wk k
theorem fA.wk{N N':Addr->Prop}{H:Hp}{r:Addr}{w:Rw}(h:fA N H r w)(k:∀a,N a->N' a):fA N' H r w:=by obtain⟨ce,cs,e,n,f,c⟩:=h;exact⟨ce,cs,e,k _ n,f,c.wk k⟩
theorem SpA.updN{N:Addr->Prop}{D:Addr}{H:Hp}{l:Addr}{ps:Prs}{zs:List V}{o:HO}(h:SpA N H l ps)(n:¬ N D)(e:H D=some (.lst zs)):SpA N (upd H D o) l ps:=by
 obtain⟨m,ys,f,p⟩:=h;exact⟨m,ys,(au (λz=>n (by rw[←z];exact m))).trans f,p.mono (aW e)⟩
theorem CL.updN{N:Addr->Prop}{D:Addr}{H:Hp}{xs:List V}{pss:List Prs}{zs:List V}{o:HO}(h:CL N H xs pss)(n:¬ N D)(e:H D=some (.lst zs)):CL N (upd H D o) xs pss:=aI.mono h λ_ _ p=>p.updN n e
theorem fA.updN{N:Addr->Prop}{D:Addr}{H:Hp}{r:Addr}{w:Rw}{zs:List V}{o:HO}(h:fA N H r w)(n:¬ N D)(e:H D=some (.lst zs)):fA N (upd H D o) r w:=by
 obtain⟨ce,cs,f,m,g,c⟩:=h;exact⟨ce,cs,(au (fu f e (by intro z;cases z))).trans f,m,(au (λz=>n (by rw[←z];exact m))).trans g,c.updN n e⟩
theorem RL.updN{N:Addr->Prop}{D:Addr}{H:Hp}{xs:List V}{rws:List Rw}{zs:List V}{o:HO}(h:RL N H xs rws)(n:¬ N D)(e:H D=some (.lst zs)):RL N (upd H D o) xs rws:=aI.mono h λ_ _ p=>p.updN n e
def Fr(H:Hp)(D:Addr):Addr->Prop:=λa=>H a=none/\a≠D
theorem Fr.out{H:Hp}{D:Addr}:¬ Fr H D D:=λh=>h.2 U
structure Br(b:Int×Int)(zs:List Str):Prop where
 le:b.1<=b.2
 ws:zs≠[]->Good zs/\b=(0,hiW zs)
structure jS(bs:Prs)(o:Int×Int)(w:Rw):Prop where
 len:w.1.length=bs.length
 inn:∀(j:Nat)(ps:Prs)(b:Int×Int),w.1[j]?=some ps->bs[j]?=some b->∀p∈ps,b.1<=p.1/\p.2<=b.2
 lo:o.1<=w.2
 hi:w.2<=o.2
def gd(pss:List Prs)(cs:List Int):Bool:=(List.range cs.length).all λj=>inP (pss.getD j []) (cs.getD j 0)
theorem pf1(v0 v1:V):bu (Str.ofString "names") v1 [(Str.ofString "name",v0)]=[(Str.ofString "name",v0),(Str.ofString "names",v1)]:=by
 unfold bu bu;rw[if_neg (by decide)]
theorem pf2(v0 v1 v2:V):bu (Str.ofString "domains") v2 [(Str.ofString "name",v0),(Str.ofString "names",v1)]=[(Str.ofString "name",v0),(Str.ofString "names",v1),(Str.ofString "domains",v2)]:=by
 unfold bu bu bu;rw[if_neg (by decide),if_neg (by decide)]
theorem pf3(v0 v1 v2 v3:V):bu (Str.ofString "outcome") v3 [(Str.ofString "name",v0),(Str.ofString "names",v1),(Str.ofString "domains",v2)]=[(Str.ofString "name",v0),(Str.ofString "names",v1),(Str.ofString "domains",v2),(Str.ofString "outcome",v3)]:=by
 unfold bu bu bu bu;rw[if_neg (by decide),if_neg (by decide),if_neg (by decide)]
theorem pf4(v0 v1 v2 v3 v4:V):bu (Str.ofString "way") v4 [(Str.ofString "name",v0),(Str.ofString "names",v1),(Str.ofString "domains",v2),(Str.ofString "outcome",v3)]=[(Str.ofString "name",v0),(Str.ofString "names",v1),(Str.ofString "domains",v2),(Str.ofString "outcome",v3),(Str.ofString "way",v4)]:=by
 unfold bu bu bu bu bu;rw[if_neg (by decide),if_neg (by decide),if_neg (by decide),if_neg (by decide)]
theorem pf5(v0 v1 v2 v3 v4 v5:V):bu (Str.ofString "rows") v5 [(Str.ofString "name",v0),(Str.ofString "names",v1),(Str.ofString "domains",v2),(Str.ofString "outcome",v3),(Str.ofString "way",v4)]=[(Str.ofString "name",v0),(Str.ofString "names",v1),(Str.ofString "domains",v2),(Str.ofString "outcome",v3),(Str.ofString "way",v4),(Str.ofString "rows",v5)]:=by
 unfold bu bu bu bu bu bu;rw[if_neg (by decide),if_neg (by decide),if_neg (by decide),if_neg (by decide),if_neg (by decide)]
def hide(H:Hp)(x:Addr):Hp:=λb=>if b=x then none else H b
theorem cy{H:Hp}{x b:Addr}{o:HO}(e:H b=some o)(n:b≠x):hide H x b=some o:=by unfold hide;rw[if_neg n];exact e
theorem hide_same{H H':Hp}{x:Addr}(k:∀b o,b≠x->H b=some o->H' b=some o):ar (hide H x) H':=λb o e=>by
 unfold hide at e;by_cases h:b=x
 ·rw[if_pos h]at e;cases e
 ·rw[if_neg h]at e;exact k b o h e
theorem PL.hide{H:Hp}{x C dx:Addr}{fs:List (Str×V)}(hx:H x=some (.ins C dx fs)){ys:List V}{ps:Prs}(h:PL H ys ps):PL (hide H x) ys ps :=
 h.mono λb xs e=>cy e (fu e hx (by intro z;cases z))
theorem RL.hide{H:Hp}{x C dx:Addr}{fs:List (Str×V)}(hx:H x=some (.ins C dx fs)){xs:List V}{rws:List Rw}(h:RL NT H xs rws):RL NT (My.hide H x) xs rws :=
 aI.mono h λr w ⟨ce,cs,e,_,f,c⟩=>⟨ce,cs,cy e (fu e hx (by intro z;cases z)),trivial,cy f (fu f hx (by intro z;cases z)),aI.mono c λl ps ⟨_,ys,g,p⟩=>⟨trivial,ys,cy g (fu g hx (by intro z;cases z)),PL.hide hx p⟩⟩
def wcs(c k:Int):List Nat:=List.replicate (c / 26%6).toNat (97+(c%26).toNat)++([97+(k / 7%7).toNat,97+(k%7).toNat]++List.replicate (k%5).toNat (97+(c / 156%26).toNat))
def wd(c k:Int):Str:=⟨(wcs c k).toArray⟩
theorem uA(c k:Int):(wcs c k).length=(c / 26%6).toNat+(2+(k%5).toNat):=by unfold wcs;simp;lia
theorem nt(c k:Int):(wcs c k)[(c / 26%6).toNat]?=some (97+(k / 7%7).toNat):=by
 unfold wcs;rw[getElem?_append_right (by simp)];simp
theorem qI(c k:Int):(wcs c k)[(c / 26%6).toNat+1]?=some (97+(k%7).toNat):=by
 unfold wcs;rw[getElem?_append_right (by simp)];simp
theorem wH(c k:Int):(wd c k).length=(c / 26%6).toNat+(2+(k%5).toNat):=by
 rw[←uA c k];unfold wd;simp[Str.length]
theorem yb(c k:Int):2<=(wd c k).length/\(wd c k).length<=11:=by
 rw[wH];have h0:=emod_lt_of_pos (c / 26) (show(0:Int)<6 by decide);have h1:=emod_lt_of_pos k (show(0:Int)<5 by decide);lia
theorem wI{c:Nat}(h:97<=c/\c<=122):sg lets c=true:=by
 have:∀d:Nat,d<26->sg lets (97+d)=true:=by decide+kernel
 have z:=this (c-97) (by lia);rw[show 97+(c-97)=c by lia]at z;exact z
theorem uB(c k:Int):∀x∈wcs c k,97<=x/\x<=122:=λx hx=>by
 have h0:=emod_lt_of_pos c (show(0:Int)<26 by decide);have h1:=emod_lt_of_pos (c / 156) (show(0:Int)<26 by decide);have h2:=emod_lt_of_pos (k / 7) (show(0:Int)<7 by decide);have h3:=emod_lt_of_pos k (show(0:Int)<7 by decide);unfold wcs at hx;simp only[mem_append,List.mem_replicate,mem_cons,not_mem_nil,or_false]at hx;rcases hx with⟨_,rfl⟩|(rfl|rfl)|⟨_,rfl⟩ <;> lia
theorem qg(c k:Int):isw (wd c k)=true:=by
 have hl:=yb c k;have ha:kF (wd c k) lets=true:=by
  unfold kF wd;rw[all_eq_true];intro x hx;exact wI (uB c k x (by simpa using hx))
 have hn:¬ (V.str (wd c k)=V.str (Str.ofString "not")):=λh=>by
  injection h with h;have e:Str.ofString "not" = ⟨[110,111,116].toArray⟩:=by decide+kernel
  rw[e]at h;unfold wd at h;injection h with h;have h:wcs c k=[110,111,116]:=by simpa using congrArg Array.toList h
  have z:=nt c k;rw[h]at z;have h2:=emod_lt_of_pos (k / 7) (show(0:Int)<7 by decide);have m:=BR z;simp only[mem_cons,not_mem_nil,or_false]at m;lia
 unfold isw;rw[ha,decide_eq_true (show(1:Int)<=(((wd c k).length:Nat):Int) by lia),decide_eq_true (show(((wd c k).length:Nat):Int)<=12 by lia)];show(true && (true && (!decide (V.str (wd c k)=V.str (Str.ofString "not")) && true)))=true;rw[decide_eq_false hn];rfl
theorem wJ{c k k':Int}(h0:0<=k)(h1:k<49)(h2:0<=k')(h3:k'<49)(e:wd c k=wd c k'):k=k':=by
 unfold wd at e;injection e with e;have e:wcs c k=wcs c k':=by simpa using congrArg Array.toList e
 have a:=nt c k;have b:=qI c k;rw[e,nt]at a;rw[e,qI]at b;injection a with a;injection b with b;lia
theorem kj{s:Str}{n:Nat}(h:s.cps.toList=(List.range n).map (97 + ·)){k:Int}(h0:0<=k)(h1:k<n):atI s.cps.toList k=some (97+k.toNat):=by
 have hk:k.toNat<n:=by lia
 have z:s.cps.toList[k.toNat]?=some (97+k.toNat):=by rw[h,getElem?_map,List.getElem?_range hk];rfl
 have q:=ba z;rw[show((k.toNat:Nat):Int)=k by lia]at q;exact q
theorem vj:(Str.ofString "abcdefghijklmnopqrstuvwxyz").cps.toList=(List.range 26).map (97 + ·):=by decide+kernel
theorem yc:(Str.ofString "abcdefg").cps.toList=(List.range 7).map (97 + ·):=by decide+kernel
theorem yd(c:Nat)(n:Int):Txt.mul ⟨#[c]⟩ n=⟨(List.replicate n.toNat c).toArray⟩:=by
 have h:=PyProof.Rows.mul_one_list c n;cases q:Txt.mul ⟨#[c]⟩ n with
 |mk a=>rw[q]at h;simp only at h;rw[←h]
def wds(c:Int)(n:Nat):List Str:=(List.range n).map λj:Nat=>wd c (j:Int)
theorem tw(c:Int)(n:Nat):wds c (n+1)=wds c n++[wd c (n:Int)]:=by unfold wds;rw[range_succ,map_append];rfl
theorem mI{c:Int}{n:Nat}(h:n<=49)(f:Nat->Int)(hf:∀j,j<n->0<=f j/\f j<49)(inj:∀i j,f i=f j->i=j):((List.range n).map λj:Nat=>wd c (f j)).Nodup:=by
 rw[List.nodup_iff_pairwise_ne,List.pairwise_map];refine List.Pairwise.imp_of_mem (R:=λa b=>a≠b) (λ{a b} ha hb hab e=>?_) List.nodup_range;have a1:=hf a (mem_range.mp ha);have b1:=hf b (mem_range.mp hb);exact hab (inj a b (wJ a1.1 a1.2 b1.1 b1.2 e))
theorem tD{c:Int}{n:Nat}(h1:1<=n)(h2:n<=40):Good (wds c n):=by
 refine⟨by unfold wds;simp;lia,by unfold wds;simp;lia,λz hz=>?_,mI (n:=n) (by lia) (λj:Nat=>(j:Int)) (λj hj=>⟨by lia,by lia⟩) λi j e=>by lia⟩;unfold wds at hz;obtain⟨j,_,rfl⟩:=mem_map.mp hz;exact qg _ _
abbrev SI:=Str×Int
def tp(p:SI):List V:=[.str p.1,.int p.2]
def say(i:Int):SI:=(Str.ofString "say",i)
def jT:SI:=(Str.ofString "clash",0)
def zC:SI:=(Str.ofString "none",0)
def least(ns:List Int):Int:=ns.foldl (λm c=>if c<m then c else m) (ns.headD 0)
def great(ns:List Int):Int:=ns.foldl (λm c=>if c>m then c else m) (ns.headD 0)
theorem fold_min(ns:List Int):∀m:Int,(ns.foldl (λm c=>if c<m then c else m) m=m\/ns.foldl (λm c=>if c<m then c else m) m∈ns)/\ns.foldl (λm c=>if c<m then c else m) m<=m/\∀x∈ns,ns.foldl (λm c=>if c<m then c else m) m<=x:=by
 induction ns with
 |nil=>intro m;exact⟨.inl U,Int.le_refl _,λx h=>by cases h⟩
 |cons n ns ih =>
  intro m;obtain⟨h1,h2,h3⟩:=ih (if n<m then n else m);rw[List.foldl_cons];refine⟨?_,?_,λx hx=>?_⟩
  ·rcases h1 with h1|h1
   ·rw[h1];split
    ·exact .inr mem_cons_self
    ·exact .inl U
   ·exact .inr (mem_cons_of_mem _ h1)
  ·split at h2 <;> split <;> lia
  ·rcases mem_cons.mp hx with rfl|hx
   ·split at h2 <;> split <;> lia
   ·exact h3 x hx
theorem fold_max(ns:List Int):∀m:Int,(ns.foldl (λm c=>if c>m then c else m) m=m\/ns.foldl (λm c=>if c>m then c else m) m∈ns)/\m<=ns.foldl (λm c=>if c>m then c else m) m/\∀x∈ns,x<=ns.foldl (λm c=>if c>m then c else m) m:=by
 induction ns with
 |nil=>intro m;exact⟨.inl U,Int.le_refl _,λx h=>by cases h⟩
 |cons n ns ih =>
  intro m;obtain⟨h1,h2,h3⟩:=ih (if n>m then n else m);rw[List.foldl_cons];refine⟨?_,?_,λx hx=>?_⟩
  ·rcases h1 with h1|h1
   ·rw[h1];split
    ·exact .inr mem_cons_self
    ·exact .inl U
   ·exact .inr (mem_cons_of_mem _ h1)
  ·split at h2 <;> split <;> lia
  ·rcases mem_cons.mp hx with rfl|hx
   ·split at h2 <;> split <;> lia
   ·exact h3 x hx
theorem fB{n:Int}{ns:List Int}:least (n :: ns)∈n :: ns/\∀x∈n :: ns,least (n :: ns)<=x:=by
 obtain⟨h1,h2,h3⟩:=fold_min (n :: ns) n;refine⟨?_,h3⟩;rcases h1 with h1|h1
 ·show(n :: ns).foldl _ n∈_;rw[h1];exact mem_cons_self
 ·exact h1
theorem gs{n:Int}{ns:List Int}:great (n :: ns)∈n :: ns/\∀x∈n :: ns,x<=great (n :: ns):=by
 obtain⟨h1,h2,h3⟩:=fold_max (n :: ns) n;refine⟨?_,h3⟩;rcases h1 with h1|h1
 ·show(n :: ns).foldl _ n∈_;rw[h1];exact mem_cons_self
 ·exact h1
theorem lg{n m:Int}{ns:List Int}(h1:m∈n :: ns)(h2:∀b∈n :: ns,m<=b):m=least (n :: ns):=by
 have a:=h2 _ fB.1;have b:=fB.2 _ h1;lia
theorem lh{n m:Int}{ns:List Int}(h1:m∈n :: ns)(h2:∀b∈n :: ns,b<=m):m=great (n :: ns):=by
 have a:=h2 _ gs.1;have b:=gs.2 _ h1;lia
def zD(ns:List Int):SI:=say (least ns)
def ye(ns:List Int):SI:=say (great ns)
def je(ns:List Int):SI:=if least ns=great ns then say (least ns)else jT
theorem jD{n:Int}{ns:List Int}:(∀x∈ns,x=n)↔least (n :: ns)=great (n :: ns):=by
 constructor
 ·intro h;have e:∀x∈n :: ns,x=n:=λx hx=>by
   rcases mem_cons.mp hx with r|hx
   ·exact r
   ·exact h x hx
  rw[e _ fB.1,e _ gs.1]
 ·intro h x hx;have a1:=fB.2 x (mem_cons_of_mem n hx);have a2:=gs.2 x (mem_cons_of_mem n hx);have a3:=fB.2 n (mem_cons_self (l:=ns));have a4:=gs.2 n (mem_cons_self (l:=ns));lia
theorem mJ{n:Int}{ns:List Int}(h:∀x∈ns,x=n):least (n :: ns)=n:=by
 have e:∀x∈n :: ns,x=n:=λx hx=>by
  rcases mem_cons.mp hx with r|hx
  ·exact r
  ·exact h x hx
 exact e _ fB.1
def ver(f:List Int->SI):List Int->SI
 | []=>zC
 |n :: ns=>f (n :: ns)
def Wy(C:Addr)(H:Hp)(x:Addr):Prop:=∃dx z,H x=some (.ins C dx [("called",.str z)])
def wK(ns:List Int):SI:=say (ns.headD 0)
def jf(ns:List Int):SI:=if ns.length=1 then say (ns.headD 0)else jT
def near(lo hi n:Int):Int:=if n<lo then lo else if n>hi then hi else n
def wf:Nat->Int->Int->List Int->SI
 |0,_,_=>wK
 |1,_,_=>jf
 |2,_,_=>je
 |3,_,_=>zD
 |4,_,_=>ye
 |_,lo,hi=>λns=>say (near lo hi ns.sum)
theorem at0(n:Int)(ns:List Int):atI ((n :: ns).map V.int) 0=some (.int n):=ba (j:=0) U
def rJ(K:W.Frag)(C cN cW:Addr)(i:Nat):Sp:=λvs H Q _=>∃(x c o:Addr)(n:Int)(ns:List Int)(b:Int×Int),vs=[.ref x,.ref c,.ref o]/\Wy C H x/\Dom cN cW H o b/\b.1<=b.2/\SqL K H c ((n :: ns).map V.int)/\ns.length<900/\∀(r:Addr)(H':Hp),ar H H'->SqT K H' r (tp (wf i b.1 b.2 (n :: ns)))->Q (.ref r) H'
def jg(K:W.Frag)(C cN cW:Addr)(i:Nat):Sp:=λvs H Q _=>∃(x c o:Addr)(ns:List Int)(b:Int×Int),vs=[.ref x,.ref c,.ref o]/\Wy C H x/\Dom cN cW H o b/\b.1<=b.2/\SqL K H c (ns.map V.int)/\ns.length<900/\∀(r:Addr)(H':Hp),ar H H'->SqT K H' r (tp (ver (wf i b.1 b.2) ns))->Q (.ref r) H'
def msk(f:Nat->Bool):Nat->Nat
 |0=>0
 |n+1=>(if f n then 2^n else 0)+msk f n
theorem oU(f:Nat->Bool)(n:Nat):msk f (n+1)=(if f n then 2^n else 0)+msk f n:=rfl
theorem qh(f:Nat->Bool):∀n,msk f n<2^n
 |0=>Nat.one_pos
 |n+1=>by
  have:=qh f n;unfold msk;rw[Nat.pow_succ];split <;> lia
theorem qJ(f:Nat->Bool)(k:Nat):∀n,(msk f n).testBit k=(decide (k<n) && f k)
 |0=>by simp[msk]
 |n+1=>by
  have ih:=qJ f k n;have lt:=qh f n;unfold msk;rcases Nat.lt_trichotomy k n with h|h|h
  ·split
   ·rw[Nat.testBit_two_pow_add_gt h,ih];simp[h,lt_succ_of_lt h]
   ·rw[zero_add,ih];simp[h,lt_succ_of_lt h]
  ·subst h;split
   ·rename_i hf
    rw[Nat.testBit_two_pow_add_eq,Nat.testBit_lt_two_pow lt];simp[hf]
   ·rename_i hf
    rw[zero_add,Nat.testBit_lt_two_pow lt];simp[hf]
  ·have lt2:(if f n=true then 2^n else 0)+msk f n<2^k:=lt_of_lt_of_le (qh f (n+1)) (Nat.pow_le_pow_right (by decide) h);rw[Nat.testBit_lt_two_pow lt2];simp;lia
def gu(m:Int)(k:Nat):Bool:=Builtin.bitAnd (m / 2^k) 1 != 0
theorem rK(f:Nat->Bool)(n k:Nat):gu ((msk f n:Nat):Int) k=(decide (k<n) && f k):=by
 rw[←qJ];unfold gu;have e:((msk f n:Nat):Int) / 2^k=((msk f n / 2^k:Nat):Int):=by simp
 rw[e,PyProof.Rows.bitAnd_pp (Int.natCast_nonneg _) (by decide)];unfold Nat.testBit;rw[Nat.shiftRight_eq_div_pow,toNat_natCast,Nat.and_comm];show((((1:Int).toNat &&& (msk f n / 2^k):Nat):Int) != 0)=_;rw[Bool.eq_iff_iff,bne_iff_ne,bne_iff_ne];constructor
 ·intro h z;exact h (by rw[show(1:Int).toNat=1 from U,z];rfl)
 ·intro h z;exact h (by rw[show(1:Int).toNat=1 from U]at z;lia)
def pkF(rws:List Rw)(f:Nat->Bool)(n:Nat):List Int:=((List.range n).filter f).map λk=>(rws.getD k ([],0)).2
theorem oV(rws:List Rw)(f:Nat->Bool)(n:Nat):pkF rws f (n+1)=pkF rws f n++(if f n then[(rws.getD n ([],0)).2] else[]):=by
 unfold pkF;rw[range_succ,filter_append,map_append];cases h:f n with
 |true=>rw[List.filter_cons_of_pos h];simp
 |false=>rw[List.filter_cons_of_neg (by rw[h];exact Bool.false_ne_true)];simp
theorem qK(rws:List Rw)(f:Nat->Bool)(n:Nat):(pkF rws f n).length<=n:=by
 unfold pkF;rw[length_map];exact le_trans (List.length_filter_le ..) (by simp)
theorem uC(rws:List Rw)(f:Nat->Bool)(n:Nat):pkF rws (gu ((msk f n:Nat):Int)) n=pkF rws f n:=by
 unfold pkF
 congr 1
 apply List.filter_congr
 intro k hk;rw[rK];simp[mem_range.mp hk]
def Tbl(cT cN cW:Addr)(H:Hp)(t:Addr)(rws:List Rw)(i:Nat)(o:Int×Int):Prop:=∃(rl ou dx:Addr)(fs:List (Str×V))(xs:List V)(wy:Str),H t=some (.ins cT dx fs)/\fs.lookup (Str.ofString "rows")=some (.ref rl)/\fs.lookup (Str.ofString "way")=some (.str wy)/\fs.lookup (Str.ofString "outcome")=some (.ref ou)/\H rl=some (.lst xs)/\RL NT H xs rws/\six[i]?=some wy/\Dom cN cW H ou o/\o.1<=o.2/\xs.length<=200
theorem Tbl.same{cT cN cW:Addr}{H H':Hp}{t:Addr}{rws:List Rw}{i:Nat}{o:Int×Int}(h:Tbl cT cN cW H t rws i o)(s:ar H H'):Tbl cT cN cW H' t rws i o:=by
 obtain⟨rl,ou,dx,fs,xs,wy,h1,h2,h3,h4,h5,h6,h7,h8,h9,h10⟩:=h;exact⟨rl,ou,dx,fs,xs,wy,s _ _ h1,h2,h3,h4,s _ _ h5,h6.same s,h7,h8.same s,h9,h10⟩
def lW(rws:List Rw)(cs:List Int)(k:Nat):Bool:=gd (rws.getD k ([],0)).1 cs
theorem getD_at{rws:List Rw}{k:Nat}{w:Rw}(e:rws[k]?=some w):rws.getD k ([],0)=w:=by rw[getD_eq_getElem?_getD,e];rfl
def fl(rws:List Rw)(cs:List Int):List Int:=(rws.filter λw=>gd w.1 cs).map (·.2)
theorem qL(rws:List Rw)(w:Rw)(cs:List Int):fl (rws++[w]) cs=fl rws cs++(if gd w.1 cs then[w.2] else[]):=by
 unfold fl;rw[filter_append,map_append];cases h:gd w.1 cs <;> simp[filter_cons,h]
theorem oW(rws:List Rw)(cs:List Int):∀n,n<=rws.length->pkF rws (lW rws cs) n=fl (rws.take n) cs
 |0,_=>by simp[pkF,fl]
 |n+1,h=>by
  have ew:rws[n]?=some rws[n]:=BP h;rw[oV,oW rws cs n (Nat.le_of_succ_le h),take_snoc ew,qL,getD_at ew];unfold lW;rw[getD_at ew]
theorem tE(rws:List Rw)(cs:List Int):pkF rws (lW rws cs) rws.length=fl rws cs:=by
 rw[oW rws cs _ (le_refl _),take_length]
def ord:List Nat:=[3,4,2,1,0,5]
theorem qM{K:W.Frag}{H:Hp}{n:Nat}{a b:Addr}{xs ys:List V}(ha:SqL K H a xs)(hb:SqL K H b ys)(hl:xs.length=ys.length)(h:∀(j:Nat)(x y:V),xs[j]?=some x->ys[j]?=some y->DEq K H n x y true):DEq K H (n+1) (.ref a) (.ref b) true:=by
 by_cases e:a=b
 ·subst e;exact .same a
 ·have:=DEq.lst (f:=λ_=>true) e ha hb hl h;rw[show(List.range xs.length).all (λ_=>true)=true by simp]at this;exact this
theorem qN{K:W.Frag}{H:Hp}{n:Nat}{a b:Addr}{xs ys:List V}(ha:SqT K H a xs)(hb:SqT K H b ys)(hl:xs.length=ys.length)(h:∀(j:Nat)(x y:V),xs[j]?=some x->ys[j]?=some y->DEq K H n x y true):DEq K H (n+1) (.ref a) (.ref b) true:=by
 by_cases e:a=b
 ·subst e;exact .same a
 ·have:=DEq.tup (f:=λ_=>true) e ha hb h;rw[show((List.range (min xs.length ys.length)).all (λ_=>true) && xs.length == ys.length)=true by simp[hl]]at this;exact this
theorem nu{K:W.Frag}{H:Hp}{n:Nat}(i:Int):DEq K H n (.int i) (.int i) true:=by
 have:=DEq.flat (K:=K) (H:=H) (n:=n) (x:=.int i) (y:=.int i) U U;rw[show eqV (.int i) (.int i)=true by simp[eqV]]at this;exact this
theorem tF{K:W.Frag}{H:Hp}{n:Nat}{xs ys:List V}{ps:Prs}(h:PL H xs ps)(h':PL H ys ps)(j:Nat)(x y:V)(e1:xs[j]?=some x)(e2:ys[j]?=some y):DEq K H (n+1) x y true:=by
 obtain⟨u,r,g1,rfl,h1⟩:=h.get e1;obtain⟨u',r',g2,rfl,h2⟩:=h'.get e2;rw[g1]at g2;cases g2;refine qN (SqT.of h1) (SqT.of h2) U λj x y f1 f2=>?_
 rw[f1]at f2;cases f2
 match j,f1 with
 |0,f1=>cases f1;exact nu _
 |1,f1=>cases f1;exact nu _
 |j+2,f1=>simp at f1
theorem uD{K:W.Frag}{H:Hp}{r r':Addr}{w:Rw}(h:fA NT H r w)(h':fA NT H r' w):DEq K H 60 (.ref r) (.ref r') true:=by
 obtain⟨ce,cs,g1,_,g2,g3⟩:=h;obtain⟨ce',cs',g1',_,g2',g3'⟩:=h';refine qN (n:=59) (SqT.of g1) (SqT.of g1') U λj x y e1 e2=>?_
 match j,e1,e2 with
 |0,e1,e2 =>
  cases e1;cases e2;refine qM (n:=58) (SqL.of g2) (SqL.of g2') (by rw[g3.1,g3'.1]) λj x y f1 f2=>?_
  obtain⟨l,ps,rfl,ep,_,ys,el,hp⟩:=aI.get g3 f1;obtain⟨l',ps',rfl,ep',_,ys',el',hp'⟩:=aI.get g3' f2;rw[ep]at ep';cases ep';exact qM (n:=57) (SqL.of el) (SqL.of el') (by rw[hp.length,hp'.length]) (tF (n:=56) hp hp')
 |1,e1,e2=>cases e1;cases e2;exact nu _
 |j+2,e1,e2=>simp at e1
theorem rL{K:W.Frag}{H:Hp}{Q:VK}{a b:Addr}{xs ys:List V}(ha:SqL K H a xs)(hb:SqL K H b ys)(hl:xs.length=ys.length)(h:∀(j:Nat)(x y:V),xs[j]?=some x->ys[j]?=some y->DEq K H 60 x y true)(q:Q (.bl true) H):ox K false (.ref a) (.ref b) H Q:=by
 refine⟨a,b,xs,ys,U,U,ha,hb,.inr ⟨hl,λ_=>true,h,?_⟩⟩;rw[show(List.range xs.length).all (λ_=>true)=true by simp];exact q
theorem mK{K:W.Frag}{H:Hp}{Q:VK}{a b:Addr}{xs ys:List V}(ha:SqL K H a xs)(hb:SqL K H b ys)(hl:xs.length=ys.length)(h:∀(j:Nat)(x y:V),xs[j]?=some x->ys[j]?=some y->DEq K H 60 x y true)(q:Q (.bl false) H):ox K true (.ref a) (.ref b) H Q:=by
 refine⟨a,b,xs,ys,U,U,ha,hb,.inr ⟨hl,λ_=>true,h,?_⟩⟩;rw[show(List.range xs.length).all (λ_=>true)=true by simp];exact q
theorem oX{K:W.Frag}{H:Hp}{xs ys:List V}{rws:List Rw}(h:RL NT H xs rws)(h':RL NT H ys rws)(j:Nat)(x y:V)(e1:xs[j]?=some x)(e2:ys[j]?=some y):DEq K H 60 x y true:=by
 obtain⟨r,w,rfl,ew,hr⟩:=aI.get h e1;obtain⟨r',w',rfl,ew',hr'⟩:=aI.get h' e2;rw[ew]at ew';cases ew';exact uD hr hr'
structure Col where
 prs:Prs
 w:Bool
 sd:Int
def c0(N:Addr->Prop)(H:Hp)(l:Addr)(c:Col):Prop:=∃(pl:Addr)(ts:List V),N l/\N pl/\H l=some (.lst [.ref pl,.bl c.w,.int c.sd])/\H pl=some (.lst ts)/\PL H ts c.prs
theorem c0.same{N:Addr->Prop}{H H':Hp}{l:Addr}{c:Col}(h:c0 N H l c)(s:ar H H'):c0 N H' l c:=by obtain⟨pl,ts,n,m,e,f,p⟩:=h;exact⟨pl,ts,n,m,s _ _ e,s _ _ f,p.mono s.tups⟩
theorem c0.wk{N N':Addr->Prop}{H:Hp}{l:Addr}{c:Col}(h:c0 N H l c)(k:∀a,N a->N' a):c0 N' H l c:=by obtain⟨pl,ts,n,m,r⟩:=h;exact⟨pl,ts,k _ n,k _ m,r⟩
theorem c0.any{N:Addr->Prop}{H:Hp}{l:Addr}{c:Col}(h:c0 N H l c):c0 NT H l c:=h.wk λ_ _=>trivial
theorem c0.updN{N:Addr->Prop}{D:Addr}{H:Hp}{l:Addr}{c:Col}{zs:List V}{o:HO}(h:c0 N H l c)(n:¬ N D)(e:H D=some (.lst zs)):c0 N (upd H D o) l c:=by
 obtain⟨pl,ts,n1,n2,e1,e2,p⟩:=h;exact⟨pl,ts,n1,n2,(au (λz=>n (by rw[←z];exact n1))).trans e1,(au (λz=>n (by rw[←z];exact n2))).trans e2,p.mono (aW e)⟩
def cA(N:Addr->Prop)(H:Hp)(xs:List V)(cs:List Col):Prop:=aI xs cs (c0 N H)
theorem cA.same{N:Addr->Prop}{H H':Hp}{xs:List V}{cs:List Col}(h:cA N H xs cs)(s:ar H H'):cA N H' xs cs:=aI.mono h λ_ _ p=>p.same s
theorem cA.any{N:Addr->Prop}{H:Hp}{xs:List V}{cs:List Col}(h:cA N H xs cs):cA NT H xs cs:=aI.mono h λ_ _ p=>p.any
theorem cA.updN{N:Addr->Prop}{D:Addr}{H:Hp}{xs:List V}{cs:List Col}{zs:List V}{o:HO}(h:cA N H xs cs)(n:¬ N D)(e:H D=some (.lst zs)):cA N (upd H D o) xs cs:=aI.mono h λ_ _ p=>p.updN n e
structure Ch(ps:Prs):Prop where
 le:∀(i:Nat)(p:Int×Int),ps[i]?=some p->p.1<=p.2
 nxt:∀(i:Nat)(p q:Int×Int),ps[i]?=some p->ps[i+1]?=some q->q.1=p.2+1
theorem Ch.nil:Ch []:=⟨λi p e=>by simp at e,λi p q e=>by simp at e⟩
theorem Ch.snoc{ps:Prs}{a b:Int}(h:Ch ps)(hab:a<=b)(hl:∀p,ps[ps.length-1]?=some p->a=p.2+1):Ch (ps++[(a,b)]):=by
 refine⟨λi p e=>?_,λi p q e f=>?_⟩
 ·by_cases hi:i<ps.length
  ·rw[getElem?_append_left hi]at e;exact h.le i p e
  ·have:i=ps.length:=by have:=(BQ.mp e).1;simp at this;lia
   subst this;simp at e;subst e;exact hab
 ·have hf:=(BQ.mp f).1;rw[length_append,length_singleton]at hf;rw[getElem?_append_left (by lia)]at e;by_cases hi:i+1<ps.length
  ·rw[getElem?_append_left hi]at f;exact h.nxt i p q e f
  ·have:i=ps.length-1:=by lia
   subst this;rw[show ps.length-1+1=ps.length by lia]at f;simp at f;subst f;exact hl p e
theorem Ch.mono{ps:Prs}(h:Ch ps){i:Nat}{p:Int×Int}(e:ps[i]?=some p):∀(d:Nat)(q:Int×Int),ps[i+d]?=some q->p.1<=q.1/\p.2<=q.2/\(0<d->p.2<q.1)
 |0,q,f=>by rw[Nat.add_zero,e]at f;cases f;exact⟨Int.le_refl _,Int.le_refl _,λz=>absurd z (by lia)⟩
 |d+1,q,f=>by
  have hlt:i+d<ps.length:=by have:=(BQ.mp f).1;lia
  obtain⟨r,er⟩:∃r,ps[i+d]?=some r:=⟨_,BP hlt⟩;obtain⟨a,b,c⟩:=h.mono e d r er;have n:=h.nxt (i+d) r q er f;have l1:=h.le (i+d) r er;have l2:=h.le _ q f;have l3:=h.le _ p e;lia
theorem Ch.lt{ps:Prs}(h:Ch ps){i j:Nat}{p q:Int×Int}(e:ps[i]?=some p)(f:ps[j]?=some q)(hij:i<j):p.2<q.1:=by
 have:=h.mono e (j-i) q (by rw[show i+(j-i)=j by lia];exact f);exact this.2.2 (by lia)
structure bD(c:Col):Prop where
 some_:1<=c.prs.length
 few:c.prs.length<=6
 ch:Ch c.prs
 w0:c.w=true->∀p,c.prs[0]?=some p->p.1=0
 wl:c.w=true->∀(i:Nat)(p:Int×Int),c.prs[i]?=some p->p.2<40
def Col.lo(c:Col):Int:=(c.prs.headD (0,0)).1
def Col.hi(c:Col):Int:=(c.prs.getLastD (0,0)).2
def Col.b(c:Col):Int×Int:=(c.lo,c.hi)
theorem bD.first{c:Col}(h:bD c):∃p,c.prs[0]?=some p/\p.1=c.lo:=by
 have:=h.some_;unfold Col.lo
 match c.prs,this with
 |p :: r,_=>exact⟨p,U,U⟩
theorem bD.last{c:Col}(h:bD c):∃p,c.prs[c.prs.length-1]?=some p/\p.2=c.hi:=by
 have:=h.some_;unfold Col.hi;generalize c.prs=l at this⊢;rcases List.eq_nil_or_concat l with rfl|⟨l',x,rfl⟩
 ·simp at this
 ·exact⟨x,by simp,by simp⟩
theorem bD.inn{c:Col}(h:bD c){i:Nat}{p:Int×Int}(e:c.prs[i]?=some p):c.lo<=p.1/\p.2<=c.hi:=by
 obtain⟨p0,e0,f0⟩:=h.first;obtain⟨p1,e1,f1⟩:=h.last;have hi:=(BQ.mp e).1;have a:=h.ch.mono e0 i p (by rw[zero_add];exact e);have b:=h.ch.mono e (c.prs.length-1-i) p1 (by rw[show i+(c.prs.length-1-i)=c.prs.length-1 by lia];exact e1);lia
theorem bD.le{c:Col}(h:bD c):c.lo<=c.hi:=by
 obtain⟨p0,e0,f0⟩:=h.first;have:=h.inn e0;have:=h.ch.le _ _ e0;lia
structure Srt(ps:Prs):Prop where
 le:∀(i:Nat)(p:Int×Int),ps[i]?=some p->p.1<=p.2
 lt:∀(i j:Nat)(p q:Int×Int),i<j->ps[i]?=some p->ps[j]?=some q->p.2<q.1
structure dN(prs:Prs)(b n:Nat)(ps:Prs):Prop where
 srt:Srt ps
 iff:∀x:Int,inP ps x=true↔∃(k:Nat)(p:Int×Int),k<n/\prs[k]?=some p/\b.testBit k=true/\p.1<=x/\x<=p.2
theorem jE{ps:Prs}{x:Int}:inP ps x=true↔∃(i:Nat)(p:Int×Int),ps[i]?=some p/\p.1<=x/\x<=p.2:=by
 unfold inP inR;rw[any_eq_true];constructor
 ·rintro⟨p,hp,e⟩;obtain⟨i,ei⟩:=getElem?_of_mem hp;simp at e;exact⟨i,p,ei,e.1,e.2⟩
 ·rintro⟨i,p,e,h1,h2⟩;exact⟨p,BR e,by simp[h1,h2]⟩
theorem Srt.snoc{ps:Prs}{a b:Int}(h:Srt ps)(hab:a<=b)(hl:∀(i:Nat)(p:Int×Int),ps[i]?=some p->p.2<a):Srt (ps++[(a,b)]):=by
 have at_:∀(i:Nat)(p:Int×Int),(ps++[(a,b)])[i]?=some p->ps[i]?=some p/\i<ps.length\/p=(a,b)/\i=ps.length:=λi p e=>by
  by_cases hi:i<ps.length
  ·rw[getElem?_append_left hi]at e;exact .inl ⟨e,hi⟩
  ·have:i=ps.length:=by have:=(BQ.mp e).1;simp at this;lia
   subst this;simp at e;exact .inr ⟨e.symm,U⟩
 refine⟨λi p e=>?_,λi j p q hij e f=>?_⟩
 ·rcases at_ i p e with⟨e,_⟩|⟨rfl,_⟩
  ·exact h.le i p e
  ·exact hab
 ·rcases at_ i p e with⟨e,hi⟩|⟨rfl,hi⟩
  ·rcases at_ j q f with⟨f,hj⟩|⟨rfl,hj⟩
   ·exact h.lt i j p q hij e f
   ·exact hl i p e
  ·have:=(BQ.mp f).1;simp at this;lia
theorem dN.nil{prs:Prs}{b:Nat}:dN prs b 0 []:=⟨⟨λi p e=>by simp at e,λi j p q _ e=>by simp at e⟩,λx=>⟨(λh=>by cases h),λ⟨k,p,hk,_⟩=>absurd hk (by lia)⟩⟩
theorem dN.skip{prs ps:Prs}{b n:Nat}(h:dN prs b n ps)(hb:b.testBit n=false):dN prs b (n+1) ps:=by
 refine⟨h.srt,λx=>(h.iff x).trans ⟨λ⟨k,p,hk,r⟩=>⟨k,p,by lia,r⟩,λ⟨k,p,hk,e,t,r⟩=>⟨k,p,?_,e,t,r⟩⟩⟩;rcases lt_or_ge k n with z|z
 ·exact z
 ·have:k=n:=by lia
  subst this;rw[hb]at t;cases t
theorem dN.ahead{prs ps:Prs}{b n:Nat}(h:dN prs b n ps)(hc:Ch prs){q:Int×Int}(e:prs[n]?=some q){i:Nat}{p:Int×Int}(f:ps[i]?=some p):p.2<q.1:=by
 have hle:=h.srt.le i p f;obtain⟨k,r,hk,er,_,r1,r2⟩:=(h.iff p.2).mp (jE.mpr ⟨i,p,f,hle,Int.le_refl _⟩);have:=hc.lt er e hk;lia
theorem dN.put{prs ps:Prs}{b n:Nat}(h:dN prs b n ps)(hc:Ch prs)(hb:b.testBit n=true){q:Int×Int}(e:prs[n]?=some q):dN prs b (n+1) (ps++[(q.1,q.2)]):=by
 refine⟨h.srt.snoc (hc.le n q e) λi p f=>h.ahead hc e f,λx=>?_⟩;have es:inP (ps++[(q.1,q.2)]) x=(inP ps x || inR x (q.1,q.2)):=by unfold inP;rw[any_append];simp
 rw[es,or_eq_true,h.iff x];constructor
 ·rintro(⟨k,p,hk,r⟩|hr)
  ·exact⟨k,p,by lia,r⟩
  ·unfold inR at hr;simp at hr;exact⟨n,q,by lia,e,hb,hr.1,hr.2⟩
 ·rintro⟨k,p,hk,ep,t,r1,r2⟩;rcases lt_or_ge k n with z|z
  ·exact .inl ⟨k,p,z,ep,t,r1,r2⟩
  ·have:k=n:=by lia
   subst this;rw[e]at ep;cases ep;exact .inr (by unfold inR;simp[r1,r2])
theorem dN.join{prs ps:Prs}{b n:Nat}{u:Int×Int}(h:dN prs b (n+1) (ps++[u]))(hc:Ch prs)(hb:b.testBit (n+1)=true)(hb0:b.testBit n=true){p0 q:Int×Int}(e0:prs[n]?=some p0)(e:prs[n+1]?=some q)(eu:u.2=p0.2):dN prs b (n+2) (ps++[(u.1,q.2)]):=by
 have hq:=hc.le _ q e;have hn:=hc.nxt n p0 q e0 e;have hu:=h.srt.le ps.length u (by simp);have hS:Srt ps:=by
  refine⟨λi p e=>h.srt.le i p ?_,λi j p r hij e f=>h.srt.lt i j p r hij ?_ ?_⟩
  ·rw[getElem?_append_left (BQ.mp e).1];exact e
  ·rw[getElem?_append_left (BQ.mp e).1];exact e
  ·rw[getElem?_append_left (BQ.mp f).1];exact f
 refine⟨hS.snoc (by lia) λi p f=>?_,λx=>?_⟩
 ·have hi:=(BQ.mp f).1;exact h.srt.lt i ps.length p u hi (by rw[getElem?_append_left hi];exact f) (by simp)
 have es:∀v:Int×Int,inP (ps++[v]) x=(inP ps x || inR x v):=λv=>by unfold inP;rw[any_append];simp
 have h1:=h.iff x;rw[es u,or_eq_true]at h1;rw[es (u.1,q.2),or_eq_true];have eR:inR x (u.1,q.2)=true↔u.1<=x/\x<=q.2:=by unfold inR;simp
 have eU:inR x u=true↔u.1<=x/\x<=u.2:=by unfold inR;simp
 rw[eU]at h1;rw[eR];constructor
 ·rintro(z|⟨z1,z2⟩)
  ·obtain⟨k,p,hk,r⟩:=h1.mp (.inl z);exact⟨k,p,by lia,r⟩
  ·by_cases hx:x<=u.2
   ·obtain⟨k,p,hk,r⟩:=h1.mp (.inr ⟨z1,hx⟩);exact⟨k,p,by lia,r⟩
   ·exact⟨n+1,q,by lia,e,hb,by lia,z2⟩
 ·rintro⟨k,p,hk,ep,t,r1,r2⟩;rcases lt_or_ge k (n+1)with z|z
  ·rcases h1.mpr ⟨k,p,z,ep,t,r1,r2⟩with w|⟨w1,w2⟩
   ·exact .inl w
   ·exact .inr ⟨w1,by lia⟩
  ·have:k=n+1:=by lia
   subst this;rw[e]at ep;cases ep;exact .inr ⟨by lia,r2⟩
theorem dN.lastAt{prs ps:Prs}{b n:Nat}(h:dN prs b (n+1) ps)(hc:Ch prs)(hb:b.testBit n=true){q:Int×Int}(e:prs[n]?=some q):∃ps' u,ps=ps'++[u]/\u.2=q.2:=by
 have hq:=hc.le _ q e;obtain⟨i,p,f,f1,f2⟩:=jE.mp ((h.iff q.2).mpr ⟨n,q,by lia,e,hb,hq,Int.le_refl _⟩);rcases List.eq_nil_or_concat ps with rfl|⟨ps',u,rfl⟩
 ·simp at f
 ·rw[List.concat_eq_append]at h f;refine⟨ps',u,List.concat_eq_append,?_⟩;have eu:(ps'++[u])[ps'.length]?=some u:=by simp
  have hu:=h.srt.le _ _ eu;have top:∀x,inP (ps'++[u]) x=true->x<=q.2:=λx hx=>by
   obtain⟨k,r,hk,er,_,_,r2⟩:=(h.iff x).mp hx;rcases lt_or_ge k n with z|z
   ·have:=hc.lt er e z;lia
   ·have:k=n:=by lia
    subst this;rw[e]at er;cases er;exact r2
  have t:=top u.2 (jE.mpr ⟨_,u,eu,hu,Int.le_refl _⟩);have hi:=(BQ.mp f).1;rw[length_append,length_singleton]at hi;rcases lt_or_ge i ps'.length with z|z
  ·have:=h.srt.lt i ps'.length p u z f eu;lia
  ·have:i=ps'.length:=by lia
   subst this;rw[show(ps'++[u])[ps'.length]?=some u by simp]at f;cases f;lia
theorem nv(b k:Nat):(decide (V.int (Builtin.bitAnd ((b:Int) / 2^k) 1)=V.int 1))=b.testBit k:=by
 have e:(b:Int) / 2^k=((b / 2^k:Nat):Int):=by simp
 rw[e,PyProof.Rows.bitAnd_pp (Int.natCast_nonneg _) (by decide)];unfold Nat.testBit;rw[Nat.shiftRight_eq_div_pow,toNat_natCast,Nat.and_comm];show decide (V.int (((1:Int).toNat &&& (b / 2^k):Nat):Int)=V.int 1)=_;rw[show(1:Int).toNat=1 from U];have h2:1 &&& (b / 2^k)=(b / 2^k)%2:=by rw[Nat.and_comm];exact Nat.and_one_is_mod _
 rw[h2];have h3:=mod_lt (b / 2^k) (show 0<2 by decide);by_cases z:b / 2^k%2=1
 ·rw[z];decide
 ·have z0:b / 2^k%2=0:=by lia
  rw[z0];decide
def mrg(prs:Prs)(b:Nat):Nat->Prs
 |0=>[]
 |n+1=>if b.testBit n then(if (decide (0<n) && b.testBit (n-1)) then(mrg prs b n).dropLast++[(((mrg prs b n).getLastD (0,0)).1,(prs.getD n (0,0)).2)]else mrg prs b n++[prs.getD n (0,0)])else mrg prs b n
theorem tG{prs:Prs}{b n:Nat}(h:b.testBit n=false):mrg prs b (n+1)=mrg prs b n:=by
 show(if b.testBit n then _ else _)=_;rw[h];rfl
theorem qO{prs:Prs}{b n:Nat}{q:Int×Int}(h:b.testBit n=true)(hn:(decide (0<n) && b.testBit (n-1))=false)(e:prs[n]?=some q):mrg prs b (n+1)=mrg prs b n++[(q.1,q.2)]:=by
 show(if b.testBit n then _ else _)=_;rw[h,if_pos U,hn,if_neg (by decide),getD_eq_getElem?_getD,e];rfl
theorem oY{prs ps:Prs}{b n:Nat}{q u:Int×Int}(h:b.testBit (n+1)=true)(h0:b.testBit n=true)(is:ps++[u]=mrg prs b (n+1))(e:prs[n+1]?=some q):mrg prs b (n+2)=ps++[(u.1,q.2)]:=by
 show(if b.testBit (n+1) then(if (decide (0<n+1) && b.testBit (n+1-1)) then(mrg prs b (n+1)).dropLast++[(((mrg prs b (n+1)).getLastD (0,0)).1,(prs.getD (n+1) (0,0)).2)]else _)else _)=_;rw[h,if_pos U,Nat.add_sub_cancel,h0,if_pos (by simp),←is,getD_eq_getElem?_getD,e];simp
abbrev BW:=List Nat×Int
def vN(bs:List Nat):List V:=bs.map λb:Nat=>V.int (b:Int)
theorem dW(bs:List Nat):(vN bs).length=bs.length:=by unfold vN;rw[length_map]
theorem yf{bs:List Nat}{j b:Nat}(e:bs[j]?=some b):(vN bs)[j]?=some (.int (b:Int)):=by unfold vN;rw[getElem?_map,e];rfl
theorem qP{bs:List Nat}{j:Nat}{x:V}(e:(vN bs)[j]?=some x):∃b:Nat,x=.int (b:Int)/\bs[j]?=some b:=by
 unfold vN at e;rw[getElem?_map]at e;cases q:bs[j]? with
 |none=>rw[q]at e;cases e
 |some b=>rw[q]at e;cases e;exact⟨b,U,U⟩
theorem ny(bs cs:List Nat):vN bs++vN cs=vN (bs++cs):=by unfold vN;rw[map_append]
def dH(N:Addr->Prop)(H:Hp)(r:Addr)(w:BW):Prop:=∃bl,H r=some (.tup [.ref bl,.int w.2])/\N bl/\H bl=some (.lst (vN w.1))
theorem dH.same{N:Addr->Prop}{H H':Hp}{r:Addr}{w:BW}(h:dH N H r w)(s:ar H H'):dH N H' r w:=by obtain⟨bl,e,n,f⟩:=h;exact⟨bl,s _ _ e,n,s _ _ f⟩
theorem dH.wk{N N':Addr->Prop}{H:Hp}{r:Addr}{w:BW}(h:dH N H r w)(k:∀a,N a->N' a):dH N' H r w:=by obtain⟨bl,e,n,f⟩:=h;exact⟨bl,e,k _ n,f⟩
theorem dH.updN{N:Addr->Prop}{D:Addr}{H:Hp}{r:Addr}{w:BW}{zs:List V}{o:HO}(h:dH N H r w)(n:¬ N D)(e:H D=some (.lst zs)):dH N (upd H D o) r w:=by
 obtain⟨bl,f,m,g⟩:=h;exact⟨bl,(au (fu f e (by intro z;cases z))).trans f,m,(au (λz=>n (by rw[←z];exact m))).trans g⟩
def BRL(N:Addr->Prop)(H:Hp)(xs:List V)(ws:List BW):Prop:=aI xs ws (dH N H)
theorem BRL.same{N:Addr->Prop}{H H':Hp}{xs:List V}{ws:List BW}(h:BRL N H xs ws)(s:ar H H'):BRL N H' xs ws:=aI.mono h λ_ _ p=>p.same s
theorem BRL.wk{N N':Addr->Prop}{H:Hp}{xs:List V}{ws:List BW}(h:BRL N H xs ws)(k:∀a,N a->N' a):BRL N' H xs ws:=aI.mono h λ_ _ p=>p.wk k
theorem BRL.updN{N:Addr->Prop}{D:Addr}{H:Hp}{xs:List V}{ws:List BW}{zs:List V}{o:HO}(h:BRL N H xs ws)(n:¬ N D)(e:H D=some (.lst zs)):BRL N (upd H D o) xs ws:=aI.mono h λ_ _ p=>p.updN n e
structure eP(cs:List Col)(o:Col)(w:BW):Prop where
 len:w.1.length=cs.length
 lt:∀(j b:Nat)(c:Col),w.1[j]?=some b->cs[j]?=some c->b<2^c.prs.length
 lo:o.lo<=w.2
 hi:w.2<=o.hi
theorem nA(xs:List V)(k:Nat):jZ xs none (some (k:Int))=xs.take k:=by
 unfold jZ;have e:HT.sIx xs.length xs.length (some (k:Int))=min k xs.length:=by
  simp only[HT.sIx];split <;> lia
 have e2:HT.sIx xs.length 0 none=0:=by simp[HT.sIx]
 rw[e,e2,List.drop_zero,Nat.sub_zero];rcases Nat.le_total k xs.length with h|h
 ·rw[Nat.min_eq_left h]
 ·rw[Nat.min_eq_right h,take_length,List.take_of_length_le h]
theorem jh(xs:List V)(k:Nat):jZ xs (some (k:Int)) none=xs.drop k:=by
 unfold jZ;have e:HT.sIx xs.length 0 (some (k:Int))=min k xs.length:=by
  simp only[HT.sIx];split <;> lia
 have e2:HT.sIx xs.length xs.length none=xs.length:=by simp[HT.sIx]
 rw[e,e2,←length_drop,take_length];rcases Nat.le_total k xs.length with h|h
 ·rw[Nat.min_eq_left h]
 ·rw[Nat.min_eq_right h,drop_length,List.drop_of_length_le h]
theorem uE(bs:List Nat)(k:Nat):(vN bs).take k=vN (bs.take k):=by unfold vN;rw[List.map_take]
theorem uF(bs:List Nat)(k:Nat):(vN bs).drop k=vN (bs.drop k):=by unfold vN;rw[List.map_drop]
theorem wL{bs:List Nat}{k:Nat}(h:k<bs.length)(x:Nat):bs.take k++[x]++bs.drop (k+1)=bs.set k x:=by
 rw[List.set_eq_take_append_cons_drop,if_pos h];simp
theorem four{e v:Int}(he:0<e)(hv:0<=v){m:Int}:∃b:Nat,atI [V.int (v%(e+1)),.int (v%(e+1)),.int e,.int (v%e)] (m%4)=some (.int (b:Int))/\(b:Int)<=e:=by
 have h0:=emod_nonneg m (show(4:Int)≠0 by decide);have h1:=emod_lt_of_pos m (show(0:Int)<4 by decide);have a0:=emod_nonneg v (show e+1≠0 by lia);have a1:=emod_lt_of_pos v (show 0<e+1 by lia);have b0:=emod_nonneg v (show e≠0 by lia);have b1:=emod_lt_of_pos v he;generalize m%4=k at h0 h1⊢;generalize v%(e+1)=x at a0 a1⊢;generalize v%e=y at b0 b1⊢;have:k=0\/k=1\/k=2\/k=3:=by lia
 rcases this with rfl|rfl|rfl|rfl
 ·exact⟨x.toNat,by rw[toNat_of_nonneg a0];rfl,by lia⟩
 ·exact⟨x.toNat,by rw[toNat_of_nonneg a0];rfl,by lia⟩
 ·exact⟨e.toNat,by rw[toNat_of_nonneg (by lia)];rfl,by lia⟩
 ·exact⟨y.toNat,by rw[toNat_of_nonneg b0];rfl,by lia⟩
theorem yg{p:Int×Int}{m:Int}:∃x:Int,atI [V.int p.1,V.int p.2] (m%2)=some (.int x)/\(x=p.1\/x=p.2):=by
 have h0:=emod_nonneg m (show(2:Int)≠0 by decide);have h1:=emod_lt_of_pos m (show(0:Int)<2 by decide);generalize m%2=k at h0 h1⊢;have:k=0\/k=1:=by lia
 rcases this with rfl|rfl
 ·exact⟨_,U,.inl U⟩
 ·exact⟨_,U,.inr U⟩
theorem vk{H:Hp}{ts:List V}{ps:Prs}(h:PL H ts ps){i:Int}(h0:0<=i)(h1:i<((ts.length:Nat):Int)):∃r p,atI ts i=some (.ref r)/\ps[i.toNat]?=some p/\H r=some (.tup [.int p.1,.int p.2]):=by
 obtain⟨x,ex⟩:∃x,ts[i.toNat]?=some x:=⟨_,BP (by lia)⟩;obtain⟨p,r,f1,rfl,f2⟩:=h.get ex;have:=ba ex;rw[toNat_of_nonneg h0]at this;exact⟨r,p,this,f1,f2⟩
structure oZ(cs:List Col)(w:BW)(x:Rw):Prop where
 code:x.2=w.2
 len:x.1.length=cs.length
 sp:∀(j:Nat)(ps:Prs)(c:Col)(b:Nat),x.1[j]?=some ps->cs[j]?=some c->w.1[j]?=some b->dN c.prs b c.prs.length ps
 is:∀(j:Nat)(ps:Prs)(c:Col)(b:Nat),x.1[j]?=some ps->cs[j]?=some c->w.1[j]?=some b->ps=mrg c.prs b c.prs.length
def dI(cs:List Col)(ws:List BW)(rws:List Rw):Prop:=rws.length=ws.length/\∀(k:Nat)(w:BW)(x:Rw),ws[k]?=some w->rws[k]?=some x->oZ cs w x
theorem dI.nil{cs:List Col}:dI cs [] []:=⟨U,λk w x e=>by simp at e⟩
theorem dI.snoc{cs:List Col}{ws:List BW}{rws:List Rw}{w:BW}{x:Rw}(h:dI cs ws rws)(hx:oZ cs w x):dI cs (ws++[w]) (rws++[x]):=by
 refine⟨by simp[h.1],λk w' x' e f=>?_⟩;by_cases hk:k<ws.length
 ·rw[getElem?_append_left hk]at e;rw[getElem?_append_left (by rw[h.1];exact hk)]at f;exact h.2 k w' x' e f
 ·have hk2:k=ws.length:=by have:=(BQ.mp e).1;simp at this;lia
  subst hk2;simp at e;subst e;rw[←h.1]at f;simp at f;subst f;exact hx
theorem oZ.rowOk{cs:List Col}{oc:Col}{w:BW}{x:Rw}(h:oZ cs w x)(hb:eP cs oc w)(hok:∀c∈cs,bD c):jS (cs.map Col.b) oc.b x:=by
 refine⟨by rw[h.len,length_map],λj ps b e f p hp=>?_,by rw[h.code];exact hb.lo,by rw[h.code];exact hb.hi⟩;rw[getElem?_map]at f;cases ec:cs[j]? with
 |none=>rw[ec]at f;cases f
 |some c =>
  rw[ec]at f;cases f;have ok:=hok c (BR ec);obtain⟨bt,eb⟩:∃bt,w.1[j]?=some bt:=⟨_,BP (by rw[hb.len];exact(BQ.mp ec).1)⟩;have so:=h.sp j ps c bt e ec eb;obtain⟨i,ei⟩:=getElem?_of_mem hp;have hle:=so.srt.le i p ei;obtain⟨k1,p1,_,e1,_,r1,_⟩:=(so.iff p.1).mp (jE.mpr ⟨i,p,ei,Int.le_refl _,hle⟩);obtain⟨k2,p2,_,e2,_,_,r2⟩:=(so.iff p.2).mp (jE.mpr ⟨i,p,ei,hle,Int.le_refl _⟩);have i1:=ok.inn e1;have i2:=ok.inn e2;show c.lo<=p.1/\p.2<=c.hi;lia
theorem dI.rowOk{cs:List Col}{oc:Col}{ws:List BW}{rws:List Rw}(h:dI cs ws rws)(hb:∀w∈ws,eP cs oc w)(hok:∀c∈cs,bD c):∀x∈rws,jS (cs.map Col.b) oc.b x:=λx hx=>by
 obtain⟨k,ek⟩:=getElem?_of_mem hx;obtain⟨w,ew⟩:∃w,ws[k]?=some w:=⟨_,BP (by rw[←h.1];exact(BQ.mp ek).1)⟩;exact(h.2 k w x ew ek).rowOk (hb w (BR ew)) hok
def grow(pts:List (List Nat))(n:Nat):List (List Nat):=pts.flatMap λp=>(List.range n).map λk=>p++[k]
def eQ(ls:List Nat):List (List Nat):=ls.foldl grow [[]]
theorem lj(ls:List Nat)(n:Nat):eQ (ls++[n])=grow (eQ ls) n:=by unfold eQ;rw[List.foldl_append];rfl
theorem tH{pts:List (List Nat)}{n:Nat}{q:List Nat}:q∈grow pts n↔∃p∈pts,∃k,k<n/\q=p++[k]:=by
 unfold grow;rw[List.mem_flatMap];constructor
 ·rintro⟨p,hp,h⟩;obtain⟨k,hk,rfl⟩:=mem_map.mp h;exact⟨p,hp,k,mem_range.mp hk,U⟩
 ·rintro⟨p,hp,k,hk,rfl⟩;exact⟨p,hp,mem_map.mpr ⟨k,mem_range.mpr hk,U⟩⟩
theorem rM{pts:List (List Nat)}{n a:Nat}{p:List Nat}(e:pts[a]?=some p):grow (pts.take (a+1)) n=grow (pts.take a) n++(List.range n).map λk=>p++[k]:=by
 unfold grow;rw[take_snoc e,List.flatMap_append];simp
theorem o6(pts:List (List Nat))(n:Nat):(grow pts n).length=pts.length*n:=by
 unfold grow;induction pts with
 |nil=>simp
 |cons p pts ih=>rw[List.flatMap_cons,length_append,ih,length_map,length_range,length_cons,Nat.succ_mul];lia
def nB(ls:List Nat)(p:List Nat):Prop:=p.length=ls.length/\∀(j a m:Nat),p[j]?=some a->ls[j]?=some m->a<m
theorem mL:∀{r ls:List Nat}(_:ls.reverse=r){p:List Nat},p∈eQ ls↔nB ls p
 | [],ls,h,p=>by
  have:ls=[]:=List.reverse_eq_nil_iff.mp h;subst this;show p∈[[]]↔_;rw[mem_singleton];constructor
  ·rintro rfl;exact⟨U,λj a m e=>by simp at e⟩
  ·rintro⟨h,_⟩;exact List.length_eq_zero_iff.mp h
 |n :: r,ls,h,p=>by
  have e:ls=r.reverse++[n]:=by rw[←List.reverse_reverse ls,h,List.reverse_cons]
  subst e;rw[lj,tH];have ih:∀{p:List Nat},p∈eQ r.reverse↔nB r.reverse p:=mL (List.reverse_reverse r);constructor
  ·rintro⟨q,hq,k,hk,rfl⟩;obtain⟨l1,l2⟩:=ih.mp hq;refine⟨by rw[length_append,length_append,l1];rfl,λj a m f g=>?_⟩;by_cases hj:j<q.length
   ·rw[getElem?_append_left hj]at f;rw[getElem?_append_left (by rw[←l1];exact hj)]at g;exact l2 j a m f g
   ·have:j=q.length:=by have:=(BQ.mp f).1;simp at this;lia
    subst this;simp at f;subst f;rw[l1]at g;simp at g;subst g;exact hk
  ·rintro⟨l1,l2⟩;rw[length_append,length_singleton]at l1;rcases List.eq_nil_or_concat p with rfl|⟨q,k,rfl⟩
   ·simp at l1
   ·rw[List.concat_eq_append]at l1 l2⊢;rw[length_append,length_singleton]at l1;have lq:q.length=r.reverse.length:=by lia
    refine⟨q,ih.mpr ⟨lq,λj a m f g=>?_⟩,k,?_,U⟩
    ·refine l2 j a m ?_ ?_
     ·rw[getElem?_append_left (BQ.mp f).1];exact f
     ·rw[getElem?_append_left (BQ.mp g).1];exact g
    ·refine l2 q.length k n (by simp) ?_;rw[lq];simp
theorem nB.iff{ls p:List Nat}:p∈eQ ls↔nB ls p:=mL U
def PtL(N:Addr->Prop)(H:Hp)(xs:List V)(pts:List (List Nat)):Prop:=aI xs pts λr p=>N r/\H r=some (.lst (vN p))
theorem PtL.same{N:Addr->Prop}{H H':Hp}{xs:List V}{pts:List (List Nat)}(h:PtL N H xs pts)(s:ar H H'):PtL N H' xs pts:=aI.mono h λ_ _ p=>⟨p.1,s _ _ p.2⟩
theorem PtL.updN{N:Addr->Prop}{D:Addr}{H:Hp}{xs:List V}{pts:List (List Nat)}{o:HO}(h:PtL N H xs pts)(n:¬ N D):PtL N (upd H D o) xs pts:=aI.mono h λ_ _ p=>⟨p.1,(au (λz=>n (by rw[←z];exact p.1))).trans p.2⟩
theorem PtL.any{N:Addr->Prop}{H:Hp}{xs:List V}{pts:List (List Nat)}(h:PtL N H xs pts):PtL NT H xs pts:=aI.mono h λ_ _ p=>⟨trivial,p.2⟩
theorem rN{n:Nat}(h:n<=2000):n<sizeLine:=Nat.lt_of_le_of_lt h (by decide)
def fC(cs:List Col):List Nat:=cs.map λc=>c.prs.length
def AtP(cs:List Col)(p:List Nat)(cd:List Int):Prop:=cd.length=cs.length/\∀(j:Nat)(x:Int)(c:Col)(a:Nat),cd[j]?=some x->cs[j]?=some c->p[j]?=some a->∃pr,c.prs[a]?=some pr/\(x=pr.1\/x=pr.2)
def lY(bs p:List Nat):Bool:=(List.range p.length).all λj=>(bs.getD j 0).testBit (p.getD j 0)
theorem tI{bs p:List Nat}(hl:bs.length=p.length):lY bs p=true↔∀(j a b:Nat),p[j]?=some a->bs[j]?=some b->b.testBit a=true:=by
 unfold lY;rw[all_eq_true];constructor
 ·intro h j a b e f;have:=h j (mem_range.mpr (BQ.mp e).1);rw[getD_eq_getElem?_getD,getD_eq_getElem?_getD,e,f]at this;exact this
 ·intro h j hj;have hj:=mem_range.mp hj;have e:=BP hj;have f:=BP (l:=bs) (i:=j) (by lia);rw[getD_eq_getElem?_getD,getD_eq_getElem?_getD,e,f];exact h j _ _ e f
theorem dN.atPair{prs ps:Prs}{b:Nat}(h:dN prs b prs.length ps)(hc:Ch prs){a:Nat}{pr:Int×Int}(e:prs[a]?=some pr){x:Int}(h1:pr.1<=x)(h2:x<=pr.2):inP ps x=true↔b.testBit a=true:=by
 rw[h.iff x];constructor
 ·rintro⟨k,p,hk,ep,t,r1,r2⟩;rcases Nat.lt_trichotomy k a with z|z|z
  ·have:=hc.lt ep e z;lia
  ·subst z;exact t
  ·have:=hc.lt e ep z;lia
 ·intro t;exact⟨a,pr,(BQ.mp e).1,e,t,h1,h2⟩
theorem o7(cs:List Col):(fC cs).length=cs.length:=by unfold fC;rw[length_map]
theorem uG{cs:List Col}{oc:Col}{w:BW}{x:Rw}{p:List Nat}{cd:List Int}(h:oZ cs w x)(hb:eP cs oc w)(hok:∀c∈cs,bD c)(hp:nB (fC cs) p)(hc:AtP cs p cd):gd x.1 cd=lY w.1 p:=by
 have lp:p.length=cs.length:=by rw[hp.1,o7]
 rw[Bool.eq_iff_iff,tI (by rw[hb.len,lp])];unfold gd;rw[all_eq_true];have key:∀(j a b:Nat),p[j]?=some a->w.1[j]?=some b->∀z,cd[j]?=some z->(inP (x.1.getD j []) z=true↔b.testBit a=true):=λj a b ep ew z ez=>by
  have hj:j<cs.length:=by rw[←lp];exact(BQ.mp ep).1
  have ec:=BP hj;have ex:=BP (l:=x.1) (i:=j) (by rw[h.len];exact hj);have ok:=hok _ (BR ec);obtain⟨pr,e1,e2⟩:=hc.2 j z _ a ez ec ep;have hle:=ok.ch.le _ _ e1;rw[getD_eq_getElem?_getD,ex];exact(h.sp j _ _ b ex ec ew).atPair ok.ch e1 (by rcases e2 with rfl|rfl <;> lia) (by rcases e2 with rfl|rfl <;> lia)
 constructor
 ·intro hh j a b ep ew;have hj:j<cd.length:=by rw[hc.1,←lp];exact(BQ.mp ep).1
  have ez:=BP hj;have:=hh j (mem_range.mpr hj);rw[getD_eq_getElem?_getD (l:=cd),ez]at this;exact(key j a b ep ew _ ez).mp this
 ·intro hh j hj;have hj:=mem_range.mp hj;have ez:=BP hj;have ep:=BP (l:=p) (i:=j) (by rw[lp,←hc.1];exact hj);have ew:=BP (l:=w.1) (i:=j) (by rw[hb.len,←hc.1];exact hj);rw[getD_eq_getElem?_getD (l:=cd),ez];exact(key j _ _ ep ew _ ez).mpr (hh j _ _ ep ew)
theorem yh{h:Int}:∃v:Int,atI [V.int 6,.int 4,.int 3,.int 2] (1+h%4-1)=some (.int v)/\1<=v/\v<=6:=by
 have h0:=emod_nonneg h (show(4:Int)≠0 by decide);have h1:=emod_lt_of_pos h (show(0:Int)<4 by decide);generalize h%4=k at h0 h1⊢;have:k=0\/k=1\/k=2\/k=3:=by lia
 rcases this with rfl|rfl|rfl|rfl
 ·exact⟨_,U,by decide,by decide⟩
 ·exact⟨_,U,by decide,by decide⟩
 ·exact⟨_,U,by decide,by decide⟩
 ·exact⟨_,U,by decide,by decide⟩
def dC(cN cW:Addr)(H:Hp)(a:Addr)(c:Col):Prop:=(c.w=false/\∃dx fs,H a=some (.ins cN dx fs)/\fs.lookup (Str.ofString "low")=some (.int c.lo)/\fs.lookup (Str.ofString "high")=some (.int c.hi)/\fs.lookup (Str.ofString "has_code")=none) \/
 (c.w=true/\∃dx fs l,H a=some (.ins cW dx fs)/\fs.lookup (Str.ofString "low")=some (.int c.lo)/\fs.lookup (Str.ofString "high")=some (.int c.hi)/\fs.lookup (Str.ofString "has_code")=none/\fs.lookup (Str.ofString "words")=some (.ref l)/\H l=some (.lst ((wds c.sd (c.hi+1).toNat).map V.str)))
theorem dC.same{cN cW:Addr}{H H':Hp}{a:Addr}{c:Col}(h:dC cN cW H a c)(s:ar H H'):dC cN cW H' a c:=by
 rcases h with⟨w,dx,fs,e,r⟩|⟨w,dx,fs,l,e,r1,r2,r3,r4,r5⟩
 ·exact .inl ⟨w,dx,fs,s _ _ e,r⟩
 ·exact .inr ⟨w,dx,fs,l,s _ _ e,r1,r2,r3,r4,s _ _ r5⟩
theorem dC.dom{cN cW:Addr}{H:Hp}{a:Addr}{c:Col}(h:dC cN cW H a c):Dom cN cW H a c.b:=by
 rcases h with⟨w,dx,fs,e,r1,r2,r3⟩|⟨w,dx,fs,l,e,r1,r2,r3,_⟩
 ·exact⟨cN,.inl U,dx,fs,e,r1,r2,r3⟩
 ·exact⟨cW,.inr U,dx,fs,e,r1,r2,r3⟩
structure Pm(os:List Nat)(n:Nat):Prop where
 len:os.length=n
 lt:∀k∈os,k<n
 nd:os.Nodup
 all:∀k,k<n->k∈os
def TF(cT:Addr)(H:Hp)(t:Addr)(nm wy:Str)(ou:Addr)(zs:List Str)(dv:List V)(rws:List Rw):Prop:=∃(rl dx na dl:Addr)(fs:List (Str×V))(xs:List V),H t=some (.ins cT dx fs)/\fs.lookup (Str.ofString "rows")=some (.ref rl)/\fs.lookup (Str.ofString "name")=some (.str nm)/\fs.lookup (Str.ofString "way")=some (.str wy)/\fs.lookup (Str.ofString "outcome")=some (.ref ou)/\fs.lookup (Str.ofString "names")=some (.ref na)/\fs.lookup (Str.ofString "domains")=some (.ref dl)/\H na=some (.lst (zs.map V.str))/\H dl=some (.lst dv)/\H rl=some (.lst xs)/\RL NT H xs rws/\xs.length<=200
theorem TF.same{cT:Addr}{H H':Hp}{t:Addr}{nm wy:Str}{ou:Addr}{zs:List Str}{dv:List V}{rws:List Rw}(h:TF cT H t nm wy ou zs dv rws)(s:ar H H'):TF cT H' t nm wy ou zs dv rws:=by
 obtain⟨rl,dx,na,dl,fs,xs,h1,h2,h3,h4,h5,h6,h7,h8,h9,h10,h11,r⟩:=h;exact⟨rl,dx,na,dl,fs,xs,s _ _ h1,h2,h3,h4,h5,h6,h7,s _ _ h8,s _ _ h9,s _ _ h10,h11.same s,r⟩
theorem TF.tbl{cT cN cW:Addr}{H:Hp}{t:Addr}{nm wy:Str}{ou:Addr}{zs:List Str}{dv:List V}{rws:List Rw}{i:Nat}{o:Int×Int}(h:TF cT H t nm wy ou zs dv rws)(hi:six[i]?=some wy)(ho:Dom cN cW H ou o)(hl:o.1<=o.2):Tbl cT cN cW H t rws i o:=by
 obtain⟨rl,dx,_,_,fs,xs,h1,h2,_,h4,h5,_,_,_,_,h10,h11,h12⟩:=h;exact⟨rl,ou,dx,fs,xs,wy,h1,h2,h4,h5,h10,h11,hi,ho,hl,h12⟩
structure TOk(cN cW:Addr)(H:Hp)(nm wy:Str)(ou:Addr)(zs:List Str)(dv:List V)(rws:List Rw)(bs:Prs)(o:Int×Int):Prop where
 words:∀z∈nm :: zs,isw z=true
 once:(nm :: zs).Nodup
 one:1<=zs.length
 four:zs.length<=4
 way:wy∈six
 sum:wy=Str.ofString "sum" -> ∃dx fs,H ou=some (.ins cN dx fs)
 doms:aI dv bs (Dom cN cW H)
 out:Dom cN cW H ou o
 len:bs.length=zs.length
 rows:∀w∈rws,jS bs o w
 few:rws.length<=200
theorem TOk.same{cN cW:Addr}{H H':Hp}{nm wy:Str}{ou:Addr}{zs:List Str}{dv:List V}{rws:List Rw}{bs:Prs}{o:Int×Int}(h:TOk cN cW H nm wy ou zs dv rws bs o)(s:ar H H'):TOk cN cW H' nm wy ou zs dv rws bs o :=
 ⟨h.words,h.once,h.one,h.four,h.way,λz=>let ⟨dx,fs,e⟩:=h.sum z;⟨dx,fs,s _ _ e⟩,aI.mono h.doms λ_ _ p=>p.same s,h.out.same s,h.len,h.rows,h.few⟩
theorem ll{H:Hp}{D:Addr}{o:HO}:hide (upd H D o) D=hide H D:=by
 funext b
 unfold hide;by_cases h:b=D
 ·rw[if_pos h,if_pos h]
 ·rw[if_neg h,if_neg h,au h]
theorem jF{H H':Hp}{D:Addr}(s:ar H H'):ar (hide H D) (hide H' D):=λb o e=>by
 unfold hide at e⊢;by_cases h:b=D
 ·rw[if_pos h]at e;cases e
 ·rw[if_neg h]at e⊢;exact s b o e
theorem nC(H:Hp)(D:Addr):ar (hide H D) H:=λb o e=>by
 unfold hide at e;by_cases h:b=D
 ·rw[if_pos h]at e;cases e
 ·rw[if_neg h]at e;exact e
theorem dC.hide{cN cW:Addr}{H:Hp}{a D:Addr}{c:Col}{zs:List V}(h:dC cN cW H a c)(e:H D=some (.lst zs))(hz:∀x∈zs,∃r,x=.ref r)(hn:c.w=true->0<=c.hi):dC cN cW (My.hide H D) a c:=by
 rcases h with⟨w,dx,fs,e1,r⟩|⟨w,dx,fs,l,e1,r1,r2,r3,r4,r5⟩
 ·exact .inl ⟨w,dx,fs,cy e1 (fu e1 e (by intro z;cases z)),r⟩
 ·refine .inr ⟨w,dx,fs,l,cy e1 (fu e1 e (by intro z;cases z)),r1,r2,r3,r4,cy r5 λz=>?_⟩;rw[z,e]at r5;injection r5 with r5;injection r5 with r5;have h0:=hn w;have hl:0<(wds c.sd (c.hi+1).toNat).length:=by unfold wds;simp;lia
  obtain⟨r,hr⟩:=hz (.str (wds c.sd (c.hi+1).toNat)[0]) (by rw[r5];exact mem_map.mpr ⟨_,getElem_mem hl,U⟩);cases hr
theorem mM{H H':Hp}{D:Addr}(s:ar H H')(n:H D=none):ar H (hide H' D):=λb o e=>cy (s b o e) (aY e n)
def pc(ws:List BW)(p:List Nat):List Int:=(ws.filter λw=>lY w.1 p).map (·.2)
theorem nE(ws:List BW)(w:BW)(p:List Nat):pc (ws++[w]) p=pc ws p++(if lY w.1 p then[w.2] else[]):=by
 unfold pc;rw[filter_append,map_append];cases h:lY w.1 p <;> simp[filter_cons,h]
theorem tJ(ws:List BW)(p:List Nat):(pc ws p).length<=ws.length:=by
 unfold pc;rw[length_map];exact List.length_filter_le ..
theorem sne{a b:Str}(h:a≠b):¬ (V.str a=V.str b):=λe=>by injection e with e;exact h e
theorem nF{prs:Prs}(hc:Ch prs)(b:Nat):∀n,n<=prs.length->dN prs b n (mrg prs b n)/\Apart (mrg prs b n)
 |0,_=>⟨dN.nil,⟨(λp hp=>by cases hp),List.Pairwise.nil⟩⟩
 |n+1,h=>by
  obtain⟨ok,ap⟩:=nF hc b n (by lia);obtain⟨q,e⟩:∃q,prs[n]?=some q:=⟨_,BP (by lia)⟩;cases hb:b.testBit n with
  |false=>rw[tG hb];exact⟨ok.skip hb,ap⟩
  |true =>
   cases hd:(decide (0<n) && b.testBit (n-1)) with
   |false =>
    rw[qO hb hd e];refine⟨ok.put hc hb e,ap.snoc (p:=(q.1,q.2)) (hc.le n q e) λr hr=>?_⟩;obtain⟨i,ei⟩:=getElem?_of_mem hr;have hle:=ok.srt.le i r ei;obtain⟨k,p,hk,ep,tk,k1,k2⟩:=(ok.iff r.2).mp (jE.mpr ⟨i,r,ei,hle,Int.le_refl _⟩);have hk1:k<n-1:=by
     rcases lt_or_ge k (n-1)with z|z
     ·exact z
     ·have z2:k=n-1:=by lia
      have z3:decide (0<n)=true:=decide_eq_true (by lia);rw[←z2,tk,z3]at hd;cases hd
    obtain⟨p1,e1⟩:∃p1,prs[n-1]?=some p1:=⟨_,BP (by lia)⟩;have a1:=hc.lt ep e1 hk1;have a2:=hc.le _ p1 e1;have a3:=hc.nxt (n-1) p1 q e1 (by rw[show n-1+1=n by lia];exact e);show r.2+2<=q.1;lia
   |true =>
    rw[and_eq_true,decide_eq_true_iff]at hd;obtain⟨m,rfl⟩:∃m,n=m+1:=⟨n-1,by lia⟩;have hb0:b.testBit m=true:=hd.2;obtain⟨p0,e0⟩:∃p0,prs[m]?=some p0:=⟨_,BP (by lia)⟩;obtain⟨ps',u,eps,eu⟩:=ok.lastAt hc hb0 e0;rw[oY hb hb0 eps.symm e];rw[eps]at ok ap;refine⟨ok.join hc hb hb0 e0 e eu,?_⟩;obtain⟨a1,a2,a3⟩:=ap.init;refine a1.snoc (p:=(u.1,q.2)) ?_ a3;have:=hc.nxt m p0 q e0 e;have:=hc.le _ q e;show u.1<=q.2;lia
theorem qQ{prs:Prs}{b:Nat}:∀n,(mrg prs b n).length<=n
 |0=>le_refl _
 |n+1=>by
  have ih:=qQ (prs:=prs) (b:=b) n;show(if b.testBit n then(if (decide (0<n) && b.testBit (n-1))then _ else _)else _:Prs).length<=n+1;split
  ·split
   ·simp only[length_append,List.length_dropLast,length_singleton];lia
   ·simp only[length_append,length_singleton];lia
  ·lia
def mg(c:Col)(b:Nat):Prs:=mrg c.prs b c.prs.length
theorem tK{c:Col}(ok:bD c)(b:Nat):Apart (mg c b):=(nF ok.ch b _ (le_refl _)).2
theorem wM{c:Col}(ok:bD c)(b:Nat)(x:Int):inP (mg c b) x=true↔∃(k:Nat)(p:Int×Int),k<c.prs.length/\c.prs[k]?=some p/\b.testBit k=true/\p.1<=x/\x<=p.2:=(nF ok.ch b _ (le_refl _)).1.iff x
theorem tL{c:Col}(ok:bD c)(b:Nat):(mg c b).length<=6:=le_trans (qQ _) ok.few
def cel(cs:List Col)(bs:List Nat):List Prs:=List.zipWith mg cs bs
def rwo(cs:List Col)(w:BW):Rw:=(cel cs w.1,w.2)
theorem nG{cs:List Col}{bs:List Nat}{j:Nat}{c:Col}{b:Nat}(e:cs[j]?=some c)(f:bs[j]?=some b):(cel cs bs)[j]?=some (mg c b):=by
 unfold cel;rw[List.getElem?_zipWith,e,f]
theorem kl{cs:List Col}{bs:List Nat}(h:bs.length=cs.length):(cel cs bs).length=cs.length:=by unfold cel;rw[List.length_zipWith];lia
theorem oZ.rwo{cs:List Col}{w:BW}{x:Rw}(h:oZ cs w x)(hl:w.1.length=cs.length):x=My.rwo cs w:=by
 have e1:x.1=cel cs w.1:=by
  refine List.ext_getElem? λj=>?_
  by_cases hj:j<cs.length
  ·have ex:=BP (l:=x.1) (i:=j) (by rw[h.len];exact hj);have ec:=BP hj;have ew:=BP (l:=w.1) (i:=j) (by rw[hl];exact hj);rw[nG ec ew,ex,h.is j _ _ _ ex ec ew];rfl
  ·rw[getElem?_eq_none (by rw[h.len];lia),getElem?_eq_none (by rw[kl hl];lia)]
 cases x with
 |mk x1 x2=>rw[show x1=cel cs w.1 from e1,show x2=w.2 from h.code];rfl
theorem dI.rwo{cs:List Col}{ws:List BW}{rws:List Rw}(h:dI cs ws rws)(hl:∀w∈ws,w.1.length=cs.length):rws=ws.map (My.rwo cs):=by
 refine List.ext_getElem? λk=>?_
 rw[getElem?_map];by_cases hk:k<ws.length
 ·have ew:=BP hk;have ex:=BP (l:=rws) (i:=k) (by rw[h.1];exact hk);rw[ex,ew,(h.2 k _ _ ew ex).rwo (hl _ (BR ew))];rfl
 ·rw[getElem?_eq_none (by rw[h.1];lia),getElem?_eq_none (by lia)];rfl
theorem wN{cs:List Col}{w:BW}(hok:∀c∈cs,bD c)(hl:w.1.length=cs.length):oZ cs w (rwo cs w):=by
 have key:∀(j:Nat)(ps:Prs)(c:Col)(b:Nat),(cel cs w.1)[j]?=some ps->cs[j]?=some c->w.1[j]?=some b->ps=mg c b:=λj ps c b e f g=>by
  rw[nG f g]at e;exact(Option.some.inj e).symm
 refine⟨U,kl hl,λj ps c b e f g=>?_,λj ps c b e f g=>key j ps c b e f g⟩;rw[key j ps c b e f g];exact(nF (hok c (BR f)).ch b _ (le_refl _)).1
theorem uH{cs:List Col}{ws:List BW}(hok:∀c∈cs,bD c)(hl:∀w∈ws,w.1.length=cs.length):dI cs ws (ws.map (rwo cs)):=by
 refine⟨length_map _,λk w x e f=>?_⟩;rw[getElem?_map,e]at f;cases f;exact wN hok (hl w (BR e))
def Bd(cs:List Col)(bs:List Nat):Prop:=bs.length=cs.length/\∀(j b:Nat)(c:Col),bs[j]?=some b->cs[j]?=some c->b<2^c.prs.length
theorem aI.take{α:Type}{xs:List V}{as:List α}{P:Addr->α->Prop}(h:aI xs as P)(k:Nat):aI (xs.take k) (as.take k) P:=⟨by rw[length_take,length_take,h.1],λj a e=>by
 rw[List.getElem?_take]at e;by_cases hj:j<k
 ·rw[if_pos hj]at e;obtain⟨r,e1,p⟩:=h.2 j a e;exact⟨r,by rw[List.getElem?_take,if_pos hj];exact e1,p⟩
 ·rw[if_neg hj]at e;cases e⟩
theorem aI.drop{α:Type}{xs:List V}{as:List α}{P:Addr->α->Prop}(h:aI xs as P)(k:Nat):aI (xs.drop k) (as.drop k) P:=⟨by rw[length_drop,length_drop,h.1],λj a e=>by
 rw[getElem?_drop]at e;obtain⟨r,e1,p⟩:=h.2 _ a e;exact⟨r,by rw[getElem?_drop];exact e1,p⟩⟩
theorem aI.app{α:Type}{xs ys:List V}{as bs:List α}{P:Addr->α->Prop}(h:aI xs as P)(h':aI ys bs P):aI (xs++ys) (as++bs) P:=⟨by rw[length_append,length_append,h.1,h'.1],λj a e=>by
 by_cases hj:j<as.length
 ·rw[getElem?_append_left hj]at e;obtain⟨r,e1,p⟩:=h.2 j a e;exact⟨r,by rw[getElem?_append_left (by rw[h.1];exact hj)];exact e1,p⟩
 ·rw[getElem?_append_right (by lia)]at e;obtain⟨r,e1,p⟩:=h'.2 _ a e;exact⟨r,by rw[getElem?_append_right (by rw[h.1];lia),h.1];exact e1,p⟩⟩
theorem aI.one{α:Type}{r:Addr}{a:α}{P:Addr->α->Prop}(p:P r a):aI [.ref r] [a] P:=aI.snoc aI.nil p
theorem yi{cs:List Col}{oc:Col}{ws:List BW}{rws:List Rw}{p:List Nat}{cd:List Int}(h:dI cs ws rws)(hb:∀w∈ws,eP cs oc w)(hok:∀c∈cs,bD c)(hp:nB (fC cs) p)(hc:AtP cs p cd):fl rws cd=pc ws p:=by
 have key:∀n,n<=ws.length->fl (rws.take n) cd=pc (ws.take n) p:=λn=>by
  induction n with
  |zero=>intro _;rfl
  |succ n ih =>
   intro hn;have ew:=BP (l:=ws) (i:=n) (by lia);have ex:=BP (l:=rws) (i:=n) (by rw[h.1];lia);have ro:=h.2 n _ _ ew ex;have bo:=hb _ (BR ew);rw[take_snoc ew,take_snoc ex,qL,nE,ih (by lia),uG ro bo hok hp hc,ro.code]
 have:=key ws.length (le_refl _);rw[take_length,←h.1,take_length]at this;exact this
def Cut(sp:Prs)(wi:Bool)(A R:Prs):Prop:=Apart R/\∀n,inP R n=(inP A n && (inP sp n == wi))
theorem Cut.uniq{sp A R R':Prs}{wi:Bool}(h:Cut sp wi A R)(h':Cut sp wi A R'):R=R':=h.1.uniq h'.1 λn=>by rw[h.2,h'.2]
open Classical in
noncomputable def fh (sp:Prs)(wi:Bool)(A:Prs):Prs:=if h:∃R,Cut sp wi A R then h.choose else[]
theorem Cut.is{sp A R:Prs}{wi:Bool}(h:Cut sp wi A R):fh sp wi A=R:=by
 have e:∃R,Cut sp wi A R:=⟨R,h⟩;unfold fh;rw[dif_pos e];exact e.choose_spec.uniq h
noncomputable def nrw (sp:Prs)(wi:Bool)(c:Nat)(w:Rw):Rw:=(w.1.take c++[fh sp wi (w.1.getD c [])]++w.1.drop (c+1),w.2)
noncomputable def prt (sp:Prs)(wi:Bool)(c:Nat)(rws:List Rw):List Rw:=(rws.map (nrw sp wi c)).filter λw=>!(w.1.getD c []).isEmpty
theorem nH{sp:Prs}{wi:Bool}{c:Nat}{w:Rw}(h:c<w.1.length):(nrw sp wi c w).1.length=w.1.length:=by
 show(w.1.take c++[_]++w.1.drop (c+1)).length=_;rw[length_append,length_append,length_take,length_drop,length_singleton];lia
theorem nI{sp:Prs}{wi:Bool}{c:Nat}{w:Rw}(h:c<w.1.length)(j:Nat):(nrw sp wi c w).1[j]?=if j=c then some (fh sp wi (w.1.getD c []))else w.1[j]?:=by
 show(w.1.take c++[_]++w.1.drop (c+1))[j]?=_;have hl:(w.1.take c).length=c:=by rw[length_take];lia
 by_cases h1:j<c
 ·rw[if_neg (by lia),List.append_assoc,getElem?_append_left (by lia),List.getElem?_take_of_lt h1]
 by_cases h2:j=c
 ·subst h2;rw[if_pos U,List.append_assoc,getElem?_append_right (by lia),hl,Nat.sub_self];rfl
 ·rw[if_neg h2,getElem?_append_right (by rw[length_append,hl,length_singleton];lia),getElem?_drop,length_append,hl,length_singleton]
  congr 1
  lia
theorem wO{sp:Prs}{wi:Bool}{c:Nat}{w:Rw}(h:c<w.1.length):(nrw sp wi c w).1.getD c []=fh sp wi (w.1.getD c []):=by
 rw[getD_eq_getElem?_getD,nI h,if_pos U];rfl
theorem lr{pss:List Prs}{cs:List Int}:gd pss cs=true↔∀j,j<cs.length->inP (pss.getD j []) (cs.getD j 0)=true:=by
 unfold gd;rw[all_eq_true];exact⟨λh j hj=>h j (mem_range.mpr hj),λh j hj=>h j (mem_range.mp hj)⟩
theorem tM{sp:Prs}{wi:Bool}{c:Nat}{w:Rw}{cd:List Int}{A:Prs}(hl:w.1.length=cd.length)(hc:c<cd.length)(hA:w.1.getD c []=A)(hk:Cut sp wi A (fh sp wi A)):gd (nrw sp wi c w).1 cd=(gd w.1 cd && (inP sp (cd.getD c 0) == wi)):=by
 have hc':c<w.1.length:=by lia
 rw[Bool.eq_iff_iff,and_eq_true,lr,lr];have key:∀j,(nrw sp wi c w).1.getD j []=if j=c then fh sp wi A else w.1.getD j []:=λj=>by
  rw[getD_eq_getElem?_getD,nI hc',hA];split
  ·rfl
  ·rw[getD_eq_getElem?_getD]
 have hin:=hk.2 (cd.getD c 0);constructor
 ·intro h;have h0:=h c hc;rw[key,if_pos U,hin,and_eq_true]at h0;refine⟨λj hj=>?_,h0.2⟩;by_cases e:j=c
  ·rw[e,hA];exact h0.1
  ·have:=h j hj;rw[key,if_neg e]at this;exact this
 ·intro⟨h1,h2⟩ j hj;rw[key];split
  ·rename_i e
   rw[e,hin,and_eq_true,←hA];exact⟨h1 c hc,h2⟩
  ·exact h1 j hj
theorem qR(w:Rw)(rws:List Rw)(cd:List Int):fl (w :: rws) cd=if gd w.1 cd then w.2 :: fl rws cd else fl rws cd:=by
 unfold fl;rw[filter_cons];split
 ·rw[map_cons]
 ·rfl
theorem tN{sp:Prs}{wi:Bool}{c:Nat}{cd:List Int}(hc:c<cd.length):∀{rws:List Rw},(∀w∈rws,w.1.length=cd.length)->(∀w∈rws,Cut sp wi (w.1.getD c []) (fh sp wi (w.1.getD c [])))->fl (prt sp wi c rws) cd=if (inP sp (cd.getD c 0) == wi)=true then fl rws cd else[]
 | [],_,_=>by split <;> rfl
 |w :: rws,hl,hk=>by
  have ih:=tN (sp:=sp) (wi:=wi) hc (rws:=rws) (λw hw=>hl w (mem_cons_of_mem _ hw)) λw hw=>hk w (mem_cons_of_mem _ hw)
  have e:=tM (sp:=sp) (wi:=wi) (w:=w) (cd:=cd) (hl w mem_cons_self) hc U (hk w mem_cons_self);have hc':c<w.1.length:=by rw[hl w mem_cons_self];exact hc
  have ep:fl (prt sp wi c (w :: rws)) cd=if gd (nrw sp wi c w).1 cd then w.2 :: fl (prt sp wi c rws) cd else fl (prt sp wi c rws) cd:=by
   unfold prt;rw[map_cons,filter_cons];split
   ·exact qR _ _ _
   ·rename_i ne
    rw[if_neg]
    ·intro z;have z1:=lr.mp z c hc;rw[getD_eq_getElem?_getD]at ne z1;cases q:((nrw sp wi c w).1[c]?).getD [] with
     |nil=>rw[q]at z1;cases z1
     |cons a b=>rw[q]at ne;exact ne U
  rw[ep,ih,e,qR];by_cases hi:(inP sp (cd.getD c 0) == wi)=true
  ·rw[if_pos hi,if_pos hi,hi,Bool.and_true]
  ·rw[if_neg hi,if_neg hi,if_neg];rw[and_eq_true];exact λz=>hi z.2
theorem jS.nrw{bs:Prs}{o:Int×Int}{w:Rw}{sp:Prs}{wi:Bool}{c:Nat}(h:jS bs o w)(hc:c<bs.length)(hk:Cut sp wi (w.1.getD c []) (fh sp wi (w.1.getD c []))):jS bs o (My.nrw sp wi c w):=by
 have hc':c<w.1.length:=by rw[h.len];exact hc
 refine⟨by rw[nH hc'];exact h.len,λj ps b e f p hp=>?_,h.lo,h.hi⟩;rw[nI hc']at e;by_cases q:j=c
 ·rw[if_pos q]at e;cases e;have hle:=hk.1.le p hp;have i1:inP (fh sp wi (w.1.getD c [])) p.1=true:=dM.mpr ⟨p,hp,Int.le_refl _,hle⟩;have i2:inP (fh sp wi (w.1.getD c [])) p.2=true:=dM.mpr ⟨p,hp,hle,Int.le_refl _⟩;rw[hk.2,and_eq_true]at i1 i2;obtain⟨p1,m1,g1,_⟩:=dM.mp i1.1;obtain⟨p2,m2,_,g2⟩:=dM.mp i2.1;have ew:w.1[j]?=some (w.1.getD c []):=by rw[q,BP hc',getD_eq_getElem?_getD,BP hc'];rfl
  have b1:=h.inn j _ b ew f p1 m1;have b2:=h.inn j _ b ew f p2 m2;lia
 ·rw[if_neg q]at e;exact h.inn j ps b e f p hp
theorem qS{sp:Prs}{wi:Bool}{c:Nat}{rws:List Rw}{x:Rw}(h:x∈prt sp wi c rws):∃w∈rws,x=nrw sp wi c w:=by
 obtain⟨w,hw,e⟩:=mem_map.mp (mem_filter.mp h).1;exact⟨w,hw,e.symm⟩
theorem nJ(sp:Prs)(wi:Bool)(c:Nat)(rws:List Rw):(prt sp wi c rws).length<=rws.length:=le_trans (List.length_filter_le _ _) (by rw[length_map];exact le_refl _)
theorem TOk.prt{cN cW:Addr}{H:Hp}{nm wy:Str}{ou:Addr}{zs:List Str}{dv:List V}{rws:List Rw}{bs:Prs}{o:Int×Int}{sp:Prs}{wi:Bool}{c:Nat}(h:TOk cN cW H nm wy ou zs dv rws bs o)(hc:c<bs.length)(hk:∀w∈rws,Cut sp wi (w.1.getD c []) (fh sp wi (w.1.getD c []))):TOk cN cW H nm wy ou zs dv (My.prt sp wi c rws) bs o :=
 ⟨h.words,h.once,h.one,h.four,h.way,h.sum,h.doms,h.out,h.len,λx hx=>by
  obtain⟨w,hw,rfl⟩:=qS hx;exact(h.rows w hw).nrw hc (hk w hw),le_trans (nJ _ _ _ _) h.few⟩
theorem o8{sp:Prs}{wi:Bool}{c:Nat}{rws:List Rw}{w:Rw}:prt sp wi c (rws++[w])=prt sp wi c rws++(if (!((nrw sp wi c w).1.getD c []).isEmpty)=true then[nrw sp wi c w] else[]):=by
 unfold prt;rw[map_append,filter_append]
 congr 1
 show List.filter _ [nrw sp wi c w]=_;rw[filter_cons];split <;> rfl
def wQ:HO->Prop
 | .frz _ _=>False
 | .tbl _=>False
 |_=>True
def So(H H':Hp):Prop:=∀d o,wQ o->H d=some o->H' d=some o
theorem So.of{H H':Hp}(s:ar H H'):So H H':=λd o _ e=>s d o e
theorem So.trans{H H1 H2:Hp}(a:So H H1)(b:So H1 H2):So H H2:=λd o p e=>b d o p (a d o p e)
theorem So.tups{H H':Hp}(s:So H H'):da H H':=λd xs e=>s d _ trivial e
theorem So.lst{H H':Hp}{a:Addr}{xs:List V}(s:So H H')(e:H a=some (.lst xs)):H' a=some (.lst xs):=s _ _ trivial e
theorem So.hide{H:Hp}{cs:List Addr}(f:Fzs H cs):So H (hideL H cs):=λd o p e=>by
 rw[bB (f.out e λz q=>by rw[q]at p;exact p)];exact e
section
variable{H H':Hp}(s:So H H')
include s
theorem SpA.so{N:Addr->Prop}{l:Addr}{ps:Prs}(h:SpA N H l ps):SpA N H' l ps:=by obtain⟨n,ys,e,p⟩:=h;exact⟨n,ys,s _ _ trivial e,p.mono s.tups⟩
theorem RL.so{N:Addr->Prop}{xs:List V}{rws:List Rw}(h:RL N H xs rws):RL N H' xs rws:=aI.mono h λ_ _ ⟨ce,cs,e,n,f,c⟩=>⟨ce,cs,s _ _ trivial e,n,s _ _ trivial f,aI.mono c λ_ _ p=>SpA.so s p⟩
theorem TF.so{cT t ou:Addr}{nm wy:Str}{zs:List Str}{dv:List V}{rws:List Rw}(h:TF cT H t nm wy ou zs dv rws):TF cT H' t nm wy ou zs dv rws:=by
 obtain⟨rl,dx,na,dl,fs,xs,h1,h2,h3,h4,h5,h6,h7,h8,h9,h10,h11,r⟩:=h;exact⟨rl,dx,na,dl,fs,xs,s _ _ trivial h1,h2,h3,h4,h5,h6,h7,s _ _ trivial h8,s _ _ trivial h9,s _ _ trivial h10,RL.so s h11,r⟩
theorem dC.so{cN cW a:Addr}{c:Col}(h:dC cN cW H a c):dC cN cW H' a c:=by
 rcases h with⟨w,dx,fs,e,r⟩|⟨w,dx,fs,l,e,r1,r2,r3,r4,r5⟩
 ·exact .inl ⟨w,dx,fs,s _ _ trivial e,r⟩
 ·exact .inr ⟨w,dx,fs,l,s _ _ trivial e,r1,r2,r3,r4,s _ _ trivial r5⟩
theorem c0.so{N:Addr->Prop}{l:Addr}{c:Col}(h:c0 N H l c):c0 N H' l c:=by obtain⟨pl,ts,n,m,e,f,p⟩:=h;exact⟨pl,ts,n,m,s _ _ trivial e,s _ _ trivial f,p.mono s.tups⟩
theorem cA.so{N:Addr->Prop}{xs:List V}{cs:List Col}(h:cA N H xs cs):cA N H' xs cs:=aI.mono h λ_ _ p=>c0.so s p
theorem BRL.so{N:Addr->Prop}{xs:List V}{ws:List BW}(h:BRL N H xs ws):BRL N H' xs ws:=aI.mono h λ_ _ ⟨bl,e,n,f⟩=>⟨bl,s _ _ trivial e,n,s _ _ trivial f⟩
theorem Dom.so{cN cW a:Addr}{b:Int×Int}(h:Dom cN cW H a b):Dom cN cW H' a b:=by obtain⟨C,hC,dx,fs,e,r⟩:=h;exact⟨C,hC,dx,fs,s _ _ trivial e,r⟩
theorem TOk.so{cN cW ou:Addr}{nm wy:Str}{zs:List Str}{dv:List V}{rws:List Rw}{bs:Prs}{o:Int×Int}(h:TOk cN cW H nm wy ou zs dv rws bs o):TOk cN cW H' nm wy ou zs dv rws bs o :=
 ⟨h.words,h.once,h.one,h.four,h.way,λz=>let ⟨dx,fs,e⟩:=h.sum z;⟨dx,fs,s _ _ trivial e⟩,aI.mono h.doms λ_ _ p=>Dom.so s p,Dom.so s h.out,h.len,h.rows,h.few⟩
end
structure wR(P:Program)(w:World)(K:W.Frag)(mg:Str->Option Value)(base:Heap)(f:Addr)(sp:Prs)(wi:Bool)(J:Hp->Prop):Prop where
 fn:∃s,HFn P w K mg base 3 f s/\∀(H:Hp)(o:Addr)(A:Prs)(Q:VK),J H->SpA NT H o A->Apart A->A.length<=6->(∀(r:Addr)(H':Hp)(R:Prs),ar H H'->H r=none->SpA NT H' r R->Cut sp wi A R->Q (.ref r) H')->s [.ref o] H Q E0
 ob:∀H,J H->FnO H f
 st:∀H H',J H->ar H H'->J H'
theorem pd{A:Prs}{m n:Int}(hmn:m<=n)(h:∀e∈ends A,e<=m\/n<e):inP A n=inP A m:=by
 rw[Bool.eq_iff_iff,dM,dM];constructor
 ·rintro⟨p,hp,h1,h2⟩;have e1:=h _ (dS.mpr ⟨p,hp,.inl U⟩);exact⟨p,hp,by lia,by lia⟩
 ·rintro⟨p,hp,h1,h2⟩;have e1:=h _ (dS.mpr ⟨p,hp,.inr U⟩);exact⟨p,hp,by lia,by lia⟩
structure dX(A B:Prs)(wi:Bool)(ms:List Int)(i:Nat)(R:Prs):Prop where
 ap:Apart R
 bel:∀m,ms[i]?=some m->∀r∈R,r.2<m
 is:∀m,ms[i]?=some m->∀n,inP R n=(decide (n<m) && (inP A n && (inP B n == wi)))
 none_:ms=[]->R=[]
section
variable{A B:Prs}{wi:Bool}{ms:List Int}(pw:ms.Pairwise (· < ·))(hA:∀e∈ends A,e∈ms)(hB:∀e∈ends B,e∈ms)
include pw hA
theorem dX.zero:dX A B wi ms 0 []:=⟨Apart.nil,(λ_ _ r hr=>by cases hr),λm e n=>by
 show false=_
 symm
 rw[Bool.and_eq_false_iff,decide_eq_false_iff_not];by_cases h:n<m
 ·right
  rw[Bool.and_eq_false_iff];left
  refine eH λp hp z=>?_
  obtain⟨j,ej⟩:=getElem?_of_mem (hA _ (dS.mpr ⟨p,hp,.inl U⟩));by_cases hj:j=0
  ·rw[hj,e]at ej;cases ej;lia
  ·have:=kE pw e ej (by lia);lia
 ·exact .inl h,λ_=>U⟩
include hB
theorem lu{i:Nat}{lo pa n:Int}(e0:ms[i]?=some lo)(e1:ms[i+1]?=some pa)(h1:lo<=n)(h2:n<pa):(inP A n && (inP B n == wi))=(inP A lo && (inP B lo == wi)):=by
 have key:∀e∈ms,e<=lo\/n<e:=λe he=>by
  obtain⟨j,ej⟩:=getElem?_of_mem he;rcases Nat.lt_trichotomy j i with h|h|h
  ·have:=kE pw ej e0 h;lia
  ·rw[h,e0]at ej;cases ej;lia
  ·by_cases q:j=i+1
   ·rw[q,e1]at ej;cases ej;lia
   ·have:=kE pw e1 ej (by lia);lia
 rw[pd h1 λe he=>key e (hA e he),pd h1 λe he=>key e (hB e he)]
theorem dX.skip{i:Nat}{R:Prs}{lo pa:Int}(h:dX A B wi ms i R)(e0:ms[i]?=some lo)(e1:ms[i+1]?=some pa)(hf:(inP A lo && (inP B lo == wi))=false):dX A B wi ms (i+1) R:=by
 have hlt:=kE pw e0 e1 (by lia);refine⟨h.ap,λm em r hr=>?_,λm em n=>?_,h.none_⟩
 ·rw[e1]at em;cases em;have:=h.bel lo e0 r hr;lia
 ·rw[e1]at em;cases em;rw[h.is lo e0];by_cases c1:n<lo
  ·rw[decide_eq_true c1,decide_eq_true (by lia:n<pa)]
  ·by_cases c2:n<pa
   ·rw[lu pw hA hB e0 e1 (by lia) c2,hf,Bool.and_false,Bool.and_false]
   ·rw[decide_eq_false c1,decide_eq_false c2]
theorem dX.put{i:Nat}{R:Prs}{lo pa:Int}(h:dX A B wi ms i R)(e0:ms[i]?=some lo)(e1:ms[i+1]?=some pa)(hf:(inP A lo && (inP B lo == wi))=true)(hl:∀r∈R,r.2≠lo-1):dX A B wi ms (i+1) (R++[(lo,pa-1)]):=by
 have hlt:=kE pw e0 e1 (by lia);refine⟨h.ap.snoc (show lo<=pa-1 by lia) λr hr=>?_,λm em r hr=>?_,λm em n=>?_,λz=>by rw[z]at e0;cases e0⟩
 ·have:=h.bel lo e0 r hr;have:=hl r hr;show r.2+2<=lo;lia
 ·rw[e1]at em;cases em;rcases mem_append.mp hr with hr|hr
  ·have:=h.bel lo e0 r hr;lia
  ·rw[show r=(lo,pa-1) by simpa using hr];show pa-1<pa;lia
 ·rw[e1]at em;cases em;rw[du,h.is lo e0];by_cases c1:n<lo
  ·rw[decide_eq_true c1,decide_eq_true (by lia:n<pa),show inR n (lo,pa-1)=false by unfold inR;rw[decide_eq_false (by show ¬ lo<=n;lia)];rfl,Bool.or_false]
  ·by_cases c2:n<pa
   ·rw[lu pw hA hB e0 e1 (by lia) c2,hf,decide_eq_true c2,show inR n (lo,pa-1)=true by unfold inR;rw[decide_eq_true (show lo<=n by lia),decide_eq_true (show n<=pa-1 by lia)];rfl,Bool.or_true];rfl
   ·rw[decide_eq_false c1,decide_eq_false c2,show inR n (lo,pa-1)=false by unfold inR;rw[decide_eq_false (show ¬ n<=pa-1 by lia),Bool.and_false]];rfl
theorem dX.join{i:Nat}{R:Prs}{l:Int×Int}{lo pa:Int}(h:dX A B wi ms i (R++[l]))(e0:ms[i]?=some lo)(e1:ms[i+1]?=some pa)(hf:(inP A lo && (inP B lo == wi))=true)(hl:l.2=lo-1):dX A B wi ms (i+1) (R++[(l.1,pa-1)]):=by
 have hlt:=kE pw e0 e1 (by lia);obtain⟨a1,a2,a3⟩:=h.ap.init;refine⟨a1.snoc (show l.1<=pa-1 by lia) a3,λm em r hr=>?_,λm em n=>?_,λz=>by rw[z]at e0;cases e0⟩
 ·rw[e1]at em;cases em;rcases mem_append.mp hr with hr|hr
  ·have:=h.bel lo e0 r (mem_append_left _ hr);lia
  ·rw[show r=(l.1,pa-1) by simpa using hr];show pa-1<pa;lia
 ·rw[e1]at em;cases em;have hi:=h.is lo e0 n;rw[du]at hi⊢;by_cases c1:n<lo
  ·rw[decide_eq_true c1]at hi;rw[decide_eq_true (by lia:n<pa),←hi]
   congr 1
   unfold inR;rw[decide_eq_true (show n<=pa-1 by lia),decide_eq_true (show n<=l.2 by lia)]
  ·by_cases c2:n<pa
   ·rw[lu pw hA hB e0 e1 (by lia) c2,hf,decide_eq_true c2,show inR n (l.1,pa-1)=true by unfold inR;rw[decide_eq_true (show l.1<=n by lia),decide_eq_true (show n<=pa-1 by lia)];rfl,Bool.or_true];rfl
   ·rw[decide_eq_false c1]at hi;have h0:inP R n=false:=(Bool.or_eq_false_iff.mp hi).1;rw[h0,decide_eq_false c2,show inR n (l.1,pa-1)=false by unfold inR;rw[decide_eq_false (show ¬ n<=pa-1 by lia),Bool.and_false]];rfl
omit hB in
theorem dX.cut{R:Prs}(h:dX A B wi ms (ms.length-1) R):Cut B wi A R:=by
 refine⟨h.ap,λn=>?_⟩;by_cases he:ms=[]
 ·have hA0:A=[]:=by
   cases A with
   |nil=>rfl
   |cons p A'=>have:=hA p.1 (dS.mpr ⟨p,.head _,.inl U⟩);rw[he]at this;cases this
  rw[h.none_ he,hA0];rfl
 ·have hp:0<ms.length:=List.length_pos_iff.mpr he;have em:=BP (l:=ms) (i:=ms.length-1) (by lia);generalize ms[ms.length-1]=m at em;rw[h.is m em];by_cases c:n<m
  ·rw[decide_eq_true c];rfl
  ·have:inP A n=false:=eH λp hp' z=>by
    obtain⟨j,ej⟩:=getElem?_of_mem (hA _ (dS.mpr ⟨p,hp',.inr U⟩));have hj:=(BQ.mp ej).1;by_cases q:j=ms.length-1
    ·rw[q,em]at ej;cases ej;lia
    ·have:=kE pw ej em (by lia);lia
   rw[this,Bool.false_and,Bool.and_false]
end
theorem tO(xs:List V)(x:V):jZ (xs++[x]) none (some (-1))=xs:=by
 unfold jZ;simp[HT.sIx];rw[show(-1+((xs.length:Int)+1)).toNat=xs.length by lia,List.take_append_of_le_length (le_refl _),take_length]
theorem _root_.L2.Apart.half{R:Prs}{p:Int×Int}(h:Apart (R++[p])):Apart (R++[(p.1,(p.1+p.2) / 2)]):=by
 obtain⟨a1,a2,a3⟩:=h.init;exact a1.snoc (show p.1<=(p.1+p.2) / 2 by lia) a3
theorem _root_.L2.Apart.cons{R:Prs}{p:Int×Int}(h:Apart R)(hp:p.1<=p.2)(hg:∀r∈R,p.2+2<=r.1):Apart (p :: R):=⟨λr hr=>by
 rcases mem_cons.mp hr with rfl|hr
 ·exact hp
 ·exact h.le r hr,pairwise_cons.mpr ⟨hg,h.gap⟩⟩
inductive fP(K:W.Frag)(Y:AD)(vs:List V)(H:Hp)(Q:VK)(e_:XK):Prop
 |mk (z g:Str)(_:vs=[.str z,.str g])(_:Q (.bl (kF z g)) H):fP K Y vs H Q e_
inductive eV(K:W.Frag)(Y:AD)(vs:List V)(H:Hp)(Q:VK)(e_:XK):Prop
 |mk (i:Int)(_:vs=[.int i])(_:Q (.bl true) H):eV K Y vs H Q e_
inductive ly(K:W.Frag)(Y:AD)(vs:List V)(H:Hp)(Q:VK)(e_:XK):Prop
 |mk (a b:Addr)(c:Col)(_:vs=[.ref a,.ref b])(_:dC Y.i Y.j H a c)(_:dC Y.i Y.j H b c)(_:Q (.bl true) H):ly K Y vs H Q e_
inductive lz(K:W.Frag)(Y:AD)(vs:List V)(H:Hp)(Q:VK)(e_:XK):Prop
 |mk (a:Addr)(xs:List V)(ps:List (Int×Int))(n:Int)(_:vs=[.ref a,.int n])(_:SqL K H a xs)(_:PL H xs ps)(_:Q (.bl (inP ps n)) H):lz K Y vs H Q e_
inductive gM(K:W.Frag)(Y:AD)(vs:List V)(H:Hp)(Q:VK)(e_:XK):Prop
 |mk (a b:Addr)(xs ys:List V)(A B:List (Int×Int))(_:vs=[.ref a,.ref b])(_:SqL K H a xs)(_:SqL K H b ys)(_:PL H xs A)(_:PL H ys B)(_:Apart A)(_:Apart B)(_:xs.length+ys.length<=900)(_:∀(r:Addr)(H':Hp)(zs:List V)(R:List (Int×Int)),ar H H'->H r=none->H' r=some (.lst zs)->PL H' zs R->Apart R->(∀n,inP R n=(inP A n && inP B n))->zs.length<=xs.length+ys.length->Q (.ref r) H'):gM K Y vs H Q e_
inductive nK(K:W.Frag)(Y:AD)(vs:List V)(H:Hp)(Q:VK)(e_:XK):Prop
 |mk (a:Addr)(xs:List V)(T:List (Int×Int))(lo hi:Int)(_:vs=[.ref a,.int lo,.int hi])(_:SqL K H a xs)(_:PL H xs T)(_:Apart T)(_:xs.length<=450)(_:∀(r:Addr)(H':Hp)(zs:List V)(F:List (Int×Int)),ar H H'->H r=none->H' r=some (.lst zs)->PL H' zs F->Apart F->(∀n,inP F n=(decide (lo<=n) && decide (n<=hi) && !inP T n))->zs.length<=xs.length+1->Q (.ref r) H'):nK K Y vs H Q e_
inductive dh(K:W.Frag)(Y:AD)(vs:List V)(H:Hp)(Q:VK)(e_:XK):Prop
 |mk (p r:Addr)(xs ys:List V)(_:vs=[.ref p,.ref r])(_:SqL K H p xs)(_:SqL K H r ys)(_:1<=xs.length)(_:xs.length<=4)(_:ys.length<=200)(_:Q .non H):dh K Y vs H Q e_
inductive iB(K:W.Frag)(Y:AD)(vs:List V)(H:Hp)(Q:VK)(e_:XK):Prop
 |mk (cl:Addr)(xs:List V)(w:Rw)(_:vs=[.ref cl,.int w.2])(_:H cl=some (.lst xs))(_:CL NT H xs w.1)(_:w.1.length<=100)(_:∀(r:Addr)(H':Hp),ar H H'->H r=none->fA (λa=>H a=none) H' r w->Q (.ref r) H'):iB K Y vs H Q e_
inductive fQ(K:W.Frag)(Y:AD)(vs:List V)(H:Hp)(Q:VK)(e_:XK):Prop
 |mk (a l:Addr)(xs:List V)(c:Nat)(_:vs=[.ref a,.int (c:Int),.ref l])(_:H a=some (.lst xs))(_:xs.length<=100)(_:∀(b:Addr)(H':Hp),ar H H'->H b=none->H' b=some (.lst (xs.take c++[V.ref l]++xs.drop (c+1)))->Q (.ref b) H'):fQ K Y vs H Q e_
inductive dY(K:W.Frag)(Y:AD)(vs:List V)(H:Hp)(Q:VK)(e_:XK):Prop
 |mk (a:Addr)(ns:List Int)(k:Int)(_:vs=[.ref a,.int k])(_:SqL K H a (ns.map V.int))(_:0<=k)(_:∀r:Int,Q (.int r) H):dY K Y vs H Q e_
inductive cz(K:W.Frag)(Y:AD)(vs:List V)(H:Hp)(Q:VK)(e_:XK):Prop
 |mk (c k:Int)(_:vs=[.int c,.int k])(_:0<=k)(_:k<=100)(_:∀r:Int,0<=r->Q (.int r) H):cz K Y vs H Q e_
inductive eW(K:W.Frag)(Y:AD)(vs:List V)(H:Hp)(Q:VK)(e_:XK):Prop
 |mk (c k:Int)(_:vs=[.int c,.int k])(_:Q (.str (wd c k)) H):eW K Y vs H Q e_
inductive dO(K:W.Frag)(Y:AD)(vs:List V)(H:Hp)(Q:VK)(e_:XK):Prop
 |mk (pl:Addr)(ts:List V)(prs:Prs)(b:Nat)(_:vs=[.ref pl,.int (b:Int)])(_:H pl=some (.lst ts))(_:PL H ts prs)(_:Ch prs)(_:prs.length<=6)(_:∀(l:Addr)(ps:Prs)(H':Hp),ar H H'->SpA (λa=>H a=none) H' l ps->dN prs b prs.length ps->ps=mrg prs b prs.length->Q (.ref l) H'):dO K Y vs H Q e_
inductive fi(K:W.Frag)(Y:AD)(vs:List V)(H:Hp)(Q:VK)(e_:XK):Prop
 |mk (cl:Addr)(xs:List V)(cs:List Col)(_:vs=[.ref cl])(_:H cl=some (.lst xs))(_:cA NT H xs cs)(_:(∀c∈cs,bD c))(_:cs.length<=4)(_:∀(l:Addr)(zs:List V)(H':Hp),ar H H'->H' l=some (.lst zs)->PtL NT H' zs (eQ (fC cs))->Q (.ref l) H'):fi K Y vs H Q e_
inductive fS(K:W.Frag)(Y:AD)(vs:List V)(H:Hp)(Q:VK)(e_:XK):Prop
 |mk (cl pl:Addr)(xs:List V)(cs:List Col)(p:List Nat)(tn:Int)(_:vs=[.ref cl,.ref pl,.int tn])(_:H cl=some (.lst xs))(_:cA NT H xs cs)(_:(∀c∈cs,bD c))(_:cs.length<=4)(_:H pl=some (.lst (vN p)))(_:nB (fC cs) p)(_:∀(l:Addr)(cd:List Int)(H':Hp),ar H H'->H' l=some (.lst (cd.map V.int))->AtP cs p cd->Q (.ref l) H'):fS K Y vs H Q e_
inductive iC(K:W.Frag)(Y:AD)(vs:List V)(H:Hp)(Q:VK)(e_:XK):Prop
 |mk (r pl:Addr)(w:BW)(p:List Nat)(_:vs=[.ref r,.ref pl])(_:dH NT H r w)(_:H pl=some (.lst (vN p)))(_:w.1.length=p.length)(_:p.length<=100)(_:∀H',ar H H'->Q (.bl (lY w.1 p)) H'):iC K Y vs H Q e_
inductive iD(K:W.Frag)(Y:AD)(vs:List V)(H:Hp)(Q:VK)(e_:XK):Prop
 |mk (tn:Int)(ol:Addr)(oc:Col)(_:vs=[.int tn,.ref ol])(_:c0 NT H ol oc)(_:∀(wy:Str)(i:Nat)(H':Hp),ar H H'->six[i]?=some wy->(wy=Str.ofString "sum" -> oc.w=false)->Q (.str wy) H'):iD K Y vs H Q e_
inductive gv(K:W.Frag)(Y:AD)(vs:List V)(H:Hp)(Q:VK)(e_:XK):Prop
 |mk (r d:Addr)(p:SI)(_:vs=[.ref r,.ref d])(_:SqT K H r (tp p))(_:SqT K H d (tp p))(_:Q (.bl true) H):gv K Y vs H Q e_
inductive fj(K:W.Frag)(Y:AD)(vs:List V)(H:Hp)(Q:VK)(e_:XK):Prop
 |mk (l co:Addr)(ps:Prs)(c:Col)(tn:Int)(_:vs=[.ref l,.ref co,.int tn])(_:SpA NT H l ps)(_:Apart ps)(_:ps.length<=6)(_:(∀p∈ps,c.lo<=p.1))(_:c0 NT H co c)(_:bD c)(_:∀(l':Addr)(ps':Prs)(H':Hp),ar H H'->SpA NT H' l' ps'->Apart ps'->ps'.length<=10->Q (.ref l') H'):fj K Y vs H Q e_
inductive gN(K:W.Frag)(Y:AD)(vs:List V)(H:Hp)(Q:VK)(e_:XK):Prop
 |mk (a:Addr)(xs:List V)(ps:List (Int×Int))(n:Int)(_:vs=[.ref a,.int n])(_:SqL K H a xs)(_:PL H xs ps)(_:Q (.bl (inP ps n)) H):gN K Y vs H Q e_
inductive b9(K:W.Frag)(Y:AD)(vs:List V)(H:Hp)(Q:VK)(e_:XK):Prop
 |mk (x dx:Addr)(z:Str)(_:vs=[.ref x,.str z])(_:H x=some (.ins Y.b dx []))(_:Q .non (upd H x (.ins Y.b dx [("called",.str z)]))):b9 K Y vs H Q e_
inductive cm(K:W.Frag)(Y:AD)(vs:List V)(H:Hp)(Q:VK)(e_:XK):Prop
 |mk (x dx:Addr)(z:Str)(_:vs=[.ref x,.str z])(_:H x=some (.ins Y.c dx []))(_:Q .non (upd H x (.ins Y.c dx [("called",.str z)]))):cm K Y vs H Q e_
inductive cn(K:W.Frag)(Y:AD)(vs:List V)(H:Hp)(Q:VK)(e_:XK):Prop
 |mk (x dx:Addr)(z:Str)(_:vs=[.ref x,.str z])(_:H x=some (.ins Y.d dx []))(_:Q .non (upd H x (.ins Y.d dx [("called",.str z)]))):cn K Y vs H Q e_
inductive cB(K:W.Frag)(Y:AD)(vs:List V)(H:Hp)(Q:VK)(e_:XK):Prop
 |mk (x dx:Addr)(z:Str)(_:vs=[.ref x,.str z])(_:H x=some (.ins Y.e dx []))(_:Q .non (upd H x (.ins Y.e dx [("called",.str z)]))):cB K Y vs H Q e_
inductive cq(K:W.Frag)(Y:AD)(vs:List V)(H:Hp)(Q:VK)(e_:XK):Prop
 |mk (x dx:Addr)(z:Str)(_:vs=[.ref x,.str z])(_:H x=some (.ins Y.f dx []))(_:Q .non (upd H x (.ins Y.f dx [("called",.str z)]))):cq K Y vs H Q e_
inductive cC(K:W.Frag)(Y:AD)(vs:List V)(H:Hp)(Q:VK)(e_:XK):Prop
 |mk (x dx:Addr)(z:Str)(_:vs=[.ref x,.str z])(_:H x=some (.ins Y.g dx []))(_:Q .non (upd H x (.ins Y.g dx [("called",.str z)]))):cC K Y vs H Q e_
inductive bK(K:W.Frag)(Y:AD)(vs:List V)(H:Hp)(Q:VK)(e_:XK):Prop
 |mk (x dx:Addr)(lo hi:Int)(_:vs=[.ref x,.int lo,.int hi])(_:H x=some (.ins Y.i dx []))(_:Q .non (mkd Y.i H x dx lo hi)):bK K Y vs H Q e_
inductive bR(K:W.Frag)(Y:AD)(vs:List V)(H:Hp)(Q:VK)(e_:XK):Prop
 |mk (x dx:Addr)(lo hi:Int)(_:vs=[.ref x,.int lo,.int hi])(_:H x=some (.ins Y.j dx []))(_:Q .non (mkd Y.j H x dx lo hi)):bR K Y vs H Q e_
def J1(K:W.Frag)(Y:AD):Sp:=rJ K Y.b Y.i Y.j 0
def J9(K:W.Frag)(Y:AD):Sp:=rJ K Y.c Y.i Y.j 1
def J5(K:W.Frag)(Y:AD):Sp:=rJ K Y.d Y.i Y.j 2
def J7(K:W.Frag)(Y:AD):Sp:=rJ K Y.e Y.i Y.j 3
def J3(K:W.Frag)(Y:AD):Sp:=rJ K Y.f Y.i Y.j 4
def J11(K:W.Frag)(Y:AD):Sp:=rJ K Y.g Y.i Y.j 5
inductive fT(K:W.Frag)(Y:AD)(vs:List V)(H:Hp)(Q:VK)(e_:XK):Prop
 |mk (z:Str)(_:vs=[.str z])(_:z.length<=1000)(_:Q (.bl (isw z)) H):fT K Y vs H Q e_
inductive dZ(K:W.Frag)(Y:AD)(vs:List V)(H:Hp)(Q:VK)(e_:XK):Prop
 |mk (a b:Addr)(xs ys:List V)(A B:List (Int×Int))(_:vs=[.ref a,.ref b])(_:SqL K H a xs)(_:SqL K H b ys)(_:PL H xs A)(_:PL H ys B)(_:Apart A)(_:Apart B)(_:xs.length<=450)(_:ys.length<=449)(_:∀(r:Addr)(H':Hp)(zs:List V)(R:List (Int×Int)),ar H H'->H r=none->H' r=some (.lst zs)->PL H' zs R->Apart R->(∀n,inP R n=(inP A n && !inP B n))->zs.length<=xs.length+(ys.length+1)->Q (.ref r) H'):dZ K Y vs H Q e_
inductive nL(K:W.Frag)(Y:AD)(vs:List V)(H:Hp)(Q:VK)(e_:XK):Prop
 |mk (t rl c dx:Addr)(fs:List (Str×V))(xs:List V)(rws:List Rw)(k:Nat)(w:Rw)(cs:List Int)(_:vs=[.ref t,.int k,.ref c])(_:H t=some (.ins Y.k dx fs))(_:fs.lookup (Str.ofString "rows")=some (.ref rl)) (_:H rl=some (.lst xs))(_:RL NT H xs rws)(_:rws[k]?=some w)(_:SqL K H c (cs.map V.int))(_:w.1.length=cs.length)(_:∀H',ar H H'->Q (.bl (gd w.1 cs)) H'):nL K Y vs H Q e_
inductive fU(K:W.Frag)(Y:AD)(vs:List V)(H:Hp)(Q:VK)(e_:XK):Prop
 |mk (a:Addr)(ns:List Int)(m:Int)(_:vs=[.ref a,.int m])(_:SqL K H a (ns.map V.int))(_:ns.length<=900)(_:1<=m)(_:m<=200)(_:∀(l:Addr)(ms:List Int)(H':Hp),ar H H'->H' l=some (.lst (ms.map V.int))->((ms.length:Nat):Int)<=m->ms.length<=ns.length->(∀x∈ms,0<=x)->Q (.ref l) H'):fU K Y vs H Q e_
inductive fk(K:W.Frag)(Y:AD)(vs:List V)(H:Hp)(Q:VK)(e_:XK):Prop
 |mk (m most:Int)(_:vs=[.int m,.int most])(_:1<=most)(_:most<=6)(_:∀(l:Addr)(c:Col)(H':Hp),ar H H'->c0 (λa=>H a=none) H' l c->bD c->Q (.ref l) H'):fk K Y vs H Q e_
inductive d6(K:W.Frag)(Y:AD)(vs:List V)(H:Hp)(Q:VK)(e_:XK):Prop
 |mk (m:Int)(cl ol la:Addr)(xs:List V)(cs:List Col)(oc:Col)(_:vs=[.int m,.ref cl,.ref ol,.ref la])(_:H cl=some (.lst xs))(_:cA NT H xs cs)(_:(∀c∈cs,bD c))(_:1<=cs.length)(_:cs.length<=4)(_:c0 NT H ol oc)(_:bD oc)(_:0<=m)(_:(H la=some (.lst [])\/∃w,dH NT H la w/\eP cs oc w))(_:∀(r:Addr)(w:BW)(H':Hp),ar H H'->dH (λa=>H a=none) H' r w->eP cs oc w->Q (.ref r) H'):d6 K Y vs H Q e_
inductive eX(K:W.Frag)(Y:AD)(vs:List V)(H:Hp)(Q:VK)(e_:XK):Prop
 |mk (l cl:Addr)(zs xs:List V)(ws:List BW)(cs:List Col)(_:vs=[.ref l,.ref cl])(_:H l=some (.lst zs))(_:BRL NT H zs ws)(_:ws.length<=200)(_:H cl=some (.lst xs))(_:cA NT H xs cs)(_:(∀c∈cs,bD c))(_:cs.length<=4)(_:(∀w∈ws,w.1.length=cs.length))(_:∀(l':Addr)(zs':List V)(rws:List Rw)(H':Hp),ar H H'->H' l'=some (.lst zs')->RL (λa=>H a=none) H' zs' rws->dI cs ws rws->Q (.ref l') H'):eX K Y vs H Q e_
inductive iE(K:W.Frag)(Y:AD)(vs:List V)(H:Hp)(Q:VK)(e_:XK):Prop
 |mk (wy:Str)(i:Nat)(bl_ ol pl:Addr)(zs:List V)(ws:List BW)(oc:Col)(p:List Nat)(_:vs=[.str wy,.ref bl_,.ref ol,.ref pl])(_:six[i]?=some wy)(_:H bl_=some (.lst zs))(_:BRL NT H zs ws)(_:ws.length<=200)(_:c0 NT H ol oc)(_:bD oc)(_:H pl=some (.lst (vN p)))(_:(∀w∈ws,w.1.length=p.length))(_:p.length<=100)(_:∀(r:Addr)(H':Hp),ar H H'->H' r=some (.tup (tp (ver (wf i oc.lo oc.hi) (pc ws p))))->Q (.ref r) H'):iE K Y vs H Q e_
inductive iF(K:W.Frag)(Y:AD)(vs:List V)(H:Hp)(Q:VK)(e_:XK):Prop
 |mk (a b:Addr)(A B:Prs)(wi:Bool)(_:vs=[.ref a,.ref b,.bl wi])(_:SpA NT H a A)(_:SpA NT H b B)(_:Apart A)(_:Apart B)(_:A.length<=6)(_:B.length<=10)(_:∀(l:Addr)(R:Prs)(H':Hp),ar H H'->H l=none->SpA NT H' l R->Cut B wi A R->R.length<=100->Q (.ref l) H'):iF K Y vs H Q e_
inductive gw(K:W.Frag)(Y:AD)(vs:List V)(H:Hp)(Q:VK)(e_:XK):Prop
 |mk (f t rl ou:Addr)(nm wy:Str)(zs:List Str)(dv rx:List V)(rws tQ:List Rw)(cs:List Col)(oc:Col)(_:vs=[.ref f,.ref t,.ref rl])(_:TF Y.k H f nm wy ou zs dv rws)(_:TF Y.k H t nm wy ou zs dv tQ)(_:H rl=some (.lst rx))(_:RL NT H rx rws)(_:aI dv cs (dC Y.i Y.j H))(_:dC Y.i Y.j H ou oc)(_:∀H',ar H H'->Q (.bl true) H'):gw K Y vs H Q e_
def J0(K:W.Frag)(Y:AD):Sp:=rH Y.b (Str.ofString "first")
def J8(K:W.Frag)(Y:AD):Sp:=rH Y.c (Str.ofString "only")
def J4(K:W.Frag)(Y:AD):Sp:=rH Y.d (Str.ofString "like")
def J6(K:W.Frag)(Y:AD):Sp:=rH Y.e (Str.ofString "low")
def J2(K:W.Frag)(Y:AD):Sp:=rH Y.f (Str.ofString "high")
def J10(K:W.Frag)(Y:AD):Sp:=rH Y.g (Str.ofString "sum")
inductive bL(K:W.Frag)(Y:AD)(vs:List V)(H:Hp)(Q:VK)(e_:XK):Prop
 |mk (a:Addr)(b:Int×Int)(i:Int)(_:vs=[.ref a,.int i])(_:wG Y.i H a b.1 b.2)(_:b.1<=i)(_:i<=b.2)(_:Q (.bl true) H):bL K Y vs H Q e_
inductive bS(K:W.Frag)(Y:AD)(vs:List V)(H:Hp)(Q:VK)(e_:XK):Prop
 |mk (a:Addr)(b:Int×Int)(i:Int)(_:vs=[.ref a,.int i])(_:wG Y.j H a b.1 b.2)(_:b.1<=i)(_:i<=b.2)(_:Q (.bl true) H):bS K Y vs H Q e_
inductive bG(K:W.Frag)(Y:AD)(vs:List V)(H:Hp)(Q:VK)(e_:XK):Prop
 |mk (x dx:Addr)(lo hi:Int)(_:vs=[.ref x,.int lo,.int hi])(_:H x=some (.ins Y.i dx []))(_:lo<=hi)(_:Q .non (mkd Y.i H x dx lo hi)):bG K Y vs H Q e_
def J12(K:W.Frag)(Y:AD):Sp:=jg K Y.b Y.i Y.j 0
def J16(K:W.Frag)(Y:AD):Sp:=jg K Y.c Y.i Y.j 1
def J14(K:W.Frag)(Y:AD):Sp:=jg K Y.d Y.i Y.j 2
def J15(K:W.Frag)(Y:AD):Sp:=jg K Y.e Y.i Y.j 3
def J13(K:W.Frag)(Y:AD):Sp:=jg K Y.f Y.i Y.j 4
def J17(K:W.Frag)(Y:AD):Sp:=jg K Y.g Y.i Y.j 5
inductive dE(K:W.Frag)(Y:AD)(vs:List V)(H:Hp)(Q:VK)(e_:XK):Prop
 |mk (p:Addr)(zs:List Str)(_:vs=[.ref p])(_:SqL K H p (zs.map V.str))(_:(∀z∈zs,isw z=true))(_:zs.Nodup)(_:zs.length<=100)(_:∀H',ar H H'->Q .non H'):dE K Y vs H Q e_
inductive fm(K:W.Frag)(Y:AD)(vs:List V)(H:Hp)(Q:VK)(e_:XK):Prop
 |mk (dl ou cl:Addr)(dv xs:List V)(bs:Prs)(o:Int×Int)(w:Rw)(_:vs=[.ref dl,.ref ou,.ref cl,.int w.2])(_:SqL K H dl dv)(_:aI dv bs (Dom Y.i Y.j H))(_:Dom Y.i Y.j H ou o)(_:H cl=some (.lst xs))(_:CL NT H xs w.1)(_:jS bs o w)(_:∀H',ar H H'->Q .non H'):fm K Y vs H Q e_
inductive nM(K:W.Frag)(Y:AD)(vs:List V)(H:Hp)(Q:VK)(e_:XK):Prop
 |mk (t c:Addr)(rws:List Rw)(i:Nat)(o:Int×Int)(cs:List Int)(_:vs=[.ref t,.ref c])(_:Tbl Y.k Y.i Y.j H t rws i o)(_:SqL K H c (cs.map V.int))(_:(∀w∈rws,w.1.length=cs.length))(_:∀H',ar H H'->Q (.int ((msk (lW rws cs) rws.length:Nat):Int)) H'):nM K Y vs H Q e_
inductive dF(K:W.Frag)(Y:AD)(vs:List V)(H:Hp)(Q:VK)(e_:XK):Prop
 |mk (sl cl ol:Addr)(ns:List Int)(xs:List V)(cs:List Col)(oc:Col)(_:vs=[.ref sl,.ref cl,.ref ol])(_:H sl=some (.lst (ns.map V.int)))(_:ns.length<=200)(_:(∀n∈ns,0<=n))(_:H cl=some (.lst xs))(_:cA NT H xs cs)(_:(∀c∈cs,bD c))(_:1<=cs.length)(_:cs.length<=4)(_:c0 NT H ol oc)(_:bD oc)(_:∀(l:Addr)(zs:List V)(ws:List BW)(H':Hp),ar H H'->H' l=some (.lst zs)->BRL (λa=>H a=none) H' zs ws->ws.length=ns.length->(∀w∈ws,eP cs oc w)->Q (.ref l) H'):dF K Y vs H Q e_
inductive gx(K:W.Frag)(Y:AD)(vs:List V)(H:Hp)(Q:VK)(e_:XK):Prop
 |mk (rl sl:Addr)(rx:List V)(rws:List Rw)(sp:Prs)(c:Nat)(wi:Bool)(_:vs=[.ref rl,.int (c:Int),.ref sl,.bl wi])(_:H rl=some (.lst rx))(_:RL NT H rx rws)(_:rws.length<=200)(_:SpA NT H sl sp)(_:Apart sp)(_:sp.length<=10)(_:(∀x∈rws,c<x.1.length/\x.1.length<=4/\Apart (x.1.getD c [])/\(x.1.getD c []).length<=6))(_:∀(l:Addr)(ys:List V)(H':Hp),ar H H'->H' l=some (.lst ys)->RL NT H' ys (prt sp wi c rws)->Q (.ref l) H'):gx K Y vs H Q e_
inductive bW(K:W.Frag)(Y:AD)(vs:List V)(H:Hp)(Q:VK)(e_:XK):Prop
 |mk (x dx p:Addr)(zs:List Str)(_:vs=[.ref x,.ref p])(_:H x=some (.ins Y.j dx []))(_:H p=some (.lst (zs.map V.str)))(_:Good zs)(_:∀(H':Hp)(l:Addr),(∀b o,b≠x->H b=some o->H' b=some o)->H' x=some (.ins Y.j dx [("low",.int 0),("high",.int (hiW zs)),("words",.ref l)])->H' l=some (.lst (zs.map V.str))->Q .non H'):bW K Y vs H Q e_
inductive gO(K:W.Frag)(Y:AD)(vs:List V)(H:Hp)(Q:VK)(e_:XK):Prop
 |mk (z:Str)(_:vs=[.str z])(_:z∈six)(_:(∀i:Nat,six[i]?=some z->∀(x C:Addr)(H':Hp),ar H H'->(cl6 Y.b Y.c Y.d Y.e Y.f Y.g)[i]?=some C->WyN C H' x z->Q (.ref x) H')):gO K Y vs H Q e_
inductive fq(K:W.Frag)(Y:AD)(vs:List V)(H:Hp)(Q:VK)(e_:XK):Prop
 |mk (z:Str)(ou:Addr)(_:vs=[.str z,.ref ou])(_:z∈six)(_:(z=Str.ofString "sum" -> ∃dx fs,H ou=some (.ins Y.i dx fs))) (_:∀H',ar H H'->Q .non H'):fq K Y vs H Q e_
inductive jG(K:W.Frag)(Y:AD)(vs:List V)(H:Hp)(Q:VK)(e_:XK):Prop
 |mk (t:Addr)(rws:List Rw)(i:Nat)(o:Int×Int)(m:Int)(_:vs=[.ref t,.int m])(_:Tbl Y.k Y.i Y.j H t rws i o)(_:∀(r:Addr)(H':Hp),ar H H'->SqT K H' r (tp (ver (wf i o.1 o.2) (pkF rws (gu m) rws.length)))->Q (.ref r) H'):jG K Y vs H Q e_
inductive ft(K:W.Frag)(Y:AD)(vs:List V)(H:Hp)(Q:VK)(e_:XK):Prop
 |mk (l:Addr)(c:Col)(_:vs=[.ref l])(_:c0 NT H l c)(_:bD c)(_:∀(a:Addr)(H':Hp),ar H H'->dC Y.i Y.j H' a c->Q (.ref a) H'):ft K Y vs H Q e_
inductive iG(K:W.Frag)(Y:AD)(vs:List V)(H:Hp)(Q:VK)(e_:XK):Prop
 |mk (t c:Addr)(rws:List Rw)(i:Nat)(o:Int×Int)(cs:List Int)(_:vs=[.ref t,.ref c])(_:Tbl Y.k Y.i Y.j H t rws i o)(_:SqL K H c (cs.map V.int))(_:(∀w∈rws,w.1.length=cs.length))(_:∀(r:Addr)(H':Hp),ar H H'->SqT K H' r (tp (ver (wf i o.1 o.2) (pkF rws (lW rws cs) rws.length)))->Q (.ref r) H'):iG K Y vs H Q e_
inductive bC(K:W.Frag)(Y:AD)(vs:List V)(H:Hp)(Q:VK)(e_:XK):Prop
 |mk (x dx na dl ou rl:Addr)(nm wy:Str)(zs:List Str)(dv rx:List V)(bs:Prs)(o:Int×Int)(rws:List Rw)(_:vs=[.ref x,.str nm,.ref na,.ref dl,.ref ou,.str wy,.ref rl])(_:H x=some (.ins Y.k dx []))(_:H na=some (.lst (zs.map V.str)))(_:(∀z∈nm :: zs,isw z=true))(_:(nm :: zs).Nodup)(_:1<=zs.length)(_:zs.length<=4)(_:wy∈six)(_:(wy=Str.ofString "sum" -> ∃dx fs,H ou=some (.ins Y.i dx fs))) (_:H dl=some (.lst dv))(_:aI dv bs (Dom Y.i Y.j H))(_:Dom Y.i Y.j H ou o)(_:H rl=some (.lst rx))(_:RL NT H rx rws)(_:rx.length<=200)(_:bs.length<=4)(_:(∀w∈rws,jS bs o w))(_:∀(H':Hp)(fs:List (Str×V))(rl':Addr)(xs':List V),(∀b o,b≠x->H b=some o->H' b=some o)->H' x=some (.ins Y.k dx fs)->fs.lookup (Str.ofString "rows")=some (.ref rl')->fs.lookup (Str.ofString "way")=some (.str wy)->fs.lookup (Str.ofString "outcome")=some (.ref ou)->fs.lookup (Str.ofString "name")=some (.str nm)->(∃na' dl':Addr,fs.lookup (Str.ofString "names")=some (.ref na')/\fs.lookup (Str.ofString "domains")=some (.ref dl')/\H' na'=some (.lst (zs.map V.str))/\H' dl'=some (.lst dv))->H' rl'=some (.lst xs')->RL NT H' xs' rws->Q .non H'):bC K Y vs H Q e_
inductive fV(K:W.Frag)(Y:AD)(vs:List V)(H:Hp)(Q:VK)(e_:XK):Prop
 |mk (t rl ou:Addr)(nm wy:Str)(zs:List Str)(dv rx:List V)(tQ rws:List Rw)(bs:Prs)(o:Int×Int)(_:vs=[.ref t,.ref rl])(_:TF Y.k H t nm wy ou zs dv tQ)(_:TOk Y.i Y.j H nm wy ou zs dv rws bs o)(_:H rl=some (.lst rx))(_:RL NT H rx rws)(_:∀(t':Addr)(H':Hp),ar H H'->TF Y.k H' t' nm wy ou zs dv rws->Q (.ref t') H'):fV K Y vs H Q e_
inductive fW(K:W.Frag)(Y:AD)(vs:List V)(H:Hp)(Q:VK)(e_:XK):Prop
 |mk (h:Int)(cl ol bl_:Addr)(wy:Str)(xs zs:List V)(cs:List Col)(oc:Col)(ws:List BW)(i:Nat)(_:vs=[.int h,.ref cl,.ref ol,.str wy,.ref bl_])(_:H cl=some (.lst xs))(_:cA NT H xs cs)(_:(∀c∈cs,bD c))(_:1<=cs.length)(_:cs.length<=4)(_:c0 NT H ol oc)(_:bD oc)(_:six[i]?=some wy)(_:(wy=Str.ofString "sum" -> oc.w=false)) (_:H bl_=some (.lst zs))(_:BRL NT H zs ws)(_:ws.length<=200)(_:(∀w∈ws,eP cs oc w))(_:∀(t ou:Addr)(dv:List V)(rws:List Rw)(H':Hp),ar H H'->TF Y.k H' t (wd (h / 16) 0) wy ou ((List.range cs.length).map λj:Nat=>wd (h / 16) (1+(0+(j:Int)))) dv rws->TOk Y.i Y.j H' (wd (h / 16) 0) wy ou ((List.range cs.length).map λj:Nat=>wd (h / 16) (1+(0+(j:Int)))) dv rws (cs.map Col.b) oc.b->aI dv cs (dC Y.i Y.j H')->dC Y.i Y.j H' ou oc->dI cs ws rws->Q (.ref t) H'):fW K Y vs H Q e_
inductive gy(K:W.Frag)(Y:AD)(P:Program)(w:World)(mg:Str->Option Value)(base:Heap)(vs:List V)(H:Hp)(Q:VK)(e_:XK):Prop
 |mk (t f ou:Addr)(c:Nat)(nm wy:Str)(zs:List Str)(dv:List V)(rws:List Rw)(bs:Prs)(o:Int×Int)(sp:Prs)(wi:Bool)(J:Hp->Prop)(_:vs=[.ref t,.int (c:Int),.ref f])(_:TF Y.k H t nm wy ou zs dv rws)(_:TOk Y.i Y.j H nm wy ou zs dv rws bs o)(_:c<bs.length)(_:(∀x∈rws,Apart (x.1.getD c [])/\(x.1.getD c []).length<=6))(_:wR P w K mg base f sp wi J)(_:J H)(_:∀(t':Addr)(H':Hp),ar H H'->(∀x∈rws,Cut sp wi (x.1.getD c []) (fh sp wi (x.1.getD c [])))->TF Y.k H' t' nm wy ou zs dv (prt sp wi c rws)->Q (.ref t') H'):gy K Y P w mg base vs H Q e_
inductive jH(K:W.Frag)(Y:AD)(vs:List V)(H:Hp)(Q:VK)(e_:XK):Prop
 |mk (t b ou:Addr)(c:Nat)(nm wy:Str)(zs:List Str)(dv:List V)(rws:List Rw)(bs:Prs)(o:Int×Int)(sp:Prs)(_:vs=[.ref t,.int (c:Int),.ref b])(_:TF Y.k H t nm wy ou zs dv rws)(_:TOk Y.i Y.j H nm wy ou zs dv rws bs o)(_:c<bs.length)(_:(∀x∈rws,Apart (x.1.getD c [])/\(x.1.getD c []).length<=6))(_:SpA NT H b sp)(_:Apart sp)(_:sp.length<=10)(_:(∀z,W.tabIn K "parted" = some z->H z.2=some (.tbl #[]))) (_:∀(r t1 t2:Addr)(H':Hp),So H H'->H' r=some (.tup [.ref t1,.ref t2])->(∀(wi:Bool),∀x∈rws,Cut sp wi (x.1.getD c []) (fh sp wi (x.1.getD c [])))->TF Y.k H' t1 nm wy ou zs dv (prt sp true c rws)->TF Y.k H' t2 nm wy ou zs dv (prt sp false c rws)->Q (.ref r) H'):jH K Y vs H Q e_
def J18(K:W.Frag):Sp:=λvs H Q _=>∃(a:Addr)(ns:List Int),vs=[.ref a]/\SqL K H a (ns.map V.int)/\ns.length<=63/\(∀z,W.tabIn K "parted" = some z->H z.2=some (.tbl #[]))/\∀H',Q (.bl true) H'
inductive gz(K:W.Frag)(f c' c_0:Addr)(doc pm ctv:Value)(vs:List V)(H:Hp)(Q:VK)(e_:XK):Prop
 |mk (o b:Addr)(A B:Prs)(_:vs=[.ref o])(_:ib H f c' (W.kla_obj "<lambda>" "parted.<locals>.<lambda>" (nq Y67) (lV Y67) (jd Y67) [("spans",c_0)] pm c' ctv) "parted.<locals>.<lambda>" [("spans",c_0)] [("spans",.ref b)]) (_:SpA NT H o A)(_:SpA NT H b B)(_:Apart A)(_:Apart B)(_:A.length<=6)(_:B.length<=10)(_:∀(r:Addr)(H':Hp)(R:Prs),ar H H'->H r=none->SpA NT H' r R->Cut B true A R->Q (.ref r) H'):gz K f c' c_0 doc pm ctv vs H Q e_
inductive gA(K:W.Frag)(f c' c_0:Addr)(doc pm ctv:Value)(vs:List V)(H:Hp)(Q:VK)(e_:XK):Prop
 |mk (o b:Addr)(A B:Prs)(_:vs=[.ref o])(_:ib H f c' (W.kla_obj "<lambda>" "parted.<locals>.<lambda>" (nq Y68) (lV Y68) (jd Y68) [("spans",c_0)] pm c' ctv) "parted.<locals>.<lambda>" [("spans",c_0)] [("spans",.ref b)]) (_:SpA NT H o A)(_:SpA NT H b B)(_:Apart A)(_:Apart B)(_:A.length<=6)(_:B.length<=10)(_:∀(r:Addr)(H':Hp)(R:Prs),ar H H'->H r=none->SpA NT H' r R->Cut B false A R->Q (.ref r) H'):gA K f c' c_0 doc pm ctv vs H Q e_
section
variable{P:Program}{w:World}{K:W.Frag}{mg:Str->Option Value}{base:Heap}{f:Addr}{fd:FuncData}{Y:AD}
theorem zE(F:Fun K "all_among" "all_among" Y32 f fd) (bl:Bl K mg Y)  : aK P w K mg base CX0 1 f fd ["text","signs"] (fP K Y):=by
 refine F.okA Z32 λcdv A outer s H vs Q E hr h=>?_
 obtain⟨z,g,rfl,q⟩:=h
 refine⟨_,(aj (bF PassesOwn.never U (we (pv 0)) (ay (i:=2) Z32.nd U (Or.inl U))
  (ah (aM (aH mV (pv 2) (pv 1) (by with_unfolding_all rfl))
  (ah (av cJ))
  aE)))
  (ah (av cJ))),?_⟩
 refine⟨_,U,z,U,uo (λi σ H'=>(∃c2:Option V,σ=[some (.str z),some (.str g),c2])/\H'=H/\(z.cps.toList.take i).all (sg g)=true) ⟨⟨_,U⟩,U,U⟩ (λi c σ H' e h=>?_) (λσ H' h=>?_)⟩
 ·obtain⟨⟨c2,rfl⟩,e0,ha⟩:=h;rw[e0];refine⟨_,U,_,U,_,_,U,U,_,U,?_⟩;refine b7 (λd=>?_) (λd=>?_)
  ·have z2:kF z g=false:=wD e (wF d);rw[z2]at q;exact q
  ·exact⟨⟨_,U⟩,U,all_succ e (ya d) ha⟩
 ·obtain⟨⟨c2,rfl⟩,e0,ha⟩:=h;rw[e0];rw[tu ha]at q;exact q
theorem zF(F:Fun K "is_whole" "is_whole" Y37 f fd) (bl:Bl K mg Y)  : aK P w K mg base CX0 1 f fd ["value"] (eV K Y):=by
 refine F.okA Z37 λcdv A outer s H vs Q E hr h=>?_
 obtain⟨i,rfl,q⟩:=h;refine⟨_,(ah (av (fI (aq bJ U bl.isinstance_ PyProof.Rows.boot_isinstance (aa (pv 0) (aa (fH (v:=.ty "int") U bl.int_ PyProof.Rows.boot_int U) ae))) (iq (r9 (aq bJ U bl.isinstance_ PyProof.Rows.boot_isinstance (aa (pv 0) (aa (fH (v:=.ty "bool") U bl.bool_ PyProof.Rows.boot_bool U) ae)))))))),?_⟩;exact⟨_,U,_,_,_,_,true,U,.ty _,.inl (.int _),(by first|rfl|with_unfolding_all rfl|decide+kernel),_,U,cZ ⟨_,U,_,_,_,_,false,U,.ty _,.inl (.int _),(by first|rfl|with_unfolding_all rfl|decide+kernel),_,U,q⟩⟩
theorem zG(F:Fun K "alike" "alike" Y31 f fd) (bl:Bl K mg Y)  : aK P w K mg base CX0 1 f fd ["one","other"] (ly K Y):=by
 refine F.okA Z31 λcdv A outer s H vs Q E hr h=>?_
 obtain⟨a,b,c,rfl,ha,hb,q⟩:=h
 refine⟨_,(aj (aM (PW.pt (cM (bw (aq bJ U bl.isinstance_ PyProof.Rows.boot_isinstance (aa (pv 0) (aa (bX (v:=.ref Y.i) U bl.Numbers_ U) ae)))) (cb (bw (aq bJ U bl.isinstance_ PyProof.Rows.boot_isinstance (aa (pv 1) (aa (bX (v:=.ref Y.i) U bl.Numbers_ U) ae)))))))
  (ah (av (fI (dJ bZ (aN (pv 0) U) (aN (pv 1) U) (aJ _)) (iq (dJ bZ (aN (pv 0) U) (aN (pv 1) U) (aJ _))))))
  aE)
  (aj (aM (PW.pt (cM (bw (aq bJ U bl.isinstance_ PyProof.Rows.boot_isinstance (aa (pv 0) (aa (bX (v:=.ref Y.j) U bl.Words_ U) ae)))) (cb (bw (aq bJ U bl.isinstance_ PyProof.Rows.boot_isinstance (aa (pv 1) (aa (bX (v:=.ref Y.j) U bl.Words_ U) ae)))))))
  (ah (av (dJ (wb hr) (aN (pv 0) U) (aN (pv 1) U) (aJ _))))
  aE)
  (ah (av cJ)))),?_⟩
 rcases ha with⟨w1,dx,fs,e,r1,r2,r3⟩|⟨w1,dx,fs,l,e,r1,r2,r3,r4,r5⟩
 ·rcases hb with⟨w2,dx2,fs2,e2,t1,t2,t3⟩|⟨w2,_⟩
  ·refine⟨_,U,_,_,_,_,true,U,.ref _,bl.t_Numbers.ty e,bl.f_nn,_,U,cZ ?_⟩;refine⟨_,U,_,_,_,_,true,U,.ref _,bl.t_Numbers.ty e2,bl.f_nn,_,U,cZ ?_⟩;refine⟨_,U,a,_,_,_,_,U,e,bl.k_Numbers,bl.na_Numbers_low,r1,_,U,b,_,_,_,_,U,e2,bl.k_Numbers,bl.na_Numbers_low,t1,U,_,U,eL U ?_⟩;refine⟨_,U,a,_,_,_,_,U,e,bl.k_Numbers,bl.na_Numbers_high,r2,_,U,b,_,_,_,_,U,e2,bl.k_Numbers,bl.na_Numbers_high,t2,U,?_⟩;rw[decide_eq_true U];exact q
  ·rw[w1]at w2;cases w2
 ·rcases hb with⟨w2,_⟩|⟨w2,dx2,fs2,l2,e2,t1,t2,t3,t4,t5⟩
  ·rw[w1]at w2;cases w2
  ·refine⟨_,U,_,_,_,_,false,U,.ref _,bl.t_Words.ty e,bl.f_wn,_,U,bb (bb ?_)⟩;refine⟨_,U,_,_,_,_,true,U,.ref _,bl.t_Words.ty e,bl.f_ww,_,U,cZ ?_⟩;refine⟨_,U,_,_,_,_,true,U,.ref _,bl.t_Words.ty e2,bl.f_ww,_,U,cZ ?_⟩;refine⟨_,U,a,_,_,_,_,U,e,bl.k_Words,bl.na_Words_words,r4,_,U,b,_,_,_,_,U,e2,bl.k_Words,bl.na_Words_words,t4,?_⟩;exact rB (SqL.of r5) (SqL.of t5) (λx hx=>.inl (all_eq_true.mp (mH _) x hx)) q
theorem zH(F:Fun K "holds" "holds" Y36 f fd) (bl:Bl K mg Y)  : aK P w K mg base CX0 1 f fd ["spans","number"] (lz K Y):=by
 refine F.okA Z36 λcdv A outer s H vs Q E hr h=>?_
 obtain⟨a,xs,ps,n,rfl,hS,hP,q⟩:=h
 refine⟨_,(aj (bF PassesOwn.never U (bh (pv 0)) (cG U (aC (ay (i:=2) Z36.nd U (Or.inl U)) (aC (ay (i:=3) Z36.nd U (Or.inl U)) aZ)))
  (ah (aM (kr dq dq (pv 2) (pv 1) (pv 3))
  (ah (av cJ))
  aE)))
  (ah (av cJ))),?_⟩
 refine⟨_,U,a,U,⟨_,hS⟩,bO (xs:=xs) (λi σ H'=>(∃c2 c3,σ=[some (.ref a),some (.int n),c2,c3])/\H'=H/\(ps.take i).any (inR n)=false) ⟨⟨_,_,U⟩,U,U⟩ (λi σ H' _ h=>by obtain⟨_,e,_⟩:=h;rw[e];exact hS) (λi x σ H' e h=>?_) (λσ H' h=>?_)⟩
 ·obtain⟨⟨c2,c3,rfl⟩,e0,hn⟩:=h;rw[e0];obtain⟨p,r,e1,rfl,hr'⟩:=hP.get e;refine⟨r,_,U,SqT.of hr',U,_,_,U,_,_,U,U,?_⟩;refine⟨_,U,_,U,_,_,U,U,_,U,?_⟩;refine b7 (λc=>?_) (λc=>?_)
  ·refine⟨_,U,_,_,U,U,_,U,?_⟩;refine b7 (λd=>?_) (λd=>?_)
   ·have z2:inP ps n=true:=ky e1 (xZ c d);rw[z2]at q;exact q
   ·exact⟨⟨_,_,U⟩,U,dn e1 hn (vi d)⟩
  ·exact⟨_,U,bb ⟨⟨_,_,U⟩,U,dn e1 hn (vh c)⟩⟩
 ·obtain⟨⟨c2,c3,rfl⟩,e0,hn⟩:=h;rw[e0];have z:inP ps n=false:=by
   rw[hP.length,take_length]at hn;exact hn
  rw[z]at q;exact q
theorem zI(F:Fun K "both" "both" Y33 f fd) (bl:Bl K mg Y)  : aK P w K mg base CX0 1 f fd ["ones","others"] (gM K Y):=by
 refine F.okA Z33 λcdv A outer s H vs Q E hr h=>?_
 obtain⟨a,b,xs,ys,A0,B0,rfl,hA,hB,PA,PB,aA,aB,hl,q⟩:=h
 refine⟨_,(aj (aF (i:=2) Z33.nd U (Or.inl U) (bf ae))
  (aj (aF (i:=3) Z33.nd U (Or.inl U) af)
  (aj (aF (i:=4) Z33.nd U (Or.inl U) af)
  (aj (si PassesOwn.never (PW.pt (cM (aH jN (pv 3) (aq az U bl.len_ boot_len (aa (pv 0) ae)) (aJ _)) (cb (aH jN (pv 4) (aq az U bl.len_ boot_len (aa (pv 1) ae)) (aJ _)))))
  (aj (aF (i:=5) Z33.nd U (Or.inl U) (aw aD (pv 0) (pv 3) (λ_ _=>U)))
  (aj (aF (i:=6) Z33.nd U (Or.inl U) (aw aD (pv 1) (pv 4) (λ_ _=>U)))
  (aj (aF (i:=7) Z33.nd U (Or.inl U) (aq (gK U) U bl.max_ PyProof.Rows.boot_max (aa (aw aO (pv 5) af (λ_ _=>U)) (aa (aw aO (pv 6) af (λ_ _=>U)) ae))))
  (aj (aF (i:=8) Z33.nd U (Or.inl U) (aq (gL U) U bl.min_ PyProof.Rows.boot_min (aa (aw aO (pv 5) af (λ_ _=>U)) (aa (aw aO (pv 6) af (λ_ _=>U)) ae))))
  (aG (aM (aH dq (pv 7) (pv 8) (aJ _))
  (ah (bg (f7 PySem.F.plainAttrs_list PySem.F.slot_list_append PySem.F.type_list_append bA (pv 2) (aa (bq (aa (pv 7) (aa (pv 8) ae))) ae))))
  aE)
  (ah (aM (aH jN (aw aO (pv 5) af (λ_ _=>U)) (aw aO (pv 6) af (λ_ _=>U)) (aJ _))
  (ah (se (i:=3) Z33.nd U (Or.inl U) af sf))
  (ah (se (i:=4) Z33.nd U (Or.inl U) af sf))))))))))
  (ah (av (pv 2))))))),?_⟩
 refine⟨(by show 0<=sizeLine;decide),λsh hsh=>?_⟩;have s0:ar H (upd H sh (.lst [])):=ag hsh _;have lA:=PA.length;have lB:=PB.length
 refine⟨λm σ H'=>∃(i j:Nat)(c5 c6 c7 c8:Option V)(zs:List V)(S:List (Int×Int)),σ=[some (.ref a),some (.ref b),some (.ref sh),some (.int i),some (.int j),c5,c6,c7,c8]/\ar H H'/\H' sh=some (.lst zs)/\PL H' zs S/\eI S (A0.drop i) (B0.drop j) A0 B0/\i<=A0.length/\j<=B0.length/\zs.length<=i+j/\m=(A0.length-i)+(B0.length-j),
  ⟨_,0,0,none,none,none,none,[],[],U,s0,ab,.nil,eI.start aA aB,zero_le _,zero_le _,zero_le _,U⟩,?_⟩
 rintro m σ H' ⟨i,j,c5,c6,c7,c8,zs,S,rfl,sm,eS,hP,bi,hi,hj,hz,hm⟩;have hA':=sm.seq hA;have hB':=sm.seq hB;have PA':=PA.mono sm.tups;have PB':=PB.mono sm.tups;have done:(i=A0.length\/j=B0.length)->Q (.ref sh) H':=λe=>q sh H' zs S sm hsh eS hP bi.ap (bi.fin (by
  rcases e with e|e
  ·exact .inl (by rw[e];exact drop_length)
  ·exact .inr (by rw[e];exact drop_length))) (by lia)
 refine⟨_,U,_,U,a,_,U,.inl (hA'),_,_,U,U,_,U,?_⟩;refine b7 (λc=>?_) (λc=>?_)
 ·have ci:i<A0.length:=by have:(i:Int)<((xs.length:Nat):Int):=gm c;lia
  refine⟨_,U,_,U,b,_,U,.inl (hB'),_,_,U,U,_,U,?_⟩;refine b7 (λd=>?_) (λd=>?_)
  ·have cj:j<B0.length:=by have:(j:Int)<((ys.length:Nat):Int):=gm d;lia
   have ex:xs[i]?=some xs[i]:=BP (by lia);have ey:ys[j]?=some ys[j]:=BP (by lia);obtain⟨pa,ra,f1,f2,f3⟩:=PA'.get ex;obtain⟨pb,rb,g1,g2,g3⟩:=PB'.get ey;have va:atI xs (i:Int)=some (.ref ra):=by rw[←f2];exact ba ex
   have vb:atI ys (j:Int)=some (.ref rb):=by rw[←g2];exact ba ey
   have dA:A0.drop i=pa :: A0.drop (i+1):=by
    obtain⟨h1,h2⟩:=BQ.mp f1;rw[List.drop_eq_getElem_cons h1,h2]
   have dB:B0.drop j=pb :: B0.drop (j+1):=by
    obtain⟨h1,h2⟩:=BQ.mp g1;rw[List.drop_eq_getElem_cons h1,h2]
   rw[dA,dB]at bi;have hc:((if pb.1>pa.1 then pb.1 else pa.1),(if pb.2<pa.2 then pb.2 else pa.2)).1=max pa.1 pb.1/\((if pb.1>pa.1 then pb.1 else pa.1),(if pb.2<pa.2 then pb.2 else pa.2)).2=min pa.2 pb.2:=by
    constructor
    ·show(if pb.1>pa.1 then pb.1 else pa.1)=_;split <;> lia
    ·show(if pb.2<pa.2 then pb.2 else pa.2)=_;split <;> lia
   generalize hcl:(if pb.1>pa.1 then pb.1 else pa.1)=cl at hc;generalize hch:(if pb.2<pa.2 then pb.2 else pa.2)=ch at hc;refine⟨_,λσ' H2 w=>w,?_⟩;refine⟨_,U,_,U,a,_,_,_,U,U,hA',va,?_⟩;refine⟨_,U,_,U,b,_,_,_,U,U,hB',vb,?_⟩;refine⟨_,U,ra,_,_,_,U,U,SqT.of f3,z0 _ _,_,U,rb,_,_,_,U,U,SqT.of g3,z0 _ _,_,_,U,?_⟩;rw[hcl];refine⟨_,U,ra,_,_,_,U,U,SqT.of f3,z1 _ _,_,U,rb,_,_,_,U,U,SqT.of g3,z1 _ _,_,_,U,?_⟩;rw[hch]
   refine⟨λσ' H2=>σ'=[some (.ref a),some (.ref b),some (.ref sh),some (.int i),some (.int j),some (.ref ra),some (.ref rb),some (.int cl),some (.int ch)]/\ar H H2/\H2 ra=some (.tup [.int pa.1,.int pa.2])/\H2 rb=some (.tup [.int pb.1,.int pb.2])/\∃zs2 S2,H2 sh=some (.lst zs2)/\PL H2 zs2 S2/\zs2.length<=i+j+1 /\
    ((cl<=ch/\S2=S++[(cl,ch)])\/(¬ cl<=ch/\S2=S)),?_,?_⟩
   ·refine⟨_,U,_,U,_,_,U,U,_,U,?_⟩;refine b7 (λe=>?_) (λe=>?_)
    ·refine⟨_,U,.inl ⟨U,_,SqL.of eS⟩,_,U,_,U,(by show 2<=sizeLine;decide),λt ht=>?_⟩;have e3:upd H' t (.tup [.int cl,.int ch]) sh=some (.lst zs):=bQ eS ht;refine⟨sh,zs,_,U,U,e3,ax (by lia),?_⟩;have st1:da H' (upd (upd H' t (.tup [.int cl,.int ch])) sh (.lst (zs++[.ref t]))):=(cK ht).trans (aW e3);exact⟨U,(sm.trans (ag ht _)).upd hsh,st1 _ _ f3,st1 _ _ g3,zs++[.ref t],S++[(cl,ch)],ab,(hP.mono st1).snoc (aW e3 _ _ ab),by rw[length_append,length_singleton];lia,.inl ⟨gm e,U⟩⟩
    ·exact⟨U,sm,f3,g3,zs,S,eS,hP,by lia,.inr ⟨i5 e,U⟩⟩
   rintro σ2 H2 ⟨rfl,sm2,f4,g4,zs2,S2,eS2,hP2,hz2,hor⟩;refine⟨_,U,ra,_,_,_,U,U,SqT.of f4,z1 _ _,_,U,rb,_,_,_,U,U,SqT.of g4,z1 _ _,_,_,U,U,_,U,?_⟩;refine b7 (λe=>?_) (λe=>?_)
   ·refine⟨_,U,_,_,U,U,?_⟩;have bl2:=bi.left (gm e) hc;rw[←dB]at bl2;refine⟨_,?_,i+1,j,_,_,_,_,zs2,S2,U,sm2,eS2,hP2,?_,ci,hj,by lia,U⟩
    ·lia
    ·rcases hor with⟨h1,h2⟩|⟨h1,h2⟩
     ·rw[h2];exact bl2.1 h1
     ·rw[h2];exact bl2.2 h1
   ·refine⟨_,U,_,_,U,U,?_⟩;have bl2:=bi.right (i5 e) hc;rw[←dA]at bl2;refine⟨_,?_,i,j+1,_,_,_,_,zs2,S2,U,sm2,eS2,hP2,?_,hi,cj,by lia,U⟩
    ·lia
    ·rcases hor with⟨h1,h2⟩|⟨h1,h2⟩
     ·rw[h2];exact bl2.1 h1
     ·rw[h2];exact bl2.2 h1
  ·have cj:j=B0.length:=by have:¬ (j:Int)<((ys.length:Nat):Int):=i5 d;lia
   exact⟨_,U,done (.inr cj)⟩
 ·have ci:i=A0.length:=by have:¬ (i:Int)<((xs.length:Nat):Int):=i5 c;lia
  exact bb ⟨_,U,done (.inl ci)⟩
theorem zJ(F:Fun K "gaps" "gaps" Y35 f fd) (bl:Bl K mg Y)  : aK P w K mg base CX0 1 f fd ["spans","low","high"] (nK K Y):=by
 refine F.okA Z35 λcdv A outer s H vs Q E hr h=>?_
 obtain⟨a,xs,T0,lo,hi,rfl,hS,hP,ap,hl,q⟩:=h
 refine⟨_,(aj (aF (i:=3) Z35.nd U (Or.inl U) (bf ae))
  (aj (aF (i:=4) Z35.nd U (Or.inl U) (pv 1))
  (aj (bF PassesOwn.never U (bh (pv 0)) (cG U (aC (ay (i:=5) Z35.nd U (Or.inl U)) (aC (ay (i:=6) Z35.nd U (Or.inl U)) aZ)))
  (aj (aF (i:=7) Z35.nd U (Or.inl U) (aq (gL U) U bl.min_ PyProof.Rows.boot_min (aa (ak cP (pv 5) af) (aa (pv 2) ae))))
  (aG (aM (aH dq (pv 4) (pv 7) (aJ _))
  (ah (bg (f7 PySem.F.plainAttrs_list PySem.F.slot_list_append PySem.F.type_list_append bA (pv 3) (aa (bq (aa (pv 4) (aa (pv 7) ae))) ae))))
  aE)
  (ah (aF (i:=4) Z35.nd U (Or.inl U) (aq (gK U) U bl.max_ PyProof.Rows.boot_max (aa (pv 4) (aa (ak bx (pv 6) af) ae))))))))
  (aj (aM (aH dq (pv 4) (pv 2) (aJ _))
  (ah (bg (f7 PySem.F.plainAttrs_list PySem.F.slot_list_append PySem.F.type_list_append bA (pv 3) (aa (bq (aa (pv 4) (aa (pv 2) ae))) ae))))
  aE)
  (ah (av (pv 3))))))),?_⟩
 refine⟨(by show 0<=sizeLine;decide),λfr hfr=>?_⟩;have s0:ar H (upd H fr (.lst [])):=ag hfr _;refine⟨_,U,?_⟩
 refine⟨_,U,a,U,⟨_,s0.seq hS⟩,bO (xs:=xs) (λi σ H'=>∃(st:Int)(c5 c6 c7:Option V)(zs:List V)(F:List (Int×Int)),σ=[some (.ref a),some (.int lo),some (.int hi),some (.ref fr),some (.int st),c5,c6,c7]/\ar H H'/\H' fr=some (.lst zs)/\PL H' zs F/\kD F (T0.take i) lo hi st/\zs.length<=i)
  ⟨lo,none,none,none,[],[],U,s0,ab,.nil,kD.start lo hi,zero_le _⟩
  (λi σ H' _ h=>by obtain⟨_,_,_,_,_,_,_,sm,_⟩:=h;exact sm.seq hS) (λi x σ H' e h=>?_) (λσ H' h=>?_)⟩
 ·obtain⟨st,c5,c6,c7,zs,F0,rfl,sm,eF,hF,gi,hz⟩:=h;obtain⟨p,r,e1,rfl,hr'⟩:=(hP.mono sm.tups).get e;have hi':i<xs.length:=(BQ.mp e).1;refine⟨r,_,U,SqT.of hr',U,_,_,U,_,_,U,U,?_⟩;refine⟨_,U,_,_,U,U,_,U,_,_,U,?_⟩;have tk:=take_snoc e1;have ap':Apart (T0.take i++[p]):=by rw[←tk];exact ap.take _
  generalize he:(if hi<p.1-1 then hi else p.1-1)=en;have he':en=min (p.1-1) hi:=by rw[←he];split <;> lia
  have hs':(if p.2+1>st then p.2+1 else st)=max st (p.2+1):=by split <;> lia
  have gt:=gi.turn (st':=if p.2+1>st then p.2+1 else st) (e:=en) ap' he' hs';refine⟨λσ' H2=>σ'=[some (.ref a),some (.int lo),some (.int hi),some (.ref fr),some (.int st),some (.int p.1),some (.int p.2),some (.int en)]/\ar H H2/\∃zs2 F2,H2 fr=some (.lst zs2)/\PL H2 zs2 F2/\zs2.length<=i+1/\kD F2 (T0.take i++[p]) lo hi (if p.2+1>st then p.2+1 else st),?_,?_⟩
  ·refine⟨_,U,_,U,_,_,U,U,_,U,?_⟩;refine b7 (λc=>?_) (λc=>?_)
   ·refine⟨_,U,.inl ⟨U,_,SqL.of eF⟩,_,U,_,U,(by show 2<=sizeLine;decide),λt ht=>?_⟩;have e3:upd H' t (.tup [.int st,.int en]) fr=some (.lst zs):=bQ eF ht;refine⟨fr,zs,_,U,U,e3,ax (by lia),?_⟩;have st1:da H' (upd (upd H' t (.tup [.int st,.int en])) fr (.lst (zs++[.ref t]))):=(cK ht).trans (aW e3);exact⟨U,(sm.trans (ag ht _)).upd hfr,zs++[.ref t],F0++[(st,en)],ab,(hF.mono st1).snoc (aW e3 _ _ ab),by rw[length_append,length_singleton];lia,gt.1 (gm c)⟩
   ·exact⟨U,sm,zs,F0,eF,hF,by lia,gt.2 (i5 c)⟩
  rintro σ2 H2 ⟨rfl,sm2,zs2,F2,eF2,hF2,hz2,g2⟩;refine⟨_,U,_,U,_,_,U,U,_,_,U,?_⟩;exact⟨_,_,_,_,zs2,F2,U,sm2,eF2,hF2,by rw[tk];exact g2,hz2⟩
 ·obtain⟨st,c5,c6,c7,zs,F0,rfl,sm,eF,hF,gi,hz⟩:=h;rw[hP.length,take_length]at gi;have gf:=gi.fin;refine⟨_,U,_,U,_,_,U,U,_,U,?_⟩;refine b7 (λc=>?_) (λc=>?_)
  ·refine⟨_,U,.inl ⟨U,_,SqL.of eF⟩,_,U,_,U,(by show 2<=sizeLine;decide),λt ht=>?_⟩;have e3:upd H' t (.tup [.int st,.int hi]) fr=some (.lst zs):=bQ eF ht;refine⟨fr,zs,_,U,U,e3,ax (by lia),?_⟩;have st1:da H' (upd (upd H' t (.tup [.int st,.int hi])) fr (.lst (zs++[.ref t]))):=(cK ht).trans (aW e3);have g1:=gf.1 (gm c);exact⟨_,U,q fr _ (zs++[.ref t]) (F0++[(st,hi)]) ((sm.trans (ag ht _)).upd hfr) hfr ab ((hF.mono st1).snoc (aW e3 _ _ ab)) g1.1 g1.2 (by rw[length_append,length_singleton];lia)⟩
  ·have g1:=gf.2 (i5 c);exact⟨_,U,q fr H' zs F0 sm hfr eF hF g1.1 g1.2 (by lia)⟩
theorem zK(F:Fun K "refuse_counts" "refuse_counts" Y69 f fd) (bl:Bl K mg Y)  : aK P w K mg base CX0 1 f fd ["names","rows"] (dh K Y):=by
 refine F.okA Z69 λcdv A outer s H vs Q E hr h=>?_
 obtain⟨p,r,xs,ys,rfl,hP,hR,h1,h4,iH,q⟩:=h
 refine⟨_,(aj (aM (bE (kr dq dq af (aq az U bl.len_ boot_len (aa (pv 0) ae)) (ow U bl.MOST_COLUMNS_)))
  (ah bV)
  aE)
  (ah (aM (aH gj (aq az U bl.len_ boot_len (aa (pv 1) ae)) (ow U bl.MOST_ROWS_) (aJ _))
  (ah bV)
  aE))),?_⟩
 refine⟨_,U,p,_,U,.inl (hP),_,_,U,U,_,U,eL (by lia) ?_⟩;refine⟨_,_,U,U,_,U,?_⟩;rw[decide_eq_true (show((xs.length:Nat):Int)<=4 by lia)];refine bb ?_;exact⟨_,U,r,_,U,.inl (hR),_,_,U,U,_,U,bI (by lia) q⟩
theorem zL(F:Fun K "own_row" "own_row" Y65 f fd) (bl:Bl K mg Y)  : aK P w K mg base CX0 1 f fd ["cells","code"] (iB K Y):=by
 refine F.okA Z65 λcdv A outer s H vs Q E hr h=>?_
 obtain⟨cl,xs,w_,rfl,hC,hcl,uI,q⟩:=h;refine⟨_,(ah (av (bq (aa (m9 (bh (pv 0)) (jQ U (by decide+kernel) (by decide+kernel) (by decide+kernel) U) U (λ_ _ _ _=>cc) (λ_ _ _ _=>(cw (lU (K:=K) U) U bl.list_ PyProof.Rows.boot_list (aa (pv 0) ae)))) (aa (pv 1) ae))))),?_⟩
 refine⟨_,U,cl,U,⟨_,SqL.of hC⟩,ju (xs:=xs) (λD i zs H'=>ar H H'/\H' D=some (.lst zs)/\CL (Fr H D) H' zs (w_.1.take i))
  (λD hD=>⟨ag hD _,ab,aI.nil⟩) (λD i zs H' hD _ h=>SqL.of (h.1 _ _ hC)) (λD i x zs H' hD e h=>?_) (λD zs H' hD h=>?_)⟩
 ·obtain⟨sm,eD,hz⟩:=h;obtain⟨l,ps,rfl,ep,hl⟩:=aI.get hcl e;obtain⟨_,ys,el,hp⟩:=hl.same sm;have hi:i<xs.length:=(BQ.mp e).1;have hlz:zs.length<sizeLine:=by
   have h1:=hz.1;rw[length_take]at h1;exact ax (by lia)
  refine⟨_,U,l,_,U,.inl (SqL.of el),λl2 hl2=>?_⟩;have s2:=ag hl2 (.lst ys);have e2:upd H' l2 (.lst ys) l2=some (.lst ys):=ab;have eD2:=s2 _ _ eD;generalize upd H' l2 (.lst ys)=H2 at s2 e2 eD2⊢;have n2:H l2=none:=sm.free hl2;have nD:l2≠D:=λz=>by rw[z,eD]at hl2;cases hl2
  refine dD.mk hi eD2 hlz ⟨(sm.trans s2).upd hD,ab,?_⟩;rw[take_snoc ep];exact CL.updN (aI.snoc (hz.same s2) ⟨⟨n2,nD⟩,ys,e2,hp.mono s2.tups⟩) Fr.out eD2
 ·obtain⟨sm,eD,hz⟩:=h;rw[hcl.1,take_length]at hz;refine⟨_,U,aV,λr hr'=>q r _ (sm.trans (ag hr' _)) (sm.free hr') ⟨D,zs,ab,hD,ag hr' _ _ _ eD,?_⟩⟩;exact(hz.same (ag hr' _)).wk λa h=>h.1
theorem zM(F:Fun K "with_cell" "with_cell" Y75 f fd) (bl:Bl K mg Y)  : aK P w K mg base CX0 1 f fd ["cells","column","spans"] (fQ K Y):=by
 refine F.okA Z75 λcdv A outer s H vs Q E hr h=>?_
 obtain⟨a,l,xs,c,rfl,ha,uI,q⟩:=h;refine⟨_,(ah (av (ak cS (ak cS (cE dk (pv 0) di (dj (pv 1))) (bf (aa (pv 2) ae))) (cE dk (pv 0) (dj (ak bx (pv 1) af)) di)))),?_⟩;refine⟨_,U,_,U,_,U,a,xs,U,SqL.of ha,λc1 hc1=>?_⟩;rw[nA];have t1:=ag hc1 (.lst (xs.take c));have g1:upd H c1 (.lst (xs.take c)) c1=some (.lst (xs.take c)):=ab;generalize upd H c1 (.lst (xs.take c))=H1 at t1 g1⊢;refine⟨_,U,(by show 1<=sizeLine;decide),λc2 hc2=>?_⟩;have t2:=ag hc2 (.lst [V.ref l]);have g2:upd H1 c2 (.lst [V.ref l]) c2=some (.lst [V.ref l]):=ab;generalize upd H1 c2 (.lst [V.ref l])=H2 at t2 g2⊢;refine⟨c1,c2,_,_,U,U,t2 _ _ g1,g2,le_of_lt (ax (by rw[length_take,length_singleton];lia)),λc3 hc3=>?_⟩;have t3:=ag hc3 (.lst (xs.take c++[V.ref l]));have g3:upd H2 c3 (.lst (xs.take c++[V.ref l])) c3=some (.lst (xs.take c++[V.ref l])):=ab;generalize upd H2 c3 (.lst (xs.take c++[V.ref l]))=H3 at t3 g3⊢;have t13:=(t1.trans t2).trans t3;refine⟨_,U,_,U,_,_,U,U,_,U,a,xs,U,SqL.of (t13 _ _ ha),λc4 hc4=>?_⟩;rw[show((c:Int)+1)=((c+1:Nat):Int) by lia,jh];have t4:=ag hc4 (.lst (xs.drop (c+1)));have g4:upd H3 c4 (.lst (xs.drop (c+1))) c4=some (.lst (xs.drop (c+1))):=ab;generalize upd H3 c4 (.lst (xs.drop (c+1)))=H4 at t4 g4⊢;refine⟨c3,c4,_,_,U,U,t4 _ _ g3,g4,le_of_lt (ax (by rw[length_append,length_take,length_drop,length_singleton];lia)),λc5 hc5=>?_⟩;have t5:=ag hc5 (.lst (xs.take c++[V.ref l]++xs.drop (c+1)));have sA:=(t13.trans t4).trans t5;exact q c5 _ sA ((t13.trans t4).free hc5) ab
theorem zN(F:Fun K "_law_cell_at" "_law_cell_at" Y44 f fd) (bl:Bl K mg Y)  : aK P w K mg base CX0 1 f fd ["script","k"] (dY K Y):=by
 refine F.okA Z44 λcdv A outer s H vs Q E hr h=>?_
 obtain⟨a,ns,k,rfl,hS,h0,q⟩:=h
 refine⟨_,(aj (aM (aH jN (pv 1) (aq az U bl.len_ boot_len (aa (pv 0) ae)) (aJ _))
  (ah (av (aw aD (pv 0) (pv 1) (λ_ _=>U))))
  aE)
  (ah (av af))),?_⟩
 refine⟨_,U,_,U,a,_,U,.inl hS,_,_,U,U,_,U,?_⟩;refine b7 (λc=>?_) (λc=>?_)
 ·have c':k<(((ns.map V.int).length:Nat):Int):=gm c;rw[length_map]at c';have hk:k.toNat<ns.length:=by lia
  have hv:atI (ns.map V.int) k=some (.int ns[k.toNat]):=by
   have z:atI (ns.map V.int) ((k.toNat:Nat):Int)=some (.int ns[k.toNat]):=ba (by rw[getElem?_map,BP hk];rfl);rw[show((k.toNat:Nat):Int)=k by lia]at z;exact z
  exact⟨_,U,_,U,a,_,_,_,U,U,hS,hv,q _⟩
 ·exact q 0
theorem zO(F:Fun K "_law_mixed" "_law_mixed" Y53 f fd) (bl:Bl K mg Y)  : aK P w K mg base CX0 1 f fd ["cell","k"] (cz K Y):=by
 refine F.okA Z53 λcdv A outer s H vs Q E hr h=>?_
 obtain⟨c,k,rfl,h0,h1,q⟩:=h
 refine⟨_,(aG (aF (i:=2) Z53.nd U (Or.inl U) (ak qC (ak bx (ak aQ (pv 0) (ak ir af af)) af) (ak bx af (ak mS (ak mS af (pv 1)) (pv 1)))))
  (aG (aF (i:=2) Z53.nd U (Or.inl U) (ak bx (pv 2) (ak mS af (pv 1))))
  (ah (av (ak aQ (ak qC (pv 2) (pv 2)) (ak bx (ak ir af af) af)))))),?_⟩
 have a0:=emod_nonneg c (Int.ne_of_gt (p10 (60:Int).toNat));have a1:=emod_lt_of_pos c (p10 (60:Int).toNat);have t60:(10:Int)^(60:Int).toNat<2^200:=by decide
 have kk:0<=2*k*k/\2*k*k<=20000:=by
  have z1:0<=2*k:=by lia
  have z2:=Int.mul_nonneg z1 h0;have z3:2*k*k<=2*k*100:=Int.mul_le_mul_of_nonneg_left h1 z1;lia
 refine⟨λσ' H'=>H'=H/\∃b:Int,0<=b/\b<2^400/\σ'=[some (.int c),some (.int k),some (.int b)],?_,?_⟩
 ·have hA:0<=c%10^(60:Int).toNat+1/\c%10^(60:Int).toNat+1<=2^200:=⟨by lia,by lia⟩;have hB:0<=31415926535897932384626433832795028841971+2*k*k/\31415926535897932384626433832795028841971+2*k*k<2^140:=by
   have:(31415926535897932384626433832795028841971:Int)+20000<2^140:=by decide
   lia
  have hM:IntMulOk (c%10^(60:Int).toNat+1) (31415926535897932384626433832795028841971+2*k*k):=by
   refine oK (m:=201) (n:=140) ?_ ?_ (by decide) (by decide)
   ·have:(2:Int)^200<((2^201:Nat):Int):=by decide
    lia
   ·have:(2:Int)^140=((2^140:Nat):Int):=by decide
    lia
  refine⟨_,U,_,_,U,U,⟨by decide,by decide,by decide⟩,_,_,U,U,p10 _,_,_,U,U,_,U,_,_,U,U,.inl ⟨by decide,by decide⟩,_,U,_,_,U,U,.inr ⟨by lia,by lia⟩,_,_,U,U,_,_,U,U,hM,U,_,Int.mul_nonneg hA.1 hB.1,?_,U⟩;have z:=Int.mul_le_mul hA.2 (Int.le_of_lt hB.2) hB.1 (by decide);have z2:(2:Int)^200*2^140<2^400:=by decide
  lia
 rintro σ1 H1 ⟨rfl,b,b0,b1,rfl⟩;refine⟨λσ' H'=>H'=H1/\∃b:Int,0<=b/\b<2^401/\σ'=[some (.int c),some (.int k),some (.int b)],?_,?_⟩
 ·refine⟨_,U,_,U,_,_,U,U,.inl ⟨by decide,by decide⟩,_,_,U,U,U,_,by lia,?_,U⟩;have z2:(2:Int)^400+7919*100<2^401:=by decide
  lia
 rintro σ2 H2 ⟨rfl,b',b2,b3,rfl⟩;have hM:IntMulOk b' b':=by
  have e:(2:Int)^401=((2^401:Nat):Int):=by decide
  refine oK (m:=401) (n:=401) ?_ ?_ (by decide) (by decide) <;> lia
 have hp:(0:Int)<10^(60:Int).toNat+9:=by have:=p10 (60:Int).toNat;lia
 exact⟨_,U,_,U,_,_,U,U,hM,_,_,U,U,⟨by decide,by decide,by decide⟩,_,_,U,U,_,_,U,U,hp,q _ (emod_nonneg _ (Int.ne_of_gt hp))⟩
theorem zP(F:Fun K "_law_word" "_law_word" Y62 f fd) (bl:Bl K mg Y)  : aK P w K mg base CX0 1 f fd ["cell","k"] (eW K Y):=by
 refine F.okA Z62 λcdv A outer s H vs Q E hr h=>?_
 obtain⟨c,k,rfl,q⟩:=h
 refine⟨_,(aG (aF (i:=2) Z62.nd U (Or.inl U) (ak kG (aw mX aP (ak aQ (pv 0) af) (λ_ _=>U)) (ak aQ (ak bj (pv 0) af) af)))
  (aG (aF (i:=3) Z62.nd U (Or.inl U) (ak kG (aw mX aP (ak aQ (ak bj (pv 0) af) af) (λ_ _=>U)) (ak aQ (pv 1) af)))
  (ah (av (ak iw (ak iw (ak iw (pv 2) (aw mX aP (ak aQ (ak bj (pv 1) af) af) (λ_ _=>U))) (aw mX aP (ak aQ (pv 1) af) (λ_ _=>U))) (pv 3)))))),?_⟩
 have m1:∀(x:Nat)(n:Int),0<=n->n<10->MulOk ⟨#[x]⟩ n:=λx n h0 h1=>by
  have:n=0\/n=1\/n=2\/n=3\/n=4\/n=5\/n=6\/n=7\/n=8\/n=9:=by lia
  have e:(⟨#[x]⟩:Str).length=1:=rfl;unfold MulOk;rw[e];rcases this with rfl|rfl|rfl|rfl|rfl|rfl|rfl|rfl|rfl|rfl <;> decide
 have a0:=emod_nonneg c (show(26:Int)≠0 by decide);have a1:=emod_lt_of_pos c (show(0:Int)<26 by decide);have b0:=emod_nonneg (c / 26) (show(6:Int)≠0 by decide);have b1:=emod_lt_of_pos (c / 26) (show(0:Int)<6 by decide);have d0:=emod_nonneg (c / 156) (show(26:Int)≠0 by decide);have d1:=emod_lt_of_pos (c / 156) (show(0:Int)<26 by decide);have e0:=emod_nonneg k (show(5:Int)≠0 by decide);have e1:=emod_lt_of_pos k (show(0:Int)<5 by decide);have f0:=emod_nonneg (k / 7) (show(7:Int)≠0 by decide);have f1:=emod_lt_of_pos (k / 7) (show(0:Int)<7 by decide);have g0:=emod_nonneg k (show(7:Int)≠0 by decide);have g1:=emod_lt_of_pos k (show(0:Int)<7 by decide);refine⟨λσ' H'=>H'=H/\σ'=[some (.int c),some (.int k),some (.str ⟨(List.replicate (c / 26%6).toNat (97+(c%26).toNat)).toArray⟩),none],?_,?_⟩
 ·refine⟨_,U,_,_,U,U,(by show(0:Int)<26;decide),_,_,_,U,U,(by decide),kj vj a0 a1,_,U,_,_,U,U,⟨by decide,by decide⟩,_,_,U,U,(by show(0:Int)<6;decide),_,_,U,U,m1 _ _ b0 (by lia),U,?_⟩;rw[yd];rfl
 rintro σ1 H1 ⟨rfl,rfl⟩;refine⟨λσ' H'=>H'=H1/\σ'=[some (.int c),some (.int k),some (.str ⟨(List.replicate (c / 26%6).toNat (97+(c%26).toNat)).toArray⟩),some (.str ⟨(List.replicate (k%5).toNat (97+(c / 156%26).toNat)).toArray⟩)],?_,?_⟩
 ·refine⟨_,U,_,_,U,U,⟨by decide,by decide⟩,_,_,U,U,(by show(0:Int)<26;decide),_,_,_,U,U,(by decide),kj vj d0 d1,_,U,_,_,U,U,(by show(0:Int)<5;decide),_,_,U,U,m1 _ _ e0 (by lia),U,?_⟩;rw[yd];rfl
 rintro σ2 H2 ⟨rfl,rfl⟩;have n1:(⟨(List.replicate (c / 26%6).toNat (97+(c%26).toNat)).toArray⟩:Str).length<=6:=by simp[Str.length];lia
 have n2:(⟨(List.replicate (k%5).toNat (97+(c / 156%26).toNat)).toArray⟩:Str).length<=6:=by simp[Str.length];lia
 have o1:∀x:Nat,(⟨#[x]⟩:Str).length=1:=λ_=>U
 refine⟨_,U,_,U,_,_,U,U,⟨by decide,by decide⟩,_,_,U,U,(by show(0:Int)<7;decide),_,_,_,U,U,(by decide),kj yc f0 f1,_,_,U,U,big (by rw[o1];lia),_,U,_,_,U,U,(by show(0:Int)<7;decide),_,_,_,U,U,(by decide),kj yc g0 g1,_,_,U,U,big (by rw[len_app,o1,o1];lia),_,U,_,_,U,U,big (by rw[len_app,len_app,o1,o1];lia),?_⟩;have e:∀(A B:List Nat)(x y:Nat),(⟨A.toArray⟩:Str)++(⟨#[x]⟩:Str)++(⟨#[y]⟩:Str)++(⟨B.toArray⟩:Str)=⟨(A++([x,y]++B)).toArray⟩:=λA B x y=>by
  show Str.append (Str.append (Str.append _ _) _) _=_;unfold Str.append;simp
 show Q (.str (_++_++_++_)) H2;rw[e];exact q
theorem zQ(F:Fun K "_law_spans" "_law_spans" Y59 f fd) (bl:Bl K mg Y)  : aK P w K mg base CX0 1 f fd ["pairs","bits"] (dO K Y):=by
 refine F.okA Z59 λcdv A outer s H vs Q E hr h=>?_
 obtain⟨pl,ts,prs,b,rfl,hpl,hp,hch,h6,q⟩:=h
 refine⟨_,(aj (aF (i:=2) Z59.nd U (Or.inl U) (bf ae))
  (aj (bF PassesOwn.never U (kh U bl.enumerate_ (aa (pv 0) ae)) (cG U (aC (ay (i:=3) Z59.nd U (Or.inl U)) (aC (ay (i:=4) Z59.nd U (Or.inl U)) aZ)))
  (ah (aM (aH bZ (ak mU (ak mT (pv 1) (pv 3)) af) af (aJ _))
  (ah (aM (PW.pt (cM (aH gj (pv 3) af (aJ _)) (cb (aH bZ (ak mU (ak mT (pv 1) (ak cP (pv 3) af)) af) af (aJ _)))))
  (ah (pJ (bq (aa (aw aO (aw aD (pv 2) (fv df af) (λ_ _=>U)) af (λ_ _=>U)) (aa (aw aO (pv 4) af (λ_ _=>U)) ae))) (pI (pv 2) (fv df af) set_list)))
  (ah (bg (f7 PySem.F.plainAttrs_list PySem.F.slot_list_append PySem.F.type_list_append bA (pv 2) (aa (pv 4) ae))))))
  aE)))
  (ah (av (pv 2))))),?_⟩
 have htl:=hp.length;refine⟨(by show 0<=sizeLine;decide),λsp hsp=>?_⟩;have s0:ar H (upd H sp (.lst [])):=ag hsp _;have e0:upd H sp (.lst []) sp=some (.lst []):=ab;generalize upd H sp (.lst [])=H0 at s0 e0⊢;refine⟨_,U,pl,U,⟨_,SqL.of (s0 _ _ hpl)⟩,kT (xs:=ts) (λi σ H'=>ar H H'/\∃(ys:List V)(ps:Prs)(c3 c4:Option V),H' sp=some (.lst ys)/\PL H' ys ps/\dN prs b i ps/\ps=mrg prs b i/\ys.length<=i/\σ=[some (.ref pl),some (.int (b:Int)),some (.ref sp),c3,c4]) ⟨s0,[],[],_,_,e0,.nil,dN.nil,U,le_refl _,U⟩ (λi σ H' hh=>SqL.of (hh.1 _ _ hpl)) (λi y σ H' T ey hh hT=>?_) (λσ H' hh=>?_)⟩
 ·obtain⟨sm,ys,ps,c3,c4,es,hP,ok,his,hly,rfl⟩:=hh;obtain⟨u,ru,eu,rfl,hu⟩:=hp.get ey;have hi:i<prs.length:=(BQ.mp eu).1;have s2:=sm.trans (ag hT (.tup [.int (i:Int),.ref ru]));have eT:upd H' T (.tup [.int (i:Int),.ref ru]) T=some (.tup [.int (i:Int),.ref ru]):=ab;have es2:upd H' T (.tup [.int (i:Int),.ref ru]) sp=some (.lst ys):=bQ es hT;have hP2:=hP.mono (ag hT (.tup [.int (i:Int),.ref ru])).tups;have hu2:=s2 _ _ hu;generalize upd H' T (.tup [.int (i:Int),.ref ru])=H2 at s2 eT es2 hP2 hu2⊢;refine⟨T,_,U,SqT.of eT,U,_,_,U,_,_,U,U,?_⟩;refine⟨_,U,_,U,_,_,U,U,(by show(0:Int)<=(i:Int);lia),_,_,U,U,U,_,U,?_⟩;have eb:=nv b i;refine b7 (λg=>?_) (λg=>⟨s2,ys,ps,_,_,es2,hP2,ok.skip (by rw[←eb];exact eq_false_iff.mpr g),by rw[his,tG (by rw[←eb];exact eq_false_iff.mpr g)],by lia,U⟩);have gb:b.testBit i=true:=by rw[←eb];exact g
  refine⟨_,U,_,_,U,U,_,U,?_⟩;refine b7 (λg1=>?_) (λg1=>bb ?e1);have g1':(0:Int)<(i:Int):=gm g1;obtain⟨n,rfl⟩:∃n,i=n+1:=⟨i-1,by lia⟩;have eb0:=nv b n;refine⟨_,U,_,U,_,_,U,U,_,_,U,U,(by show(0:Int)<=((n+1:Nat):Int)-1;lia),_,_,U,U,U,_,U,?_⟩;have en:(((n+1:Nat):Int)-1).toNat=n:=by lia
  rw[en];refine b7 (λg2=>?_) (λg2=>?e2);have gb0:b.testBit n=true:=by rw[←eb0];exact g2
  obtain⟨p0,ep0⟩:∃p0,prs[n]?=some p0:=⟨_,BP (by lia)⟩;obtain⟨ps',v,eps,ev⟩:=ok.lastAt hch gb0 ep0;obtain⟨ys',r,ps2,p2,ey',eq',hP',er⟩:=hP2.last (by intro z;rw[z]at hP2;have:=hP2.length;rw[eps]at this;simp at this);rw[eq']at eps;obtain⟨rfl,hv⟩:=List.append_inj' eps U;have hv:p2=v:=by simpa using hv
  subst hv;subst ey' eq';refine⟨_,U,_,U,sp,_,_,_,U,U,SqL.of es2,cQ _ _,r,_,_,_,U,U,SqT.of er,z0 _ _,_,U,ru,_,_,_,U,U,SqT.of hu2,z1 _ _,aV,λt ht=>?_⟩;have x1:upd H2 t (.tup [.int p2.1,.int u.2]) sp=some (.lst (ys'++[.ref r])):=bQ es2 ht;refine⟨_,U,_,U,sp,_,_,_,U,U,x1,oQ (by simp),?_⟩;rw[oR];have st:da H2 (upd (upd H2 t (.tup [.int p2.1,.int u.2])) sp (.lst (ys'++[.ref t]))):=(cK ht).trans (aW x1);refine⟨(s2.trans (ag ht _)).upd hsp,ys'++[.ref t],ps2++[(p2.1,u.2)],_,_,ab,(hP'.mono st).snoc (aW x1 _ _ ab),ok.join hch gb gb0 ep0 eu ev,?_,?_,U⟩
  ·rw[oY gb gb0 his eu]
  ·rw[length_append,length_singleton]at hly⊢;lia
  all_goals
   refine⟨_,U,.inl ⟨U,_,SqL.of es2⟩,_,U,sp,_,_,U,U,es2,ax (by lia),?_⟩;have st:da H2 (upd H2 sp (.lst (ys++[.ref ru]))):=aW es2;exact⟨s2.upd hsp,ys++[.ref ru],ps++[(u.1,u.2)],_,_,ab,(hP2.mono st).snoc (st _ _ hu2),ok.put hch gb eu,by rw[his,qO gb (by first|(rw[show i=0 by(have:¬ ((0:Int)<(i:Int)):=λz=>g1 (decide_eq_true z));lia];rfl)|(rw[show n+1-1=n by lia,←eb0,eq_false_iff.mpr g2,Bool.and_false])) eu],by rw[length_append,length_singleton];lia,U⟩
 ·obtain⟨sm,ys,ps,c3,c4,es,hP,ok,his,hly,rfl⟩:=hh;rw[htl]at ok his;exact⟨_,U,q sp ps H' sm ⟨hsp,ys,es,hP⟩ ok his⟩
theorem zR(F:Fun K "_law_points" "_law_points" Y55 f fd) (bl:Bl K mg Y)  : aK P w K mg base CX0 1 f fd ["columns"] (fi K Y):=by
 refine F.okA Z55 λcdv A outer s H vs Q E hr h=>?_
 obtain⟨cl,xs,cs,rfl,hcl,hcs,hok,h4,q⟩:=h
 refine⟨_,(aj (aF (i:=1) Z55.nd U (Or.inl U) (bf (aa (bf ae) ae)))
  (aj (bF PassesOwn.never U (bh (pv 0)) (ay (i:=2) Z55.nd U (Or.inl U))
  (aj (aF (i:=3) Z55.nd U (Or.inl U) (bf ae))
  (aG (bF PassesOwn.never U (bh (pv 1)) (ay (i:=4) Z55.nd U (Or.inl U))
  (ah (bF PassesOwn.never U (dP U bl.range_ (aa (aq az U bl.len_ boot_len (aa (aw aD (pv 2) af (λ_ _=>U)) ae)) ae)) (ay (i:=5) Z55.nd U (Or.inl U))
  (ah (bg (f7 PySem.F.plainAttrs_list PySem.F.slot_list_append PySem.F.type_list_append bA (pv 3) (aa (ak cS (pv 4) (bf (aa (pv 5) ae))) ae)))))))
  (ah (aF (i:=1) Z55.nd U (Or.inl U) (pv 3))))))
  (ah (av (pv 1))))),?_⟩
 have hxl:xs.length=cs.length:=hcs.1;refine⟨(by show 0<=sizeLine;decide),λa0 ha0=>?_⟩;have s0:=ag ha0 (.lst (vN []));have e0:upd H a0 (.lst (vN [])) a0=some (.lst (vN [])):=ab;have ee:upd H a0 (.lst [])=upd H a0 (.lst (vN [])):=rfl;rw[ee];clear ee;generalize upd H a0 (.lst (vN []))=H0 at s0 e0⊢;refine⟨(by show 1<=sizeLine;decide),λp0 hp0=>?_⟩;have s1:=s0.trans (ag hp0 (.lst [.ref a0]));have e1:upd H0 p0 (.lst [.ref a0]) p0=some (.lst [.ref a0]):=ab;have e1a:=ag hp0 (.lst [.ref a0]) _ _ e0;generalize upd H0 p0 (.lst [.ref a0])=H1 at s1 e1 e1a⊢;have st0:PtL NT H1 [.ref a0] [[]]:=⟨U,λj p e=>by
  match j,e with
  |0,e=>cases e;exact⟨a0,U,trivial,e1a⟩
  |j+1,e=>simp at e⟩
 refine⟨_,U,cl,U,⟨_,SqL.of (s1 _ _ hcl)⟩,bO (xs:=xs) (λi σ H'=>ar H H'/\∃(pl:Addr)(zs:List V)(c2 c3 c4 c5:Option V),H' pl=some (.lst zs)/\PtL NT H' zs (eQ ((fC cs).take i))/\zs.length<=6^i/\σ=[some (.ref cl),some (.ref pl),c2,c3,c4,c5]) ⟨s1,p0,_,_,_,_,_,e1,st0,by show 1<=6^0;decide,U⟩ (λi σ H' _ h=>SqL.of (h.1 _ _ hcl)) (λi y σ H' ey hh=>?_) (λσ H' hh=>?_)⟩
 ·obtain⟨sm,pl,zs,c2,c3,c4,c5,epl,hpt,hsz,rfl⟩:=hh;obtain⟨lc,c,rfl,ec,cpl,ts,_,_,g1,g2,g3⟩:=aI.get (hcs.same sm) ey;have hi:i<cs.length:=(BQ.mp ec).1;have ok:=hok c (BR ec);have k6:=ok.few;have htl:=g3.length;have Bs:6^i<=216:=by
   have:i<=3:=by lia
   exact le_trans (Nat.pow_le_pow_right (by decide) this) (by decide)
  refine⟨(by show 0<=sizeLine;decide),λM hM=>?_⟩;have u1:=ag hM (.lst []);have eM:upd H' M (.lst []) M=some (.lst []):=ab;generalize upd H' M (.lst [])=H2 at u1 eM⊢;have yj:zs.length=(eQ ((fC cs).take i)).length:=hpt.1;refine⟨λσ' H3=>ar H' H3/\∃(ys:List V)(c4 c5:Option V),H3 M=some (.lst ys)/\PtL (· ≠ M) H3 ys (grow (eQ ((fC cs).take i)) c.prs.length)/\σ'=[some (.ref cl),some (.ref pl),some (.ref lc),some (.ref M),c4,c5],?_,?_⟩
  ·refine⟨_,U,pl,U,⟨_,SqL.of (u1 _ _ epl)⟩,bO (xs:=zs) (λa σ H3=>ar H' H3/\∃(ys:List V)(c4 c5:Option V),H3 M=some (.lst ys)/\PtL (· ≠ M) H3 ys (grow ((eQ ((fC cs).take i)).take a) c.prs.length)/\σ=[some (.ref cl),some (.ref pl),some (.ref lc),some (.ref M),c4,c5]) ⟨u1,[],_,_,eM,aI.nil,U⟩ (λa σ H3 _ h=>SqL.of (h.1 _ _ epl)) (λa y σ H3 ey2 h3=>?_) (λσ H3 h3=>?_)⟩
   ·obtain⟨t3,ys,c4,c5,eM3,hy,rfl⟩:=h3;obtain⟨r,p,rfl,ep,_,hr3⟩:=aI.get (hpt.same t3) ey2;have ha:a<zs.length:=(BQ.mp ey2).1;refine⟨_,U,lc,_,_,_,U,U,SqL.of (t3 _ _ g1),U,cpl,_,U,.inl (SqL.of (t3 _ _ g2)),_,U,(by show -(2^62)<=((ts.length:Nat):Int);lia),(by show((ts.length:Nat):Int)<2^62;lia),md (λb σ H4=>ar H' H4/\∃(ys:List V)(c5:Option V),H4 M=some (.lst ys)/\PtL (· ≠ M) H4 ys (grow ((eQ ((fC cs).take i)).take a) c.prs.length++(List.range b).map λk=>p++[k])/\σ=[some (.ref cl),some (.ref pl),some (.ref lc),some (.ref M),some (.ref r),c5]) ⟨t3,ys,_,eM3,by simpa using hy,U⟩ (λb σ H4 hb h4_=>?_) (λσ H4 h4_=>?_)⟩
    ·obtain⟨t4,ys4,c5',eM4,hy4,rfl⟩:=h4_;have hr4:H4 r=some (.lst (vN p)):=by
      obtain⟨r',p',er',ep',_,hr'⟩:=aI.get hpt ey2;cases er';rw[ep]at ep';cases ep';exact t4 _ _ hr'
     have hb2:b<c.prs.length:=by first|lia|(rw[←htl];lia)
     have hys:ys4.length<=2000:=by
      have h1:=hy4.1;rw[length_append,o6,length_take,length_map,length_range]at h1;have h2:min a (eQ ((fC cs).take i)).length*c.prs.length<=216*6:=Nat.mul_le_mul (by lia) k6;lia
     have hpl:p.length<=4:=by
      have:=(nB.iff.mp (BR ep)).1;rw[length_take]at this;unfold fC at this;rw[length_map]at this;lia
     refine⟨_,U,.inl ⟨U,_,SqL.of eM4⟩,_,U,_,U,(by show 1<=sizeLine;decide),λk1 hk1=>?_⟩;have v1:=ag hk1 (.lst (vN [b]));have f1:upd H4 k1 (.lst (vN [b])) k1=some (.lst (vN [b])):=ab;have ee:upd H4 k1 (.lst [V.int (0+(b:Int))])=upd H4 k1 (.lst (vN [b])):=by rw[Int.zero_add];rfl
     rw[ee];clear ee;generalize upd H4 k1 (.lst (vN [b]))=H5 at v1 f1⊢;refine⟨r,k1,_,_,U,U,v1 _ _ hr4,f1,le_of_lt (ax (by rw[dW,dW];simp;lia)),λk2 hk2=>?_⟩;rw[ny];have v2:=ag hk2 (.lst (vN (p++[b])));have f2:upd H5 k2 (.lst (vN (p++[b]))) k2=some (.lst (vN (p++[b]))):=ab;have eM5:=v1 _ _ eM4;have nk:k2≠M:=λz=>by rw[z,eM5]at hk2;cases hk2
     generalize upd H5 k2 (.lst (vN (p++[b])))=H6 at v2 f2⊢;have eM6:=v2 _ _ eM5;refine⟨M,_,_,U,U,eM6,rN hys,?_⟩;have hy6:PtL (· ≠ M) H6 (ys4++[.ref k2]) (grow ((eQ ((fC cs).take i)).take a) c.prs.length++((List.range b).map λk=>p++[k])++[p++[b]]):=aI.snoc (hy4.same (v1.trans v2)) ⟨nk,f2⟩;refine⟨((t4.trans v1).trans v2).upd hM,ys4++[.ref k2],_,ab,?_,U⟩;rw[range_succ,map_append,List.map_singleton,←List.append_assoc];exact hy6.updN (λz=>z U)
    ·obtain⟨t4,ys4,c5',eM4,hy4,rfl⟩:=h4_;refine⟨t4,ys4,_,_,eM4,?_,U⟩;rw[rM ep];rw[htl]at hy4;exact hy4
   ·obtain⟨t3,ys,c4,c5,eM3,hy,rfl⟩:=h3;rw[yj,take_length]at hy;exact⟨t3,ys,_,_,eM3,hy,U⟩
  rintro σ3 H3 ⟨t3,ys,c4',c5',eM3,hy,rfl⟩;have el:(fC cs)[i]?=some c.prs.length:=by unfold fC;rw[getElem?_map,ec];rfl
  have hyl:=hy.1;rw[o6]at hyl;refine⟨_,U,sm.trans t3,M,ys,_,_,_,_,eM3,?_,?_,U⟩
  ·rw[take_snoc el,lj];exact hy.any
  ·rw[hyl,←yj,Nat.pow_succ];exact Nat.mul_le_mul hsz k6
 ·obtain⟨sm,pl,zs,c2,c3,c4,c5,epl,hpt,hsz,rfl⟩:=hh;have:(fC cs).length=cs.length:=by unfold fC;rw[length_map]
  rw[hxl,←this,take_length]at hpt;exact⟨_,U,q pl zs H' sm epl hpt⟩
theorem zS(F:Fun K "_law_codes" "_law_codes" Y45 f fd) (bl:Bl K mg Y)  : aK P w K mg base CX0 1 f fd ["columns","point","turn"] (fS K Y):=by
 refine F.okA Z45 λcdv A outer s H vs Q E hr h=>?_
 obtain⟨cl,pl,xs,cs,p,tn,rfl,hcl,hcs,hok,h4,hpl,hpt,q⟩:=h;refine⟨_,(ah (av (cX (iA U bl.zip_ (aa (pv 0) (aa (pv 1) ae))) (eN (N:=["column","k","turn"]) (k:=2) (fr:=[2]) (cl:=[("turn",s.heap.objs.size+1)]) U U (by decide+kernel) (by decide+kernel) U U (forall_mem_cons.mpr ⟨U,forall_mem_nil _⟩) U) U (λ_ _ _ _=>(gn (K:=K) (n:=2) U U (aC (ay (i:=0) (show(["column","k","turn"]:List Str).Nodup by decide+kernel) U (Or.inl U) (Or.inr U)) (aC (ay (i:=1) (show(["column","k","turn"]:List Str).Nodup by decide+kernel) U (Or.inl U) (Or.inr U)) aZ)))) (λ_ _ _ _=>cc) (λ_ _ _ _=>(aw (m6 (K:=K) U) (aw (dQ (K:=K) U) (aw (dQ (K:=K) U) (pv 0) af (λ_ _=>U)) (pv 1) (λ_ _=>U)) (ak aQ (ak bx (pv 1) (pv 2)) af) (λ_ _=>U)))))),?_⟩;have hxl:xs.length=cs.length:=hcs.1;have BE:p.length=cs.length:=by rw[hpt.1];unfold fC;rw[length_map]
 have nN:min xs.length (vN p).length=cs.length:=by rw[dW];lia
 refine⟨_,U,_,U,cl,pl,U,⟨_,SqL.of hcl⟩,⟨_,SqL.of hpl⟩,jB (xs:=xs) (ys:=vN p) (λD i ys H2=>ar H H2/\H2 D=some (.lst ys)/\∃cd:List Int,ys=cd.map V.int/\cd.length=i/\∀(j:Nat)(x:Int)(c:Col)(a:Nat),cd[j]?=some x->cs[j]?=some c->p[j]?=some a->∃pr,c.prs[a]?=some pr/\(x=pr.1\/x=pr.2))
  (λD hD=>⟨ag hD _,ab,[],U,U,(λj x c a e=>by simp at e)⟩) (λD i ys H2 hD _ h=>⟨SqL.of (h.1 _ _ hcl),SqL.of (h.1 _ _ hpl)⟩) (λD j x y ys H2 T hD ex ey2 h hT ts hts=>?_) (λD ys H2 hD h=>?_)⟩
 ·obtain⟨s2,eD,cd,rfl,hlen,hat⟩:=h;obtain⟨lc,c,rfl,ec,cpl,tp_,_,_,g1,g2,g3⟩:=aI.get (hcs.same s2) ex;obtain⟨a,rfl,ea⟩:=qP ey2;obtain⟨t0,t1,rfl⟩:∃t0 t1,ts=[t0,t1]:=by
   match ts,hts with
   | [t0,t1],_=>exact⟨t0,t1,U⟩
  have s3:=ag hT (.tup [.ref lc,.int (a:Int)]);have eT:upd H2 T (.tup [.ref lc,.int (a:Int)]) T=some (.tup [.ref lc,.int (a:Int)]):=ab;generalize upd H2 T (.tup [.ref lc,.int (a:Int)])=H3 at s3 eT⊢;have hac:a<c.prs.length:=hpt.2 j a _ ea (by unfold fC;rw[getElem?_map,ec];rfl);obtain⟨rp,pr,e1,e2,e3⟩:=vk g3 (i:=(a:Int)) (by lia) (by rw[g3.length];lia);rw[toNat_natCast]at e2;obtain⟨x,ex2,hx⟩:=yg (p:=pr) (m:=(a:Int)+tn);refine⟨T,_,U,SqT.of eT,U,_,_,U,_,_,U,U,⟨[some (.ref lc),some (.int (a:Int))],U,U⟩,?_⟩;have hj:j<min xs.length (vN p).length:=by
   have:=(BQ.mp ex).1;rw[nN,←hxl];exact this
  have eD3:=s3 _ _ eD;refine⟨_,U,lc,_,_,_,U,U,SqL.of (s3 _ _ g1),U,_,U,cpl,_,_,_,U,U,SqL.of (s3 _ _ g2),e1,_,U,_,U,_,_,U,U,_,_,U,U,(by show(0:Int)<2;decide),rp,_,_,_,U,U,SqT.of (s3 _ _ e3),ex2,dD.mk hj eD3 (ax (by rw[length_map];lia)) ⟨(s2.trans s3).upd hD,ab,cd++[x],by simp,by simp[hlen],λj' x' c' a' f1 f2 f3=>?_⟩⟩;by_cases hj':j'<cd.length
  ·rw[getElem?_append_left hj']at f1;exact hat j' x' c' a' f1 f2 f3
  ·have hj2:j'=cd.length:=by have:=(BQ.mp f1).1;simp at this;lia
   subst hj2;simp at f1;subst f1;rw[hlen]at f2 f3;rw[ec]at f2;rw[ea]at f3;cases f2;cases f3;exact⟨pr,e2,hx⟩
 ·obtain⟨s2,eD,cd,rfl,hlen,hat⟩:=h;rw[nN]at hlen;exact q D cd H2 s2 eD ⟨hlen,hat⟩
theorem zT(F:Fun K "_law_fit" "_law_fit" Y50 f fd) (bl:Bl K mg Y)  : aK P w K mg base CX0 1 f fd ["bit_row","point"] (iC K Y):=by
 refine F.okA Z50 λcdv A outer s H vs Q E hr h=>?_
 obtain⟨r,pl,w_,p,rfl,⟨bl0,f1,_,f2⟩,hpl,hlen,uI,q⟩:=h;refine⟨_,(ah (av (aq (kS U) U bl.all_ PyProof.Rows.boot_all (aa (cX (iA U bl.zip_ (aa (aw aO (pv 0) af (λ_ _=>U)) (aa (pv 1) ae))) (bY (N:=["bit","k"]) (k:=2) U U (by decide+kernel) (by decide+kernel) (by decide+kernel)) U (λ_ _ _ _=>(gn (K:=K) (n:=2) U U (aC (ay (i:=0) (show(["bit","k"]:List Str).Nodup by decide+kernel) U (Or.inl U) (Or.inr U)) (aC (ay (i:=1) (show(["bit","k"]:List Str).Nodup by decide+kernel) U (Or.inl U) (Or.inr U)) aZ)))) (λ_ _ _ _=>cc) (λ_ _ _ _=>(dJ bZ (ak mU (ak mT (pv 0) (pv 1)) af) af (aJ _)))) ae)))),?_⟩;have nN:min (vN w_.1).length (vN p).length=p.length:=by rw[dW,dW];lia
 refine⟨_,U,r,_,_,_,U,U,SqT.of f1,U,_,U,bl0,pl,U,⟨_,SqL.of f2⟩,⟨_,SqL.of hpl⟩,jB (xs:=vN w_.1) (ys:=vN p) (λD i ys H2=>ar H H2/\H2 D=some (.lst ys)/\ys=((List.range i).map λj=>(w_.1.getD j 0).testBit (p.getD j 0)).map V.bl)
  (λD hD=>⟨ag hD _,ab,U⟩) (λD i ys H2 hD _ h=>⟨SqL.of (h.1 _ _ f2),SqL.of (h.1 _ _ hpl)⟩) (λD j x y ys H2 T hD ex ey2 h hT ts hts=>?_) (λD ys H2 hD h=>?_)⟩
 ·obtain⟨s2,eD,rfl⟩:=h;obtain⟨b,rfl,eb⟩:=qP ex;obtain⟨a,rfl,ea⟩:=qP ey2;obtain⟨t0,t1,rfl⟩:∃t0 t1,ts=[t0,t1]:=by
   match ts,hts with
   | [t0,t1],_=>exact⟨t0,t1,U⟩
  have s3:=ag hT (.tup [.int (b:Int),.int (a:Int)]);have eT:upd H2 T (.tup [.int (b:Int),.int (a:Int)]) T=some (.tup [.int (b:Int),.int (a:Int)]):=ab;generalize upd H2 T (.tup [.int (b:Int),.int (a:Int)])=H3 at s3 eT⊢;refine⟨T,_,U,SqT.of eT,U,_,_,U,_,_,U,U,⟨[some (.int (b:Int)),some (.int (a:Int))],U,U⟩,?_⟩;have hj:j<min (vN w_.1).length (vN p).length:=by
   have:=(BQ.mp ea).1;rw[nN];exact this
  have hj2:j<p.length:=by rw[nN]at hj;exact hj
  have eD3:=s3 _ _ eD;refine⟨_,U,_,U,_,_,U,U,(by show(0:Int)<=(a:Int);lia),_,_,U,U,U,dD.mk hj eD3 (ax (by rw[length_map,length_map,length_range];lia)) ⟨(s2.trans s3).upd hD,ab,?_⟩⟩;have g1:w_.1.getD j 0=b:=by rw[getD_eq_getElem?_getD,eb];rfl
  have g2:p.getD j 0=a:=by rw[getD_eq_getElem?_getD,ea];rfl
  rw[range_succ,map_append,map_append]
  congr 1
  show[V.bl (decide (V.int (Builtin.bitAnd ((b:Int) / 2^a) 1)=V.int 1))]=[V.bl ((w_.1.getD j 0).testBit (p.getD j 0))];rw[nv,g1,g2]
 ·obtain⟨s2,eD,rfl⟩:=h;rw[nN]at eD;refine⟨D,_,U,SqL.of eD,?_⟩;have e:(((List.range p.length).map λj=>(w_.1.getD j 0).testBit (p.getD j 0)).all id)=lY w_.1 p:=by unfold lY;rw[all_map];rfl
  rw[e];exact q H2 s2
theorem zU(F:Fun K "_law_way" "_law_way" Y61 f fd) (bl:Bl K mg Y)  : aK P w K mg base CX0 1 f fd ["turn","out"] (iD K Y):=by
 refine F.okA Z61 λcdv A outer s H vs Q E hr h=>?_
 obtain⟨tn,ol,oc,rfl,⟨pl,ts,_,_,e1,e2,hp⟩,q⟩:=h
 refine⟨_,(aG (aF (i:=2) Z61.nd U (Or.inl U) (aw aD (bf (aa aP (aa aP (aa aP (aa aP (aa aP (aa aP ae))))))) (ak aQ (pv 0) af) (λ_ _=>U)))
  (aj (aM (PW.pt (cM (aH bZ (pv 2) aP (aJ _)) (cb (bw (aw aD (pv 1) af (λ_ _=>U))))))
  (ah (aF (i:=2) Z61.nd U (Or.inl U) aP))
  aE)
  (ah (av (pv 2))))),?_⟩
 have k0:=emod_nonneg tn (show(6:Int)≠0 by decide);have k1:=emod_lt_of_pos tn (show(0:Int)<6 by decide);refine⟨λσ' H'=>ar H H'/\∃(wy:Str)(i:Nat),six[i]?=some wy/\σ'=[some (.int tn),some (.ref ol),some (.str wy)],?_,?_⟩
 ·refine⟨(by show 6<=sizeLine;decide),λp hp_=>?_⟩;obtain⟨wy,i,hw,hi⟩:∃(wy:Str)(i:Nat),atI [V.str (Str.ofString "first"),.str (Str.ofString "only"),.str (Str.ofString "like"),.str (Str.ofString "low"),.str (Str.ofString "high"),.str (Str.ofString "sum")] (tn%6)=some (.str wy)/\six[i]?=some wy:=by
   generalize tn%6=k at k0 k1⊢;have:k=0\/k=1\/k=2\/k=3\/k=4\/k=5:=by lia
   rcases this with rfl|rfl|rfl|rfl|rfl|rfl
   ·exact⟨_,0,U,U⟩
   ·exact⟨_,1,U,U⟩
   ·exact⟨_,2,U,U⟩
   ·exact⟨_,3,U,U⟩
   ·exact⟨_,4,U,U⟩
   ·exact⟨_,5,U,U⟩
  exact⟨_,U,_,_,U,U,(by show(0:Int)<6;decide),p,_,_,_,U,U,SqL.of ab,hw,ag hp_ _,wy,i,hi,U⟩
 rintro σ1 H1 ⟨s1,wy,i,hi,rfl⟩;refine⟨_,U,U,_,U,?_⟩;by_cases g:wy=Str.ofString "sum"
 ·subst g;refine eL U ?_;refine⟨_,U,ol,_,_,_,U,U,SqL.of (s1 _ _ e1),U,_,U,?_⟩;cases hw:oc.w with
  |true=>exact cZ ⟨_,U,q _ 0 H1 s1 U λz=>absurd z (by decide)⟩
  |false=>exact bb ⟨_,U,q _ i H1 s1 hi λ_=>hw⟩
 ·exact bI (λe=>by injection e with e;exact g e) (bb ⟨_,U,q _ i H1 s1 hi λz=>absurd z g⟩)
theorem zV(F:Fun K "_law_same" "_law_same" Y57 f fd) (bl:Bl K mg Y)  : aK P w K mg base CX0 1 f fd ["found","due"] (gv K Y):=by
 refine F.okA Z57 λcdv A outer s H vs Q E hr h=>?_
 obtain⟨r,d,p,rfl,hr',hd,q⟩:=h
 refine⟨_,(aj (aM (PW.pt (gh (bE (bw (aq bJ U bl.isinstance_ PyProof.Rows.boot_isinstance (aa (pv 0) (aa (fH (v:=.ty "tuple") U bl.tuple_ PyProof.Rows.boot_tuple U) ae))))) (gh (aH ko (aq az U bl.len_ boot_len (aa (pv 0) ae)) af (aJ _)) (ip (bE (bw (aq bJ U bl.isinstance_ PyProof.Rows.boot_isinstance (aa (aw aO (pv 0) af (λ_ _=>U)) (aa (fH (v:=.ty "str") U bl.str_ PyProof.Rows.boot_str U) ae)))))))))
  (ah (av cJ))
  aE)
  (ah (av (fI (aq bJ U bl.isinstance_ PyProof.Rows.boot_isinstance (aa (aw aO (pv 0) af (λ_ _=>U)) (aa (fH (v:=.ty "int") U bl.int_ PyProof.Rows.boot_int U) ae))) (fI (r9 (aq bJ U bl.isinstance_ PyProof.Rows.boot_isinstance (aa (aw aO (pv 0) af (λ_ _=>U)) (aa (fH (v:=.ty "bool") U bl.bool_ PyProof.Rows.boot_bool U) ae)))) (iq (dJ (wo hr) (pv 0) (pv 1) (aJ _)))))))),?_⟩
 refine⟨_,U,_,_,_,_,true,U,.ty _,.inr ⟨r,_,U,hr',U⟩,(by first|rfl|with_unfolding_all rfl|decide+kernel),_,U,bb ?_⟩;refine⟨_,U,r,_,U,.inr (hr'),U,_,U,oq U ?_⟩;refine⟨_,U,r,_,_,_,U,U,hr',U,_,_,_,_,true,U,.ty _,.inl (.str _),(by first|rfl|with_unfolding_all rfl|decide+kernel),_,U,bb ?_⟩;refine⟨_,U,r,_,_,_,U,U,hr',U,_,_,_,_,true,U,.ty _,.inl (.int _),(by first|rfl|with_unfolding_all rfl|decide+kernel),_,U,cZ ?_⟩;refine⟨_,U,r,_,_,_,U,U,hr',U,_,_,_,_,false,U,.ty _,.inl (.int _),(by first|rfl|with_unfolding_all rfl|decide+kernel),_,U,true,U,cZ ?_⟩;refine⟨_,U,_,U,?_⟩;refine rh hr' hd (λx hx=>?_) q;rcases mem_cons.mp hx with rfl|hx
 ·rfl
 ·rw[show x=.int p.2 by simpa using hx];rfl
theorem zW(F:Fun K "_law_beyond" "_law_beyond" Y41 f fd) (bl:Bl K mg Y)  : aK P w K mg base CX0 1 f fd ["spans","column","turn"] (fj K Y):=by
 refine F.okA Z41 λcdv A outer s H vs Q E hr h=>?_
 obtain⟨l,co,ps,c,tn,rfl,hl,ap,l6,hlo,hco,okc,q⟩:=h
 refine⟨_,(aj (aM (PW.pt (cM (aH bZ (ak aQ (pv 2) af) af (aJ _)) (cb (aH gj (aq az U bl.len_ boot_len (aa (pv 0) ae)) af (aJ _)))))
  (ah (av (ak cS (cE dk (pv 0) di (dj (fv df af))) (bf (aa (bq (aa (aw aO (aw aD (pv 0) (fv df af) (λ_ _=>U)) af (λ_ _=>U)) (aa (ak bj (ak bx (aw aO (aw aD (pv 0) (fv df af) (λ_ _=>U)) af (λ_ _=>U)) (aw aO (aw aD (pv 0) (fv df af) (λ_ _=>U)) af (λ_ _=>U))) af) ae))) ae)))))
  aE)
  (aj (aM (aH bZ (ak aQ (pv 2) af) af (aJ _))
  (aj (aF (i:=3) Z41.nd U (Or.inl U) (ak cP (ak cP (aw aO (aw aD (aw aD (pv 1) af (λ_ _=>U)) af (λ_ _=>U)) af (λ_ _=>U)) af) (ak aQ (ak bj (pv 2) af) (ak ir af af))))
  (aj (aM (PW.pt (cM (aH gj (aq az U bl.len_ boot_len (aa (pv 0) ae)) af (aJ _)) (cb (aH bZ (aw aO (aw aD (pv 0) af (λ_ _=>U)) af (λ_ _=>U)) (aw aO (aw aD (aw aD (pv 1) af (λ_ _=>U)) af (λ_ _=>U)) af (λ_ _=>U)) (aJ _)))))
  (ah (av (ak cS (bf (aa (bq (aa (pv 3) (aa (aw aO (aw aD (pv 0) af (λ_ _=>U)) af (λ_ _=>U)) ae))) ae)) (cE dk (pv 0) (dj af) di))))
  aE)
  (ah (av (ak cS (bf (aa (bq (aa (pv 3) (aa (ak cP (aw aO (aw aD (aw aD (pv 1) af (λ_ _=>U)) af (λ_ _=>U)) af (λ_ _=>U)) af) ae))) ae)) (pv 0))))))
  aE)
  (ah (av (pv 0))))),?_⟩
 obtain⟨_,ys,el,hP⟩:=id hl;obtain⟨pl,ts,_,_,e1,e2,hp⟩:=id hco;have hyl:=hP.length;have htl:=hp.length;obtain⟨p0,ep0,elo⟩:=okc.first;have BG:=okc.some_;obtain⟨x0,ex0⟩:∃x,ts[0]?=some x:=⟨_,BP (by lia)⟩;obtain⟨p,r0,ep,rfl,hr0⟩:=hp.get ex0;rw[ep0]at ep;cases ep;have k1:=emod_nonneg (tn / 4) (Int.ne_of_gt (p10 (9:Int).toNat));refine⟨_,U,_,_,U,U,(by show(0:Int)<4;decide),U,_,U,?_⟩;refine b7 (λg1=>?_) (λg1=>bb ?e1);refine⟨_,U,l,_,U,.inl (SqL.of el),_,_,U,U,_,U,?_⟩;refine b7 (λg2=>?_) (λg2=>?e2);have hne:ys≠[]:=λz=>by rw[z]at g2;exact absurd (of_decide_eq_true g2) (by decide)
 obtain⟨ys',r,ps2,p2,ey',eq',hP',er⟩:=hP.last hne;subst ey' eq';refine⟨_,U,_,U,_,U,l,_,U,SqL.of el,λc1 hc1=>?_⟩;rw[tO];have t1:=ag hc1 (.lst ys');have h1:upd H c1 (.lst ys') c1=some (.lst ys'):=ab;generalize upd H c1 (.lst ys')=H1 at t1 h1⊢;have el1:=t1 _ _ el;have er1:=t1 _ _ er;refine⟨_,U,_,U,l,_,_,_,U,U,SqL.of el1,cQ _ _,r,_,_,_,U,U,SqT.of er1,z0 _ _,_,U,_,U,l,_,_,_,U,U,SqL.of el1,cQ _ _,r,_,_,_,U,U,SqT.of er1,z0 _ _,_,U,_,U,l,_,_,_,U,U,SqL.of el1,cQ _ _,r,_,_,_,U,U,SqT.of er1,z1 _ _,_,_,U,U,_,_,U,U,⟨by decide,by decide⟩,aV,λt ht=>?_⟩;have t2:=ag ht (.tup [.int p2.1,.int ((p2.1+p2.2) / 2)]);have h2:upd H1 t (.tup [.int p2.1,.int ((p2.1+p2.2) / 2)]) t=some (.tup [.int p2.1,.int ((p2.1+p2.2) / 2)]):=ab;generalize upd H1 t (.tup [.int p2.1,.int ((p2.1+p2.2) / 2)])=H2 at t2 h2⊢;refine⟨(by show 1<=sizeLine;decide),λc2 hc2=>?_⟩;have t3:=ag hc2 (.lst [V.ref t]);have h3:upd H2 c2 (.lst [V.ref t]) c2=some (.lst [V.ref t]):=ab;generalize upd H2 c2 (.lst [V.ref t])=H3 at t3 h3⊢;rw[length_append,length_append,length_singleton,length_singleton]at hyl;rw[length_append,length_singleton]at l6;refine⟨c1,c2,_,_,U,U,t3 _ _ (t2 _ _ h1),h3,le_of_lt (ax (by rw[length_singleton];lia)),λc3 hc3=>?_⟩;have t4:=ag hc3 (.lst (ys'++[V.ref t]));have u:=((t1.trans t2).trans t3).trans t4;exact q c3 _ _ u ⟨trivial,_,ab,(hP'.mono u.tups).snoc ((t3.trans t4) _ _ h2)⟩ ap.half (by rw[length_append,length_singleton];lia)
 all_goals
  refine⟨_,U,_,_,U,U,(by show(0:Int)<4;decide),U,_,U,?_⟩;refine b7 (λg3=>?_) (λ_=>⟨_,U,q l ps H (ar.refl _) hl ap (by lia)⟩);refine⟨_,U,co,_,_,_,U,U,SqL.of e1,U,pl,_,_,_,U,U,SqL.of e2,ba ex0,r0,_,_,_,U,U,SqT.of hr0,z0 _ _,_,_,U,U,_,U,_,_,U,U,⟨by decide,by decide⟩,_,_,U,U,⟨by decide,by decide,by decide⟩,_,_,U,U,p10 _,_,_,U,U,?_⟩;by_cases hys:ys=[]
  ·have hy0:ys.length=0:=by rw[hys];rfl
   refine⟨_,U,l,_,U,.inl (SqL.of el),_,_,U,U,_,U,b7 (λg=>absurd (of_decide_eq_true g) (by rw[hy0];decide)) (λ_=>bb ?_)⟩;refine⟨_,U,_,U,co,_,_,_,U,U,SqL.of e1,U,pl,_,_,_,U,U,SqL.of e2,ba ex0,r0,_,_,_,U,U,SqT.of hr0,z0 _ _,_,_,U,U,aV,λt ht=>?_⟩;have t2:=ag ht (.tup [.int (p0.1-2-tn / 4%10^(9:Int).toNat),.int (p0.1-2)]);have h2:upd H t (.tup [.int (p0.1-2-tn / 4%10^(9:Int).toNat),.int (p0.1-2)]) t=some (.tup [.int (p0.1-2-tn / 4%10^(9:Int).toNat),.int (p0.1-2)]):=ab;generalize upd H t (.tup [.int (p0.1-2-tn / 4%10^(9:Int).toNat),.int (p0.1-2)])=H2 at t2 h2⊢;refine⟨(by show 1<=sizeLine;decide),λc2 hc2=>?_⟩;have t3:=ag hc2 (.lst [V.ref t]);have h3:upd H2 c2 (.lst [V.ref t]) c2=some (.lst [V.ref t]):=ab;generalize upd H2 c2 (.lst [V.ref t])=H3 at t3 h3⊢;refine⟨_,U,c2,l,_,_,U,U,h3,t3 _ _ (t2 _ _ el),le_of_lt (ax (by rw[length_singleton];lia)),λc3 hc3=>?_⟩;have t4:=ag hc3 (.lst ([V.ref t]++ys));have u:=(t2.trans t3).trans t4;exact q c3 ((p0.1-2-tn / 4%10^(9:Int).toNat,p0.1-2) :: ps) _ u ⟨trivial,_,ab,PL.app (ps:=[(p0.1-2-tn / 4%10^(9:Int).toNat,p0.1-2)]) (PL.snoc .nil ((t3.trans t4) _ _ h2)) (hP.mono u.tups)⟩ (ap.cons (by show p0.1-2-tn / 4%10^(9:Int).toNat<=p0.1-2;lia) λr hr=>by have:=hlo r hr;show p0.1-2+2<=r.1;lia) (by rw[length_cons];lia)
  ·have hy0:0<ys.length:=List.length_pos_iff.mpr hys;obtain⟨x1,ex1⟩:∃x,ys[0]?=some x:=⟨_,BP hy0⟩;obtain⟨p1,r1,ep1,rfl,hr1⟩:=hP.get ex1;refine⟨_,U,l,_,U,.inl (SqL.of el),_,_,U,U,_,U,b7 (λ_=>?_) (λg=>absurd (decide_eq_true (by lia)) g)⟩;refine⟨_,U,l,_,_,_,U,U,SqL.of el,ba ex1,r1,_,_,_,U,U,SqT.of hr1,z0 _ _,_,U,co,_,_,_,U,U,SqL.of e1,U,pl,_,_,_,U,U,SqL.of e2,ba ex0,r0,_,_,_,U,U,SqT.of hr0,z0 _ _,U,_,U,?_⟩;refine b7 (λg5=>?_) (λg5=>?_)
   ·have e5:p1.1=p0.1:=by have z:=of_decide_eq_true g5;injection z
    refine⟨_,U,_,U,l,_,_,_,U,U,SqL.of el,ba ex1,r1,_,_,_,U,U,SqT.of hr1,z1 _ _,aV,λt ht=>?_⟩;have t2:=ag ht (.tup [.int (p0.1-2-tn / 4%10^(9:Int).toNat),.int p1.2]);have h2:upd H t (.tup [.int (p0.1-2-tn / 4%10^(9:Int).toNat),.int p1.2]) t=some (.tup [.int (p0.1-2-tn / 4%10^(9:Int).toNat),.int p1.2]):=ab;generalize upd H t (.tup [.int (p0.1-2-tn / 4%10^(9:Int).toNat),.int p1.2])=H2 at t2 h2⊢;refine⟨(by show 1<=sizeLine;decide),λc2 hc2=>?_⟩;have t3:=ag hc2 (.lst [V.ref t]);have h3:upd H2 c2 (.lst [V.ref t]) c2=some (.lst [V.ref t]):=ab;generalize upd H2 c2 (.lst [V.ref t])=H3 at t3 h3⊢;refine⟨_,U,_,U,l,_,U,SqL.of (t3 _ _ (t2 _ _ el)),λc4 hc4=>?_⟩;rw[show(some (1:Int))=some ((1:Nat):Int)from U,jh];have t5:=ag hc4 (.lst (ys.drop 1));have h5:upd H3 c4 (.lst (ys.drop 1)) c4=some (.lst (ys.drop 1)):=ab;generalize upd H3 c4 (.lst (ys.drop 1))=H5 at t5 h5⊢;refine⟨c2,c4,_,_,U,U,t5 _ _ h3,h5,le_of_lt (ax (by rw[length_singleton,length_drop];lia)),λc3 hc3=>?_⟩;have t4:=ag hc3 (.lst ([V.ref t]++ys.drop 1));have u:=((t2.trans t3).trans t5).trans t4;obtain⟨qs,rfl⟩:∃qs,ps=p1 :: qs:=by
     cases ps with
     |nil=>cases ep1
     |cons a b=>cases ep1;exact⟨b,U⟩
    obtain⟨y1,yt,rfl⟩:∃y1 yt,ys=y1 :: yt:=by
     cases ys with
     |nil=>exact absurd U hys
     |cons a b=>exact⟨a,b,U⟩
    have hPt:PL H yt qs:=by cases hP with|cons _ h=>exact h
    obtain⟨a1,a2,a3⟩:=ap.tail;have hl1:=hlo p1 (.head _);rw[length_cons]at l6;exact q c3 ((p0.1-2-tn / 4%10^(9:Int).toNat,p1.2) :: qs) _ u ⟨trivial,_,ab,PL.app (ps:=[(p0.1-2-tn / 4%10^(9:Int).toNat,p1.2)]) (PL.snoc .nil ((t3.trans (t5.trans t4)) _ _ h2)) (hPt.mono u.tups)⟩ (a1.cons (by show p0.1-2-tn / 4%10^(9:Int).toNat<=p1.2;lia) a3) (by rw[length_cons];lia)
   ·show _;refine⟨_,U,_,U,co,_,_,_,U,U,SqL.of e1,U,pl,_,_,_,U,U,SqL.of e2,ba ex0,r0,_,_,_,U,U,SqT.of hr0,z0 _ _,_,_,U,U,aV,λt ht=>?_⟩;have t2:=ag ht (.tup [.int (p0.1-2-tn / 4%10^(9:Int).toNat),.int (p0.1-2)]);have h2:upd H t (.tup [.int (p0.1-2-tn / 4%10^(9:Int).toNat),.int (p0.1-2)]) t=some (.tup [.int (p0.1-2-tn / 4%10^(9:Int).toNat),.int (p0.1-2)]):=ab;generalize upd H t (.tup [.int (p0.1-2-tn / 4%10^(9:Int).toNat),.int (p0.1-2)])=H2 at t2 h2⊢;refine⟨(by show 1<=sizeLine;decide),λc2 hc2=>?_⟩;have t3:=ag hc2 (.lst [V.ref t]);have h3:upd H2 c2 (.lst [V.ref t]) c2=some (.lst [V.ref t]):=ab;generalize upd H2 c2 (.lst [V.ref t])=H3 at t3 h3⊢;refine⟨_,U,c2,l,_,_,U,U,h3,t3 _ _ (t2 _ _ el),le_of_lt (ax (by rw[length_singleton];lia)),λc3 hc3=>?_⟩;have t4:=ag hc3 (.lst ([V.ref t]++ys));have u:=(t2.trans t3).trans t4;exact q c3 ((p0.1-2-tn / 4%10^(9:Int).toNat,p0.1-2) :: ps) _ u ⟨trivial,_,ab,PL.app (ps:=[(p0.1-2-tn / 4%10^(9:Int).toNat,p0.1-2)]) (PL.snoc .nil ((t3.trans t4) _ _ h2)) (hP.mono u.tups)⟩ (ap.cons (by show p0.1-2-tn / 4%10^(9:Int).toNat<=p0.1-2;lia) λr hr=>by have:=hlo r hr;show p0.1-2+2<=r.1;lia) (by rw[length_cons];lia)
theorem zX(F:Fun K "_law_in" "_law_in" Y51 f fd) (bl:Bl K mg Y)  : aK P w K mg base CX0 1 f fd ["spans","code"] (gN K Y):=by
 refine F.okA Z51 λcdv A outer s H vs Q E hr h=>?_
 obtain⟨a,xs,ps,n,rfl,hS,hP,q⟩:=h
 refine⟨_,(aj (bF PassesOwn.never U (bh (pv 0)) (cG U (aC (ay (i:=2) Z51.nd U (Or.inl U)) (aC (ay (i:=3) Z51.nd U (Or.inl U)) aZ)))
  (ah (aM (PW.pt (cM (aH dq (pv 2) (pv 1) (aJ _)) (cb (aH dq (pv 1) (pv 3) (aJ _)))))
  (ah (av cJ))
  aE)))
  (ah (av cJ))),?_⟩
 refine⟨_,U,a,U,⟨_,hS⟩,bO (xs:=xs) (λi σ H'=>(∃c2 c3,σ=[some (.ref a),some (.int n),c2,c3])/\H'=H/\(ps.take i).any (inR n)=false) ⟨⟨_,_,U⟩,U,U⟩ (λi σ H' _ h=>by obtain⟨_,e,_⟩:=h;rw[e];exact hS) (λi x σ H' e h=>?_) (λσ H' h=>?_)⟩
 ·obtain⟨⟨c2,c3,rfl⟩,e0,hn⟩:=h;rw[e0];obtain⟨p,r,e1,rfl,hr'⟩:=hP.get e;refine⟨r,_,U,SqT.of hr',U,_,_,U,_,_,U,U,?_⟩;refine⟨_,U,_,U,_,_,U,U,_,U,?_⟩;refine b7 (λc=>?_) (λc=>?_)
  ·refine⟨_,U,_,U,_,_,U,U,_,U,?_⟩;refine b7 (λd=>?_) (λd=>?_)
   ·have z2:inP ps n=true:=ky e1 (xZ c d);rw[z2]at q;exact q
   ·exact⟨⟨_,_,U⟩,U,dn e1 hn (vi d)⟩
  ·exact bb ⟨⟨_,_,U⟩,U,dn e1 hn (vh c)⟩
 ·obtain⟨⟨c2,c3,rfl⟩,e0,hn⟩:=h;rw[e0];have z:inP ps n=false:=by
   rw[hP.length,take_length]at hn;exact hn
  rw[z]at q;exact q
theorem zY(F:Fun K "__init__" "Way.__init__" Y18 f fd) (bl:Bl K mg Y)  : aK P w K mg base CX0 1 f fd ["self","called"] (b9 K Y):=by
 refine F.okA Z18 λcdv A outer s H vs Q E hr h=>?_
 obtain⟨x,dx,z,rfl,hx,q⟩:=h;refine⟨_,(ah (cg (pv 0) (pv 1) U)),?_⟩;exact⟨_,U,_,U,x,_,dx,_,U,hx,bl.k_First,bl.na_First_called,(by show 0<1000;decide),q⟩
theorem zZ(F:Fun K "__init__" "Way.__init__" Y22 f fd) (bl:Bl K mg Y)  : aK P w K mg base CX0 1 f fd ["self","called"] (cm K Y):=by
 refine F.okA Z22 λcdv A outer s H vs Q E hr h=>?_
 obtain⟨x,dx,z,rfl,hx,q⟩:=h;refine⟨_,(ah (cg (pv 0) (pv 1) U)),?_⟩;exact⟨_,U,_,U,x,_,dx,_,U,hx,bl.k_Only,bl.na_Only_called,(by show 0<1000;decide),q⟩
theorem Aa(F:Fun K "__init__" "Way.__init__" Y20 f fd) (bl:Bl K mg Y)  : aK P w K mg base CX0 1 f fd ["self","called"] (cn K Y):=by
 refine F.okA Z20 λcdv A outer s H vs Q E hr h=>?_
 obtain⟨x,dx,z,rfl,hx,q⟩:=h;refine⟨_,(ah (cg (pv 0) (pv 1) U)),?_⟩;exact⟨_,U,_,U,x,_,dx,_,U,hx,bl.k_Like,bl.na_Like_called,(by show 0<1000;decide),q⟩
theorem Ab(F:Fun K "__init__" "Way.__init__" Y21 f fd) (bl:Bl K mg Y)  : aK P w K mg base CX0 1 f fd ["self","called"] (cB K Y):=by
 refine F.okA Z21 λcdv A outer s H vs Q E hr h=>?_
 obtain⟨x,dx,z,rfl,hx,q⟩:=h;refine⟨_,(ah (cg (pv 0) (pv 1) U)),?_⟩;exact⟨_,U,_,U,x,_,dx,_,U,hx,bl.k_Low,bl.na_Low_called,(by show 0<1000;decide),q⟩
theorem Ac(F:Fun K "__init__" "Way.__init__" Y19 f fd) (bl:Bl K mg Y)  : aK P w K mg base CX0 1 f fd ["self","called"] (cq K Y):=by
 refine F.okA Z19 λcdv A outer s H vs Q E hr h=>?_
 obtain⟨x,dx,z,rfl,hx,q⟩:=h;refine⟨_,(ah (cg (pv 0) (pv 1) U)),?_⟩;exact⟨_,U,_,U,x,_,dx,_,U,hx,bl.k_High,bl.na_High_called,(by show 0<1000;decide),q⟩
theorem Ad(F:Fun K "__init__" "Way.__init__" Y23 f fd) (bl:Bl K mg Y)  : aK P w K mg base CX0 1 f fd ["self","called"] (cC K Y):=by
 refine F.okA Z23 λcdv A outer s H vs Q E hr h=>?_
 obtain⟨x,dx,z,rfl,hx,q⟩:=h;refine⟨_,(ah (cg (pv 0) (pv 1) U)),?_⟩;exact⟨_,U,_,U,x,_,dx,_,U,hx,bl.k_Sum,bl.na_Sum_called,(by show 0<1000;decide),q⟩
theorem O_0(F:Fun K "__init__" "Domain.__init__" Y0 f fd) (bl:Bl K mg Y)  : aK P w K mg base CX0 1 f fd ["self","low","high"] (bK K Y):=by
 refine F.okA Z0 λcdv A outer s H vs Q E hr h=>?_
 obtain⟨x,dx,lo,hi,rfl,hx,q⟩:=h
 refine⟨_,(aj (cg (pv 0) (pv 1) U)
  (ah (cg (pv 0) (pv 2) U))),?_⟩
 refine⟨_,U,_,U,x,_,dx,_,U,hx,bl.k_Numbers,bl.na_Numbers_low,(by show 0<1000;decide),_,U,_,U,x,_,dx,_,U,ab,bl.k_Numbers,bl.na_Numbers_high,(by show 1<1000;decide),?_⟩;show Q .non (upd (upd H x (.ins Y.i dx [("low",.int lo)])) x (.ins Y.i dx (bu "high" (.int hi) [("low",.int lo)])));rw[put2];exact q
theorem O_1(F:Fun K "__init__" "Domain.__init__" Y1 f fd) (bl:Bl K mg Y)  : aK P w K mg base CX0 1 f fd ["self","low","high"] (bR K Y):=by
 refine F.okA Z1 λcdv A outer s H vs Q E hr h=>?_
 obtain⟨x,dx,lo,hi,rfl,hx,q⟩:=h
 refine⟨_,(aj (cg (pv 0) (pv 1) U)
  (ah (cg (pv 0) (pv 2) U))),?_⟩
 refine⟨_,U,_,U,x,_,dx,_,U,hx,bl.k_Words,bl.na_Words_low,(by show 0<1000;decide),_,U,_,U,x,_,dx,_,U,ab,bl.k_Words,bl.na_Words_high,(by show 1<1000;decide),?_⟩;show Q .non (upd (upd H x (.ins Y.j dx [("low",.int lo)])) x (.ins Y.j dx (bu "high" (.int hi) [("low",.int lo)])));rw[put2];exact q
theorem O_5(F:Fun K "chosen" "First.chosen" Y5 f fd) (bl:Bl K mg Y)  : aK P w K mg base CX0 1 f fd ["self","codes","outcome"] (J1 K Y):=by
 refine F.ok Z5 (λvs H Q E h=>?_) (λcdv A outer s H vs Q E hr h=>?_)
 ·obtain⟨x,c,o,n,ns,b,rfl,⟨dx,z,hx⟩,ho,hle,hS,hn,q⟩:=h;rfl
 obtain⟨x,c,o,n,ns,b,rfl,⟨dx,z,hx⟩,ho,hle,hS,hn,q⟩:=h;refine⟨_,(ah (av (bq (aa aP (aa (aw aD (pv 1) af (λ_ _=>U)) ae))))),?_⟩;exact⟨_,U,c,_,_,_,U,U,hS,at0 n ns,aV,λt ht=>q t _ (ag ht _) (SqT.of ab)⟩
theorem Ae(F:Fun K "chosen" "Only.chosen" Y14 f fd) (bl:Bl K mg Y)  : aK P w K mg base CX0 1 f fd ["self","codes","outcome"] (J9 K Y):=by
 refine F.ok Z14 (λvs H Q E h=>?_) (λcdv A outer s H vs Q E hr h=>?_)
 ·obtain⟨x,c,o,n,ns,b,rfl,⟨dx,z,hx⟩,ho,hle,hS,hn,q⟩:=h;rfl
 obtain⟨x,c,o,n,ns,b,rfl,⟨dx,z,hx⟩,ho,hle,hS,hn,q⟩:=h;refine⟨_,(ah (av (og (aH bZ (aq az U bl.len_ boot_len (aa (pv 1) ae)) af (aJ _)) (bq (aa aP (aa (aw aD (pv 1) af (λ_ _=>U)) ae))) (bX (v:=.ref Y.m) U bl.CLASH_ U)))),?_⟩;refine⟨_,U,c,_,U,.inl (hS),U,_,U,?_⟩;refine b7 (λg=>?_) (λg=>?_)
 ·have e:wf 1 b.1 b.2 (n :: ns)=say n:=by
   have g':=gm g;simp at g';show jf _=_;unfold jf;rw[if_pos (by rw[length_cons];lia)];rfl
  rw[e]at q;exact⟨_,U,c,_,_,_,U,U,hS,at0 n ns,aV,λt ht=>q t _ (ag ht _) (SqT.of ab)⟩
 ·have e:wf 1 b.1 b.2 (n :: ns)=jT:=by
   have g':=i5 g;simp at g';show jf _=_;unfold jf;rw[if_neg (by rw[length_cons];lia)]
  rw[e]at q;exact q _ _ (ar.refl _) (bl.q_CLASH.sq _)
theorem O_9(F:Fun K "chosen" "Like.chosen" Y9 f fd) (bl:Bl K mg Y)  : aK P w K mg base CX0 1 f fd ["self","codes","outcome"] (J5 K Y):=by
 refine F.ok Z9 (λvs H Q E h=>?_) (λcdv A outer s H vs Q E hr h=>?_)
 ·obtain⟨x,c,o,n,ns,b,rfl,⟨dx,z,hx⟩,ho,hle,hS,hn,q⟩:=h;rfl
 obtain⟨x,c,o,n,ns,b,rfl,⟨dx,z,hx⟩,ho,hle,hS,hn,q⟩:=h;refine⟨_,(ah (av (og (aH bZ (aq lT U bl.len_ boot_len (aa (cw (lQ U) U bl.set_ PyProof.Rows.boot_set (aa (pv 1) ae)) ae)) af (aJ _)) (bq (aa aP (aa (aw aD (pv 1) af (λ_ _=>U)) ae))) (bX (v:=.ref Y.m) U bl.CLASH_ U)))),?_⟩;refine⟨_,U,c,_,U,hS,(by rw[length_cons];lia),λl hl=>?_⟩;refine⟨l,_,U,ab,(by rw[length_cons];lia),U,_,U,?_⟩;have sl:ar H (upd H l (uv P w l (n :: ns))):=ag hl _;refine b7 (λg=>?_) (λg=>?_)
 ·have g':V.int _=V.int _:=gm g;have g2:cntK (n :: ns) (n :: ns).length=1:=by injection g' with g';lia
  have g3:=mC.mp g2;have e:wf 2 b.1 b.2 (n :: ns)=say n:=by
   show je _=_;unfold je;rw[if_pos (jD.mp g3),mJ g3]
  rw[e]at q;exact⟨_,U,c,_,_,_,U,U,sl.seq hS,at0 n ns,aV,λt ht=>q t _ (sl.trans (ag ht _)) (SqT.of ab)⟩
 ·have g2:¬ cntK (n :: ns) (n :: ns).length=1:=λz=>(i5 g) (by rw[z];rfl)
  have e:wf 2 b.1 b.2 (n :: ns)=jT:=by
   show je _=_;unfold je;rw[if_neg λz=>g2 (mC.mpr (jD.mpr z))]
  rw[e]at q;exact q _ _ sl (bl.q_CLASH.sq _)
theorem Af(F:Fun K "chosen" "Low.chosen" Y11 f fd) (bl:Bl K mg Y)  : aK P w K mg base CX0 1 f fd ["self","codes","outcome"] (J7 K Y):=by
 refine F.ok Z11 (λvs H Q E h=>?_) (λcdv A outer s H vs Q E hr h=>?_)
 ·obtain⟨x,c,o,n,ns,b,rfl,⟨dx,z,hx⟩,ho,hle,hS,hn,q⟩:=h;rfl
 obtain⟨x,c,o,n,ns,b,rfl,⟨dx,z,hx⟩,ho,hle,hS,hn,q⟩:=h;refine⟨_,(ah (av (bq (aa aP (aa (aq (fe U) U bl.min_ PyProof.Rows.boot_min (aa (pv 1) ae)) ae))))),?_⟩;refine⟨_,U,c,_,U,hS,succ_pos _,λm h1 h2=>⟨aV,λt ht=>q t _ (ag ht _) (SqT.of ?_)⟩⟩;rw[ab,lg h1 h2];rfl
theorem O_7(F:Fun K "chosen" "High.chosen" Y7 f fd) (bl:Bl K mg Y)  : aK P w K mg base CX0 1 f fd ["self","codes","outcome"] (J3 K Y):=by
 refine F.ok Z7 (λvs H Q E h=>?_) (λcdv A outer s H vs Q E hr h=>?_)
 ·obtain⟨x,c,o,n,ns,b,rfl,⟨dx,z,hx⟩,ho,hle,hS,hn,q⟩:=h;rfl
 obtain⟨x,c,o,n,ns,b,rfl,⟨dx,z,hx⟩,ho,hle,hS,hn,q⟩:=h;refine⟨_,(ah (av (bq (aa aP (aa (aq (ff U) U bl.max_ PyProof.Rows.boot_max (aa (pv 1) ae)) ae))))),?_⟩;refine⟨_,U,c,_,U,hS,succ_pos _,λm h1 h2=>⟨aV,λt ht=>q t _ (ag ht _) (SqT.of ?_)⟩⟩;rw[ab,lh h1 h2];rfl
theorem Ag(F:Fun K "chosen" "Sum.chosen" Y16 f fd) (bl:Bl K mg Y)  : aK P w K mg base CX0 1 f fd ["self","codes","outcome"] (J11 K Y):=by
 refine F.ok Z16 (λvs H Q E h=>?_) (λcdv A outer s H vs Q E hr h=>?_)
 ·obtain⟨x,c,o,n,ns,b,rfl,⟨dx,z,hx⟩,⟨C,hC,dy,fs,ho,hlo,hhi,_⟩,hle,hS,hn,q⟩:=h;rfl
 obtain⟨x,c,o,n,ns,b,rfl,⟨dx,z,hx⟩,⟨C,hC,dy,fs,ho,hlo,hhi,_⟩,hle,hS,hn,q⟩:=h;refine⟨_,(ah (av (bq (aa aP (aa (aq (gK U) U bl.max_ PyProof.Rows.boot_max (aa (aN (pv 2) U) (aa (aq (gL U) U bl.min_ PyProof.Rows.boot_min (aa (aN (pv 2) U) (aa (aq (fb U) U bl.sum_ PyProof.Rows.boot_sum (aa (pv 1) ae)) ae))) ae))) ae))))),?_⟩;have hk:Cls K C/\NoAttr K C (Str.ofString "low")/\NoAttr K C (Str.ofString "high"):=by
  rcases hC with rfl|rfl
  ·exact⟨bl.k_Numbers,bl.na_Numbers_low,bl.na_Numbers_high⟩
  ·exact⟨bl.k_Words,bl.na_Words_low,bl.na_Words_high⟩
 refine⟨_,U,o,_,_,_,_,U,ho,hk.1,hk.2.1,hlo,_,U,o,_,_,_,_,U,ho,hk.1,hk.2.2,hhi,_,U,c,_,U,hS,_,_,U,_,_,U,?_⟩;refine⟨aV,λt ht=>q t _ (ag ht _) (SqT.of ?_)⟩;rw[ab];have e:near b.1 b.2 (n :: ns).sum=if (if (n :: ns).sum<b.2 then(n :: ns).sum else b.2)>b.1 then(if (n :: ns).sum<b.2 then(n :: ns).sum else b.2)else b.1:=by
  unfold near;generalize (n :: ns).sum=t;split <;> split <;> split <;> first|rfl|lia|(split <;> lia)
 show _=some (HO.tup (tp (say (near b.1 b.2 (n :: ns).sum))));rw[e];rfl
theorem Ah(F:Fun K "is_word" "is_word" Y38 f fd) (bl:Bl K mg Y)(pe:Callee P w K mg base 1 "all_among" ["text","signs"] (fP K Y)):aK P w K mg base CX0 2 f fd ["text"] (fT K Y):=by
 refine F.okA Z38 λcdv A outer s H vs Q E hr h=>?_
 obtain⟨z,rfl,hz,q⟩:=h;refine⟨_,(ah (av (fI (kq dq dq af (aq mZ U bl.len_ boot_len (aa (pv 0) ae)) (ow U bl.MOST_SIGNS_)) (fI (dJ ko (pv 0) aP (aJ _)) (iq (aL pe hr U (aa (pv 0) (aa (ow U bl.SMALL_LETTERS_) ae)))))))),?_⟩;refine⟨_,U,_,U,big hz,_,_,U,U,_,U,?_⟩;refine b7 (λg1=>?_) (λg1=>?_)
 ·refine⟨_,_,U,U,_,U,?_⟩;refine b7 (λg2=>?_) (λg2=>?_)
  ·refine⟨_,U,U,_,U,?_⟩;refine b7 (λg3=>?_) (λg3=>?_)
   ·refine⟨_,U,z,lets,U,?_⟩;have e:isw z=kF z lets:=by unfold isw;rw[g1,g2,g3];rfl
    rw[e]at q;exact q
   ·have e:isw z=false:=by unfold isw;rw[eq_false_iff.mpr g3,Bool.false_and,Bool.and_false,Bool.and_false]
    rw[e]at q;exact q
  ·have e:isw z=false:=by unfold isw;rw[eq_false_iff.mpr g2,Bool.false_and,Bool.and_false]
   rw[e]at q;exact q
 ·have e:isw z=false:=by unfold isw;rw[eq_false_iff.mpr g1,Bool.false_and]
  rw[e]at q;exact⟨_,U,bb q⟩
theorem Ai(F:Fun K "without" "without" Y77 f fd) (bl:Bl K mg Y)(nO:Callee P w K mg base 1 "both" ["ones","others"] (gM K Y)) (wU:Callee P w K mg base 1 "gaps" ["spans","low","high"] (nK K Y)):aK P w K mg base CX0 2 f fd ["ones","others"] (dZ K Y):=by
 refine F.okA Z77 λcdv A outer s H vs Q E hr h=>?_
 obtain⟨a,b,xs,ys,A0,B0,rfl,hA,hB,PA,PB,aA,aB,hl1,hl2,q⟩:=h
 refine⟨_,(aj (aM (bE (dr (pv 0) (by intro _;rfl)))
  (ah (av (bf ae)))
  aE)
  (ah (av (aL nO hr U (aa (pv 0) (aa (aL wU hr U (aa (pv 1) (aa (aw aO (aw aD (pv 0) af (λ_ _=>U)) af (λ_ _=>U)) (aa (aw aO (aw aD (pv 0) (fv df af) (λ_ _=>U)) af (λ_ _=>U)) ae)))) ae)))))),?_⟩
 refine⟨_,U,!xs.isEmpty,.inl ⟨xs,hA,U⟩,?_⟩;by_cases hne:xs=[]
 ·have eE:(!xs.isEmpty)=false:=by rw[hne];rfl
  rw[eE];refine⟨(by show 0<=sizeLine;decide),λr hr'=>?_⟩;have eA:A0=[]:=by
   have:=PA.length;rw[hne]at this;exact List.eq_nil_of_length_eq_zero this.symm
  exact q r _ [] [] (ag hr' _) hr' ab .nil Apart.nil (λn=>by rw[eA];rfl) (zero_le _)
 ·have eE:(!xs.isEmpty)=true:=by cases xs with|nil=>exact absurd U hne|cons _ _=>rfl
  rw[eE];refine bb ?_;obtain⟨xs',rl,A',l,ex,eA,PA2,hrl⟩:=PL.last PA hne;obtain⟨p0,r0,f1,f2,f3⟩:=PA.get (i:=0) (x:=xs[0]'(by cases xs with|nil=>exact absurd U hne|cons _ _=>simp)) (BP _);have v0:atI xs 0=some (.ref r0):=by rw[←f2];exact ba (j:=0) (BP _)
  have vl:atI xs (-1)=some (.ref rl):=by rw[ex];exact cQ _ _
  refine⟨_,U,_,U,_,U,a,_,_,_,U,U,hA,v0,r0,_,_,_,U,U,SqT.of f3,z0 _ _,_,U,_,U,a,_,_,_,U,U,hA,vl,rl,_,_,_,U,U,SqT.of hrl,z1 _ _,?_⟩;refine⟨b,ys,B0,p0.1,l.2,U,hB,PB,aB,by lia,λr1 H1 zs F1 s1 hr1 e1 P1 ap1 Aj l1=>?_⟩;refine⟨a,r1,xs,zs,A0,F1,U,s1.seq hA,SqL.of e1,PA.mono s1.tups,P1,aA,ap1,by lia,λr2 H2 ws R s2 hr2 e2 P2 ap2 Ak l2=>?_⟩;refine q r2 H2 ws R (s1.trans s2) (s1.free hr2) e2 P2 ap2 (λn=>?_) (by lia);rw[Ak n,Aj n];cases z:inP A0 n with
  |false=>rfl
  |true =>
   obtain⟨A1,rfl⟩:∃A1,A0=p0 :: A1:=by
    cases A0 with
    |nil=>cases f1
    |cons y ys=>cases f1;exact⟨ys,U⟩
   have en:=aA.ends (M:=A') (z:=l) eA z;rw[decide_eq_true en.1,decide_eq_true en.2];rfl
theorem Al(F:Fun K "fits" "fits" Y34 f fd) (bl:Bl K mg Y)(uJ:Callee P w K mg base 1 "holds" ["spans","number"] (lz K Y)):aK P w K mg base CX0 2 f fd ["table","k","codes"] (nL K Y):=by
 refine F.okA Z34 λcdv A outer s H vs Q E hr h=>?_
 obtain⟨t,rl,c,dx,fs,xs,rws,k,w_,cs,rfl,ht,hf,hl,hR,ek,hS,hlen,q⟩:=h
 refine⟨_,(aj (aF (i:=3) Z34.nd U (Or.inl U) (aw aO (aw aD (aN (pv 0) U) (pv 1) (λ_ _=>U)) af (λ_ _=>U)))
  (aj (bF PassesOwn.never U (iA U bl.zip_ (aa (pv 3) (aa (pv 2) ae))) (cG U (aC (ay (i:=4) Z34.nd U (Or.inl U)) (aC (ay (i:=5) Z34.nd U (Or.inl U)) aZ)))
  (ah (aM (bE (bw (aL uJ hr U (aa (pv 4) (aa (pv 5) ae)))))
  (ah (av cJ))
  aE)))
  (ah (av cJ)))),?_⟩
 obtain⟨r,er,ce,cv,e1,_,e2,hcl⟩:=hR.2 k w_ ek;refine⟨_,U,t,_,_,_,_,U,ht,bl.k_Table,bl.na_Table_rows,hf,_,U,rl,_,_,_,U,U,SqL.of hl,ba er,r,_,_,_,U,U,SqT.of e1,U,?_⟩;refine⟨_,U,_,U,ce,c,U,⟨_,SqL.of e2⟩,⟨_,hS⟩,kg (xs:=cv) (ys:=cs.map V.int) (λi σ H'=>ar H H'/\(∀j,j<i->inP (w_.1.getD j []) (cs.getD j 0)=true)/\∃c4 c5:Option V,σ=[some (.ref t),some (.int k),some (.ref c),some (.ref ce),c4,c5]) ⟨ar.refl _,(λj h=>absurd h (Nat.not_lt_zero j)),_,_,U⟩ (λi σ H' h=>⟨SqL.of (h.1 _ _ e2),h.1.seq hS⟩) (λi x y σ H' T ex ey h hT=>?_) (λσ H' h=>?_)⟩
 ·obtain⟨sm,m4,c4,c5,rfl⟩:=h;have s2:=sm.trans (ag hT (.tup [x,y]));have eT:upd H' T (.tup [x,y]) T=some (.tup [x,y]):=ab;generalize upd H' T (.tup [x,y])=H2 at s2 eT⊢;obtain⟨l,ps,rfl,ep,hl'⟩:=aI.get hcl ex;obtain⟨_,ys,el,hp⟩:=hl'.same s2;obtain⟨n,rfl,en⟩:=of_map ey;refine⟨T,_,U,SqT.of eT,U,_,_,U,_,_,U,U,?_⟩;refine⟨_,U,_,U,l,ys,ps,n,U,SqL.of el,hp,_,U,?_⟩;have g1:w_.1.getD i []=ps:=by rw[getD_eq_getElem?_getD,ep];rfl
  have g2:cs.getD i 0=n:=by rw[getD_eq_getElem?_getD,en];rfl
  cases hin:inP ps n with
  |true =>
   refine bb ⟨s2,λj hj=>?_,_,_,U⟩;by_cases hji:j<i
   ·exact m4 j hji
   ·have:j=i:=by lia
    subst this;rw[g1,g2];exact hin
  |false =>
   refine cZ ?_;have e:gd w_.1 cs=false:=by
    unfold gd;rw[List.all_eq_false];refine⟨i,mem_range.mpr (BQ.mp en).1,?_⟩;rw[g1,g2,hin];decide
   have q2:=q H2 s2;rw[e]at q2;exact q2
 ·obtain⟨sm,m4,c4,c5,rfl⟩:=h;have e:gd w_.1 cs=true:=by
   unfold gd;rw[all_eq_true];intro j hj;refine m4 j ?_;have h1:=hcl.1;rw[length_map];have:=mem_range.mp hj;lia
  have q2:=q H' sm;rw[e]at q2;exact q2
theorem Am(F:Fun K "_law_seeds" "_law_seeds" Y58 f fd) (bl:Bl K mg Y)(bH:Callee P w K mg base 1 "_law_mixed" ["cell","k"] (cz K Y)):aK P w K mg base CX0 2 f fd ["cells","most"] (fU K Y):=by
 refine F.okA Z58 λcdv A outer s H vs Q E hr h=>?_
 obtain⟨a,ns,m,rfl,hS,BH,hm1,hm2,q⟩:=h
 refine⟨_,(aj (aF (i:=2) Z58.nd U (Or.inl U) (bf ae))
  (aj (bF PassesOwn.never U (kh U bl.enumerate_ (aa (pv 0) ae)) (cG U (aC (ay (i:=3) Z58.nd U (Or.inl U)) (aC (ay (i:=4) Z58.nd U (Or.inl U)) aZ)))
  (ah (aM (aH jN (pv 3) (pv 1) (aJ _))
  (ah (bg (f7 PySem.F.plainAttrs_list PySem.F.slot_list_append PySem.F.type_list_append bA (pv 2) (aa (aL bH hr U (aa (pv 4) (aa (ak aQ (pv 3) af) ae))) ae))))
  (aj (aF (i:=5) Z58.nd U (Or.inl U) (ak aQ (pv 3) (pv 1)))
  (ah (pJ (aL bH hr U (aa (ak bx (aw aD (pv 2) (pv 5) (λ_ _=>U)) (ak aQ (pv 4) (ak ir af af))) (aa (ak aQ (pv 3) af) ae))) (pI (pv 2) (pv 5) set_list)))))))
  (ah (av (pv 2))))),?_⟩
 refine⟨(by show 0<=sizeLine;decide),λl hl=>?_⟩;have s0:ar H (upd H l (.lst ([].map V.int))):=ag hl _;have e0:upd H l (.lst ([].map V.int)) l=some (.lst ([].map V.int)):=ab;have ee:upd H l (.lst [])=upd H l (.lst ([].map V.int)):=rfl;rw[ee];clear ee;generalize upd H l (.lst ([].map V.int))=H0 at s0 e0⊢;refine⟨_,U,a,U,⟨_,s0.seq hS⟩,kT (xs:=ns.map V.int) (λi σ H'=>ar H H'/\∃(ms:List Int)(c3 c4 c5:Option V),H' l=some (.lst (ms.map V.int))/\ms.length<=i/\((ms.length:Nat):Int)<=m/\((i:Int) ≥ m->((ms.length:Nat):Int)=m)/\((i:Int)<m->ms.length=i)/\(∀x∈ms,0<=x)/\σ=[some (.ref a),some (.int m),some (.ref l),c3,c4,c5]) ⟨s0,[],_,_,_,e0,le_refl _,by show((0:Nat):Int)<=m;lia,(λh=>by lia),(λh=>U),(λx h=>by cases h),U⟩ (λi σ H' hh=>hh.1.seq hS) (λi y σ H' T ey hh hT=>?_) (λσ H' hh=>?_)⟩
 ·obtain⟨sm,ms,c3,c4,c5,el,hl1,hl2,hl3,hl4,hnn,rfl⟩:=hh;obtain⟨c,rfl,_⟩:=of_map ey;have hin:i<ns.length:=by have:=(BQ.mp ey).1;rw[length_map]at this;exact this
  have s2:=sm.trans (ag hT (.tup [.int (i:Int),.int c]));have eT:upd H' T (.tup [.int (i:Int),.int c]) T=some (.tup [.int (i:Int),.int c]):=ab;have el2:upd H' T (.tup [.int (i:Int),.int c]) l=some (.lst (ms.map V.int)):=bQ el hT;generalize upd H' T (.tup [.int (i:Int),.int c])=H2 at s2 eT el2⊢;have k0:=emod_nonneg (i:Int) (show(50:Int)≠0 by decide);have k1:=emod_lt_of_pos (i:Int) (show(0:Int)<50 by decide);refine⟨T,_,U,SqT.of eT,U,_,_,U,_,_,U,U,?_⟩;refine⟨_,U,_,U,_,_,U,U,_,U,?_⟩;refine b7 (λg=>?_) (λg=>?_)
  ·have g:(i:Int)<m:=of_decide_eq_true g;have hl5:=hl4 g;refine⟨_,U,.inl ⟨U,_,SqL.of el2⟩,_,U,_,U,_,_,U,U,(by show(0:Int)<50;decide),c,_,U,k0,by lia,λr hr0=>?_⟩;refine⟨l,_,_,U,U,el2,ax (by rw[length_map];lia),s2.upd hl,ms++[r],_,_,_,by rw[ab,map_append];rfl,by simp;lia,by simp;lia,(λh=>by simp;lia),(λh=>by simp;lia),(λx hx=>(mem_append.mp hx).elim (hnn x) λz=>by rw[show x=r by simpa using z];exact hr0),U⟩
  ·have g:m<=(i:Int):=by have:¬ ((i:Int)<m):=λz=>g (decide_eq_true z);lia
   have hl5:=hl3 g;have hmp:(0:Int)<m:=by lia
   have j0:=emod_nonneg (i:Int) (Int.ne_of_gt hmp);have j1:=emod_lt_of_pos (i:Int) hmp;obtain⟨x,ex⟩:∃x,ms[((i:Int)%m).toNat]?=some x:=⟨_,BP (by lia)⟩;have ix:atI (ms.map V.int) ((i:Int)%m)=some (.int x):=by
    have:=ba (get_map ex);rw[toNat_of_nonneg j0]at this;exact this
   refine⟨_,U,_,U,_,_,U,U,hmp,?_⟩;refine⟨_,U,_,U,l,_,_,_,U,U,SqL.of el2,ix,_,U,_,_,U,U,⟨by decide,by decide,by decide⟩,_,_,U,U,p10 _,_,_,U,U,_,U,_,_,U,U,(by show(0:Int)<50;decide),_,_,U,k0,by lia,λr hr0=>?_⟩;refine⟨_,U,_,U,l,_,_,((i:Int)%m).toNat,U,U,el2,?_,?_⟩
   ·unfold ixN;rw[if_pos j0,if_pos (by rw[length_map];lia)]
   ·refine⟨s2.upd hl,ms.set ((i:Int)%m).toNat r,_,_,_,by rw[ab,List.map_set],by simp;lia,by simp;lia,(λh=>by simp;lia),(λh=>by lia),(λx hx=>(List.mem_or_eq_of_mem_set hx).elim (hnn x) λz=>by rw[z];exact hr0),U⟩
 ·obtain⟨sm,ms,c3,c4,c5,el,hl1,hl2,hl3,hl4,hnn,rfl⟩:=hh;rw[length_map]at hl1;exact⟨_,U,q l ms H' sm el hl2 hl1 hnn⟩
theorem An(F:Fun K "_law_column" "_law_column" Y46 f fd) (bl:Bl K mg Y)(bH:Callee P w K mg base 1 "_law_mixed" ["cell","k"] (cz K Y)):aK P w K mg base CX0 2 f fd ["m","most"] (fk K Y):=by
 refine F.okA Z46 λcdv A outer s H vs Q E hr h=>?_
 obtain⟨m,most,rfl,hm1,hm6,q⟩:=h
 refine⟨_,(aG (aF (i:=2) Z46.nd U (Or.inl U) (dJ bZ (ak aQ (pv 0) af) af (aJ _)))
  (aG (aF (i:=3) Z46.nd U (Or.inl U) (ak cP (ak aQ (ak bj (pv 0) af) (ak mS af (ak ir af af))) (ak ir af af)))
  (aG (aM (aH bZ (ak aQ (pv 0) af) af (aJ _))
  (ah (aF (i:=3) Z46.nd U (Or.inl U) (ak cP af (ak aQ (ak bj (pv 0) af) af))))
  aE)
  (aG (aM (bw (pv 2))
  (ah (aF (i:=3) Z46.nd U (Or.inl U) af))
  aE)
  (aG (aF (i:=4) Z46.nd U (Or.inl U) (bf ae))
  (aj (bF PassesOwn.never U (dP U bl.range_ (aa (ak bx af (ak aQ (ak bj (pv 0) af) (pv 1))) ae)) (ay (i:=5) Z46.nd U (Or.inl U))
  (aG (aF (i:=0) Z46.nd U (Or.inl U) (aL bH hr U (aa (pv 0) (aa (ak bx af (pv 5)) ae))))
  (aG (aF (i:=6) Z46.nd U (Or.inl U) (aw aD (bf (aa af (aa af (aa (ak bx af (ak aQ (ak bj (pv 0) af) af)) (aa (ak bx af (ak aQ (ak bj (pv 0) af) (ak ir af af))) ae))))) (ak aQ (pv 0) af) (λ_ _=>U)))
  (aG (aM (bw (pv 2))
  (ah (aF (i:=6) Z46.nd U (Or.inl U) (ak bx af (ak aQ (pv 0) af))))
  aE)
  (aj (bg (f7 PySem.F.plainAttrs_list PySem.F.slot_list_append PySem.F.type_list_append bA (pv 4) (aa (bq (aa (pv 3) (aa (ak cP (ak bx (pv 3) (pv 6)) af) ae))) ae)))
  (ah (aF (i:=3) Z46.nd U (Or.inl U) (ak bx (pv 3) (pv 6)))))))))
  (ah (av (bf (aa (pv 4) (aa (pv 2) (aa (ak bj (pv 0) af) ae)))))))))))),?_⟩
 have hmp:(0:Int)<most:=by lia
 refine⟨λσ' H'=>H'=H/\∃w:Bool,σ'=[some (.int m),some (.int most),some (.bl w),none,none,none,none],⟨_,U,_,_,U,U,(by show(0:Int)<3;decide),U,U,_,U⟩,?_⟩;rintro σ1 H1 ⟨rfl,w_,rfl⟩;have Ao:(0:Int)<2*10^(59:Int).toNat:=by have:=p10 (59:Int).toNat;lia
 refine⟨λσ' H'=>H'=H1/\∃a:Int,σ'=[some (.int m),some (.int most),some (.bl w_),some (.int a),none,none,none],⟨_,U,_,_,U,U,⟨by decide,by decide⟩,_,_,U,U,⟨by decide,by decide,by decide⟩,_,_,U,U,.inl ⟨by decide,by decide⟩,_,_,U,U,Ao,_,_,U,U,⟨by decide,by decide,by decide⟩,_,_,U,U,U,_,U⟩,?_⟩;rintro σ2 H2 ⟨rfl,a1,rfl⟩;refine⟨λσ' H'=>H'=H2/\∃a:Int,σ'=[some (.int m),some (.int most),some (.bl w_),some (.int a),none,none,none],⟨_,U,_,_,U,U,(by show(0:Int)<3;decide),U,_,U,b7 (λ_=>⟨_,U,_,_,U,U,⟨by decide,by decide⟩,_,_,U,U,(by show(0:Int)<5;decide),_,_,U,U,U,_,U⟩) (λ_=>⟨U,_,U⟩)⟩,?_⟩;rintro σ3 H3 ⟨rfl,a2,rfl⟩;refine⟨λσ' H'=>H'=H3/\∃a:Int,(w_=true->a=0)/\σ'=[some (.int m),some (.int most),some (.bl w_),some (.int a),none,none,none],⟨_,U,_,U,?_⟩,?_⟩
 ·cases w_ with
  |true=>exact cZ ⟨U,0,(λ_=>U),U⟩
  |false=>exact bb ⟨U,a2,(λh=>by cases h),U⟩
 rintro σ4 H4 ⟨rfl,a0,ha0,rfl⟩;refine⟨λσ' H'=>ar H4 H'/\∃pl:Addr,H4 pl=none/\H' pl=some (.lst [])/\σ'=[some (.int m),some (.int most),some (.bl w_),some (.int a0),some (.ref pl),none,none],⟨(by show 0<=sizeLine;decide),λl hl=>⟨ag hl _,l,hl,ab,U⟩⟩,?_⟩;rintro σ5 H5 ⟨s5,pl,npl,epl,rfl⟩;have n0:=emod_nonneg (m / 3) (Int.ne_of_gt hmp);have n1:=emod_lt_of_pos (m / 3) hmp;refine⟨_,U,_,_,U,U,⟨by decide,by decide⟩,_,U,_,_,U,U,hmp,_,_,U,U,_,U,(by show -(2^62)<=1+m / 3%most;lia),(by show 1+m / 3%most<2^62;lia),md (λi σ H'=>ar H4 H'/\∃(m2 at_:Int)(c5 c6:Option V)(ys:List V)(ps:Prs),H' pl=some (.lst ys)/\PL H' ys ps/\ps.length=i/\Ch ps/\(∀p,ps[ps.length-1]?=some p->at_=p.2+1)/\(w_=true->(∀p,ps[0]?=some p->p.1=0)/\(i=0->at_=0)/\at_<=3*(i:Int)/\∀(j:Nat)(p:Int×Int),ps[j]?=some p->p.2<3*(i:Int))/\σ=[some (.int m2),some (.int most),some (.bl w_),some (.int at_),some (.ref pl),c5,c6]) ⟨s5,m,a0,_,_,[],[],epl,.nil,U,Ch.nil,(λp e=>by simp at e),(λhw=>⟨(λp e=>by simp at e),(λ_=>ha0 hw),(by rw[ha0 hw];decide),(λj p e=>by simp at e)⟩),U⟩ (λi σ H' hi h=>?_) (λσ H' h=>?_)⟩
 ·obtain⟨sm,m2,at_,c5,c6,ys,ps,es,hp,hlen,hch,vm,hw,rfl⟩:=h;have hi6:i<6:=by lia
  refine⟨λσ' H6=>H6=H'/\∃m3:Int,σ'=[some (.int m3),some (.int most),some (.bl w_),some (.int at_),some (.ref pl),some (.int (0+(i:Int))),c6],⟨_,U,_,U,_,_,U,U,_,_,U,(by show(0:Int)<=10+(0+(i:Int));lia),(by show(10:Int)+(0+(i:Int))<=100;lia),λr _=>⟨U,r,U⟩⟩,?_⟩;rintro σ6 H6 ⟨rfl,m3,rfl⟩;refine⟨λσ' H7=>ar H6 H7/\∃wd_:Int,1<=wd_/\σ'=[some (.int m3),some (.int most),some (.bl w_),some (.int at_),some (.ref pl),some (.int (0+(i:Int))),some (.int wd_)],?_,?_⟩
  ·refine⟨_,U,_,_,U,U,⟨by decide,by decide⟩,_,_,U,U,(by show(0:Int)<9;decide),_,_,U,U,_,U,_,_,U,U,⟨by decide,by decide⟩,_,_,U,U,⟨by decide,by decide,by decide⟩,_,_,U,U,p10 _,_,_,U,U,(by show 4<=sizeLine;decide),λp hp_=>?_⟩;have h0:=emod_nonneg m3 (show(4:Int)≠0 by decide);have h1:=emod_lt_of_pos m3 (show(0:Int)<4 by decide);have b1:=emod_nonneg (m3 / 4) (show(9:Int)≠0 by decide);have b2:=emod_nonneg (m3 / 4) (Int.ne_of_gt (p10 (58:Int).toNat));obtain⟨v,hv,hv1⟩:∃v:Int,atI [V.int 1,.int 2,.int (1+m3 / 4%9),.int (1+m3 / 4%10^(58:Int).toNat)] (m3%4)=some (.int v)/\1<=v:=by
    generalize m3%4=k at h0 h1⊢;generalize m3 / 4%9=x1 at b1⊢;generalize m3 / 4%10^(58:Int).toNat=x2 at b2⊢;have:k=0\/k=1\/k=2\/k=3:=by lia
    rcases this with rfl|rfl|rfl|rfl
    ·exact⟨_,U,by decide⟩
    ·exact⟨_,U,by decide⟩
    ·exact⟨_,U,by lia⟩
    ·exact⟨_,U,by lia⟩
   exact⟨_,U,_,_,U,U,(by show(0:Int)<4;decide),p,_,_,_,U,U,SqL.of ab,hv,ag hp_ _,v,hv1,U⟩
  rintro σ7 H7 ⟨s7,v7,hv7,rfl⟩;refine⟨λσ' H8=>H8=H7/\∃v:Int,1<=v/\(w_=true->v<=3)/\σ'=[some (.int m3),some (.int most),some (.bl w_),some (.int at_),some (.ref pl),some (.int (0+(i:Int))),some (.int v)],⟨_,U,_,U,?_⟩,?_⟩
  ·have h0:=emod_nonneg m3 (show(3:Int)≠0 by decide);have h1:=emod_lt_of_pos m3 (show(0:Int)<3 by decide);cases w_ with
   |true=>exact cZ ⟨_,U,_,_,U,U,(by show(0:Int)<3;decide),_,_,U,U,U,_,by lia,λ_=>by lia,U⟩
   |false=>exact bb ⟨U,v7,hv7,(λh=>by cases h),U⟩
  rintro σ8 H8 ⟨rfl,v,hv1,hv3,rfl⟩;have es7:=s7 _ _ es;refine⟨_,U,.inl ⟨U,_,SqL.of es7⟩,_,U,_,U,_,U,_,_,U,U,_,_,U,U,aV,λt ht=>?_⟩;have x1:upd H8 t (.tup [.int at_,.int (at_+v-1)]) pl=some (.lst ys):=bQ es7 ht;have hyl:ys.length=i:=by rw[hp.length,hlen]
  refine⟨pl,_,_,U,U,x1,ax (by lia),?_⟩;have st:da H8 (upd (upd H8 t (.tup [.int at_,.int (at_+v-1)])) pl (.lst (ys++[.ref t]))):=(cK ht).trans (aW x1);have atp:∀(j:Nat)(p:Int×Int),(ps++[(at_,at_+v-1)])[j]?=some p->ps[j]?=some p/\j<ps.length\/p=(at_,at_+v-1)/\j=ps.length:=λj p e=>by
   by_cases hj:j<ps.length
   ·rw[getElem?_append_left hj]at e;exact .inl ⟨e,hj⟩
   ·have:j=ps.length:=by have:=(BQ.mp e).1;simp at this;lia
    subst this;simp at e;exact .inr ⟨e.symm,U⟩
  refine⟨_,U,_,U,_,_,U,U,((sm.trans s7).trans (ag ht _)).upd npl,m3,_,_,_,ys++[.ref t],ps++[(at_,at_+v-1)],ab,((hp.mono s7.tups).mono st).snoc (aW x1 _ _ ab),by simp[hlen],hch.snoc (by lia) vm,?_,λhw'=>?_,U⟩
  ·intro p e;rw[length_append,length_singleton,Nat.add_sub_cancel]at e;simp at e;subst e;show at_+v=at_+v-1+1;lia
  ·obtain⟨w1,w2,w3,w4⟩:=hw hw';have v3:=hv3 hw';refine⟨λp e=>?_,λh=>by lia,by lia,λj p e=>?_⟩
   ·rcases atp 0 p e with⟨e,_⟩|⟨rfl,hz⟩
    ·exact w1 p e
    ·exact w2 (by lia)
   ·rcases atp j p e with⟨e,_⟩|⟨rfl,hz⟩
    ·have:=w4 j p e;lia
    ·show at_+v-1<_;lia
 ·obtain⟨sm,m2,at_,c5,c6,ys,ps,es,hp,hlen,hch,vm,hw,rfl⟩:=h;have hn1:1<=(1+m / 3%most).toNat/\(1+m / 3%most).toNat<=6:=by lia
  refine⟨_,U,_,U,_,U,_,_,U,U,⟨by decide,by decide⟩,(by show 3<=sizeLine;decide),λl hl=>q l ⟨ps,w_,m2 / 8⟩ _ (sm.trans (ag hl _)) ⟨pl,ys,sm.free hl,npl,ab,bQ es hl,hp.mono (ag hl _).tups⟩ ⟨by show 1<=ps.length;lia,by show ps.length<=6;lia,hch,λh=>(hw h).1,λh j p e=>?_⟩⟩;have:=(hw h).2.2.2 j p e;lia
theorem Ap(F:Fun K "_law_bit_row" "_law_bit_row" Y42 f fd) (bl:Bl K mg Y)(bH:Callee P w K mg base 1 "_law_mixed" ["cell","k"] (cz K Y)):aK P w K mg base CX0 2 f fd ["m","columns","out","last"] (d6 K Y):=by
 refine F.okA Z42 λcdv A outer s H vs Q E hr h=>?_
 obtain⟨m,cl,ol,la,xs,cs,oc,rfl,hcl,hcs,hok,h1,h4,⟨opl,ots,_,_,eol,uK,hop⟩,ook,hm0,hla,q⟩:=h
 refine⟨_,(aG (aF (i:=4) Z42.nd U (Or.inl U) (bf ae))
  (aj (aF (i:=5) Z42.nd U (Or.inl U) (pv 0))
  (aG (bF PassesOwn.never U (kh U bl.enumerate_ (aa (pv 1) ae)) (cG U (aC (ay (i:=6) Z42.nd U (Or.inl U)) (aC (ay (i:=7) Z42.nd U (Or.inl U)) aZ)))
  (aG (aF (i:=0) Z42.nd U (Or.inl U) (aL bH hr U (aa (pv 0) (aa (ak bx af (pv 6)) ae))))
  (aG (aF (i:=8) Z42.nd U (Or.inl U) (ak cP (ak pM af (aq az U bl.len_ boot_len (aa (aw aD (pv 7) af (λ_ _=>U)) ae))) af))
  (ah (bg (f7 PySem.F.plainAttrs_list PySem.F.slot_list_append PySem.F.type_list_append bA (pv 4) (aa (aw aD (bf (aa (ak aQ (ak bj (pv 0) af) (ak bx (pv 8) af)) (aa (ak aQ (ak bj (pv 0) af) (ak bx (pv 8) af)) (aa (pv 8) (aa (ak aQ (ak bj (pv 0) af) (pv 8)) ae))))) (ak aQ (pv 0) af) (λ_ _=>U)) ae)))))))
  (aG (aF (i:=9) Z42.nd U (Or.inl U) (aw aO (aw aD (aw aD (pv 2) af (λ_ _=>U)) (ak aQ (ak bj (pv 0) af) (aq az U bl.len_ boot_len (aa (aw aD (pv 2) af (λ_ _=>U)) ae))) (λ_ _=>U)) (ak aQ (ak bj (pv 0) af) af) (λ_ _=>U)))
  (aG (aM (PW.pt (cM (aH gj (aq az U bl.len_ boot_len (aa (pv 3) ae)) af (aJ _)) (cb (aH bZ (ak aQ (pv 5) af) af (aJ _)))))
  (aG (aF (i:=10) Z42.nd U (Or.inl U) (ak aQ (ak bj (pv 5) af) (aq az U bl.len_ boot_len (aa (pv 1) ae))))
  (aj (aF (i:=4) Z42.nd U (Or.inl U) (ak cS (ak cS (cE dk (aw aO (pv 3) af (λ_ _=>U)) di (dj (pv 10))) (bf (aa (aw aD (pv 4) (pv 10) (λ_ _=>U)) ae))) (cE dk (aw aO (pv 3) af (λ_ _=>U)) (dj (ak bx (pv 10) af)) di)))
  (ah (aM (aH gj (ak aQ (ak bj (pv 5) af) af) af (aJ _))
  (ah (aF (i:=9) Z42.nd U (Or.inl U) (aw aO (pv 3) af (λ_ _=>U))))
  aE))))
  aE)
  (ah (av (bq (aa (pv 4) (aa (pv 9) ae)))))))))),?_⟩
 have hxl:xs.length=cs.length:=hcs.1;refine⟨λσ' H'=>ar H H'/\∃bl:Addr,H bl=none/\H' bl=some (.lst (vN []))/\σ'=[some (.int m),some (.ref cl),some (.ref ol),some (.ref la),some (.ref bl),none,none,none,none,none,none],⟨(by show 0<=sizeLine;decide),λl hl=>⟨ag hl _,l,hl,ab,U⟩⟩,?_⟩;rintro σ1 H1 ⟨s1,bl,nbl,ebl,rfl⟩;refine⟨_,U,λσ' H'=>ar H H'/\∃(m2:Int)(bs:List Nat)(c6 c7 c8:Option V),0<=m2/\H' bl=some (.lst (vN bs))/\bs.length=cs.length/\(∀(j b:Nat)(c:Col),bs[j]?=some b->cs[j]?=some c->b<2^c.prs.length)/\σ'=[some (.int m2),some (.ref cl),some (.ref ol),some (.ref la),some (.ref bl),some (.int m),c6,c7,c8,none,none],?_,?_⟩
 ·refine⟨_,U,cl,U,⟨_,SqL.of (s1 _ _ hcl)⟩,kT (xs:=xs) (λi σ H'=>ar H H'/\∃(m2:Int)(bs:List Nat)(c6 c7 c8:Option V),0<=m2/\H' bl=some (.lst (vN bs))/\bs.length=i/\(∀(j b:Nat)(c:Col),bs[j]?=some b->cs[j]?=some c->b<2^c.prs.length)/\σ=[some (.int m2),some (.ref cl),some (.ref ol),some (.ref la),some (.ref bl),some (.int m),c6,c7,c8,none,none]) ⟨s1,m,[],_,_,_,hm0,ebl,U,(λj b c e=>by simp at e),U⟩ (λi σ H' hh=>SqL.of (hh.1 _ _ hcl)) (λi y σ H' T ey hh hT=>?_) (λσ H' hh=>by rw[hxl]at hh;exact hh)⟩;obtain⟨sm,m2,bs,c6,c7,c8,hm2,eb,hlen,hlt,rfl⟩:=hh;obtain⟨l,c,rfl,ec,pl,ts,_,_,el,epl,hp⟩:=aI.get hcs ey;have hi:i<xs.length:=(BQ.mp ey).1;have ok:=hok c (BR ec);have k1:=ok.some_;have k6:=ok.few;have s2:=sm.trans (ag hT (.tup [.int (i:Int),.ref l]));have eT:upd H' T (.tup [.int (i:Int),.ref l]) T=some (.tup [.int (i:Int),.ref l]):=ab;have eb2:upd H' T (.tup [.int (i:Int),.ref l]) bl=some (.lst (vN bs)):=bQ eb hT;generalize upd H' T (.tup [.int (i:Int),.ref l])=H2 at s2 eT eb2⊢;refine⟨T,_,U,SqT.of eT,U,_,_,U,_,_,U,U,?_⟩;refine⟨λσ' H3=>H3=H2/\∃m3:Int,0<=m3/\σ'=[some (.int m3),some (.ref cl),some (.ref ol),some (.ref la),some (.ref bl),some (.int m),some (.int (i:Int)),some (.ref l),c8,none,none],⟨_,U,_,U,_,_,U,U,_,_,U,(by show(0:Int)<=20+(i:Int);lia),(by show(20:Int)+(i:Int)<=100;lia),λr hr0=>⟨U,r,hr0,U⟩⟩,?_⟩;rintro σ3 H3 ⟨rfl,m3,hm3,rfl⟩;have htl:=hp.length;refine⟨λσ' H4=>H4=H3/\σ'=[some (.int m3),some (.ref cl),some (.ref ol),some (.ref la),some (.ref bl),some (.int m),some (.int (i:Int)),some (.ref l),some (.int (((2^c.prs.length:Nat):Int)-1)),none,none],?_,?_⟩
  ·refine⟨_,U,l,_,_,_,U,U,SqL.of (s2 _ _ el),U,pl,_,U,.inl (SqL.of (s2 _ _ epl)),_,_,U,U,⟨by lia,by lia,by decide⟩,_,_,U,U,U,?_⟩;rw[htl,toNat_natCast];simp
  rintro σ4 H4 ⟨rfl,rfl⟩;have he:(0:Int)<((2^c.prs.length:Nat):Int)-1:=by
   have:=Nat.pow_le_pow_right (show 0<2 by decide) k1;rw[Nat.pow_one]at this;generalize 2^c.prs.length=W at this⊢;lia
  have hv0:0<=m3 / 8:=Int.ediv_nonneg hm3 (by decide);obtain⟨b,hb,hbe⟩:=four he hv0 (m:=m3);refine⟨_,U,.inl ⟨U,_,SqL.of eb2⟩,_,U,_,_,U,U,⟨by decide,by decide⟩,_,U,_,_,U,U,_,_,U,U,(by lia),_,U,_,_,U,U,⟨by decide,by decide⟩,_,U,_,_,U,U,_,_,U,U,(by lia),_,U,_,U,_,_,U,U,⟨by decide,by decide⟩,_,U,_,_,U,U,he,(by show 4<=sizeLine;decide),λp hp_=>?_⟩;refine⟨_,U,_,_,U,U,(by show(0:Int)<4;decide),p,_,_,_,U,U,SqL.of ab,hb,bl,_,_,U,U,bQ eb2 hp_,ax (by rw[dW];lia),?_⟩;refine⟨(s2.trans (ag hp_ _)).upd nbl,m3,bs++[b],_,_,_,hm3,by rw[ab,←ny];rfl,by simp[hlen],λj b' c' e1 e2=>?_,U⟩;by_cases hj:j<bs.length
  ·rw[getElem?_append_left hj]at e1;exact hlt j b' c' e1 e2
  ·have hj2:j=bs.length:=by have:=(BQ.mp e1).1;simp at this;lia
   subst hj2;simp at e1;subst e1;rw[hlen,ec]at e2;cases e2;generalize 2^c.prs.length=W at hbe⊢;lia
 rintro σ5 H5 ⟨s5,m5,bs,c6,c7,c8,hm5,eb,hlen,hlt,rfl⟩;have BI:=hop.length;have o1:=ook.some_;have wV:(0:Int)<((ots.length:Nat):Int):=by lia
 refine⟨λσ' H'=>H'=H5/\∃cd:Int,oc.lo<=cd/\cd<=oc.hi/\σ'=[some (.int m5),some (.ref cl),some (.ref ol),some (.ref la),some (.ref bl),some (.int m),c6,c7,c8,some (.int cd),none],?_,?_⟩
 ·obtain⟨rp,p,e1,e2,e3⟩:=vk hop (emod_nonneg (m5 / 9) (Int.ne_of_gt wV)) (emod_lt_of_pos (m5 / 9) wV);obtain⟨x,ex,hx⟩:=yg (p:=p) (m:=m5 / 7);have hin:=ook.inn e2;have hle:=ook.ch.le _ _ e2;refine⟨_,U,ol,_,_,_,U,U,SqL.of (s5 _ _ eol),U,_,U,_,_,U,U,⟨by decide,by decide⟩,_,U,ol,_,_,_,U,U,SqL.of (s5 _ _ eol),U,opl,_,U,.inl (SqL.of (s5 _ _ uK)),_,_,U,U,wV,opl,_,_,_,U,U,SqL.of (s5 _ _ uK),e1,_,U,_,_,U,U,⟨by decide,by decide⟩,_,_,U,U,(by show(0:Int)<2;decide),rp,_,_,_,U,U,SqT.of (s5 _ _ e3),ex,U,x,?_,?_,U⟩
  ·rcases hx with rfl|rfl <;> lia
  ·rcases hx with rfl|rfl <;> lia
 rintro σ6 H6 ⟨rfl,cd,cd0,cd1,rfl⟩;refine⟨λσ' H'=>ar H H'/\∃(bl2:Addr)(w:BW)(c10:Option V),H bl2=none/\H' bl2=some (.lst (vN w.1))/\eP cs oc w/\σ'=[some (.int m5),some (.ref cl),some (.ref ol),some (.ref la),some (.ref bl2),some (.int m),c6,c7,c8,some (.int w.2),c10],?_,?_⟩
 ·have plain:ar H H6/\∃(bl2:Addr)(w:BW)(c10:Option V),H bl2=none/\H6 bl2=some (.lst (vN w.1))/\eP cs oc w/\([some (.int m5),some (.ref cl),some (.ref ol),some (.ref la),some (.ref bl),some (.int m),c6,c7,c8,some (.int cd),none]:St)=[some (.int m5),some (.ref cl),some (.ref ol),some (.ref la),some (.ref bl2),some (.int m),c6,c7,c8,some (.int w.2),c10]:=⟨s5,bl,(bs,cd),none,nbl,eb,⟨hlen,hlt,cd0,cd1⟩,U⟩;rcases hla with hla|⟨w0,⟨bl0,f1,_,f2⟩,ok0⟩
  ·exact⟨_,U,la,_,U,.inl (SqL.of (s5 _ _ hla)),_,_,U,U,_,U,bI (by simp) (bb plain)⟩
  ·have f1':=s5 _ _ f1;have f2':=s5 _ _ f2;refine⟨_,U,la,_,U,.inr (SqT.of f1'),_,_,U,U,_,U,eL (by simp) ?_⟩;refine⟨_,U,_,_,U,U,(by show(0:Int)<2;decide),U,_,U,b7 (λ_=>?_) (λ_=>plain)⟩;have hxp:(0:Int)<((xs.length:Nat):Int):=by lia
   have a0:=emod_nonneg (m / 2) (Int.ne_of_gt hxp);have a1:=emod_lt_of_pos (m / 2) hxp;refine⟨λσ' H'=>H'=H6/\∃k:Nat,k<cs.length/\σ'=[some (.int m5),some (.ref cl),some (.ref ol),some (.ref la),some (.ref bl),some (.int m),c6,c7,c8,some (.int cd),some (.int (k:Int))],⟨_,U,_,_,U,U,⟨by decide,by decide⟩,_,U,cl,_,U,.inl (SqL.of (s5 _ _ hcl)),_,_,U,U,hxp,U,(m / 2%((xs.length:Nat):Int)).toNat,by lia,by rw[toNat_of_nonneg a0];rfl⟩,?_⟩;rintro σ7 H7 ⟨rfl,k,hk,rfl⟩;obtain⟨b,ebk⟩:∃b,bs[k]?=some b:=⟨_,BP (by lia)⟩;refine⟨_,U,la,_,_,_,U,U,SqT.of f1',U,_,U,_,U,bl0,_,U,SqL.of f2',λc1 hc1=>?_⟩;rw[nA,uE];have t1:=ag hc1 (.lst (vN (w0.1.take k)));have g1:upd H7 c1 (.lst (vN (w0.1.take k))) c1=some (.lst (vN (w0.1.take k))):=ab;generalize upd H7 c1 (.lst (vN (w0.1.take k)))=H8 at t1 g1⊢;refine⟨_,U,_,U,bl,_,_,_,U,U,SqL.of (t1 _ _ eb),ba (yf ebk),(by show 1<=sizeLine;decide),λc2 hc2=>?_⟩;have t2:=ag hc2 (.lst (vN [b]));have g2:upd H8 c2 (.lst (vN [b])) c2=some (.lst (vN [b])):=ab;have ee:upd H8 c2 (.lst [V.int (b:Int)])=upd H8 c2 (.lst (vN [b])):=rfl;rw[ee];clear ee;generalize upd H8 c2 (.lst (vN [b]))=H9 at t2 g2⊢;have lw:=ok0.len;refine⟨c1,c2,_,_,U,U,t2 _ _ g1,g2,le_of_lt (ax (by rw[dW,dW,length_take];simp;lia)),λc3 hc3=>?_⟩;rw[ny];have t3:=ag hc3 (.lst (vN (w0.1.take k++[b])));have g3:upd H9 c3 (.lst (vN (w0.1.take k++[b]))) c3=some (.lst (vN (w0.1.take k++[b]))):=ab;generalize upd H9 c3 (.lst (vN (w0.1.take k++[b])))=H10 at t3 g3⊢;have t10:=(t1.trans t2).trans t3;refine⟨_,U,la,_,_,_,U,U,SqT.of (t10 _ _ f1'),U,_,U,_,_,U,U,_,U,bl0,_,U,SqL.of (t10 _ _ f2'),λc4 hc4=>?_⟩;rw[show((k:Int)+1)=((k+1:Nat):Int) by lia,jh,uF];have t4:=ag hc4 (.lst (vN (w0.1.drop (k+1))));have g4:upd H10 c4 (.lst (vN (w0.1.drop (k+1)))) c4=some (.lst (vN (w0.1.drop (k+1)))):=ab;generalize upd H10 c4 (.lst (vN (w0.1.drop (k+1))))=H11 at t4 g4⊢;refine⟨c3,c4,_,_,U,U,t4 _ _ g3,g4,le_of_lt (ax (by rw[dW,dW,length_append,length_take,length_drop];simp;lia)),λc5 hc5=>?_⟩;rw[ny,wL (by lia)];have t5:=ag hc5 (.lst (vN (w0.1.set k b)));have g5:upd H11 c5 (.lst (vN (w0.1.set k b))) c5=some (.lst (vN (w0.1.set k b))):=ab;have n5:H c5=none:=((s5.trans t10).trans t4).free hc5;generalize upd H11 c5 (.lst (vN (w0.1.set k b)))=H12 at t5 g5⊢;have sA:=((s5.trans t10).trans t4).trans t5;have okb:∀x:Int,oc.lo<=x->x<=oc.hi->eP cs oc (w0.1.set k b,x):=λx x0 x1=>⟨by rw[List.length_set];exact lw,λj b' c' e1 e2=>by
    have e3:(w0.1.set k b)[j]?=some b':=e1;rw[List.getElem?_set]at e3;by_cases hkj:k=j
    ·rw[if_pos hkj,if_pos (by lia)]at e3;cases e3;subst hkj;exact hlt _ _ _ ebk e2
    ·rw[if_neg hkj]at e3;exact ok0.lt j b' c' e3 e2,x0,x1⟩
   refine⟨_,U,_,_,U,U,⟨by decide,by decide⟩,_,_,U,U,(by show(0:Int)<4;decide),_,_,U,U,_,U,b7 (λ_=>?_) (λ_=>?_)⟩
   ·exact⟨_,U,la,_,_,_,U,U,SqT.of (sA _ _ f1),U,sA,c5,(w0.1.set k b,w0.2),_,n5,g5,okb _ ok0.lo ok0.hi,U⟩
   ·exact⟨sA,c5,(w0.1.set k b,cd),_,n5,g5,okb _ cd0 cd1,U⟩
 rintro σ7 H7 ⟨s7,bl2,w_,c10,n2,e2,okw,rfl⟩;exact⟨_,U,_,U,aV,λr hr_=>q r w_ _ (s7.trans (ag hr_ _)) ⟨bl2,ab,n2,bQ e2 hr_⟩ okw⟩
theorem Aq(F:Fun K "_law_rows" "_law_rows" Y56 f fd) (bl:Bl K mg Y)(fX:Callee P w K mg base 1 "_law_spans" ["pairs","bits"] (dO K Y)):aK P w K mg base CX0 2 f fd ["bit_rows","columns"] (eX K Y):=by
 refine F.okA Z56 λcdv A outer s H vs Q E hr h=>?_
 obtain⟨l0,cl,zs0,xs,ws0,cs,rfl,hl0,hz0,iH,hcl,hcs,hok,h4,hlw,q⟩:=h
 refine⟨_,(aj (aF (i:=2) Z56.nd U (Or.inl U) (bf ae))
  (aj (bF PassesOwn.never U (bh (pv 0)) (cG U (aC (ay (i:=3) Z56.nd U (Or.inl U)) (aC (ay (i:=4) Z56.nd U (Or.inl U)) aZ)))
  (ah (bg (f7 PySem.F.plainAttrs_list PySem.F.slot_list_append PySem.F.type_list_append bA (pv 2) (aa (bq (aa (cX (iA U bl.zip_ (aa (pv 1) (aa (pv 3) ae))) (bY (N:=["column","bit"]) (k:=2) U U (by decide+kernel) (by decide+kernel) (by decide+kernel)) U (λ_ _ _ _=>(gn (K:=K) (n:=2) U U (aC (ay (i:=0) (show(["column","bit"]:List Str).Nodup by decide+kernel) U (Or.inl U) (Or.inr U)) (aC (ay (i:=1) (show(["column","bit"]:List Str).Nodup by decide+kernel) U (Or.inl U) (Or.inr U)) aZ)))) (λ_ _ _ _=>cc) (λ_ _ _ _=>(aL fX hr U (aa (aw (dQ (K:=K) U) (pv 0) af (λ_ _=>U)) (aa (pv 1) ae))))) (aa (pv 4) ae))) ae)))))
  (ah (av (pv 2))))),?_⟩
 have hxl:xs.length=cs.length:=hcs.1;refine⟨(by show 0<=sizeLine;decide),λl hl=>?_⟩;have s0:ar H (upd H l (.lst [])):=ag hl _;have e0:upd H l (.lst []) l=some (.lst []):=ab;generalize upd H l (.lst [])=H0 at s0 e0⊢;refine⟨_,U,l0,U,⟨_,SqL.of (s0 _ _ hl0)⟩,bO (xs:=zs0) (λi σ H'=>ar H H'/\∃(zs:List V)(rws:List Rw)(c3 c4:Option V),H' l=some (.lst zs)/\RL (Fr H l) H' zs rws/\dI cs (ws0.take i) rws/\σ=[some (.ref l0),some (.ref cl),some (.ref l),c3,c4]) ⟨s0,[],[],_,_,e0,aI.nil,dI.nil,U⟩ (λi σ H' _ h=>SqL.of (h.1 _ _ hl0)) (λi y σ H' ey hh=>?_) (λσ H' hh=>?_)⟩
 ·obtain⟨sm,zs,rws,c3,c4,el,hz,hof,rfl⟩:=hh;obtain⟨r,w0,rfl,ew,bl0,f1,_,f2⟩:=aI.get (hz0.same sm) ey;have hi:i<ws0.length:=(BQ.mp ew).1;have lw:=hlw w0 (BR ew);have nN:min xs.length (vN w0.1).length=cs.length:=by rw[dW];lia
  refine⟨r,_,U,SqT.of f1,U,_,_,U,_,_,U,U,?_⟩
  refine⟨_,U,.inl ⟨U,_,SqL.of el⟩,_,U,_,U,cl,bl0,U,⟨_,SqL.of (sm _ _ hcl)⟩,⟨_,SqL.of f2⟩,jB (xs:=xs) (ys:=vN w0.1) (λD i ys H2=>ar H' H2/\H2 D=some (.lst ys)/\∃pss:List Prs,CL (Fr H' D) H2 ys pss/\pss.length=i/\∀(j:Nat)(ps:Prs)(c:Col)(b:Nat),pss[j]?=some ps->cs[j]?=some c->w0.1[j]?=some b->dN c.prs b c.prs.length ps/\ps=mrg c.prs b c.prs.length)
   (λD hD=>⟨ag hD _,ab,[],aI.nil,U,(λj ps c b e=>by simp at e)⟩) (λD i ys H2 hD _ h=>⟨SqL.of (h.1 _ _ (sm _ _ hcl)),SqL.of (h.1 _ _ f2)⟩) (λD j x y ys H2 T hD ex ey2 h hT ts hts=>?_) (λD ys H2 hD h=>?_)⟩
  ·obtain⟨s2,eD,pss,hy,hlen,hsp⟩:=h;obtain⟨lc,c,rfl,ec,pl,tp_,_,_,g1,g2,g3⟩:=aI.get ((hcs.same sm).same s2) ex;obtain⟨b,rfl,eb⟩:=qP ey2;have ok:=hok c (BR ec);obtain⟨t0,t1,rfl⟩:∃t0 t1,ts=[t0,t1]:=by
    match ts,hts with
    | [t0,t1],_=>exact⟨t0,t1,U⟩
   have s3:=ag hT (.tup [.ref lc,.int (b:Int)]);have eT:upd H2 T (.tup [.ref lc,.int (b:Int)]) T=some (.tup [.ref lc,.int (b:Int)]):=ab;generalize upd H2 T (.tup [.ref lc,.int (b:Int)])=H3 at s3 eT⊢;refine⟨T,_,U,SqT.of eT,U,_,_,U,_,_,U,U,⟨[some (.ref lc),some (.int (b:Int))],U,U⟩,?_⟩;refine⟨_,U,lc,_,_,_,U,U,SqL.of (s3 _ _ g1),U,_,U,pl,tp_,c.prs,b,U,s3 _ _ g2,g3.mono s3.tups,ok.ch,ok.few,λl2 ps H4 s4 yk ym yn=>?_⟩;have hj:j<min xs.length (vN w0.1).length:=by
    have:=(BQ.mp ex).1;rw[nN,←hxl];exact this
   have eD4:=s4 _ _ (s3 _ _ eD);have n4:H3 l2=none:=yk.1;have nD:l2≠D:=λz=>by rw[z,s3 _ _ eD]at n4;cases n4
   have n2:H' l2=none:=s2.free (s3.free n4);have Ar:CL (Fr H' D) H4 (ys++[.ref l2]) (pss++[ps]):=aI.snoc (hy.same (s3.trans s4)) ⟨⟨n2,nD⟩,yk.2⟩;refine dD.mk hj eD4 (ax (by rw[hy.1];lia)) ⟨((s2.trans s3).trans s4).upd hD,ab,pss++[ps],Ar.updN Fr.out eD4,by simp[hlen],λj' ps' c' b' e1 e2 e3=>?_⟩;by_cases hj':j'<pss.length
   ·rw[getElem?_append_left hj']at e1;exact hsp j' ps' c' b' e1 e2 e3
   ·have hj2:j'=pss.length:=by have:=(BQ.mp e1).1;simp at this;lia
    subst hj2;simp at e1;subst e1;rw[hlen]at e2 e3;rw[ec]at e2;rw[eb]at e3;cases e2;cases e3;exact⟨ym,yn⟩
  ·obtain⟨s2,eD,pss,hy,hlen,hsp⟩:=h;rw[nN]at hlen;have nDl:D≠l:=λz=>by rw[z,el]at hD;cases hD
   refine⟨_,U,aV,λt ht=>?_⟩;have t4:=ag ht (.tup [.ref D,.int w0.2]);have el4:=t4 _ _ (s2 _ _ el);have ji:fA (Fr H l) (upd H2 t (.tup [.ref D,.int w0.2])) t (pss,w0.2):=⟨D,ys,ab,⟨sm.free hD,nDl⟩,t4 _ _ eD,(hy.same t4).wk λa ha=>⟨sm.free ha.1,λz=>by have hh:=ha.1;rw[z,el]at hh;cases hh⟩⟩;refine⟨l,_,_,U,U,el4,ax (by rw[hz.1,hof.1,length_take];lia),?_⟩;have hz2:RL (Fr H l) (upd H2 t (.tup [.ref D,.int w0.2])) (zs++[.ref t]) (rws++[(pss,w0.2)]):=aI.snoc (hz.same (s2.trans t4)) ji;refine⟨((sm.trans s2).trans t4).upd hl,zs++[.ref t],rws++[(pss,w0.2)],_,_,ab,hz2.updN Fr.out el4,?_,U⟩;rw[take_snoc ew];exact hof.snoc ⟨U,hlen,λj ps c b e1 e2 e3=>(hsp j ps c b e1 e2 e3).1,λj ps c b e1 e2 e3=>(hsp j ps c b e1 e2 e3).2⟩
 ·obtain⟨sm,zs,rws,c3,c4,el,hz,hof,rfl⟩:=hh;rw[hz0.1,take_length]at hof;exact⟨_,U,q l zs rws H' sm el (aI.mono hz λ_ _ p=>p.wk λa h=>h.1) hof⟩
theorem As(F:Fun K "_law_due" "_law_due" Y49 f fd) (bl:Bl K mg Y)(qi:Callee P w K mg base 1 "_law_fit" ["bit_row","point"] (iC K Y)):aK P w K mg base CX0 2 f fd ["way","bit_rows","out","point"] (iE K Y):=by
 refine F.okA Z49 λcdv A outer s H vs Q E hr h=>?_
 obtain⟨wy,i,bl_,ol,pl,zs,ws,oc,p,rfl,hi6,hbl,hz,iH,⟨opl,ots,_,_,eol,uK,hop⟩,ook,hpl,hwl,uI,q⟩:=h
 refine⟨_,(aG (kf (i:=4) Z49.nd U (Or.inl U) (bh (pv 1)) (dR (N:=["row","point"]) (fr:=[3]) (cl:=[("point",s.heap.objs.size+1)]) U U (by decide+kernel) (by decide+kernel) U (by decide+kernel) U U U (forall_mem_cons.mpr ⟨U,forall_mem_nil _⟩) U) U (λ_ _ _ _=>(ke (bw (aL qi hr U (aa (pv 0) (aa (pv 1) ae)))))) (λ_ _ _ _=>(aw (m6 (K:=K) U) (pv 0) af (λ_ _=>U))))
  (aj (aM (aH bZ (aq az U bl.len_ boot_len (aa (pv 4) ae)) af (aJ _))
  (ah (av (bq (aa aP (aa af ae)))))
  aE)
  (aj (aM (PW.pt (gh (PW.pt (cM (aH bZ (pv 0) aP (aJ _)) (cb (aH gj (aq az U bl.len_ boot_len (aa (pv 4) ae)) af (aJ _))))) (ip (PW.pt (cM (aH bZ (pv 0) aP (aJ _)) (cb (aH ko (aq (fe U) U bl.min_ PyProof.Rows.boot_min (aa (pv 4) ae)) (aq (ff U) U bl.max_ PyProof.Rows.boot_max (aa (pv 4) ae)) (aJ _))))))))
  (ah (av (bq (aa aP (aa af ae)))))
  aE)
  (aj (aM (aH bZ (pv 0) aP (aJ _))
  (ah (av (bq (aa aP (aa (aq (fe U) U bl.min_ PyProof.Rows.boot_min (aa (pv 4) ae)) ae)))))
  aE)
  (aj (aM (aH bZ (pv 0) aP (aJ _))
  (ah (av (bq (aa aP (aa (aq (ff U) U bl.max_ PyProof.Rows.boot_max (aa (pv 4) ae)) ae)))))
  aE)
  (aj (aM (aH bZ (pv 0) aP (aJ _))
  (ah (av (bq (aa aP (aa (aq (gK U) U bl.max_ PyProof.Rows.boot_max (aa (aw aO (aw aD (aw aD (pv 2) af (λ_ _=>U)) af (λ_ _=>U)) af (λ_ _=>U)) (aa (aq (gL U) U bl.min_ PyProof.Rows.boot_min (aa (aw aO (aw aD (aw aD (pv 2) af (λ_ _=>U)) (fv df af) (λ_ _=>U)) af (λ_ _=>U)) (aa (aq (fb U) U bl.sum_ PyProof.Rows.boot_sum (aa (pv 4) ae)) ae))) ae))) ae)))))
  aE)
  (ah (av (bq (aa aP (aa (aw aD (pv 4) af (λ_ _=>U)) ae))))))))))),?_⟩
 refine⟨λσ' H'=>ar H H'/\∃cl:Addr,H' cl=some (.lst ((pc ws p).map V.int))/\σ'=[some (.str wy),some (.ref bl_),some (.ref ol),some (.ref pl),some (.ref cl)],?_,?_⟩
 ·refine⟨_,U,bl_,U,⟨_,SqL.of hbl⟩,ju (xs:=zs) (λD i ys H'=>ar H H'/\H' D=some (.lst ys)/\ys=(pc (ws.take i) p).map V.int) (λD hD=>⟨ag hD _,ab,U⟩) (λD i ys H' hD _ h=>SqL.of (h.1 _ _ hbl)) (λD k y ys H' hD e h=>?_) (λD ys H' hD h=>?_)⟩
  ·obtain⟨sm,eD,rfl⟩:=h;obtain⟨r,w_,rfl,ew,ji⟩:=aI.get hz e;have hk:k<zs.length:=(BQ.mp e).1;have hkw:k<ws.length:=(BQ.mp ew).1;refine⟨_,U,_,U,r,pl,w_,p,U,ji.same sm,sm _ _ hpl,hwl w_ (BR ew),uI,λH3 s3=>⟨_,U,?_⟩⟩;have eD3:=s3 _ _ eD;have hl:((pc (ws.take k) p).map V.int).length<=200:=by
    rw[length_map];exact le_trans (tJ _ _) (by rw[length_take];lia)
   obtain⟨bl2,g1,_,g2⟩:=ji.same (sm.trans s3);cases hb:lY w_.1 p with
   |true =>
    refine cZ ⟨_,U,r,_,_,_,U,U,SqT.of g1,U,dD.mk hk eD3 (ax (by lia)) ⟨(sm.trans s3).upd hD,ab,?_⟩⟩;rw[take_snoc ew,nE,hb,map_append];rfl
   |false =>
    refine bb (f9.mk (zs:=(pc (ws.take k) p).map V.int) hk ⟨sm.trans s3,eD3,?_⟩);rw[take_snoc ew,nE,hb];simp
  ·obtain⟨sm,eD,rfl⟩:=h;rw[hz.1,take_length]at eD;exact⟨sm,D,eD,U⟩
 rintro σ1 H1 ⟨s1,cl,ecl,rfl⟩;have wW:(pc ws p).length<=200:=le_trans (tJ ws p) iH;have yp:=s1 _ _ eol;have vn:=s1 _ _ uK;generalize pc ws p=ns at ecl q wW;have hml:(ns.map V.int).length=ns.length:=length_map _;cases ns with
 |nil =>
  refine⟨_,U,cl,_,U,.inl (SqL.of ecl),U,_,U,eL U ⟨aV,λr hr_=>q r _ (s1.trans (ag hr_ _)) ab⟩⟩
 |cons n ns =>
 refine⟨_,U,cl,_,U,.inl (SqL.of ecl),U,_,U,bI (by simp;lia) ?_⟩;have fr:=λ(r:Addr)(u:List V)(hr_:H1 r=none)=>s1.trans (ag hr_ (.tup u))
 match i,hi6 with
 |0,hi6 =>
  cases hi6;exact⟨_,U,U,_,U,bI (sne (by decide)) (bb ⟨_,U,U,_,U,bI (sne (by decide)) (bb ⟨_,U,U,_,U,bI (sne (by decide)) ⟨_,U,U,_,U,bI (sne (by decide)) ⟨_,U,U,_,U,bI (sne (by decide)) ⟨_,U,cl,_,_,_,U,U,SqL.of ecl,at0 n ns,aV,λr hr_=>q r _ (fr r _ hr_) ab⟩⟩⟩⟩)⟩)⟩
 |1,hi6 =>
  cases hi6;refine⟨_,U,U,_,U,eL U ⟨_,U,cl,_,U,.inl (SqL.of ecl),_,_,U,U,_,U,b7 (λg=>?_) (λg=>?_)⟩⟩
  ·have g:(1:Int)<((((n :: ns).map V.int).length:Nat):Int):=of_decide_eq_true g;have e:wf 1 oc.lo oc.hi (n :: ns)=jT:=by
    show jf _=_;unfold jf;rw[if_neg (by rw[length_map]at g;lia)]
   have q:∀(r:Addr)(H':Hp),ar H H'->H' r=some (.tup (tp jT))->Q (.ref r) H':=by rw[←e];exact q
   exact cZ ⟨aV,λr hr_=>q r _ (fr r _ hr_) ab⟩
  ·have g:¬ (1:Int)<((((n :: ns).map V.int).length:Nat):Int):=λz=>g (decide_eq_true z)
   have e:wf 1 oc.lo oc.hi (n :: ns)=say n:=by
    show jf _=_;unfold jf;rw[if_pos (by rw[length_map,length_cons]at g;rw[length_cons];lia)];rfl
   have q:∀(r:Addr)(H':Hp),ar H H'->H' r=some (.tup (tp (say n)))->Q (.ref r) H':=by rw[←e];exact q
   exact⟨_,U,U,_,U,bI (sne (by decide)) (bb ⟨_,U,U,_,U,bI (sne (by decide)) ⟨_,U,U,_,U,bI (sne (by decide)) ⟨_,U,U,_,U,bI (sne (by decide)) ⟨_,U,cl,_,_,_,U,U,SqL.of ecl,at0 n ns,aV,λr hr_=>q r _ (fr r _ hr_) ab⟩⟩⟩⟩)⟩
 |2,hi6 =>
  cases hi6;refine⟨_,U,U,_,U,bI (sne (by decide)) (bb ⟨_,U,U,_,U,eL U ⟨_,U,cl,n :: ns,U,SqL.of ecl,succ_pos _,λm1 h1 h2=>⟨_,U,cl,n :: ns,U,SqL.of ecl,succ_pos _,λm2 h3 h4=>⟨U,_,U,?_⟩⟩⟩⟩)⟩;have e1:=lg h1 h2;have e2:=lh h3 h4;by_cases g:m1=m2
  ·have e:wf 2 oc.lo oc.hi (n :: ns)=say n:=by
    show je _=_;unfold je;have gg:least (n :: ns)=great (n :: ns):=by rw[←e1,←e2];exact g
    rw[if_pos gg,mJ (jD.mpr gg)]
   have q:∀(r:Addr)(H':Hp),ar H H'->H' r=some (.tup (tp (say n)))->Q (.ref r) H':=by rw[←e];exact q
   exact oq (by rw[g]) ⟨_,U,U,_,U,bI (sne (by decide)) ⟨_,U,U,_,U,bI (sne (by decide)) ⟨_,U,U,_,U,bI (sne (by decide)) ⟨_,U,cl,_,_,_,U,U,SqL.of ecl,at0 n ns,aV,λr hr_=>q r _ (fr r _ hr_) ab⟩⟩⟩⟩
  ·have e:wf 2 oc.lo oc.hi (n :: ns)=jT:=by
    show je _=_;unfold je;rw[if_neg λz=>g (by rw[e1,e2];exact z)]
   have q:∀(r:Addr)(H':Hp),ar H H'->H' r=some (.tup (tp jT))->Q (.ref r) H':=by rw[←e];exact q
   rw[decide_eq_false (λz=>g (V.int.inj z))];exact cZ ⟨aV,λr hr_=>q r _ (fr r _ hr_) ab⟩
 |3,hi6 =>
  cases hi6;refine⟨_,U,U,_,U,bI (sne (by decide)) (bb ⟨_,U,U,_,U,bI (sne (by decide)) (bb ⟨_,U,U,_,U,eL U ⟨_,U,cl,n :: ns,U,SqL.of ecl,succ_pos _,λm h1 h2=>⟨aV,λr hr_=>q r _ (fr r _ hr_) ?_⟩⟩⟩)⟩)⟩;rw[ab,lg h1 h2];rfl
 |4,hi6 =>
  cases hi6;refine⟨_,U,U,_,U,bI (sne (by decide)) (bb ⟨_,U,U,_,U,bI (sne (by decide)) (bb ⟨_,U,U,_,U,bI (sne (by decide)) ⟨_,U,U,_,U,eL U ⟨_,U,cl,n :: ns,U,SqL.of ecl,succ_pos _,λm h1 h2=>⟨aV,λr hr_=>q r _ (fr r _ hr_) ?_⟩⟩⟩⟩)⟩)⟩;rw[ab,lh h1 h2];rfl
 |5,hi6 =>
  cases hi6;have h1:=ook.some_;have tS:=hop.mono s1.tups;obtain⟨ts',r1,ps',p1,ets,eps,_,er1⟩:=tS.last (by intro z;rw[z]at tS;have:=tS.length;simp at this;lia);have il:atI ots (-1)=some (.ref r1):=by rw[ets];exact cQ _ _
  have hhi:oc.hi=p1.2:=by unfold Col.hi;rw[eps];simp
  obtain⟨p0,ep0,hlo⟩:=ook.first;obtain⟨r0,er0,hr0⟩:∃r0,ots[0]?=some (.ref r0)/\H1 r0=some (.tup [.int p0.1,.int p0.2]):=by
   obtain⟨x,ex⟩:∃x,ots[0]?=some x:=⟨_,BP (by rw[tS.length];lia)⟩;obtain⟨p2,r2,f1,rfl,f2⟩:=tS.get ex;rw[ep0]at f1;cases f1;exact⟨r2,ex,f2⟩
  refine⟨_,U,U,_,U,bI (sne (by decide)) (bb ⟨_,U,U,_,U,bI (sne (by decide)) (bb ⟨_,U,U,_,U,bI (sne (by decide)) ⟨_,U,U,_,U,bI (sne (by decide)) ⟨_,U,U,_,U,eL U ?_⟩⟩⟩)⟩)⟩;refine⟨_,U,ol,_,_,_,U,U,SqL.of yp,U,opl,_,_,_,U,U,SqL.of vn,ba (j:=0) er0,r0,_,_,_,U,U,SqT.of hr0,z0 _ _,_,U,ol,_,_,_,U,U,SqL.of yp,U,_,U,opl,_,_,_,U,U,SqL.of vn,il,r1,_,_,_,U,U,SqT.of er1,z1 _ _,_,U,cl,n :: ns,U,SqL.of ecl,_,_,U,_,_,U,aV,λr hr_=>q r _ (fr r _ hr_) ?_⟩;rw[ab];have hle:=ook.le;have e:near oc.lo oc.hi (n :: ns).sum=if (if (n :: ns).sum<oc.hi then(n :: ns).sum else oc.hi)>oc.lo then(if (n :: ns).sum<oc.hi then(n :: ns).sum else oc.hi)else oc.lo:=by
   unfold near;generalize (n :: ns).sum=t;split <;> split <;> split <;> first|rfl|lia|(split <;> lia)
  show _=some (HO.tup (tp (say (near oc.lo oc.hi (n :: ns).sum))));rw[e,hhi,←hlo];rfl
 |k+6,hi6=>simp[six]at hi6
theorem Au(F:Fun K "_law_cut" "_law_cut" Y47 f fd) (bl:Bl K mg Y)(gP:Callee P w K mg base 1 "_law_in" ["spans","code"] (gN K Y)):aK P w K mg base CX0 2 f fd ["spans","other","within"] (iF K Y):=by
 refine F.okA Z47 λcdv A outer s H vs Q E hr h=>?_
 obtain⟨a,b,A,B,wi,rfl,⟨_,xs,ea,pA⟩,⟨_,ys,eb,pB⟩,aA,aB,lA,lB,q⟩:=h
 refine⟨_,(aG (aF (i:=3) Z47.nd U (Or.inl U) (ak cS (cX (bh (pv 0)) (bY (N:=["low","high"]) (k:=2) U U (by decide+kernel) (by decide+kernel) (by decide+kernel)) U (λ_ _ _ _=>(gn (K:=K) (n:=2) U U (aC (ay (i:=0) (show(["low","high"]:List Str).Nodup by decide+kernel) U (Or.inl U) (Or.inr U)) (aC (ay (i:=1) (show(["low","high"]:List Str).Nodup by decide+kernel) U (Or.inl U) (Or.inr U)) aZ)))) (λ_ _ _ _=>cc) (λ_ _ _ _=>(pv 0))) (cX (bh (pv 1)) (bY (N:=["low","high"]) (k:=2) U U (by decide+kernel) (by decide+kernel) (by decide+kernel)) U (λ_ _ _ _=>(gn (K:=K) (n:=2) U U (aC (ay (i:=0) (show(["low","high"]:List Str).Nodup by decide+kernel) U (Or.inl U) (Or.inr U)) (aC (ay (i:=1) (show(["low","high"]:List Str).Nodup by decide+kernel) U (Or.inl U) (Or.inr U)) aZ)))) (λ_ _ _ _=>cc) (λ_ _ _ _=>(pv 0)))))
  (aG (aF (i:=3) Z47.nd U (Or.inl U) (ak cS (ak cS (pv 3) (cX (bh (pv 0)) (bY (N:=["low","high"]) (k:=2) U U (by decide+kernel) (by decide+kernel) (by decide+kernel)) U (λ_ _ _ _=>(gn (K:=K) (n:=2) U U (aC (ay (i:=0) (show(["low","high"]:List Str).Nodup by decide+kernel) U (Or.inl U) (Or.inr U)) (aC (ay (i:=1) (show(["low","high"]:List Str).Nodup by decide+kernel) U (Or.inl U) (Or.inr U)) aZ)))) (λ_ _ _ _=>cc) (λ_ _ _ _=>(ak bx (pv 1) af)))) (cX (bh (pv 1)) (bY (N:=["low","high"]) (k:=2) U U (by decide+kernel) (by decide+kernel) (by decide+kernel)) U (λ_ _ _ _=>(gn (K:=K) (n:=2) U U (aC (ay (i:=0) (show(["low","high"]:List Str).Nodup by decide+kernel) U (Or.inl U) (Or.inr U)) (aC (ay (i:=1) (show(["low","high"]:List Str).Nodup by decide+kernel) U (Or.inl U) (Or.inr U)) aZ)))) (λ_ _ _ _=>cc) (λ_ _ _ _=>(ak bx (pv 1) af)))))
  (aG (aF (i:=3) Z47.nd U (Or.inl U) (aq (jA (w:=w) U U) U bl.sorted_ PyProof.Rows.boot_sorted (aa (cw (rC (w:=w) U U) U bl.set_ PyProof.Rows.boot_set (aa (pv 3) ae)) ae)))
  (aG (aF (i:=4) Z47.nd U (Or.inl U) (bf ae))
  (aj (bF PassesOwn.never U (iA U bl.zip_ (aa (pv 3) (aa (cE dk (pv 3) (dj af) di) ae))) (cG U (aC (ay (i:=5) Z47.nd U (Or.inl U)) (aC (ay (i:=6) Z47.nd U (Or.inl U)) aZ)))
  (ah (aM (PW.pt (cM (bw (aL gP hr U (aa (pv 0) (aa (pv 5) ae)))) (cb (aH bZ (aL gP hr U (aa (pv 1) (aa (pv 5) ae))) (pv 2) (aJ _)))))
  (ah (aM (PW.pt (cM (aH gj (aq az U bl.len_ boot_len (aa (pv 4) ae)) af (aJ _)) (cb (aH bZ (aw aO (aw aD (pv 4) (fv df af) (λ_ _=>U)) af (λ_ _=>U)) (ak cP (pv 5) af) (aJ _)))))
  (ah (pJ (bq (aa (aw aO (aw aD (pv 4) (fv df af) (λ_ _=>U)) af (λ_ _=>U)) (aa (ak cP (pv 6) af) ae))) (pI (pv 4) (fv df af) set_list)))
  (ah (bg (f7 PySem.F.plainAttrs_list PySem.F.slot_list_append PySem.F.type_list_append bA (pv 4) (aa (bq (aa (pv 5) (aa (ak cP (pv 6) af) ae))) ae))))))
  aE)))
  (ah (av (pv 4)))))))),?_⟩
 have hxl:=pA.length;have hyl:=pB.length;have s00:ar H H:=ar.refl H;refine⟨λσ' H'=>ar H H'/\∃m1:Addr,H' m1=some (.lst ((A.map (λp=>p.1)++B.map λp=>p.1).map V.int))/\σ'=[some (.ref a),some (.ref b),some (.bl wi),some (.ref m1),none,none,none],?_,?_⟩
 ·show _;refine⟨_,U,a,U,⟨_,SqL.of (s00 _ _ ea)⟩,cH (xs:=xs) (λD i zs H'=>ar H H'/\H' D=some (.lst zs)/\zs=((A.take i).map λp=>p.1).map V.int) (λD hD=>⟨ag hD _,ab,U⟩) (λD i zs H' hD _ h=>SqL.of (h.1 _ _ (s00 _ _ ea))) (λD i y zs H' hD e h ts hts=>?_) (λD1 zs H1 hD1 h=>?_)⟩
  ·obtain⟨sm,eD,rfl⟩:=h;obtain⟨p,r,ep,rfl,hr_⟩:=pA.get e;have hi:i<xs.length:=(BQ.mp e).1;have hl_:=pA.length;obtain⟨t0,t1,rfl⟩:∃t0 t1,ts=[t0,t1]:=by
    match ts,hts with
    | [t0,t1],_=>exact⟨t0,t1,U⟩
   refine⟨r,_,U,SqT.of (sm _ _ (s00 _ _ hr_)),U,_,_,U,_,_,U,U,⟨[some (.int p.1),some (.int p.2)],U,U⟩,?_⟩;refine⟨_,U,dD.mk hi eD (ax (by rw[length_map,length_map,length_take];lia)) ⟨sm.upd hD,ab,?_⟩⟩;rw[take_snoc ep,map_append,map_append];rfl
  obtain⟨sm1,eD1,rfl⟩:=h;rw[pA.length,take_length]at eD1;refine⟨_,U,b,U,⟨_,SqL.of (sm1 _ _ eb)⟩,cH (xs:=ys) (λD i zs H'=>ar H1 H'/\H' D=some (.lst zs)/\zs=((B.take i).map λp=>p.1).map V.int) (λD hD=>⟨ag hD _,ab,U⟩) (λD i zs H' hD _ h=>SqL.of (h.1 _ _ (sm1 _ _ eb))) (λD i y zs H' hD e h ts hts=>?_) (λD2 zs H2 hD2 h=>?_)⟩
  ·obtain⟨sm,eD,rfl⟩:=h;obtain⟨p,r,ep,rfl,hr_⟩:=pB.get e;have hi:i<ys.length:=(BQ.mp e).1;have hl_:=pB.length;obtain⟨t0,t1,rfl⟩:∃t0 t1,ts=[t0,t1]:=by
    match ts,hts with
    | [t0,t1],_=>exact⟨t0,t1,U⟩
   refine⟨r,_,U,SqT.of (sm _ _ (sm1 _ _ hr_)),U,_,_,U,_,_,U,U,⟨[some (.int p.1),some (.int p.2)],U,U⟩,?_⟩;refine⟨_,U,dD.mk hi eD (ax (by rw[length_map,length_map,length_take];lia)) ⟨sm.upd hD,ab,?_⟩⟩;rw[take_snoc ep,map_append,map_append];rfl
  obtain⟨sm2,eD2,rfl⟩:=h;rw[pB.length,take_length]at eD2;refine⟨D1,D2,_,_,U,U,sm2 _ _ eD1,eD2,le_of_lt (ax (by rw[length_map,length_map,length_map,length_map];lia)),λm1 hm1=>?_⟩;exact⟨(sm1.trans sm2).trans (ag hm1 _),m1,by rw[ab,map_append],U⟩
 rintro σ1 H3 ⟨s3,m1,em1,rfl⟩;refine⟨λσ' H'=>ar H H'/\∃(m2:Addr)(zs:List Int),H' m2=some (.lst (zs.map V.int))/\zs.length<=32/\(∀e∈ends A,e∈zs)/\(∀e∈ends B,e∈zs)/\σ'=[some (.ref a),some (.ref b),some (.bl wi),some (.ref m2),none,none,none],?_,?_⟩
 ·refine⟨_,U,?_⟩;refine⟨_,U,a,U,⟨_,SqL.of (s3 _ _ ea)⟩,cH (xs:=xs) (λD i zs H'=>ar H3 H'/\H' D=some (.lst zs)/\zs=((A.take i).map λp=>p.2+1).map V.int) (λD hD=>⟨ag hD _,ab,U⟩) (λD i zs H' hD _ h=>SqL.of (h.1 _ _ (s3 _ _ ea))) (λD i y zs H' hD e h ts hts=>?_) (λD4 zs H4 hD4 h=>?_)⟩
  ·obtain⟨sm,eD,rfl⟩:=h;obtain⟨p,r,ep,rfl,hr_⟩:=pA.get e;have hi:i<xs.length:=(BQ.mp e).1;have hl_:=pA.length;obtain⟨t0,t1,rfl⟩:∃t0 t1,ts=[t0,t1]:=by
    match ts,hts with
    | [t0,t1],_=>exact⟨t0,t1,U⟩
   refine⟨r,_,U,SqT.of (sm _ _ (s3 _ _ hr_)),U,_,_,U,_,_,U,U,⟨[some (.int p.1),some (.int p.2)],U,U⟩,?_⟩;refine⟨_,U,_,_,U,U,dD.mk hi eD (ax (by rw[length_map,length_map,length_take];lia)) ⟨sm.upd hD,ab,?_⟩⟩;rw[take_snoc ep,map_append,map_append];rfl
  obtain⟨sm4,eD4,rfl⟩:=h;rw[pA.length,take_length]at eD4;refine⟨m1,D4,_,_,U,U,sm4 _ _ em1,eD4,le_of_lt (ax (by rw[length_map,length_append,length_map,length_map,length_map,length_map];lia)),λm5 hm5=>?_⟩;have s5:=s3.trans (sm4.trans (ag hm5 (.lst ((A.map (λp=>p.1)++B.map λp=>p.1).map V.int++(A.map λp=>p.2+1).map V.int))));have e5:upd H4 m5 (.lst ((A.map (λp=>p.1)++B.map λp=>p.1).map V.int++(A.map λp=>p.2+1).map V.int)) m5=some (.lst ((A.map (λp=>p.1)++B.map λp=>p.1).map V.int++(A.map λp=>p.2+1).map V.int)):=ab;generalize upd H4 m5 (.lst ((A.map (λp=>p.1)++B.map λp=>p.1).map V.int++(A.map λp=>p.2+1).map V.int))=H5 at s5 e5⊢;refine⟨_,U,b,U,⟨_,SqL.of (s5 _ _ eb)⟩,cH (xs:=ys) (λD i zs H'=>ar H5 H'/\H' D=some (.lst zs)/\zs=((B.take i).map λp=>p.2+1).map V.int) (λD hD=>⟨ag hD _,ab,U⟩) (λD i zs H' hD _ h=>SqL.of (h.1 _ _ (s5 _ _ eb))) (λD i y zs H' hD e h ts hts=>?_) (λD6 zs H6 hD6 h=>?_)⟩
  ·obtain⟨sm,eD,rfl⟩:=h;obtain⟨p,r,ep,rfl,hr_⟩:=pB.get e;have hi:i<ys.length:=(BQ.mp e).1;have hl_:=pB.length;obtain⟨t0,t1,rfl⟩:∃t0 t1,ts=[t0,t1]:=by
    match ts,hts with
    | [t0,t1],_=>exact⟨t0,t1,U⟩
   refine⟨r,_,U,SqT.of (sm _ _ (s5 _ _ hr_)),U,_,_,U,_,_,U,U,⟨[some (.int p.1),some (.int p.2)],U,U⟩,?_⟩;refine⟨_,U,_,_,U,U,dD.mk hi eD (ax (by rw[length_map,length_map,length_take];lia)) ⟨sm.upd hD,ab,?_⟩⟩;rw[take_snoc ep,map_append,map_append];rfl
  obtain⟨sm6,eD6,rfl⟩:=h;rw[pB.length,take_length]at eD6;refine⟨m5,D6,_,_,U,U,sm6 _ _ e5,eD6,le_of_lt (ax (by simp only[length_map,length_append];lia)),λm7 hm7=>?_⟩;refine⟨(s5.trans sm6).trans (ag hm7 _),m7,A.map (λp=>p.1)++B.map (λp=>p.1)++A.map (λp=>p.2+1)++B.map (λp=>p.2+1),by rw[ab,map_append (l₂:=B.map λp=>p.2+1),map_append (l₂:=A.map λp=>p.2+1)],by simp only[length_map,length_append];lia,λe he=>?_,λe he=>?_,U⟩
  ·obtain⟨p,hp,rfl|rfl⟩:=dS.mp he
   ·exact mem_append_left _ (mem_append_left _ (mem_append_left _ (List.mem_map_of_mem hp)))
   ·exact mem_append_left _ (mem_append_right _ (mem_map.mpr ⟨p,hp,U⟩))
  ·obtain⟨p,hp,rfl|rfl⟩:=dS.mp he
   ·exact mem_append_left _ (mem_append_left _ (mem_append_right _ (mem_map.mpr ⟨p,hp,U⟩)))
   ·exact mem_append_right _ (mem_map.mpr ⟨p,hp,U⟩)
 rintro σ2 H7 ⟨s7,m2,zs,em2,hzl,hzA,hzB,rfl⟩;refine⟨λσ' H'=>ar H H'/\∃(mk_:Addr)(ms:List Int),H' mk_=some (.lst (ms.map V.int))/\ms.length<=40/\ms.Pairwise (· < ·)/\(∀e∈ends A,e∈ms)/\(∀e∈ends B,e∈ms)/\σ'=[some (.ref a),some (.ref b),some (.bl wi),some (.ref mk_),none,none,none],?_,?_⟩
 ·refine⟨_,U,m2,zs,U,SqL.of em2,by lia,λl hl'=>?_⟩;refine⟨l,zs,zs,U,ab,by lia,(λ_ h=>h),λD2 ns hD2 pw mem=>?_⟩;have hnl:ns.length<=zs.length:=fg (pw.imp λh=>Int.ne_of_lt h) λk hk=>(mem k).mp hk
  exact⟨(s7.trans (ag hl' _)).trans (ag hD2 _),D2,ns,ab,by lia,pw,λe he=>(mem e).mpr (hzA e he),λe he=>(mem e).mpr (hzB e he),U⟩
 rintro σ3 H8 ⟨s8,mk_,ms,emk,hml,pw,hA,hB,rfl⟩;refine⟨λσ' H'=>ar H8 H'/\∃tl:Addr,H8 tl=none/\H' tl=some (.lst [])/\σ'=[some (.ref a),some (.ref b),some (.bl wi),some (.ref mk_),some (.ref tl),none,none],⟨(by show 0<=sizeLine;decide),λtl htl=>⟨ag htl _,tl,htl,ab,U⟩⟩,?_⟩;rintro σ4 H9 ⟨t9,tl,htl,etl,rfl⟩;have s9:=s8.trans t9;have yq:=t9 _ _ emk;have wX:H tl=none:=s8.free htl;refine⟨_,U,_,U,_,U,mk_,_,U,SqL.of yq,λc1 hc1=>?_⟩;rw[show(some (1:Int))=some ((1:Nat):Int)from U,jh];have t10:=ag hc1 (.lst ((ms.map V.int).drop 1));have ec1:upd H9 c1 (.lst ((ms.map V.int).drop 1)) c1=some (.lst ((ms.map V.int).drop 1)):=ab;have nc1:c1≠tl:=λz=>by rw[z,etl]at hc1;cases hc1
 generalize upd H9 c1 (.lst ((ms.map V.int).drop 1))=H10 at t10 ec1⊢;have nmk:mk_≠tl:=λz=>by rw[z,htl]at emk;cases emk
 have s10:=s9.trans t10;have vo:=t10 _ _ yq;refine⟨mk_,c1,U,⟨_,SqL.of vo⟩,⟨_,SqL.of ec1⟩,kg (xs:=ms.map V.int) (ys:=(ms.map V.int).drop 1) (λi σ H'=>(∀d o,d≠tl->H10 d=some o->H' d=some o)/\∃(zs:List V)(R:Prs)(c5 c6:Option V),H' tl=some (.lst zs)/\PL H' zs R/\dX A B wi ms i R/\R.length<=i/\σ=[some (.ref a),some (.ref b),some (.bl wi),some (.ref mk_),some (.ref tl),c5,c6]) ⟨λd o _ e=>e,[],[],_,_,t10 _ _ etl,.nil,dX.zero pw hA,le_refl _,U⟩ (λi σ H' h=>⟨SqL.of (h.1 _ _ nmk vo),SqL.of (h.1 _ _ nc1 ec1)⟩) (λi x y σ H' T ex ey h hT=>?_) (λσ H' h=>?_)⟩
 ·obtain⟨kp,zs_,R,c5,c6,et,hP,hc,hRl,rfl⟩:=h;rw[getElem?_map]at ex;rw[getElem?_drop,getElem?_map]at ey;obtain⟨lo,e0,rfl⟩:∃lo,ms[i]?=some lo/\x=.int lo:=by
   cases q_:ms[i]? with
   |none=>rw[q_]at ex;cases ex
   |some z=>rw[q_]at ex;cases ex;exact⟨z,U,U⟩
  obtain⟨pa,e1,rfl⟩:∃pa,ms[i+1]?=some pa/\y=.int pa:=by
   rw[Nat.add_comm 1 i]at ey;cases q_:ms[i+1]? with
   |none=>rw[q_]at ey;cases ey
   |some z=>rw[q_]at ey;cases ey;exact⟨z,U,U⟩
  have him:i<ms.length:=(BQ.mp e0).1;have u1:=ag hT (.tup [.int lo,.int pa]);have eT:upd H' T (.tup [.int lo,.int pa]) T=some (.tup [.int lo,.int pa]):=ab;have et2:=u1 _ _ et;have hP2:=hP.mono u1.tups;have kp2:∀d o,d≠tl->H10 d=some o->upd H' T (.tup [.int lo,.int pa]) d=some o:=λd o n e=>u1 _ _ (kp d o n e)
  generalize upd H' T (.tup [.int lo,.int pa])=H2 at u1 eT et2 hP2 kp2⊢;have kH:∀{d:Addr}{o:HO},H d=some o->H2 d=some o:=λ{d o} e=>kp2 d o (λz=>by rw[z,wX]at e;cases e) (s10 _ _ e)
  have Av:=hP2.length;refine⟨T,_,U,SqT.of eT,U,_,_,U,_,_,U,U,?_⟩;refine⟨_,U,_,U,a,xs,A,lo,U,SqL.of (kH ea),pA.mono (λ_ _ e=>kH e),_,U,?_⟩;refine b7 (λg1=>?_) (λg1=>bb ⟨kp2,zs_,R,_,_,et2,hP2,hc.skip pw hA hB e0 e1 (by rw[eq_false_iff.mpr g1];rfl),by lia,U⟩);refine⟨_,U,_,U,b,ys,B,lo,U,SqL.of (kH eb),pB.mono (λ_ _ e=>kH e),_,U,U,_,U,?_⟩;refine b7 (λg2=>?_) (λg2=>⟨kp2,zs_,R,_,_,et2,hP2,hc.skip pw hA hB e0 e1 ?_,by lia,U⟩)
  rotate_left
  ·rw[g1,Bool.true_and];cases q1:inP B lo <;> cases q2:wi <;> first|rfl|(exfalso;exact g2 (by rw[q1,q2];exact decide_eq_true U))
  have hf:(inP A lo && (inP B lo == wi))=true:=by
   rw[g1,Bool.true_and];have z:=of_decide_eq_true g2;injection z with z;rw[z];cases wi <;> rfl
  refine⟨_,U,tl,_,U,.inl (SqL.of et2),_,_,U,U,_,U,?_⟩;refine b7 (λg3=>?_) (λg3=>bb ?e1)
  ·have hne:zs_≠[]:=λz=>by rw[z]at g3;exact absurd (of_decide_eq_true g3) (by decide)
   obtain⟨ys',r,ps2,p2,ey',eq',hP',er⟩:=hP2.last hne;subst ey' eq';refine⟨_,U,_,U,tl,_,_,_,U,U,SqL.of et2,cQ _ _,r,_,_,_,U,U,SqT.of er,z1 _ _,_,U,_,_,U,U,U,_,U,?_⟩;refine b7 (λg4=>?_) (λg4=>?e2);have hl:p2.2=lo-1:=by
    have z:=of_decide_eq_true g4;injection z
   refine⟨_,U,_,U,tl,_,_,_,U,U,SqL.of et2,cQ _ _,r,_,_,_,U,U,SqT.of er,z0 _ _,_,U,_,_,U,U,aV,λt ht=>?_⟩;have x1:upd H2 t (.tup [.int p2.1,.int (pa-1)]) tl=some (.lst (ys'++[.ref r])):=bQ et2 ht;refine⟨_,U,_,U,tl,_,_,_,U,U,x1,oQ (by simp),?_⟩;rw[oR];have st:da H2 (upd (upd H2 t (.tup [.int p2.1,.int (pa-1)])) tl (.lst (ys'++[.ref t]))):=(cK ht).trans (aW x1);refine⟨λd o n e=>(au n).trans (ag ht _ _ _ (kp2 d o n e)),ys'++[.ref t],ps2++[(p2.1,pa-1)],_,_,ab,(hP'.mono st).snoc (aW x1 _ _ ab),hc.join pw hA hB e0 e1 hf hl,?_,U⟩;rw[length_append,length_singleton]at hRl⊢;lia;have hl:∀r∈ps2++[p2],r.2≠lo-1:=λr hr z=>by
    rcases mem_append.mp hr with hr|hr
    ·have h1:=hc.ap.init.2.2 r hr;have h2:=hc.ap.init.2.1;have h3:=hc.bel lo e0 p2 (mem_append_right _ (mem_singleton.mpr U));lia
    ·rw[mem_singleton.mp hr]at z;exact g4 (decide_eq_true (by rw[z]))
   refine⟨_,U,.inl ⟨U,_,SqL.of et2⟩,_,U,_,U,_,_,U,U,aV,λt ht=>?_⟩;have x1:upd H2 t (.tup [.int lo,.int (pa-1)]) tl=some (.lst (ys'++[.ref r])):=bQ et2 ht;refine⟨tl,_,_,U,U,x1,ax (by lia),?_⟩;have st:da H2 (upd (upd H2 t (.tup [.int lo,.int (pa-1)])) tl (.lst (ys'++[.ref r]++[.ref t]))):=(cK ht).trans (aW x1);exact⟨λd o n e=>(au n).trans (ag ht _ _ _ (kp2 d o n e)),_,ps2++[p2]++[(lo,pa-1)],_,_,ab,(hP2.mono st).snoc (aW x1 _ _ ab),hc.put pw hA hB e0 e1 hf hl,by rw[length_append,length_singleton];lia,U⟩
  ·have hz0:zs_=[]:=by
    cases zs_ with
    |nil=>rfl
    |cons u v=>exfalso;exact g3 (decide_eq_true (by rw[length_cons];lia))
   subst hz0;have hR0:R=[]:=List.eq_nil_of_length_eq_zero (by rw[←Av];rfl);subst hR0;refine⟨_,U,.inl ⟨U,_,SqL.of et2⟩,_,U,_,U,_,_,U,U,aV,λt ht=>?_⟩;have x1:upd H2 t (.tup [.int lo,.int (pa-1)]) tl=some (.lst []):=bQ et2 ht;refine⟨tl,_,_,U,U,x1,ax (by show 0<=1000;lia),?_⟩;have st:da H2 (upd (upd H2 t (.tup [.int lo,.int (pa-1)])) tl (.lst ([]++[.ref t]))):=(cK ht).trans (aW x1);exact⟨λd o n e=>(au n).trans (ag ht _ _ _ (kp2 d o n e)),_,[]++[(lo,pa-1)],_,_,ab,PL.snoc .nil (aW x1 _ _ ab),hc.put pw hA hB e0 e1 hf (λr hr=>by cases hr),by show 1<=i+1;lia,U⟩
 ·obtain⟨kp,zs_,R,c5,c6,et,hP,hc,hRl,rfl⟩:=h;have em:min (ms.map V.int).length ((ms.map V.int).drop 1).length=ms.length-1:=by rw[length_drop,length_map];lia
  rw[em]at hc hRl;refine⟨_,U,q tl R H' (λd o e=>kp d o (λz=>by rw[z,wX]at e;cases e) (s10 _ _ e)) wX ⟨trivial,zs_,et,hP⟩ (hc.cut pw hA) (by lia)⟩
theorem Aw(F:Fun K "_law_like" "_law_like" Y52 f fd) (bl:Bl K mg Y)(qT:Callee P w K mg base 1 "alike" ["one","other"] (ly K Y)):aK P w K mg base CX0 2 f fd ["found","table","rows"] (gw K Y):=by
 refine F.okA Z52 λcdv A outer s H vs Q E hr h=>?_
 obtain⟨f,t,rl,ou,nm,wy,zs,dv,rx,rws,tQ,cs,oc,rfl,⟨frl,dx,fna,fdl,fs,fxs,hf,f1,f2,f3,f4,f5,f6,Ax,wY,Ay,fR,BJ⟩,⟨trl,tx,tna,tdl,ts,txs,ht,k1,k2,k3,k4,k5,k6,Az,wZ,BK,tR,BL⟩,hrl,hR2,hdv,hou,q⟩:=h
 refine⟨_,(aj (aM (PW.pt (gh (bE (bw (aq bJ U bl.isinstance_ PyProof.Rows.boot_isinstance (aa (pv 0) (aa (bX (v:=.ref Y.k) U bl.Table_ U) ae))))) (gh (aH ko (aN (pv 0) U) (aN (pv 1) U) (aJ _)) (ip (aH (wc hr) (aN (pv 0) U) (aN (pv 1) U) (aJ _))))))
  (ah (av cJ))
  aE)
  (aj (aM (PW.pt (gh (aH ko (aq az U bl.len_ boot_len (aa (aN (pv 0) U) ae)) (aq az U bl.len_ boot_len (aa (aN (pv 1) U) ae)) (aJ _)) (ip (bE (bw (aL qT hr U (aa (aN (pv 0) U) (aa (aN (pv 1) U) ae))))))))
  (ah (av cJ))
  aE)
  (aj (bF PassesOwn.never U (iA U bl.zip_ (aa (aN (pv 0) U) (aa (aN (pv 1) U) ae))) (cG U (aC (ay (i:=3) Z52.nd U (Or.inl U)) (aC (ay (i:=4) Z52.nd U (Or.inl U)) aZ)))
  (ah (aM (bE (bw (aL qT hr U (aa (pv 3) (aa (pv 4) ae)))))
  (ah (av cJ))
  aE)))
  (ah (av (fI (dJ bZ (aN (pv 0) U) (aN (pv 1) U) (aJ _)) (iq (dJ (uq hr) (aN (pv 0) U) (pv 2) (aJ _))))))))),?_⟩
 refine⟨_,U,_,_,_,_,true,U,.ref _,bl.t_Table.ty hf,bl.f_tt,_,U,bb ?_⟩;refine⟨_,U,f,_,_,_,_,U,hf,bl.k_Table,bl.na_Table_name,f2,_,U,t,_,_,_,_,U,ht,bl.k_Table,bl.na_Table_name,k2,U,_,U,oq U ?_⟩;refine⟨_,U,f,_,_,_,_,U,hf,bl.k_Table,bl.na_Table_names,f5,_,U,t,_,_,_,_,U,ht,bl.k_Table,bl.na_Table_names,k5,rf (SqL.of Ax) (SqL.of Az) (λx hx=>.inl (all_eq_true.mp (mH zs) x hx)) ⟨_,U,bb ?_⟩⟩;refine⟨_,U,f,_,_,_,_,U,hf,bl.k_Table,bl.na_Table_domains,f6,fdl,_,U,.inl (SqL.of wY),_,U,t,_,_,_,_,U,ht,bl.k_Table,bl.na_Table_domains,k6,tdl,_,U,.inl (SqL.of wZ),U,_,U,b7 (λg=>absurd g (by simp)) (λ_=>?_)⟩;refine⟨_,U,f,_,_,_,_,U,hf,bl.k_Table,bl.na_Table_outcome,f4,_,U,t,_,_,_,_,U,ht,bl.k_Table,bl.na_Table_outcome,k4,ou,ou,oc,U,hou,hou,_,U,bb ?_⟩;refine⟨_,U,f,_,_,_,_,U,hf,bl.k_Table,bl.na_Table_domains,f6,_,U,t,_,_,_,_,U,ht,bl.k_Table,bl.na_Table_domains,k6,fdl,tdl,U,⟨_,SqL.of wY⟩,⟨_,SqL.of wZ⟩,kg (xs:=dv) (ys:=dv) (λi σ H'=>ar H H'/\∃c4 c5:Option V,σ=[some (.ref f),some (.ref t),some (.ref rl),c4,c5]) ⟨ar.refl _,_,_,U⟩ (λi σ H' h=>⟨SqL.of (h.1 _ _ wY),SqL.of (h.1 _ _ wZ)⟩) (λi x y σ H' T ex ey h hT=>?_) (λσ H' h=>?_)⟩
 ·obtain⟨sm,c4,c5,rfl⟩:=h;have s2:=sm.trans (ag hT (.tup [x,y]));have eT:upd H' T (.tup [x,y]) T=some (.tup [x,y]):=ab;generalize upd H' T (.tup [x,y])=H2 at s2 eT⊢;rw[ex]at ey;cases ey;obtain⟨a,c,rfl,ec,ha⟩:=aI.get hdv ex;refine⟨T,_,U,SqT.of eT,U,_,_,U,_,_,U,U,?_⟩;exact⟨_,U,_,U,a,a,c,U,ha.same s2,ha.same s2,_,U,bb ⟨s2,_,_,U⟩⟩
 ·obtain⟨sm,c4,c5,rfl⟩:=h;refine⟨_,U,f,_,_,_,_,U,sm _ _ hf,bl.k_Table,bl.na_Table_way,f3,_,U,t,_,_,_,_,U,sm _ _ ht,bl.k_Table,bl.na_Table_way,k3,U,?_⟩;refine⟨true,by rw[decide_eq_true U],cZ ?_⟩;exact⟨_,U,f,_,_,_,_,U,sm _ _ hf,bl.k_Table,bl.na_Table_rows,f1,_,U,rL (SqL.of (sm _ _ Ay)) (SqL.of (sm _ _ hrl)) (by rw[fR.1,hR2.1]) (oX (fR.same sm) (hR2.same sm)) (q H' sm)⟩
theorem O_4(F:Fun K "__init__" "First.__init__" Y4 f fd) (bl:Bl K mg Y)(gB:bU CX0 P w K mg base 1 "Way" "__init__" ["self","called"] (b9 K Y)):aK P w K mg base CX0 2 f fd ["self"] (J0 K Y):=by
 refine F.ok Z4 (λvs H Q E h=>?_) (λcdv A outer s H vs Q E hr h=>?_)
 ·obtain⟨x,dx,rfl,hx,q⟩:=h;rfl
 obtain⟨x,dx,rfl,hx,q⟩:=h;refine⟨_,(ah (bg (eJ gB bP hr U (aa (pv 0) (aa aP ae))))),?_⟩;exact⟨_,U,x,dx,_,U,hx,q⟩
theorem AA(F:Fun K "__init__" "Only.__init__" Y13 f fd) (bl:Bl K mg Y)(gQ:bU CX0 P w K mg base 1 "Way" "__init__" ["self","called"] (cm K Y)):aK P w K mg base CX0 2 f fd ["self"] (J8 K Y):=by
 refine F.ok Z13 (λvs H Q E h=>?_) (λcdv A outer s H vs Q E hr h=>?_)
 ·obtain⟨x,dx,rfl,hx,q⟩:=h;rfl
 obtain⟨x,dx,rfl,hx,q⟩:=h;refine⟨_,(ah (bg (eJ gQ bP hr U (aa (pv 0) (aa aP ae))))),?_⟩;exact⟨_,U,x,dx,_,U,hx,q⟩
theorem O_8(F:Fun K "__init__" "Like.__init__" Y8 f fd) (bl:Bl K mg Y)(gR:bU CX0 P w K mg base 1 "Way" "__init__" ["self","called"] (cn K Y)):aK P w K mg base CX0 2 f fd ["self"] (J4 K Y):=by
 refine F.ok Z8 (λvs H Q E h=>?_) (λcdv A outer s H vs Q E hr h=>?_)
 ·obtain⟨x,dx,rfl,hx,q⟩:=h;rfl
 obtain⟨x,dx,rfl,hx,q⟩:=h;refine⟨_,(ah (bg (eJ gR bP hr U (aa (pv 0) (aa aP ae))))),?_⟩;exact⟨_,U,x,dx,_,U,hx,q⟩
theorem AB(F:Fun K "__init__" "Low.__init__" Y10 f fd) (bl:Bl K mg Y)(iI:bU CX0 P w K mg base 1 "Way" "__init__" ["self","called"] (cB K Y)):aK P w K mg base CX0 2 f fd ["self"] (J6 K Y):=by
 refine F.ok Z10 (λvs H Q E h=>?_) (λcdv A outer s H vs Q E hr h=>?_)
 ·obtain⟨x,dx,rfl,hx,q⟩:=h;rfl
 obtain⟨x,dx,rfl,hx,q⟩:=h;refine⟨_,(ah (bg (eJ iI bP hr U (aa (pv 0) (aa aP ae))))),?_⟩;exact⟨_,U,x,dx,_,U,hx,q⟩
theorem O_6(F:Fun K "__init__" "High.__init__" Y6 f fd) (bl:Bl K mg Y)(gU:bU CX0 P w K mg base 1 "Way" "__init__" ["self","called"] (cq K Y)):aK P w K mg base CX0 2 f fd ["self"] (J2 K Y):=by
 refine F.ok Z6 (λvs H Q E h=>?_) (λcdv A outer s H vs Q E hr h=>?_)
 ·obtain⟨x,dx,rfl,hx,q⟩:=h;rfl
 obtain⟨x,dx,rfl,hx,q⟩:=h;refine⟨_,(ah (bg (eJ gU bP hr U (aa (pv 0) (aa aP ae))))),?_⟩;exact⟨_,U,x,dx,_,U,hx,q⟩
theorem AE(F:Fun K "__init__" "Sum.__init__" Y15 f fd) (bl:Bl K mg Y)(iJ:bU CX0 P w K mg base 1 "Way" "__init__" ["self","called"] (cC K Y)):aK P w K mg base CX0 2 f fd ["self"] (J10 K Y):=by
 refine F.ok Z15 (λvs H Q E h=>?_) (λcdv A outer s H vs Q E hr h=>?_)
 ·obtain⟨x,dx,rfl,hx,q⟩:=h;rfl
 obtain⟨x,dx,rfl,hx,q⟩:=h;refine⟨_,(ah (bg (eJ iJ bP hr U (aa (pv 0) (aa aP ae))))),?_⟩;exact⟨_,U,x,dx,_,U,hx,q⟩
theorem O_2(F:Fun K "has_code" "Domain.has_code" Y2 f fd) (bl:Bl K mg Y)(iK:Callee P w K mg base 1 "is_whole" ["value"] (eV K Y)):aK P w K mg base CX0 2 f fd ["self","value"] (bL K Y):=by
 refine F.okA Z2 λcdv A outer s H vs Q E hr h=>?_
 obtain⟨a,b,i,rfl,⟨dx,fs,ha,hl,hh,_⟩,h1,h2,q⟩:=h;refine⟨_,(ah (av (fI (aL iK hr U (aa (pv 1) ae)) (iq (kq dq dq (aN (pv 0) U) (pv 1) (aN (pv 0) U)))))),?_⟩;refine⟨_,U,i,U,_,U,cZ ?_⟩;refine⟨_,U,a,_,_,_,_,U,ha,bl.k_Numbers,bl.na_Numbers_low,hl,_,U,_,_,U,U,_,U,eL h1 ?_⟩;refine⟨_,U,a,_,_,_,_,U,ha,bl.k_Numbers,bl.na_Numbers_high,hh,_,_,U,U,?_⟩;show Q (.bl (decide (i<=b.2))) H;rw[decide_eq_true h2];exact q
theorem O_3(F:Fun K "has_code" "Domain.has_code" Y3 f fd) (bl:Bl K mg Y)(iK:Callee P w K mg base 1 "is_whole" ["value"] (eV K Y)):aK P w K mg base CX0 2 f fd ["self","value"] (bS K Y):=by
 refine F.okA Z3 λcdv A outer s H vs Q E hr h=>?_
 obtain⟨a,b,i,rfl,⟨dx,fs,ha,hl,hh,_⟩,h1,h2,q⟩:=h;refine⟨_,(ah (av (fI (aL iK hr U (aa (pv 1) ae)) (iq (kq dq dq (aN (pv 0) U) (pv 1) (aN (pv 0) U)))))),?_⟩;refine⟨_,U,i,U,_,U,cZ ?_⟩;refine⟨_,U,a,_,_,_,_,U,ha,bl.k_Words,bl.na_Words_low,hl,_,U,_,_,U,U,_,U,eL h1 ?_⟩;refine⟨_,U,a,_,_,_,_,U,ha,bl.k_Words,bl.na_Words_high,hh,_,_,U,U,?_⟩;show Q (.bl (decide (i<=b.2))) H;rw[decide_eq_true h2];exact q
theorem AF(F:Fun K "__init__" "Numbers.__init__" Y12 f fd) (bl:Bl K mg Y)(d9:bU CX0 P w K mg base 1 "Domain" "__init__" ["self","low","high"] (bK K Y)):aK P w K mg base CX0 2 f fd ["self","low","high"] (bG K Y):=by
 refine F.okA Z12 λcdv A outer s H vs Q E hr h=>?_
 obtain⟨x,dx,lo,hi,rfl,hx,hle,q⟩:=h
 refine⟨_,(aj (aM (aH gj (pv 1) (pv 2) (aJ _))
  (ah bV)
  aE)
  (ah (bg (eJ d9 bP hr U (aa (pv 0) (aa (pv 1) (aa (pv 2) ae))))))),?_⟩
 exact⟨_,U,_,U,_,_,U,U,_,U,bI (by lia) ⟨_,U,_,U,_,U,x,dx,lo,hi,U,hx,q⟩⟩
theorem AG(F:Fun K "verdict" "Way.verdict" Y24 f fd) (bl:Bl K mg Y)(gC:bp CX0 P w K mg base 1 Y.b "chosen" ["self","codes","outcome"] (J1 K Y)):aK P w K mg base CX0 2 f fd ["self","codes","outcome"] (J12 K Y):=by
 refine F.ok Z24 (λvs H Q E h=>?_) (λcdv A outer s H vs Q E hr h=>?_)
 ·obtain⟨x,c,o,ns,b,rfl,⟨dx,z,hx⟩,ho,hle,hS,hn,q⟩:=h;rfl
 obtain⟨x,c,o,ns,b,rfl,⟨dx,z,hx⟩,ho,hle,hS,hn,q⟩:=h
 refine⟨_,(aj (aM (bE (dr (pv 1) (by intro _;rfl)))
  (ah (av (bX (v:=.ref Y.l) U bl.NONE_ U)))
  aE)
  (ah (av (mq gC bP bl.k_First hr (pv 0) (aa (pv 1) (aa (pv 2) ae)))))),?_⟩
 refine⟨_,U,!(ns.map V.int).isEmpty,.inl ⟨_,hS,U⟩,?_⟩;cases ns with
 |nil=>exact cZ (q _ _ (ar.refl _) (bl.q_NONE.sq _))
 |cons n ns=>exact bb ⟨_,U,x,_,_,U,hx,U,_,U,_,U,x,c,o,n,ns,b,U,⟨dx,z,hx⟩,ho,hle,hS,lt_of_succ_lt hn,q⟩
theorem AH(F:Fun K "verdict" "Way.verdict" Y28 f fd) (bl:Bl K mg Y)(iL:bp CX0 P w K mg base 1 Y.c "chosen" ["self","codes","outcome"] (J9 K Y)):aK P w K mg base CX0 2 f fd ["self","codes","outcome"] (J16 K Y):=by
 refine F.ok Z28 (λvs H Q E h=>?_) (λcdv A outer s H vs Q E hr h=>?_)
 ·obtain⟨x,c,o,ns,b,rfl,⟨dx,z,hx⟩,ho,hle,hS,hn,q⟩:=h;rfl
 obtain⟨x,c,o,ns,b,rfl,⟨dx,z,hx⟩,ho,hle,hS,hn,q⟩:=h
 refine⟨_,(aj (aM (bE (dr (pv 1) (by intro _;rfl)))
  (ah (av (bX (v:=.ref Y.l) U bl.NONE_ U)))
  aE)
  (ah (av (mq iL bP bl.k_Only hr (pv 0) (aa (pv 1) (aa (pv 2) ae)))))),?_⟩
 refine⟨_,U,!(ns.map V.int).isEmpty,.inl ⟨_,hS,U⟩,?_⟩;cases ns with
 |nil=>exact cZ (q _ _ (ar.refl _) (bl.q_NONE.sq _))
 |cons n ns=>exact bb ⟨_,U,x,_,_,U,hx,U,_,U,_,U,x,c,o,n,ns,b,U,⟨dx,z,hx⟩,ho,hle,hS,lt_of_succ_lt hn,q⟩
theorem AI(F:Fun K "verdict" "Way.verdict" Y26 f fd) (bl:Bl K mg Y)(iM:bp CX0 P w K mg base 1 Y.d "chosen" ["self","codes","outcome"] (J5 K Y)):aK P w K mg base CX0 2 f fd ["self","codes","outcome"] (J14 K Y):=by
 refine F.ok Z26 (λvs H Q E h=>?_) (λcdv A outer s H vs Q E hr h=>?_)
 ·obtain⟨x,c,o,ns,b,rfl,⟨dx,z,hx⟩,ho,hle,hS,hn,q⟩:=h;rfl
 obtain⟨x,c,o,ns,b,rfl,⟨dx,z,hx⟩,ho,hle,hS,hn,q⟩:=h
 refine⟨_,(aj (aM (bE (dr (pv 1) (by intro _;rfl)))
  (ah (av (bX (v:=.ref Y.l) U bl.NONE_ U)))
  aE)
  (ah (av (mq iM bP bl.k_Like hr (pv 0) (aa (pv 1) (aa (pv 2) ae)))))),?_⟩
 refine⟨_,U,!(ns.map V.int).isEmpty,.inl ⟨_,hS,U⟩,?_⟩;cases ns with
 |nil=>exact cZ (q _ _ (ar.refl _) (bl.q_NONE.sq _))
 |cons n ns=>exact bb ⟨_,U,x,_,_,U,hx,U,_,U,_,U,x,c,o,n,ns,b,U,⟨dx,z,hx⟩,ho,hle,hS,lt_of_succ_lt hn,q⟩
theorem AJ(F:Fun K "verdict" "Way.verdict" Y27 f fd) (bl:Bl K mg Y)(jI:bp CX0 P w K mg base 1 Y.e "chosen" ["self","codes","outcome"] (J7 K Y)):aK P w K mg base CX0 2 f fd ["self","codes","outcome"] (J15 K Y):=by
 refine F.ok Z27 (λvs H Q E h=>?_) (λcdv A outer s H vs Q E hr h=>?_)
 ·obtain⟨x,c,o,ns,b,rfl,⟨dx,z,hx⟩,ho,hle,hS,hn,q⟩:=h;rfl
 obtain⟨x,c,o,ns,b,rfl,⟨dx,z,hx⟩,ho,hle,hS,hn,q⟩:=h
 refine⟨_,(aj (aM (bE (dr (pv 1) (by intro _;rfl)))
  (ah (av (bX (v:=.ref Y.l) U bl.NONE_ U)))
  aE)
  (ah (av (mq jI bP bl.k_Low hr (pv 0) (aa (pv 1) (aa (pv 2) ae)))))),?_⟩
 refine⟨_,U,!(ns.map V.int).isEmpty,.inl ⟨_,hS,U⟩,?_⟩;cases ns with
 |nil=>exact cZ (q _ _ (ar.refl _) (bl.q_NONE.sq _))
 |cons n ns=>exact bb ⟨_,U,x,_,_,U,hx,U,_,U,_,U,x,c,o,n,ns,b,U,⟨dx,z,hx⟩,ho,hle,hS,lt_of_succ_lt hn,q⟩
theorem AK(F:Fun K "verdict" "Way.verdict" Y25 f fd) (bl:Bl K mg Y)(iN:bp CX0 P w K mg base 1 Y.f "chosen" ["self","codes","outcome"] (J3 K Y)):aK P w K mg base CX0 2 f fd ["self","codes","outcome"] (J13 K Y):=by
 refine F.ok Z25 (λvs H Q E h=>?_) (λcdv A outer s H vs Q E hr h=>?_)
 ·obtain⟨x,c,o,ns,b,rfl,⟨dx,z,hx⟩,ho,hle,hS,hn,q⟩:=h;rfl
 obtain⟨x,c,o,ns,b,rfl,⟨dx,z,hx⟩,ho,hle,hS,hn,q⟩:=h
 refine⟨_,(aj (aM (bE (dr (pv 1) (by intro _;rfl)))
  (ah (av (bX (v:=.ref Y.l) U bl.NONE_ U)))
  aE)
  (ah (av (mq iN bP bl.k_High hr (pv 0) (aa (pv 1) (aa (pv 2) ae)))))),?_⟩
 refine⟨_,U,!(ns.map V.int).isEmpty,.inl ⟨_,hS,U⟩,?_⟩;cases ns with
 |nil=>exact cZ (q _ _ (ar.refl _) (bl.q_NONE.sq _))
 |cons n ns=>exact bb ⟨_,U,x,_,_,U,hx,U,_,U,_,U,x,c,o,n,ns,b,U,⟨dx,z,hx⟩,ho,hle,hS,lt_of_succ_lt hn,q⟩
theorem AL(F:Fun K "verdict" "Way.verdict" Y29 f fd) (bl:Bl K mg Y)(jJ:bp CX0 P w K mg base 1 Y.g "chosen" ["self","codes","outcome"] (J11 K Y)):aK P w K mg base CX0 2 f fd ["self","codes","outcome"] (J17 K Y):=by
 refine F.ok Z29 (λvs H Q E h=>?_) (λcdv A outer s H vs Q E hr h=>?_)
 ·obtain⟨x,c,o,ns,b,rfl,⟨dx,z,hx⟩,ho,hle,hS,hn,q⟩:=h;rfl
 obtain⟨x,c,o,ns,b,rfl,⟨dx,z,hx⟩,ho,hle,hS,hn,q⟩:=h
 refine⟨_,(aj (aM (bE (dr (pv 1) (by intro _;rfl)))
  (ah (av (bX (v:=.ref Y.l) U bl.NONE_ U)))
  aE)
  (ah (av (mq jJ bP bl.k_Sum hr (pv 0) (aa (pv 1) (aa (pv 2) ae)))))),?_⟩
 refine⟨_,U,!(ns.map V.int).isEmpty,.inl ⟨_,hS,U⟩,?_⟩;cases ns with
 |nil=>exact cZ (q _ _ (ar.refl _) (bl.q_NONE.sq _))
 |cons n ns=>exact bb ⟨_,U,x,_,_,U,hx,U,_,U,_,U,x,c,o,n,ns,b,U,⟨dx,z,hx⟩,ho,hle,hS,lt_of_succ_lt hn,q⟩
theorem AM(F:Fun K "refuse_names" "refuse_names" Y70 f fd) (bl:Bl K mg Y)(jK:Callee P w K mg base 2 "is_word" ["text"] (fT K Y)):aK P w K mg base CX0 3 f fd ["names"] (dE K Y):=by
 refine F.okA Z70 λcdv A outer s H vs Q E hr h=>?_
 obtain⟨p,zs,rfl,hS,hw,hn,hl,q⟩:=h
 refine⟨_,(aG (bF PassesOwn.never U (bh (pv 0)) (ay (i:=1) Z70.nd U (Or.inl U))
  (ah (aM (bE (bw (aL jK hr U (aa (pv 1) ae))))
  (ah bV)
  aE)))
  (ah (aM (aH jN (aq ia U bl.len_ boot_len (aa (cw (hX U) U bl.set_ PyProof.Rows.boot_set (aa (pv 0) ae)) ae)) (aq az U bl.len_ boot_len (aa (pv 0) ae)) (aJ _))
  (ah bV)
  aE))),?_⟩
 have hlen:(zs.map V.str).length=zs.length:=length_map _;refine⟨λσ' H'=>H'=H/\∃c1:Option V,σ'=[some (.ref p),c1],?_,?_⟩
 ·refine⟨_,U,p,U,⟨_,hS⟩,bO (xs:=zs.map V.str) (λi σ H'=>H'=H/\∃c1:Option V,σ=[some (.ref p),c1]) ⟨U,_,U⟩ (λi σ H' _ h=>by rw[h.1];exact hS) (λi y σ H' e h=>?_) (λσ H' h=>h)⟩;obtain⟨e0,c1,rfl⟩:=h;rw[e0];obtain⟨z,rfl,ez⟩:=oS e;have hz1:=hw z (BR ez);have hz:z.length<=1000:=by
   have hw2:=hz1;unfold isw at hw2;simp only[and_eq_true,decide_eq_true_eq]at hw2;lia
  refine⟨_,U,z,U,hz,_,U,?_⟩;rw[hz1];exact bb ⟨U,_,U⟩
 rintro σ2 H2 ⟨e2,c1,rfl⟩;rw[e2];refine⟨_,U,p,zs,U,hS,by lia,λl hl2=>⟨l,zs,U,ab,by lia,_,U,p,_,U,.inl ((ag hl2 _).seq hS),_,_,U,U,_,U,?_⟩⟩;have cf:=jw zs zs.length (le_refl _);rw[take_length]at cf;exact bI (by rw[hlen,cf.mpr hn];lia) (q _ (ag hl2 _))
theorem AN(F:Fun K "refuse_row" "refuse_row" Y71 f fd) (bl:Bl K mg Y)(ed:bp CX0 P w K mg base 2 Y.i "has_code" ["self","value"] (bL K Y)) (fD:bp CX0 P w K mg base 2 Y.j "has_code" ["self","value"] (bS K Y)):aK P w K mg base CX0 3 f fd ["domains","outcome","cells","code"] (fm K Y):=by
 refine F.okA Z71 λcdv A outer s H vs Q E hr h=>?_
 obtain⟨dl,ou,cl,dv,xs,bs,o,w_,rfl,hD,hdv,hO,hC,hcl,ok,q⟩:=h
 refine⟨_,(aj (aM (aH ko (aq az U bl.len_ boot_len (aa (pv 2) ae)) (aq az U bl.len_ boot_len (aa (pv 0) ae)) (aJ _))
  (ah bV)
  aE)
  (aG (bF PassesOwn.never U (iA U bl.zip_ (aa (pv 0) (aa (pv 2) ae))) (cG U (aC (ay (i:=4) Z71.nd U (Or.inl U)) (aC (ay (i:=5) Z71.nd U (Or.inl U)) aZ)))
  (ah (bF PassesOwn.never U (bh (pv 5)) (cG U (aC (ay (i:=6) Z71.nd U (Or.inl U)) (aC (ay (i:=7) Z71.nd U (Or.inl U)) aZ)))
  (ah (aM (PW.pt (gh (aH jN (pv 6) (aN (pv 4) U) (aJ _)) (ip (aH gj (pv 7) (aN (pv 4) U) (aJ _)))))
  (ah bV)
  aE)))))
  (ah (aM (bE (bw (sR (oJ ed bl.k_Numbers (oJ fD bl.k_Words xT)) bP hr (pv 1) (aa (pv 3) ae))))
  (ah bV)
  aE)))),?_⟩
 have hdf:∀(C:Addr),(C=Y.i\/C=Y.j)->Cls K C/\NoAttr K C (Str.ofString "low")/\NoAttr K C (Str.ofString "high"):=λC h=>by
  rcases h with rfl|rfl
  ·exact⟨bl.k_Numbers,bl.na_Numbers_low,bl.na_Numbers_high⟩
  ·exact⟨bl.k_Words,bl.na_Words_low,bl.na_Words_high⟩
 have hlen:xs.length=dv.length:=by rw[hcl.1,ok.len,hdv.1]
 refine⟨_,U,cl,_,U,.inl (SqL.of hC),_,U,dl,_,U,.inl (hD),U,_,U,oq (by rw[hlen]) ?_⟩;refine⟨λσ' H'=>ar H H'/\∃c4 c5 c6 c7:Option V,σ'=[some (.ref dl),some (.ref ou),some (.ref cl),some (.int w_.2),c4,c5,c6,c7],?_,?_⟩
 ·refine⟨_,U,_,U,dl,cl,U,⟨_,hD⟩,⟨_,SqL.of hC⟩,kg (xs:=dv) (ys:=xs) (λi σ H'=>ar H H'/\∃c4 c5 c6 c7:Option V,σ=[some (.ref dl),some (.ref ou),some (.ref cl),some (.int w_.2),c4,c5,c6,c7]) ⟨ar.refl _,_,_,_,_,U⟩ (λi σ H' h=>⟨h.1.seq hD,SqL.of (h.1 _ _ hC)⟩) (λi x y σ H' T ex ey h hT=>?_) (λσ H' h=>h)⟩;obtain⟨sm,c4,c5,c6,c7,rfl⟩:=h;have s2:=sm.trans (ag hT (.tup [x,y]));have eT:upd H' T (.tup [x,y]) T=some (.tup [x,y]):=ab;generalize upd H' T (.tup [x,y])=H2 at s2 eT⊢;obtain⟨a,b,rfl,eb,hb⟩:=hdv.get ex;obtain⟨l,ps,rfl,ep,hl⟩:=aI.get hcl ey;obtain⟨C,hC',dx,fs,ha,f1,f2,_⟩:=hb.same s2;obtain⟨k1,k2,k3⟩:=hdf C hC';obtain⟨_,ys,el,hp⟩:=hl.same s2;refine⟨T,_,U,SqT.of eT,U,_,_,U,_,_,U,U,?_⟩;refine⟨_,U,l,U,⟨_,SqL.of el⟩,bO (xs:=ys) (λj σ H'=>H'=H2/\∃c6 c7:Option V,σ=[some (.ref dl),some (.ref ou),some (.ref cl),some (.int w_.2),some (.ref a),some (.ref l),c6,c7]) ⟨U,_,_,U⟩ (λj σ H' _ h=>by rw[h.1];exact SqL.of el) (λj y σ H' e h=>?_) (λσ H' h=>?_)⟩
  ·obtain⟨e0,c6,c7,rfl⟩:=h;rw[e0];obtain⟨p,r,e1,rfl,hr'⟩:=hp.get e;obtain⟨i1,i2⟩:=ok.inn i ps b ep eb p (BR e1);refine⟨r,_,U,SqT.of hr',U,_,_,U,_,_,U,U,?_⟩;refine⟨_,U,_,U,a,_,_,_,_,U,ha,k1,k2,f1,_,_,U,U,_,U,bI (by lia) ?_⟩;exact⟨_,U,_,U,a,_,_,_,_,U,ha,k1,k3,f2,_,_,U,U,_,U,bI (by lia) ⟨U,_,_,U⟩⟩
  ·obtain⟨e0,c6,c7,rfl⟩:=h;rw[e0];exact⟨s2,_,_,_,_,U⟩
 rintro σ3 H3 ⟨s3,c4,c5,c6,c7,rfl⟩;obtain⟨C,hC',hd⟩:=hO.same s3;obtain⟨dx,fs,ha,f1,f2,f3⟩:=id hd;rcases hC' with rfl|rfl
 ·exact⟨_,U,ou,_,dx,fs,U,.head _,ha,f3,_,U,ou,o,w_.2,U,hd,ok.lo,ok.hi,_,U,bb (q _ s3)⟩
 ·exact⟨_,U,ou,_,dx,fs,U,.tail _ (.head _),ha,f3,_,U,ou,o,w_.2,U,hd,ok.lo,ok.hi,_,U,bb (q _ s3)⟩
theorem AO(F:Fun K "mask" "mask" Y63 f fd) (bl:Bl K mg Y)(w6:Callee P w K mg base 2 "fits" ["table","k","codes"] (nL K Y)):aK P w K mg base CX0 3 f fd ["table","codes"] (nM K Y):=by
 refine F.okA Z63 λcdv A outer s H vs Q E hr h=>?_
 obtain⟨t,c,rws,wi,o,cs,rfl,⟨rl,ou,dx,fs,xs,wy,ht,hf,hfw,hfo,erl,hR,hwi,hou,hole,iH⟩,hS,hlen,q⟩:=h;refine⟨_,(ah (av (aq (fb U) U bl.sum_ PyProof.Rows.boot_sum (aa (m9 (dP U bl.range_ (aa (aq az U bl.len_ boot_len (aa (aN (pv 0) U) ae)) ae)) (dR (N:=["k","table","codes"]) (fr:=[0,1]) (cl:=[("table",s.heap.objs.size+1),("codes",s.heap.objs.size+1+1)]) U U (by decide+kernel) (by decide+kernel) U (by decide+kernel) U U U (forall_mem_cons.mpr ⟨U,forall_mem_cons.mpr ⟨U,forall_mem_nil _⟩⟩) U) U (λ_ _ _ _=>(ke (bw (aL w6 hr U (aa (pv 1) (aa (pv 0) (aa (pv 2) ae))))))) (λ_ _ _ _=>(ak pM af (pv 0)))) ae)))),?_⟩;have hxl:xs.length=rws.length:=hR.1
 refine⟨_,U,t,_,_,_,_,U,ht,bl.k_Table,bl.na_Table_rows,hf,rl,_,U,.inl (SqL.of erl),_,U,(by show -(2^62)<=((xs.length:Nat):Int);lia),(by show((xs.length:Nat):Int)<2^62;lia),fK (λD i zs H'=>ar H H'/\H' D=some (.lst zs)/\∃ys:List Int,zs=ys.map V.int/\ys.sum=((msk (lW rws cs) i:Nat):Int)/\ys.length<=i)
  (λD hD=>⟨ag hD _,ab,[],U,U,zero_le _⟩) (λD i zs H' hD hi h=>?_) (λD zs H' hD h=>?_)⟩
 ·obtain⟨sm,eD,ys,rfl,nP,hl⟩:=h;have hi2:i<rws.length:=by first|lia|(rw[←hxl];lia)
  obtain⟨w_,ew⟩:∃w_,rws[i]?=some w_:=⟨_,BP hi2⟩;have hg:rws.getD i ([],0)=w_:=getD_at ew;refine⟨_,U,_,U,_,U,t,rl,c,dx,fs,xs,rws,i,w_,cs,by rw[Int.zero_add],sm _ _ ht,hf,sm _ _ erl,hR.same sm,ew,sm.seq hS,hlen w_ (BR ew),λH3 s3=>⟨_,U,?_⟩⟩;have sA:=sm.trans s3;have eD3:=s3 _ _ eD;cases hb:gd w_.1 cs with
  |true =>
   refine cZ ⟨_,U,_,_,U,U,⟨by lia,by lia,by decide⟩,dD.mk hi eD3 (ax (by rw[length_map];lia)) ⟨sA.upd hD,ab,ys++[1*2^(0+(i:Int)).toNat],by simp,?_,by simp;lia⟩⟩;have e2:(0+(i:Int)).toNat=i:=by lia
   rw[e2,List.sum_append,nP,oU,show lW rws cs i=true by unfold lW;rw[hg];exact hb];simp;lia
  |false =>
   refine bb (f9.mk (zs:=ys.map V.int) hi ⟨sA,eD3,ys,U,?_,by lia⟩);rw[nP,oU,show lW rws cs i=false by unfold lW;rw[hg];exact hb];simp
 ·obtain⟨sm,eD,ys,rfl,nP,hl⟩:=h;rw[toNat_natCast]at nP;refine⟨D,ys,U,SqL.of eD,?_⟩;have q2:=q H' sm;rw[←hxl,←nP]at q2;exact q2
theorem AQ(F:Fun K "_law_bit_rows" "_law_bit_rows" Y43 f fd) (bl:Bl K mg Y)(lC:Callee P w K mg base 2 "_law_bit_row" ["m","columns","out","last"] (d6 K Y)):aK P w K mg base CX0 3 f fd ["seeds","columns","out"] (dF K Y):=by
 refine F.okA Z43 λcdv A outer s H vs Q E hr h=>?_
 obtain⟨sl,cl,ol,ns,xs,cs,oc,rfl,hsl,iH,hn0,hcl,hcs,hok,h1,h4,hoc,ook,q⟩:=h
 refine⟨_,(aj (aF (i:=3) Z43.nd U (Or.inl U) (bf ae))
  (aj (aF (i:=4) Z43.nd U (Or.inl U) (bf ae))
  (aj (bF PassesOwn.never U (bh (pv 0)) (ay (i:=5) Z43.nd U (Or.inl U))
  (aj (aF (i:=4) Z43.nd U (Or.inl U) (aL lC hr U (aa (pv 5) (aa (pv 1) (aa (pv 2) (aa (pv 4) ae))))))
  (ah (bg (f7 PySem.F.plainAttrs_list PySem.F.slot_list_append PySem.F.type_list_append bA (pv 3) (aa (pv 4) ae))))))
  (ah (av (pv 3)))))),?_⟩
 refine⟨(by show 0<=sizeLine;decide),λl hl=>?_⟩;have s0:ar H (upd H l (.lst [])):=ag hl _;have e0:upd H l (.lst []) l=some (.lst []):=ab;generalize upd H l (.lst [])=H0 at s0 e0⊢;refine⟨(by show 0<=sizeLine;decide),λla0 tT=>?_⟩;have s1:=s0.trans (ag tT (.lst []));have e1:=ag tT (.lst []) _ _ e0;have e2:upd H0 la0 (.lst []) la0=some (.lst []):=ab;have hne:la0≠l:=λz=>by rw[z,e0]at tT;cases tT
 have BM:H la0=none:=s0.free tT;generalize upd H0 la0 (.lst [])=H1 at s1 e1 e2⊢;refine⟨_,U,sl,U,⟨_,SqL.of (s1 _ _ hsl)⟩,bO (xs:=ns.map V.int) (λi σ H'=>ar H H'/\∃(la:Addr)(zs:List V)(ws:List BW)(c5:Option V),H' l=some (.lst zs)/\BRL (Fr H l) H' zs ws/\ws.length=i/\(∀w∈ws,eP cs oc w)/\(la≠l/\H' la=some (.lst [])\/∃w,dH (Fr H l) H' la w/\eP cs oc w)/\σ=[some (.ref sl),some (.ref cl),some (.ref ol),some (.ref l),some (.ref la),c5]) ⟨s1,la0,[],[],_,e1,aI.nil,U,(λw h=>by cases h),.inl ⟨hne,e2⟩,U⟩ (λi σ H' _ h=>SqL.of (h.1 _ _ hsl)) (λi y σ H' ey hh=>?_) (λσ H' hh=>?_)⟩
 ·obtain⟨sm,la,zs,ws,c5,el,hz,hlen,m4,hla,rfl⟩:=hh;obtain⟨c,rfl,ec⟩:=of_map ey;have hi:i<ns.length:=(BQ.mp ec).1;refine⟨_,U,_,U,_,U,_,U,c,cl,ol,la,xs,cs,oc,U,sm _ _ hcl,hcs.same sm,hok,h1,h4,hoc.same sm,ook,hn0 c (BR ec),?_,λr w_ H2 s2 ji okw=>?_⟩
  ·rcases hla with⟨_,z⟩|⟨w,z1,z2⟩
   ·exact .inl z
   ·exact .inr ⟨w,z1.wk λ_ _=>trivial,z2⟩
  have el2:=s2 _ _ el;have hlz:zs.length=i:=by rw[hz.1,hlen]
  refine⟨_,U,.inl ⟨U,_,SqL.of el2⟩,_,U,l,_,_,U,U,el2,ax (by lia),?_⟩;have vp:dH (Fr H l) H2 r w_:=ji.wk λa ha=>⟨sm.free ha,λz=>by rw[z,el]at ha;cases ha⟩
  have yu:dH (Fr H l) (upd H2 l (.lst (zs++[.ref r]))) r w_:=vp.updN Fr.out el2;have hz2:BRL (Fr H l) H2 (zs++[.ref r]) (ws++[w_]):=aI.snoc (hz.same s2) vp;refine⟨(sm.trans s2).upd hl,r,zs++[.ref r],ws++[w_],_,ab,hz2.updN Fr.out el2,by simp[hlen],λw h=>?_,.inr ⟨w_,yu,okw⟩,U⟩;rcases mem_append.mp h with h|h
  ·exact m4 w h
  ·rw[show w=w_ by simpa using h];exact okw
 ·obtain⟨sm,la,zs,ws,c5,el,hz,hlen,m4,hla,rfl⟩:=hh;rw[length_map]at hlen;exact⟨_,U,q l zs ws H' sm el (hz.wk λa h=>h.1) hlen m4⟩
theorem AR(F:Fun K "_law_part" "_law_part" Y54 f fd) (bl:Bl K mg Y)(qj:Callee P w K mg base 2 "_law_cut" ["spans","other","within"] (iF K Y)):aK P w K mg base CX0 3 f fd ["rows","at","spans","within"] (gx K Y):=by
 refine F.okA Z54 λcdv A outer s H vs Q E hr h=>?_
 obtain⟨rl,sl,rx,rws,sp,c,wi,rfl,hrl,hR,iH,hsl,aS,lS,ji,q⟩:=h
 refine⟨_,(aj (aF (i:=4) Z54.nd U (Or.inl U) (bf ae))
  (aj (bF PassesOwn.never U (bh (pv 0)) (cG U (aC (ay (i:=5) Z54.nd U (Or.inl U)) (aC (ay (i:=6) Z54.nd U (Or.inl U)) aZ)))
  (aj (aF (i:=7) Z54.nd U (Or.inl U) (aL qj hr U (aa (aw aD (pv 5) (pv 1) (λ_ _=>U)) (aa (pv 2) (aa (pv 3) ae)))))
  (ah (aM (aH gj (aq az U bl.len_ boot_len (aa (pv 7) ae)) af (aJ _))
  (ah (bg (f7 PySem.F.plainAttrs_list PySem.F.slot_list_append PySem.F.type_list_append bA (pv 4) (aa (bq (aa (ak cS (ak cS (cE dk (pv 5) di (dj (pv 1))) (bf (aa (pv 7) ae))) (cE dk (pv 5) (dj (ak bx (pv 1) af)) di)) (aa (pv 6) ae))) ae))))
  aE))))
  (ah (av (pv 4))))),?_⟩
 refine⟨(by show 0<=sizeLine;decide),λtl htl=>?_⟩;have s0:ar H (upd H tl (.lst [])):=ag htl _;have e0:upd H tl (.lst []) tl=some (.lst []):=ab;generalize upd H tl (.lst [])=H0 at s0 e0⊢;have yv:rx.length=rws.length:=hR.1;refine⟨_,U,rl,U,⟨_,SqL.of (s0 _ _ hrl)⟩,bO (xs:=rx) (λi σ H'=>ar H H'/\∃(ys:List V)(c5 c6 c7:Option V),H' tl=some (.lst ys)/\RL (· ≠ tl) H' ys (prt sp wi c (rws.take i))/\σ=[some (.ref rl),some (.int (c:Int)),some (.ref sl),some (.bl wi),some (.ref tl),c5,c6,c7]) ⟨s0,[],_,_,_,e0,aI.nil,U⟩ (λi σ H' _ h=>SqL.of (h.1 _ _ hrl)) (λi y σ H' ey h=>?_) (λσ H' h=>?_)⟩
 ·obtain⟨sm,ys,c5,c6,c7,etl,hz,rfl⟩:=h;obtain⟨r,x,rfl,ex,ce,cs,g1,_,g2,g3⟩:=aI.get hR ey;have hx:=BR ex;obtain⟨hcx,hx4,aX,lX⟩:=ji x hx;have hcl:cs.length=x.1.length:=g3.1;have hi:i<rx.length:=(BQ.mp ey).1;obtain⟨ol,eol,hsp⟩:=g3.2 c _ (BP hcx);have hA:x.1[c]=x.1.getD c []:=by rw[getD_eq_getElem?_getD,BP hcx];rfl
  rw[hA]at hsp;refine⟨r,_,U,SqT.of (sm _ _ g1),U,_,_,U,_,_,U,U,?_⟩;refine⟨_,U,_,U,ce,_,_,_,U,U,SqL.of (sm _ _ g2),ba eol,_,U,_,U,ol,sl,_,sp,wi,U,hsp.same sm,hsl.same sm,aX,aS,lX,lS,λl R H2 s2 nl hl uL lR=>?_⟩;obtain⟨_,yl,eyl,pyl⟩:=hl;have hyl:=pyl.length;have ec:=uL.is;have sA:=sm.trans s2;have uM:=s2 _ _ etl;have hat:(nrw sp wi c x).1.getD c []=R:=by rw[wO hcx,ec]
  have hsn:prt sp wi c (rws.take (i+1))=prt sp wi c (rws.take i)++(if (!R.isEmpty)=true then[nrw sp wi c x] else[]):=by rw[take_snoc ex,o8,hat]
  have hpl:=nJ sp wi c (rws.take i);rw[length_take]at hpl;have hz2:=hz.same s2;have nlt:l≠tl:=λz=>by rw[z,etl]at nl;cases nl
  refine⟨_,U,l,_,U,.inl (SqL.of eyl),_,_,U,U,_,U,?_⟩;refine b7 (λg=>?_) (λg=>?_)
  ·have hne:(!R.isEmpty)=true:=by
    cases R with
    |nil=>exfalso;rw[hyl]at g;exact absurd (of_decide_eq_true g) (by show ¬ ((0:Int)<((0:Nat):Int));decide)
    |cons a b=>rfl
   rw[hne,if_pos U]at hsn;refine⟨_,U,.inl ⟨U,_,SqL.of uM⟩,_,U,_,U,_,U,ce,cs,U,SqL.of (sA _ _ g2),λc1 hc1=>?_⟩;rw[nA];have t1:=ag hc1 (.lst (cs.take c));have h1:upd H2 c1 (.lst (cs.take c)) c1=some (.lst (cs.take c)):=ab;generalize upd H2 c1 (.lst (cs.take c))=H3 at t1 h1⊢;refine⟨_,U,(by show 1<=sizeLine;decide),λc2 hc2=>?_⟩;have t2:=ag hc2 (.lst [V.ref l]);have h2:upd H3 c2 (.lst [V.ref l]) c2=some (.lst [V.ref l]):=ab;generalize upd H3 c2 (.lst [V.ref l])=H4 at t2 h2⊢;refine⟨c1,c2,_,_,U,U,t2 _ _ h1,h2,le_of_lt (ax (by rw[length_take,length_singleton];lia)),λc3 hc3=>?_⟩;have t3:=ag hc3 (.lst (cs.take c++[V.ref l]));have h3:upd H4 c3 (.lst (cs.take c++[V.ref l])) c3=some (.lst (cs.take c++[V.ref l])):=ab;generalize upd H4 c3 (.lst (cs.take c++[V.ref l]))=H5 at t3 h3⊢;have t13:=(t1.trans t2).trans t3;refine⟨_,U,_,U,_,_,U,U,_,U,ce,cs,U,SqL.of (t13 _ _ (sA _ _ g2)),λc4 hc4=>?_⟩;rw[show((c:Int)+1)=((c+1:Nat):Int) by lia,jh];have t4:=ag hc4 (.lst (cs.drop (c+1)));have h4:upd H5 c4 (.lst (cs.drop (c+1))) c4=some (.lst (cs.drop (c+1))):=ab;generalize upd H5 c4 (.lst (cs.drop (c+1)))=H6 at t4 h4⊢;refine⟨c3,c4,_,_,U,U,t4 _ _ h3,h4,le_of_lt (ax (by rw[length_append,length_take,length_drop,length_singleton];lia)),λc5 hc5=>?_⟩;have t5:=ag hc5 (.lst (cs.take c++[V.ref l]++cs.drop (c+1)));have h5:upd H6 c5 (.lst (cs.take c++[V.ref l]++cs.drop (c+1))) c5=some (.lst (cs.take c++[V.ref l]++cs.drop (c+1))):=ab;have n5:c5≠tl:=λz=>by rw[z,(t13.trans t4) _ _ uM]at hc5;cases hc5
   generalize upd H6 c5 (.lst (cs.take c++[V.ref l]++cs.drop (c+1)))=H7 at t5 h5⊢;refine⟨_,U,aV,λtt_ htt=>?_⟩;have t6:=ag htt (.tup [.ref c5,.int x.2]);have eT:upd H7 tt_ (.tup [.ref c5,.int x.2]) tt_=some (.tup [.ref c5,.int x.2]):=ab;generalize upd H7 tt_ (.tup [.ref c5,.int x.2])=H8 at t6 eT⊢;have u:=((t13.trans t4).trans t5).trans t6;have yw:=u _ _ uM;have kp:ar H H8:=sA.trans u;have hN:∀{l':Addr}{ps:Prs},SpA NT H l' ps->SpA (· ≠ tl) H8 l' ps:=λ{l' ps} h=>by
    obtain⟨_,y',e',p'⟩:=h;exact⟨(λz=>by rw[z,htl]at e';cases e'),y',kp _ _ e',p'.mono kp.tups⟩
   have c9:SpA (· ≠ tl) H8 l (fh sp wi (x.1.getD c [])):=by
    rw[ec];exact⟨nlt,yl,u _ _ eyl,pyl.mono u.tups⟩
   have yx:fA (· ≠ tl) H8 tt_ (nrw sp wi c x):=⟨c5,_,eT,n5,t6 _ _ h5,aI.app (aI.app (aI.mono (aI.take g3 c) λ_ _ p=>hN p) (aI.one c9)) (aI.mono (aI.drop g3 (c+1)) λ_ _ p=>hN p)⟩;refine⟨tl,_,_,U,U,yw,ax (by have:=hz.1;lia),?_⟩;refine⟨kp.upd htl,_,_,_,_,ab,?_,U⟩;rw[hsn];exact RL.updN (aI.snoc (RL.same hz2 u) yx) (λz=>z U) yw
  ·have hne:(!R.isEmpty)=false:=by
    cases R with
    |nil=>rfl
    |cons a b=>exfalso;exact g (decide_eq_true (by rw[hyl,length_cons];lia))
   rw[hne,if_neg (by decide),append_nil]at hsn;exact⟨sA,ys,_,_,_,uM,by rw[hsn];exact hz2,U⟩
 ·obtain⟨sm,ys,c5,c6,c7,etl,hz,rfl⟩:=h;rw[yv,take_length]at hz;exact⟨_,U,q tl ys H' sm etl (RL.any hz)⟩
theorem AS(F:Fun K "__init__" "Words.__init__" Y30 f fd) (bl:Bl K mg Y)(fE:bU CX0 P w K mg base 2 "Domain" "__init__" ["self","low","high"] (bR K Y)) (jK:Callee P w K mg base 2 "is_word" ["text"] (fT K Y)):aK P w K mg base CX0 3 f fd ["self","words"] (bW K Y):=by
 refine F.okA Z30 λcdv A outer s H vs Q E hr h=>?_
 obtain⟨x,dx,p,zs,rfl,hx,hP,hg,q⟩:=h
 refine⟨_,(aj (aM (bE (kr dq dq af (aq az U bl.len_ boot_len (aa (pv 1) ae)) (ow U bl.MOST_WORDS_)))
  (ah bV)
  aE)
  (aG (bF PassesOwn.never U (bh (pv 1)) (ay (i:=2) Z30.nd U (Or.inl U))
  (ah (aM (bE (bw (aL jK hr U (aa (pv 2) ae))))
  (ah bV)
  aE)))
  (aj (aM (aH jN (aq ia U bl.len_ boot_len (aa (cw (hX U) U bl.set_ PyProof.Rows.boot_set (aa (pv 1) ae)) ae)) (aq az U bl.len_ boot_len (aa (pv 1) ae)) (aJ _))
  (ah bV)
  aE)
  (aj (bg (eJ fE bP hr U (aa (pv 0) (aa af (aa (ak cP (aq az U bl.len_ boot_len (aa (pv 1) ae)) af) ae)))))
  (ah (cg (pv 0) (cw cR U bl.list_ PyProof.Rows.boot_list (aa (pv 1) ae)) U)))))),?_⟩
 have hS:SqL K H p (zs.map V.str):=SqL.of hP;have hpx:p≠x:=fu hP hx (by intro z;cases z);have hlen:(zs.map V.str).length=zs.length:=length_map _;have h1:=hg.some_;have h40:=hg.few;refine⟨_,U,p,_,U,.inl hS,_,_,U,U,_,U,eL (by rw[hlen];lia) ?_⟩;refine⟨_,_,U,U,_,U,?_⟩;rw[decide_eq_true (show(((zs.map V.str).length:Nat):Int)<=40 by rw[hlen];lia)];refine bb ?_;refine⟨λσ' H'=>H'=H/\∃c2:Option V,σ'=[some (.ref x),some (.ref p),c2],?_,?_⟩
 ·refine⟨_,U,p,U,⟨_,hS⟩,bO (xs:=zs.map V.str) (λi σ H'=>H'=H/\∃c2:Option V,σ=[some (.ref x),some (.ref p),c2]) ⟨U,_,U⟩ (λi σ H' _ h=>by rw[h.1];exact hS) (λi y σ H' e h=>?_) (λσ H' h=>h)⟩;obtain⟨e0,c2,rfl⟩:=h;rw[e0];obtain⟨z,rfl,ez⟩:=oS e;have hw:=hg.words z (BR ez);have hz:z.length<=1000:=by
   have hw2:=hw;unfold isw at hw2;simp only[and_eq_true,decide_eq_true_eq]at hw2;lia
  refine⟨_,U,z,U,hz,_,U,?_⟩;rw[hw];exact bb ⟨U,_,U⟩
 rintro σ2 H2 ⟨e2,c2,rfl⟩;rw[e2];refine⟨_,U,p,zs,U,hS,by lia,λl hl=>⟨l,zs,U,ab,by lia,_,U,p,_,U,.inl ((ag hl _).seq hS),_,_,U,U,_,U,?_⟩⟩;have s1:=ag hl (lO P w l zs);have cf:=jw zs zs.length (le_refl _);rw[take_length]at cf;refine bI (by rw[hlen,cf.mpr hg.once];lia) ?_;have hx1:=s1 _ _ hx;have hP1:=s1 _ _ hP;refine⟨_,U,_,U,p,_,U,.inl (SqL.of hP1),_,_,U,U,x,dx,0,_,U,hx1,?_⟩;have e1:mkd Y.j (upd H l (lO P w l zs)) x dx 0 ((((zs.map V.str).length:Nat):Int)-1) x=some (.ins Y.j dx [("low",.int 0),("high",.int ((((zs.map V.str).length:Nat):Int)-1))]):=ab;have e2:mkd Y.j (upd H l (lO P w l zs)) x dx 0 ((((zs.map V.str).length:Nat):Int)-1) p=some (.lst (zs.map V.str)):=by unfold mkd;rw[au hpx,au hpx];exact hP1
 have e3:∀b o,b≠x->H b=some o->mkd Y.j (upd H l (lO P w l zs)) x dx 0 ((((zs.map V.str).length:Nat):Int)-1) b=some o:=λb o hb h=>by unfold mkd;rw[au hb,au hb];exact s1 b o h
 have eh:(((zs.map V.str).length:Nat):Int)-1=hiW zs:=by rw[hlen];rfl
 refine⟨_,U,p,_,U,.inl (SqL.of e2),λl2 hl2=>⟨_,U,x,_,dx,_,U,bQ e1 hl2,bl.k_Words,bl.na_Words_words,(by show 2<1000;decide),?_⟩⟩;show Q .non (upd (upd (mkd Y.j (upd H l (lO P w l zs)) x dx 0 ((((zs.map V.str).length:Nat):Int)-1)) l2 (.lst (zs.map V.str))) x (.ins Y.j dx (bu (Str.ofString "words") (.ref l2) [(Str.ofString "low",.int 0),(Str.ofString "high",.int ((((zs.map V.str).length:Nat):Int)-1))])));rw[put3];have hl3:mkd Y.j (upd H l (lO P w l zs)) x dx 0 ((((zs.map V.str).length:Nat):Int)-1) l2=none:=hl2;clear hl2;generalize mkd Y.j (upd H l (lO P w l zs)) x dx 0 ((((zs.map V.str).length:Nat):Int)-1)=H2 at e1 e2 e3 hl3⊢;rw[eh];have nl:l2≠x:=(aY e1 hl3).symm;exact q _ l2 (λb o hb h=>(au hb).trans (bQ (e3 b o hb h) hl3)) ab ((au nl).trans ab)
theorem AU(F:Fun K "way_by" "way_by" Y74 f fd) (bl:Bl K mg Y)(k_First:br CX0 P w K mg base 2 "First" Y.b ["self"] (J0 K Y)) (k_Only:br CX0 P w K mg base 2 "Only" Y.c ["self"] (J8 K Y)) (k_Like:br CX0 P w K mg base 2 "Like" Y.d ["self"] (J4 K Y)) (k_Low:br CX0 P w K mg base 2 "Low" Y.e ["self"] (J6 K Y)) (k_High:br CX0 P w K mg base 2 "High" Y.f ["self"] (J2 K Y)) (k_Sum:br CX0 P w K mg base 2 "Sum" Y.g ["self"] (J10 K Y)):aK P w K mg base CX0 4 f fd ["name"] (gO K Y):=by
 refine F.okA Z74 λcdv A outer s H vs Q E hr h=>?_
 obtain⟨z,rfl,hz,q⟩:=h
 refine⟨_,(aj (bF PassesOwn.never U (bh (bf (aa (jz k_First bP hr U) (aa (jz k_Only bP hr U) (aa (jz k_Like bP hr U) (aa (jz k_Low bP hr U) (aa (jz k_High bP hr U) (aa (jz k_Sum bP hr U) ae)))))))) (ay (i:=1) Z74.nd U (Or.inl U))
  (ah (aM (aH bZ (aN (pv 1) U) (pv 0) (aJ _))
  (ah (av (pv 1)))
  aE)))
  (ah bV)),?_⟩
 refine λw0 d0 hw hdw hnw=>⟨w0,d0,U,ab,U,?_⟩
 have t0:ar H (upd (upd (upd H d0 (.own w0)) w0 (.ins Y.b d0 [])) w0 (.ins Y.b d0 [("called",.str (Str.ofString "first"))])):=((ag hdw _).upd hw).upd hw;have y0:WyN Y.b (upd (upd (upd H d0 (.own w0)) w0 (.ins Y.b d0 [])) w0 (.ins Y.b d0 [("called",.str (Str.ofString "first"))])) w0 (Str.ofString "first"):=⟨d0,ab⟩;generalize upd (upd (upd H d0 (.own w0)) w0 (.ins Y.b d0 [])) w0 (.ins Y.b d0 [("called",.str (Str.ofString "first"))])=H0 at t0 y0⊢;clear hw hdw hnw;refine λw1 d1 hw hdw hnw=>⟨w1,d1,U,ab,U,?_⟩
 have t1:ar H0 (upd (upd (upd H0 d1 (.own w1)) w1 (.ins Y.c d1 [])) w1 (.ins Y.c d1 [("called",.str (Str.ofString "only"))])):=((ag hdw _).upd hw).upd hw;have y1:WyN Y.c (upd (upd (upd H0 d1 (.own w1)) w1 (.ins Y.c d1 [])) w1 (.ins Y.c d1 [("called",.str (Str.ofString "only"))])) w1 (Str.ofString "only"):=⟨d1,ab⟩;generalize upd (upd (upd H0 d1 (.own w1)) w1 (.ins Y.c d1 [])) w1 (.ins Y.c d1 [("called",.str (Str.ofString "only"))])=H1 at t1 y1⊢;clear hw hdw hnw;have y0:=y0.same t1;refine λw2 d2 hw hdw hnw=>⟨w2,d2,U,ab,U,?_⟩
 have t2:ar H1 (upd (upd (upd H1 d2 (.own w2)) w2 (.ins Y.d d2 [])) w2 (.ins Y.d d2 [("called",.str (Str.ofString "like"))])):=((ag hdw _).upd hw).upd hw;have y2:WyN Y.d (upd (upd (upd H1 d2 (.own w2)) w2 (.ins Y.d d2 [])) w2 (.ins Y.d d2 [("called",.str (Str.ofString "like"))])) w2 (Str.ofString "like"):=⟨d2,ab⟩;generalize upd (upd (upd H1 d2 (.own w2)) w2 (.ins Y.d d2 [])) w2 (.ins Y.d d2 [("called",.str (Str.ofString "like"))])=H2 at t2 y2⊢;clear hw hdw hnw;have y0:=y0.same t2;have y1:=y1.same t2;refine λw3 d3 hw hdw hnw=>⟨w3,d3,U,ab,U,?_⟩
 have t3:ar H2 (upd (upd (upd H2 d3 (.own w3)) w3 (.ins Y.e d3 [])) w3 (.ins Y.e d3 [("called",.str (Str.ofString "low"))])):=((ag hdw _).upd hw).upd hw;have y3:WyN Y.e (upd (upd (upd H2 d3 (.own w3)) w3 (.ins Y.e d3 [])) w3 (.ins Y.e d3 [("called",.str (Str.ofString "low"))])) w3 (Str.ofString "low"):=⟨d3,ab⟩;generalize upd (upd (upd H2 d3 (.own w3)) w3 (.ins Y.e d3 [])) w3 (.ins Y.e d3 [("called",.str (Str.ofString "low"))])=H3 at t3 y3⊢;clear hw hdw hnw;have y0:=y0.same t3;have y1:=y1.same t3;have y2:=y2.same t3;refine λw4 d4 hw hdw hnw=>⟨w4,d4,U,ab,U,?_⟩
 have t4:ar H3 (upd (upd (upd H3 d4 (.own w4)) w4 (.ins Y.f d4 [])) w4 (.ins Y.f d4 [("called",.str (Str.ofString "high"))])):=((ag hdw _).upd hw).upd hw;have y4:WyN Y.f (upd (upd (upd H3 d4 (.own w4)) w4 (.ins Y.f d4 [])) w4 (.ins Y.f d4 [("called",.str (Str.ofString "high"))])) w4 (Str.ofString "high"):=⟨d4,ab⟩;generalize upd (upd (upd H3 d4 (.own w4)) w4 (.ins Y.f d4 [])) w4 (.ins Y.f d4 [("called",.str (Str.ofString "high"))])=H4 at t4 y4⊢;clear hw hdw hnw;have y0:=y0.same t4;have y1:=y1.same t4;have y2:=y2.same t4;have y3:=y3.same t4;refine λw5 d5 hw hdw hnw=>⟨w5,d5,U,ab,U,?_⟩
 have t5:ar H4 (upd (upd (upd H4 d5 (.own w5)) w5 (.ins Y.g d5 [])) w5 (.ins Y.g d5 [("called",.str (Str.ofString "sum"))])):=((ag hdw _).upd hw).upd hw;have y5:WyN Y.g (upd (upd (upd H4 d5 (.own w5)) w5 (.ins Y.g d5 [])) w5 (.ins Y.g d5 [("called",.str (Str.ofString "sum"))])) w5 (Str.ofString "sum"):=⟨d5,ab⟩;generalize upd (upd (upd H4 d5 (.own w5)) w5 (.ins Y.g d5 [])) w5 (.ins Y.g d5 [("called",.str (Str.ofString "sum"))])=H5 at t5 y5⊢;clear hw hdw hnw;have y0:=y0.same t5;have y1:=y1.same t5;have y2:=y2.same t5;have y3:=y3.same t5;have y4:=y4.same t5;have s5:ar H H5:=((((t0.trans t1).trans t2).trans t3).trans t4).trans t5;refine⟨(by show 6<=sizeLine;decide),λl hl=>?_⟩;have sl:ar H5 (upd H5 l (.lst [V.ref w0,.ref w1,.ref w2,.ref w3,.ref w4,.ref w5])):=ag hl _;have el:upd H5 l (.lst [V.ref w0,.ref w1,.ref w2,.ref w3,.ref w4,.ref w5]) l=some (.lst [V.ref w0,.ref w1,.ref w2,.ref w3,.ref w4,.ref w5]):=ab;generalize upd H5 l (.lst [V.ref w0,.ref w1,.ref w2,.ref w3,.ref w4,.ref w5])=H6 at sl el⊢;have y0:=y0.same sl;have y1:=y1.same sl;have y2:=y2.same sl;have y3:=y3.same sl;have y4:=y4.same sl;have y5:=y5.same sl;have sA:=s5.trans sl;have key:∀(i:Nat)(x:V),[V.ref w0,.ref w1,.ref w2,.ref w3,.ref w4,.ref w5][i]?=some x->∃(a C:Addr)(y:Str),x=.ref a/\(cl6 Y.b Y.c Y.d Y.e Y.f Y.g)[i]?=some C/\six[i]?=some y/\WyN C H6 a y/\Cls K C/\NoAttr K C (Str.ofString "called"):=λi x e=>by
  match i,e with
  |0,e=>cases e;exact⟨w0,Y.b,_,U,U,U,y0,bl.k_First,bl.na_First_called⟩
  |1,e=>cases e;exact⟨w1,Y.c,_,U,U,U,y1,bl.k_Only,bl.na_Only_called⟩
  |2,e=>cases e;exact⟨w2,Y.d,_,U,U,U,y2,bl.k_Like,bl.na_Like_called⟩
  |3,e=>cases e;exact⟨w3,Y.e,_,U,U,U,y3,bl.k_Low,bl.na_Low_called⟩
  |4,e=>cases e;exact⟨w4,Y.f,_,U,U,U,y4,bl.k_High,bl.na_High_called⟩
  |5,e=>cases e;exact⟨w5,Y.g,_,U,U,U,y5,bl.k_Sum,bl.na_Sum_called⟩
  |n+6,e=>simp at e
 refine⟨l,U,⟨_,SqL.of el⟩,bO (xs:=[V.ref w0,.ref w1,.ref w2,.ref w3,.ref w4,.ref w5]) (λi σ H'=>(∃c1:Option V,σ=[some (.str z),c1])/\H'=H6/\∀j:Nat,j<i->six[j]?≠some z) ⟨⟨_,U⟩,U,(λj h=>absurd h (Nat.not_lt_zero j))⟩ (λi σ H' _ h=>by rw[h.2.1];exact SqL.of el) (λi x σ H' e h=>?_) (λσ H' h=>?_)⟩
 ·obtain⟨⟨c1,rfl⟩,e0,hno⟩:=h;rw[e0];obtain⟨a,C,y,rfl,eC,ey,⟨dx,ha⟩,hc,hn⟩:=key i x e;refine⟨_,U,a,_,_,_,_,U,ha,hc,hn,U,_,U,U,_,U,?_⟩;refine b7 (λg=>?_) (λg=>?_)
  ·have g':V.str y=V.str z:=gm g;injection g' with g';subst g';exact⟨_,U,q i ey a C H6 sA eC ⟨dx,ha⟩⟩
  ·refine⟨⟨_,U⟩,U,λj hj=>?_⟩;by_cases hji:j<i
   ·exact hno j hji
   ·have:j=i:=by lia
    subst this;rw[ey];intro q2;exact(i5 g) (by injection q2 with q2;rw[q2])
 ·obtain⟨⟨c1,rfl⟩,e0,hno⟩:=h;rw[e0];obtain⟨j,hj,ej⟩:=List.getElem_of_mem hz;exact absurd (by rw[BP hj,ej]) (hno j hj)
theorem AV(F:Fun K "refuse_way" "refuse_way" Y72 f fd) (bl:Bl K mg Y)(lD:Callee P w K mg base 4 "way_by" ["name"] (gO K Y)):aK P w K mg base CX0 5 f fd ["way","outcome"] (fq K Y):=by
 refine F.okA Z72 λcdv A outer s H vs Q E hr h=>?_
 obtain⟨z,ou,rfl,hz,hne,q⟩:=h
 refine⟨_,(ah (aM (PW.pt (cM (aH bZ (aN (aL lD hr U (aa (pv 0) ae)) U) aP (aJ _)) (cb (bw (aq bJ U bl.isinstance_ PyProof.Rows.boot_isinstance (aa (pv 1) (aa (bX (v:=.ref Y.j) U bl.Words_ U) ae)))))))
  (ah bV)
  aE)),?_⟩
 refine⟨_,U,z,U,hz,λi ei x C H' s' eC hw=>?_⟩;have hF:Cls K C/\NoAttr K C (Str.ofString "called"):=by
  match i,eC with
  |0,eC=>cases eC;exact⟨bl.k_First,bl.na_First_called⟩
  |1,eC=>cases eC;exact⟨bl.k_Only,bl.na_Only_called⟩
  |2,eC=>cases eC;exact⟨bl.k_Like,bl.na_Like_called⟩
  |3,eC=>cases eC;exact⟨bl.k_Low,bl.na_Low_called⟩
  |4,eC=>cases eC;exact⟨bl.k_High,bl.na_High_called⟩
  |5,eC=>cases eC;exact⟨bl.k_Sum,bl.na_Sum_called⟩
  |n+6,eC=>simp[cl6]at eC
 obtain⟨dx,hx⟩:=hw;refine⟨x,_,_,_,_,U,hx,hF.1,hF.2,U,U,_,U,?_⟩;by_cases hs:z=Str.ofString "sum"
 ·obtain⟨dy,fs,ho⟩:=hne hs;exact eL (by rw[hs]) ⟨_,U,_,_,_,_,false,U,.ref _,bl.t_Numbers.ty (s' _ _ ho),bl.f_nw,_,U,bb (q _ s')⟩
 ·exact bI (λe=>by injection e with e;exact hs e) (bb (q _ s'))
theorem AW(F:Fun K "judged" "judged" Y39 f fd) (bl:Bl K mg Y)(gW:bp CX0 P w K mg base 4 Y.b "verdict" ["self","codes","outcome"] (J12 K Y)) (iO:bp CX0 P w K mg base 4 Y.c "verdict" ["self","codes","outcome"] (J16 K Y)) (iP:bp CX0 P w K mg base 4 Y.d "verdict" ["self","codes","outcome"] (J14 K Y)) (jj:bp CX0 P w K mg base 4 Y.e "verdict" ["self","codes","outcome"] (J15 K Y)) (iQ:bp CX0 P w K mg base 4 Y.f "verdict" ["self","codes","outcome"] (J13 K Y)) (jk:bp CX0 P w K mg base 4 Y.g "verdict" ["self","codes","outcome"] (J17 K Y)) (lD:Callee P w K mg base 4 "way_by" ["name"] (gO K Y)):aK P w K mg base CX0 5 f fd ["table","rows"] (jG K Y):=by
 refine F.okA Z39 λcdv A outer s H vs Q E hr h=>?_
 obtain⟨t,rws,wi,o,m,rfl,⟨rl,ou,dx,fs,xs,wy,ht,hf,hfw,hfo,erl,hR,hwi,hou,hole,iH⟩,q⟩:=h
 refine⟨_,(aj (oM (i:=2) Z39.nd U (Or.inl U) (kh U bl.enumerate_ (aa (aN (pv 0) U) ae)) (eN (N:=["k","row","rows"]) (k:=2) (fr:=[1]) (cl:=[("rows",s.heap.objs.size+1)]) U U (by decide+kernel) (by decide+kernel) U U (forall_mem_cons.mpr ⟨U,forall_mem_nil _⟩) U) U (λ_ _ _ _=>(gn (K:=K) (n:=2) U U (aC (ay (i:=0) (show(["k","row","rows"]:List Str).Nodup by decide+kernel) U (Or.inl U) (Or.inr U)) (aC (ay (i:=1) (show(["k","row","rows"]:List Str).Nodup by decide+kernel) U (Or.inl U) (Or.inr U)) aZ)))) (λ_ _ _ _=>(ke (mE (K:=K) U (ak mU (ak mT (pv 2) (pv 0)) af)))) (λ_ _ _ _=>(aw (m6 (K:=K) U) (pv 1) af (λ_ _=>U))))
  (ah (av (sR (oJ gW bl.k_First (oJ iO bl.k_Only (oJ iP bl.k_Like (oJ jj bl.k_Low (oJ iQ bl.k_High (oJ jk bl.k_Sum xT)))))) bP hr (aL lD hr U (aa (aN (pv 0) U) ae)) (aa (pv 2) (aa (aN (pv 0) U) ae)))))),?_⟩
 have hxl:xs.length=rws.length:=hR.1
 refine⟨_,U,t,_,_,_,_,U,ht,bl.k_Table,bl.na_Table_rows,hf,rl,U,⟨_,SqL.of erl⟩,qd (xs:=xs) (λD i zs H'=>ar H H'/\H' D=some (.lst zs)/\zs=(pkF rws (gu m) i).map V.int)
  (λD hD=>⟨ag hD _,ab,U⟩) (λD i zs H' hD _ h=>SqL.of (h.1 _ _ erl)) (λD i x zs H' T hD ex h hT ts hts=>?_) (λD zs H' hD h=>?_)⟩
 ·obtain⟨sm,eD,rfl⟩:=h;have s2:=sm.trans (ag hT (.tup [.int i,x]));have eT:upd H' T (.tup [.int i,x]) T=some (.tup [.int i,x]):=ab;have eD2:=ag hT (.tup [.int i,x]) _ _ eD;generalize upd H' T (.tup [.int i,x])=H2 at s2 eT eD2⊢;obtain⟨r,w_,rfl,ew,ce,cv,g1,_,g2,g3⟩:=aI.get (hR.same s2) ex;have hi:i<xs.length:=(BQ.mp ex).1;have hg:rws.getD i ([],0)=w_:=getD_at ew;have hpl:=qK rws (gu m) i;obtain⟨t0,t1,rfl⟩:∃t0 t1,ts=[t0,t1]:=by
   match ts,hts with
   | [t0,t1],_=>exact⟨t0,t1,U⟩
  refine⟨T,_,U,SqT.of eT,U,_,_,U,_,_,U,U,⟨[some (.int i),some (.ref r)],U,U⟩,?_⟩;refine⟨_,U,_,U,_,_,U,U,Int.natCast_nonneg _,_,_,U,U,gu m i,U,?_⟩;have hs:=oV rws (gu m) i;rw[hg]at hs;cases hb:gu m i with
  |true =>
   rw[hb]at hs;refine cZ ⟨_,U,r,_,_,_,U,U,SqT.of g1,U,dD.mk hi eD2 (ax (by rw[length_map];lia)) ⟨s2.upd hD,ab,?_⟩⟩;rw[hs,map_append];rfl
  |false =>
   rw[hb]at hs;refine bb (f9.mk (zs:=(pkF rws (gu m) i).map V.int) hi ⟨s2,eD2,?_⟩);rw[hs];simp
 ·obtain⟨sm,eD,rfl⟩:=h;rw[hxl]at eD;have hwy:wy∈six:=BR hwi;refine⟨_,U,t,_,_,_,_,U,sm _ _ ht,bl.k_Table,bl.na_Table_way,hfw,wy,U,hwy,λi2 ei2 x C H2 s2 eC hw=>?_⟩;have ii:i2=wi:=uz ei2 hwi;subst ii;have sA:=sm.trans s2;obtain⟨dw,hx⟩:=hw;have hpl:=qK rws (gu m) rws.length;have key:(C,jg K C Y.i Y.j i2)∈[(Y.b,jg K Y.b Y.i Y.j 0),(Y.c,jg K Y.c Y.i Y.j 1),(Y.d,jg K Y.d Y.i Y.j 2),(Y.e,jg K Y.e Y.i Y.j 3),(Y.f,jg K Y.f Y.i Y.j 4),(Y.g,jg K Y.g Y.i Y.j 5)]:=by
   match i2,eC with
   |0,eC=>cases eC;exact .head _
   |1,eC=>cases eC;exact .tail _ (.head _)
   |2,eC=>cases eC;exact .tail _ (.tail _ (.head _))
   |3,eC=>cases eC;exact .tail _ (.tail _ (.tail _ (.head _)))
   |4,eC=>cases eC;exact .tail _ (.tail _ (.tail _ (.tail _ (.head _))))
   |5,eC=>cases eC;exact .tail _ (.tail _ (.tail _ (.tail _ (.tail _ (.head _)))))
   |n+6,eC=>simp[cl6]at eC
  refine⟨x,(C,jg K C Y.i Y.j i2),dw,_,U,key,hx,U,_,U,_,U,t,_,_,_,_,U,sA _ _ ht,bl.k_Table,bl.na_Table_outcome,hfo,x,D,ou,_,o,U,⟨dw,_,hx⟩,hou.same sA,hole,SqL.of (s2 _ _ eD),by lia,λr H3 s3 h3=>q r H3 (sA.trans s3) h3⟩
theorem AX(F:Fun K "_law_domain" "_law_domain" Y48 f fd) (bl:Bl K mg Y)(k_Numbers:br CX0 P w K mg base 3 "Numbers" Y.i ["self","low","high"] (bG K Y)) (k_Words:br CX0 P w K mg base 3 "Words" Y.j ["self","words"] (bW K Y)) (eY:Callee P w K mg base 4 "_law_word" ["cell","k"] (eW K Y)):aK P w K mg base CX0 5 f fd ["column"] (ft K Y):=by
 refine F.okA Z48 λcdv A outer s H vs Q E hr h=>?_
 obtain⟨l,c,rfl,⟨pl,ts,_,_,hl,hpl,hp⟩,ok,q⟩:=h
 refine⟨_,(aj (aM (bw (aw aD (pv 0) af (λ_ _=>U)))
  (ah (av (qD k_Words bP hr U (aa (m9 (dP U bl.range_ (aa (ak bx (aw aO (aw aD (aw aD (pv 0) af (λ_ _=>U)) (fv df af) (λ_ _=>U)) af (λ_ _=>U)) af) ae)) (dR (N:=["k","column"]) (fr:=[0]) (cl:=[("column",s.heap.objs.size+1)]) U U (by decide+kernel) (by decide+kernel) U (by decide+kernel) U U U (forall_mem_cons.mpr ⟨U,forall_mem_nil _⟩) U) U (λ_ _ _ _=>cc) (λ_ _ _ _=>(aL eY hr U (aa (aw (dQ (K:=K) U) (pv 1) af (λ_ _=>U)) (aa (pv 0) ae))))) ae))))
  aE)
  (ah (av (qD k_Numbers bP hr U (aa (aw aO (aw aD (aw aD (pv 0) af (λ_ _=>U)) af (λ_ _=>U)) af (λ_ _=>U)) (aa (aw aO (aw aD (aw aD (pv 0) af (λ_ _=>U)) (fv df af) (λ_ _=>U)) af (λ_ _=>U)) ae)))))),?_⟩
 have h1:=ok.some_;obtain⟨ts',r,ps',p,ets,eps,hp',er⟩:=hp.last (by intro z;rw[z]at hp;have:=hp.length;simp at this;lia);have il:atI ts (-1)=some (.ref r):=by rw[ets];exact cQ _ _
 have hhi:c.hi=p.2:=by unfold Col.hi;rw[eps];simp
 obtain⟨p0,ep0,hlo⟩:=ok.first;obtain⟨r0,er0,hr0⟩:∃r0,ts[0]?=some (.ref r0)/\H r0=some (.tup [.int p0.1,.int p0.2]):=by
  obtain⟨x,ex⟩:∃x,ts[0]?=some x:=⟨_,BP (by rw[hp.length];lia)⟩;obtain⟨p2,r2,f1,rfl,f2⟩:=hp.get ex;rw[ep0]at f1;cases f1;exact⟨r2,ex,f2⟩
 have hle:=ok.le;refine⟨_,U,l,_,_,_,U,U,SqL.of hl,U,_,U,?_⟩;cases hw:c.w with
 |false =>
  refine bb ?_;refine⟨_,U,l,_,_,_,U,U,SqL.of hl,U,pl,_,_,_,U,U,SqL.of hpl,ba (j:=0) er0,r0,_,_,_,U,U,SqT.of hr0,z0 _ _,_,U,l,_,_,_,U,U,SqL.of hl,U,_,U,pl,_,_,_,U,U,SqL.of hpl,il,r,_,_,_,U,U,SqT.of er,z1 _ _,λx dx hx hdx hne=>⟨x,dx,p0.1,p.2,U,ab,by rw[hlo,←hhi];exact hle,U,?_⟩⟩;refine q x _ ?_ (.inl ⟨hw,dx,_,ab,?_,?_,U⟩)
  ·unfold mkd;exact(((ag hdx _).upd hx).upd hx).upd hx
  ·show some (V.int p0.1)=some (V.int c.lo);rw[hlo]
  ·show some (V.int p.2)=some (V.int c.hi);rw[hhi]
 |true =>
  refine cZ ?_;have z0':=ok.w0 hw p0 ep0;have z40:p.2<40:=by
   obtain⟨pl_,e1,e2⟩:=ok.last;have:=ok.wl hw _ _ e1;lia
  have AY:c.lo=0:=by lia
  have hb:0<=p.2:=by lia
  refine⟨_,U,l,_,_,_,U,U,SqL.of hl,U,_,U,pl,_,_,_,U,U,SqL.of hpl,il,r,_,_,_,U,U,SqT.of er,z1 _ _,_,_,U,U,_,U,(by show -(2^62)<=p.2+1;lia),(by show p.2+1<2^62;lia),fK (λD i zs H'=>ar H H'/\H' D=some (.lst zs)/\zs=(wds c.sd i).map V.str) (λD hD=>⟨ag hD _,ab,U⟩) (λD i zs H' hD hi h=>?_) (λD zs H' hD h=>?_)⟩
  ·obtain⟨sm,eD,rfl⟩:=h;have hlz:((wds c.sd i).map V.str).length=i:=by unfold wds;simp
   refine⟨_,U,l,_,_,_,U,U,SqL.of (sm _ _ hl),U,_,U,_,_,U,dD.mk hi eD (ax (by rw[hlz];lia)) ⟨sm.upd hD,ab,?_⟩⟩;rw[tw,map_append,Int.zero_add];rfl
  ·obtain⟨sm,eD,rfl⟩:=h;intro x dx hx hdx hne;have s3:ar H' (upd (upd H' dx (.own x)) x (.ins Y.j dx [])):=(ag hdx _).upd hx;have wl:(wds c.sd (p.2+1).toNat).length=(p.2+1).toNat:=by unfold wds;simp
   refine⟨x,dx,D,wds c.sd (p.2+1).toNat,U,ab,s3 _ _ eD,tD (by lia) (by lia),λH4 l4 k1 k2 k3=>⟨U,q x H4 (λb o e=>k1 b o (aY (sm _ _ e) hx) (s3 _ _ (sm _ _ e))) ?_⟩⟩;refine .inr ⟨hw,dx,_,l4,k2,?_,?_,U,U,by rw[k3,hhi]⟩
   ·show some (V.int 0)=some (V.int c.lo);rw[AY]
   ·show some (V.int (hiW (wds c.sd (p.2+1).toNat)))=some (V.int c.hi);rw[hhi];unfold hiW;rw[wl,toNat_of_nonneg (by lia)]
    congr 2
    lia
theorem AZ(F:Fun K "verdict" "verdict" Y73 f fd) (bl:Bl K mg Y)(tU:Callee P w K mg base 5 "judged" ["table","rows"] (jG K Y)) (xa:Callee P w K mg base 5 "mask" ["table","codes"] (nM K Y)):aK P w K mg base CX0 6 f fd ["table","codes"] (iG K Y):=by
 refine F.okA Z73 λcdv A outer s H vs Q E hr h=>?_
 obtain⟨t,c,rws,wi,o,cs,rfl,hT,hS,hlen,q⟩:=h;refine⟨_,(ah (av (aL tU hr U (aa (pv 0) (aa (aL xa hr U (aa (pv 0) (aa (pv 1) ae))) ae))))),?_⟩;refine⟨_,U,_,U,_,U,t,c,rws,wi,o,cs,U,hT,hS,hlen,λH2 s2=>?_⟩;refine⟨t,rws,wi,o,_,U,hT.same s2,λr H3 s3 h3=>q r H3 (s2.trans s3) ?_⟩;rw[uC]at h3;exact h3
theorem A2(F:Fun K "__init__" "Table.__init__" Y17 f fd) (bl:Bl K mg Y)(lE:Callee P w K mg base 5 "refuse_names" ["names"] (dE K Y)) (j5:Callee P w K mg base 5 "refuse_counts" ["names","rows"] (dh K Y)) (nQ:Callee P w K mg base 5 "refuse_way" ["way","outcome"] (fq K Y)) (nR:Callee P w K mg base 5 "refuse_row" ["domains","outcome","cells","code"] (fm K Y)) (rO:Callee P w K mg base 5 "own_row" ["cells","code"] (iB K Y)):aK P w K mg base CX0 6 f fd ["self","name","names","domains","outcome","way","rows"] (bC K Y):=by
 refine F.okA Z17 λcdv A outer s H vs Q E hr h=>?_
 obtain⟨x,dx,na,dl,ou,rl,nm,wy,zs,dv,rx,bs,o,rws,rfl,hx,hna,hw,hnd,h1,h4,hwy,hws,hdl,hdv,hou,hrl,hR,iH,hb4,hok,q⟩:=h
 refine⟨_,(aj (bg (aL lE hr U (aa (ak cS (bf (aa (pv 1) ae)) (pv 2)) ae)))
  (aj (bg (aL j5 hr U (aa (pv 2) (aa (pv 6) ae))))
  (aj (bg (aL nQ hr U (aa (pv 5) (aa (pv 4) ae))))
  (aG (bF PassesOwn.never U (bh (pv 6)) (cG U (aC (ay (i:=7) Z17.nd U (Or.inl U)) (aC (ay (i:=8) Z17.nd U (Or.inl U)) aZ)))
  (ah (bg (aL nR hr U (aa (pv 3) (aa (pv 4) (aa (pv 7) (aa (pv 8) ae))))))))
  (aj (cg (pv 0) (pv 1) U)
  (aj (cg (pv 0) (cw cR U bl.list_ PyProof.Rows.boot_list (aa (pv 2) ae)) U)
  (aj (cg (pv 0) (cw cR U bl.list_ PyProof.Rows.boot_list (aa (pv 3) ae)) U)
  (aj (cg (pv 0) (pv 4) U)
  (aj (cg (pv 0) (pv 5) U)
  (ah (cg (pv 0) (cX (bh (pv 6)) (bY (N:=["cells","code"]) (k:=2) U U (by decide+kernel) (by decide+kernel) (by decide+kernel)) U (λ_ _ _ _=>(gn (K:=K) (n:=2) U U (aC (ay (i:=0) (show(["cells","code"]:List Str).Nodup by decide+kernel) U (Or.inl U) (Or.inr U)) (aC (ay (i:=1) (show(["cells","code"]:List Str).Nodup by decide+kernel) U (Or.inl U) (Or.inr U)) aZ)))) (λ_ _ _ _=>cc) (λ_ _ _ _=>(aL rO hr U (aa (pv 0) (aa (pv 1) ae))))) U))))))))))),?_⟩
 have hzl:(zs.map V.str).length=zs.length:=length_map _;refine⟨_,U,(by show 1<=sizeLine;decide),λl1 hl1=>?_⟩;have s1:=ag hl1 (.lst [.str nm]);have e1:upd H l1 (.lst [.str nm]) l1=some (.lst [.str nm]):=ab;generalize upd H l1 (.lst [.str nm])=H1 at s1 e1⊢;refine⟨_,U,l1,na,_,_,U,U,e1,s1 _ _ hna,(by rw[hzl];show 1+zs.length<=sizeLine;exact big (by lia)),λl2 hl2=>?_⟩;have s2:=s1.trans (ag hl2 (.lst ([V.str nm]++zs.map V.str)));have e2:upd H1 l2 (.lst ([V.str nm]++zs.map V.str)) l2=some (.lst ((nm :: zs).map V.str)):=ab;generalize upd H1 l2 (.lst ([V.str nm]++zs.map V.str))=H2 at s2 e2⊢;refine⟨l2,nm :: zs,U,SqL.of e2,hw,hnd,by rw[length_cons];lia,λH3 t3=>?_⟩;have s3:=s2.trans t3;refine⟨_,U,_,U,na,rl,_,_,U,SqL.of (s3 _ _ hna),SqL.of (s3 _ _ hrl),by rw[hzl];exact h1,by rw[hzl];exact h4,iH,?_⟩;refine⟨_,U,_,U,wy,ou,U,hwy,(λz=>let ⟨dx',fs',e'⟩:=hws z;⟨dx',fs',s3 _ _ e'⟩),λH4 t4=>?_⟩;have s4:=s3.trans t4;refine⟨λσ' H'=>ar H H'/\∃c7 c8:Option V,σ'=[some (.ref x),some (.str nm),some (.ref na),some (.ref dl),some (.ref ou),some (.str wy),some (.ref rl),c7,c8],?_,?_⟩
 ·refine⟨_,U,rl,U,⟨_,SqL.of (s4 _ _ hrl)⟩,bO (xs:=rx) (λi σ H'=>ar H H'/\∃c7 c8:Option V,σ=[some (.ref x),some (.str nm),some (.ref na),some (.ref dl),some (.ref ou),some (.str wy),some (.ref rl),c7,c8]) ⟨s4,_,_,U⟩ (λi σ H' _ h=>SqL.of (h.1 _ _ hrl)) (λi y σ H' e h=>?_) (λσ H' h=>h)⟩;obtain⟨sm,c7,c8,rfl⟩:=h;obtain⟨r,w_,rfl,ew,ce,cv,g1,_,g2,g3⟩:=aI.get (hR.same sm) e;refine⟨r,_,U,SqT.of g1,U,_,_,U,_,_,U,U,?_⟩;exact⟨_,U,_,U,_,U,_,U,dl,ou,ce,dv,cv,bs,o,w_,U,SqL.of (sm _ _ hdl),aI.mono hdv λ_ _ p=>p.same sm,hou.same sm,g2,g3,hok w_ (BR ew),λH2 t2=>⟨sm.trans t2,_,_,U⟩⟩
 rintro σ5 H5 ⟨s5,c7,c8,rfl⟩;have x5:=s5 _ _ hx;have nax:na≠x:=fu hna hx (by intro z;cases z);have dlx:dl≠x:=fu hdl hx (by intro z;cases z);have rlx:rl≠x:=fu hrl hx (by intro z;cases z);have k5:∀b o,b≠x->H b=some o->H5 b=some o:=λb o _ e=>s5 b o e
 have R5:=RL.hide x5 (hR.same s5);refine⟨_,U,_,U,x,_,dx,_,U,x5,bl.k_Table,bl.na_Table_name,(by show 0<1000;decide),?_⟩;have k6:∀b o,b≠x->H5 b=some o->upd H5 x (.ins Y.k dx [(Str.ofString "name",.str nm)]) b=some o:=λb o hb e=>(au hb).trans e
 have x6:upd H5 x (.ins Y.k dx [(Str.ofString "name",.str nm)]) x=some (.ins Y.k dx [(Str.ofString "name",.str nm)]):=ab;have g6:upd H5 x (.ins Y.k dx (bu (Str.ofString "name") (.str nm) []))=upd H5 x (.ins Y.k dx [(Str.ofString "name",.str nm)]):=rfl;rw[g6];clear g6;generalize upd H5 x (.ins Y.k dx [(Str.ofString "name",.str nm)])=H6 at k6 x6⊢;refine⟨_,U,na,_,U,.inl (SqL.of (k6 _ _ nax (s5 _ _ hna))),λm1 hm1=>⟨_,U,x,_,dx,_,U,bQ x6 hm1,bl.k_Table,bl.na_Table_names,(by show 1<1000;decide),?_⟩⟩;have g7:upd (upd H6 m1 (.lst (zs.map V.str))) x (.ins Y.k dx (bu (Str.ofString "names") (V.ref m1) [(Str.ofString "name",V.str nm)]))=upd (upd H6 m1 (.lst (zs.map V.str))) x (.ins Y.k dx [(Str.ofString "name",V.str nm),(Str.ofString "names",V.ref m1)]):=by rw[pf1]
 rw[g7];clear g7;have k7:∀b o,b≠x->H5 b=some o->upd (upd H6 m1 (.lst (zs.map V.str))) x (.ins Y.k dx [(Str.ofString "name",V.str nm),(Str.ofString "names",V.ref m1)]) b=some o:=λb o hb e=>(au hb).trans (bQ (k6 b o hb e) hm1)
 have x7:upd (upd H6 m1 (.lst (zs.map V.str))) x (.ins Y.k dx [(Str.ofString "name",V.str nm),(Str.ofString "names",V.ref m1)]) x=some (.ins Y.k dx [(Str.ofString "name",V.str nm),(Str.ofString "names",V.ref m1)]):=ab;have m1x:m1≠x:=λz=>by rw[z,x6]at hm1;cases hm1
 have j7:upd (upd H6 m1 (.lst (zs.map V.str))) x (.ins Y.k dx [(Str.ofString "name",V.str nm),(Str.ofString "names",V.ref m1)]) m1=some (.lst (zs.map V.str)):=(au m1x).trans ab;generalize upd (upd H6 m1 (.lst (zs.map V.str))) x (.ins Y.k dx [(Str.ofString "name",V.str nm),(Str.ofString "names",V.ref m1)])=H7 at k7 x7 j7⊢;refine⟨_,U,dl,_,U,.inl (SqL.of (k7 _ _ dlx (s5 _ _ hdl))),λm2 hm2=>⟨_,U,x,_,dx,_,U,bQ x7 hm2,bl.k_Table,bl.na_Table_domains,(by show 2<1000;decide),?_⟩⟩;have g8:upd (upd H7 m2 (.lst dv)) x (.ins Y.k dx (bu (Str.ofString "domains") (V.ref m2) [(Str.ofString "name",V.str nm),(Str.ofString "names",V.ref m1)]))=upd (upd H7 m2 (.lst dv)) x (.ins Y.k dx [(Str.ofString "name",V.str nm),(Str.ofString "names",V.ref m1),(Str.ofString "domains",V.ref m2)]):=by rw[pf2]
 rw[g8];clear g8;have k8:∀b o,b≠x->H5 b=some o->upd (upd H7 m2 (.lst dv)) x (.ins Y.k dx [(Str.ofString "name",V.str nm),(Str.ofString "names",V.ref m1),(Str.ofString "domains",V.ref m2)]) b=some o:=λb o hb e=>(au hb).trans (bQ (k7 b o hb e) hm2)
 have x8:upd (upd H7 m2 (.lst dv)) x (.ins Y.k dx [(Str.ofString "name",V.str nm),(Str.ofString "names",V.ref m1),(Str.ofString "domains",V.ref m2)]) x=some (.ins Y.k dx [(Str.ofString "name",V.str nm),(Str.ofString "names",V.ref m1),(Str.ofString "domains",V.ref m2)]):=ab;have m2x:m2≠x:=λz=>by rw[z,x7]at hm2;cases hm2
 have j8:upd (upd H7 m2 (.lst dv)) x (.ins Y.k dx [(Str.ofString "name",V.str nm),(Str.ofString "names",V.ref m1),(Str.ofString "domains",V.ref m2)]) m1=some (.lst (zs.map V.str)):=(au m1x).trans (bQ j7 hm2);have i8:upd (upd H7 m2 (.lst dv)) x (.ins Y.k dx [(Str.ofString "name",V.str nm),(Str.ofString "names",V.ref m1),(Str.ofString "domains",V.ref m2)]) m2=some (.lst dv):=(au m2x).trans ab;generalize upd (upd H7 m2 (.lst dv)) x (.ins Y.k dx [(Str.ofString "name",V.str nm),(Str.ofString "names",V.ref m1),(Str.ofString "domains",V.ref m2)])=H8 at k8 x8 j8 i8⊢;refine⟨_,U,_,U,x,_,dx,_,U,x8,bl.k_Table,bl.na_Table_outcome,(by show 3<1000;decide),?_⟩;have g9:upd H8 x (.ins Y.k dx (bu (Str.ofString "outcome") (V.ref ou) [(Str.ofString "name",V.str nm),(Str.ofString "names",V.ref m1),(Str.ofString "domains",V.ref m2)]))=upd H8 x (.ins Y.k dx [(Str.ofString "name",V.str nm),(Str.ofString "names",V.ref m1),(Str.ofString "domains",V.ref m2),(Str.ofString "outcome",V.ref ou)]):=by rw[pf3]
 rw[g9];clear g9;have k9:∀b o,b≠x->H5 b=some o->upd H8 x (.ins Y.k dx [(Str.ofString "name",V.str nm),(Str.ofString "names",V.ref m1),(Str.ofString "domains",V.ref m2),(Str.ofString "outcome",V.ref ou)]) b=some o:=λb o hb e=>(au hb).trans (k8 b o hb e)
 have x9:upd H8 x (.ins Y.k dx [(Str.ofString "name",V.str nm),(Str.ofString "names",V.ref m1),(Str.ofString "domains",V.ref m2),(Str.ofString "outcome",V.ref ou)]) x=some (.ins Y.k dx [(Str.ofString "name",V.str nm),(Str.ofString "names",V.ref m1),(Str.ofString "domains",V.ref m2),(Str.ofString "outcome",V.ref ou)]):=ab;have j9:upd H8 x (.ins Y.k dx [(Str.ofString "name",V.str nm),(Str.ofString "names",V.ref m1),(Str.ofString "domains",V.ref m2),(Str.ofString "outcome",V.ref ou)]) m1=some (.lst (zs.map V.str)):=(au m1x).trans j8;have i9:upd H8 x (.ins Y.k dx [(Str.ofString "name",V.str nm),(Str.ofString "names",V.ref m1),(Str.ofString "domains",V.ref m2),(Str.ofString "outcome",V.ref ou)]) m2=some (.lst dv):=(au m2x).trans i8;generalize upd H8 x (.ins Y.k dx [(Str.ofString "name",V.str nm),(Str.ofString "names",V.ref m1),(Str.ofString "domains",V.ref m2),(Str.ofString "outcome",V.ref ou)])=H9 at k9 x9 j9 i9⊢;refine⟨_,U,_,U,x,_,dx,_,U,x9,bl.k_Table,bl.na_Table_way,(by show 4<1000;decide),?_⟩;have g10:upd H9 x (.ins Y.k dx (bu (Str.ofString "way") (V.str wy) [(Str.ofString "name",V.str nm),(Str.ofString "names",V.ref m1),(Str.ofString "domains",V.ref m2),(Str.ofString "outcome",V.ref ou)]))=upd H9 x (.ins Y.k dx [(Str.ofString "name",V.str nm),(Str.ofString "names",V.ref m1),(Str.ofString "domains",V.ref m2),(Str.ofString "outcome",V.ref ou),(Str.ofString "way",V.str wy)]):=by rw[pf4]
 rw[g10];clear g10;have k10:∀b o,b≠x->H5 b=some o->upd H9 x (.ins Y.k dx [(Str.ofString "name",V.str nm),(Str.ofString "names",V.ref m1),(Str.ofString "domains",V.ref m2),(Str.ofString "outcome",V.ref ou),(Str.ofString "way",V.str wy)]) b=some o:=λb o hb e=>(au hb).trans (k9 b o hb e)
 have x10:upd H9 x (.ins Y.k dx [(Str.ofString "name",V.str nm),(Str.ofString "names",V.ref m1),(Str.ofString "domains",V.ref m2),(Str.ofString "outcome",V.ref ou),(Str.ofString "way",V.str wy)]) x=some (.ins Y.k dx [(Str.ofString "name",V.str nm),(Str.ofString "names",V.ref m1),(Str.ofString "domains",V.ref m2),(Str.ofString "outcome",V.ref ou),(Str.ofString "way",V.str wy)]):=ab;have j10:upd H9 x (.ins Y.k dx [(Str.ofString "name",V.str nm),(Str.ofString "names",V.ref m1),(Str.ofString "domains",V.ref m2),(Str.ofString "outcome",V.ref ou),(Str.ofString "way",V.str wy)]) m1=some (.lst (zs.map V.str)):=(au m1x).trans j9;have i10:upd H9 x (.ins Y.k dx [(Str.ofString "name",V.str nm),(Str.ofString "names",V.ref m1),(Str.ofString "domains",V.ref m2),(Str.ofString "outcome",V.ref ou),(Str.ofString "way",V.str wy)]) m2=some (.lst dv):=(au m2x).trans i9;generalize upd H9 x (.ins Y.k dx [(Str.ofString "name",V.str nm),(Str.ofString "names",V.ref m1),(Str.ofString "domains",V.ref m2),(Str.ofString "outcome",V.ref ou),(Str.ofString "way",V.str wy)])=H10 at k10 x10 j10 i10⊢;have R10:RL NT H10 rx rws:=RL.same R5 (hide_same k10);have vq:=k10 _ _ rlx (s5 _ _ hrl)
 refine⟨_,U,rl,U,⟨_,SqL.of vq⟩,cH (xs:=rx) (λD i zs H'=>ar H10 H'/\H' D=some (.lst zs)/\RL (Fr H10 D) H' zs (rws.take i))
  (λD hD=>⟨ag hD _,ab,aI.nil⟩) (λD i zs H' hD _ h=>SqL.of (h.1 _ _ vq)) (λD i y zs H' hD e h ts hts=>?_) (λD zs H' hD h=>?_)⟩
 ·obtain⟨sm,eD,hz⟩:=h;obtain⟨r,w_,rfl,ew,ce,cv,g1,_,g2,g3⟩:=aI.get (R10.same sm) e;have hi:i<rx.length:=(BQ.mp e).1;obtain⟨t0,t1,rfl⟩:∃t0 t1,ts=[t0,t1]:=by
   match ts,hts with
   | [t0,t1],_=>exact⟨t0,t1,U⟩
  refine⟨r,_,U,SqT.of g1,U,_,_,U,_,_,U,U,⟨[some (.ref ce),some (.int w_.2)],U,U⟩,?_⟩;refine⟨_,U,_,U,ce,cv,w_,U,g2,g3,by rw[(hok w_ (BR ew)).len];lia,λr2 H2 t2 hr2 ji=>?_⟩;have eD2:=t2 _ _ eD;have hlz:zs.length<=200:=by
   have:=hz.1;rw[length_take]at this;lia
  refine dD.mk hi eD2 (ax (by lia)) ⟨(sm.trans t2).upd hD,ab,?_⟩;rw[take_snoc ew];exact RL.updN (aI.snoc (hz.same t2) (ji.wk λa h=>⟨sm.free h,λz=>by rw[z,eD]at h;cases h⟩)) Fr.out eD2
 ·obtain⟨sm,eD,hz⟩:=h;rw[hR.1,take_length]at hz;refine⟨_,U,x,_,dx,_,U,sm _ _ x10,bl.k_Table,bl.na_Table_rows,(by show 5<1000;decide),?_⟩;have g11:upd H' x (.ins Y.k dx (bu (Str.ofString "rows") (V.ref D) [(Str.ofString "name",V.str nm),(Str.ofString "names",V.ref m1),(Str.ofString "domains",V.ref m2),(Str.ofString "outcome",V.ref ou),(Str.ofString "way",V.str wy)]))=upd H' x (.ins Y.k dx [(Str.ofString "name",V.str nm),(Str.ofString "names",V.ref m1),(Str.ofString "domains",V.ref m2),(Str.ofString "outcome",V.ref ou),(Str.ofString "way",V.str wy),(Str.ofString "rows",V.ref D)]):=by rw[pf5]
  rw[g11];have nDx:D≠x:=λz=>by rw[z,x10]at hD;cases hD
  refine q _ _ D zs (λb o hb e=>(au hb).trans (sm _ _ (k10 b o hb (s5 _ _ e)))) ab U U U U ⟨m1,m2,U,U,(au m1x).trans (sm _ _ j10),(au m2x).trans (sm _ _ i10)⟩ ((au nDx).trans eD) ?_;exact RL.same (RL.hide (sm _ _ x10) hz.any) (hide_same λb o hb e=>(au hb).trans e)
theorem A3(F:Fun K "with_rows" "with_rows" Y76 f fd) (bl:Bl K mg Y)(k_Table:br CX0 P w K mg base 6 "Table" Y.k ["self","name","names","domains","outcome","way","rows"] (bC K Y)):aK P w K mg base CX0 8 f fd ["table","rows"] (fV K Y):=by
 refine F.okA Z76 λcdv A outer s H vs Q E hr h=>?_
 obtain⟨t,rl,ou,nm,wy,zs,dv,rx,tQ,rws,bs,o,rfl,⟨rl0,dx,na,dl,fs,xs,ht,f1,f2,f3,f4,f5,f6,ena,edl,BN,hR0,iH⟩,ok,erl,hR,q⟩:=h;refine⟨_,(ah (av (qD k_Table bP hr U (aa (aN (pv 0) U) (aa (aN (pv 0) U) (aa (aN (pv 0) U) (aa (aN (pv 0) U) (aa (aN (pv 0) U) (aa (pv 1) ae))))))))),?_⟩;refine⟨_,U,t,_,_,_,_,U,ht,bl.k_Table,bl.na_Table_name,f2,_,U,t,_,_,_,_,U,ht,bl.k_Table,bl.na_Table_names,f5,_,U,t,_,_,_,_,U,ht,bl.k_Table,bl.na_Table_domains,f6,_,U,t,_,_,_,_,U,ht,bl.k_Table,bl.na_Table_outcome,f4,_,U,t,_,_,_,_,U,ht,bl.k_Table,bl.na_Table_way,f3,_,U,λx dx' hx hdx hne=>?_⟩;have s9:ar H (upd (upd H dx' (.own x)) x (.ins Y.k dx' [])):=(ag hdx _).upd hx;have ok9:=ok.same s9;refine⟨x,dx',na,dl,ou,rl,nm,wy,zs,dv,rx,bs,o,rws,U,ab,s9 _ _ ena,ok9.words,ok9.once,ok9.one,ok9.four,ok9.way,ok9.sum,s9 _ _ edl,ok9.doms,ok9.out,s9 _ _ erl,hR.same s9,by rw[hR.1];exact ok.few,by rw[ok9.len];exact ok9.four,ok9.rows,λH' fs' rl' xs' k1 k2 k3 k3a k3b k3c ⟨na',dl',k3d,k3e,k3f,k3g⟩ k4 k5=>⟨U,q x H' (λb u e=>k1 b u (aY e hx) (s9 _ _ e)) ⟨rl',dx',na',dl',fs',xs',k2,k3,k3c,k3a,k3b,k3d,k3e,k3f,k3g,k4,k5,by rw[k5.1];exact ok.few⟩⟩⟩
theorem A4(F:Fun K "_law_table" "_law_table" Y60 f fd) (bl:Bl K mg Y)(k_Table:br CX0 P w K mg base 6 "Table" Y.k ["self","name","names","domains","outcome","way","rows"] (bC K Y)) (eY:Callee P w K mg base 7 "_law_word" ["cell","k"] (eW K Y)) (ig:Callee P w K mg base 7 "_law_domain" ["column"] (ft K Y)) (gD:Callee P w K mg base 7 "_law_rows" ["bit_rows","columns"] (eX K Y)):aK P w K mg base CX0 8 f fd ["head","columns","out","way","bit_rows"] (fW K Y):=by
 refine F.okA Z60 λcdv A outer s H vs Q E hr h=>?_
 obtain⟨h,cl,ol,bl_,wy,xs,zs,cs,oc,ws,wi,rfl,hcl,hcs,hok,hb1,hb4,hol,ook,hwy,nP,A5,hz,iH,hbo,q⟩:=h
 refine⟨_,(aG (kf (i:=5) Z60.nd U (Or.inl U) (dP U bl.range_ (aa (aq az U bl.len_ boot_len (aa (pv 1) ae)) ae)) (dR (N:=["j","head"]) (fr:=[0]) (cl:=[("head",s.heap.objs.size+1)]) U U (by decide+kernel) (by decide+kernel) U (by decide+kernel) U U U (forall_mem_cons.mpr ⟨U,forall_mem_nil _⟩) U) U (λ_ _ _ _=>cc) (λ_ _ _ _=>(aL eY hr U (aa (ak bj (pv 1) af) (aa (ak bx af (pv 0)) ae)))))
  (aG (kf (i:=6) Z60.nd U (Or.inl U) (bh (pv 1)) (jQ U (by decide+kernel) (by decide+kernel) (by decide+kernel) U) U (λ_ _ _ _=>cc) (λ_ _ _ _=>(aL ig hr U (aa (pv 0) ae))))
  (ah (av (qD k_Table bP hr U (aa (aL eY hr U (aa (ak bj (pv 0) af) (aa af ae))) (aa (pv 5) (aa (pv 6) (aa (aL ig hr U (aa (pv 2) ae)) (aa (pv 3) (aa (aL gD hr U (aa (pv 4) (aa (pv 1) ae))) ae))))))))))),?_⟩
 have hxl:xs.length=cs.length:=hcs.1;refine⟨λσ' H'=>ar H H'/\∃na:Addr,H' na=some (.lst (((List.range cs.length).map λj:Nat=>wd (h / 16) (1+(0+(j:Int)))).map V.str))/\σ'=[some (.int h),some (.ref cl),some (.ref ol),some (.str wy),some (.ref bl_),some (.ref na),none],?_,?_⟩
 ·refine⟨_,U,cl,_,U,.inl (SqL.of hcl),_,U,(by show -(2^62)<=((xs.length:Nat):Int);lia),(by show((xs.length:Nat):Int)<2^62;lia),fK (λD i zs H'=>ar H H'/\H' D=some (.lst zs)/\zs=((List.range i).map λj:Nat=>wd (h / 16) (1+(0+(j:Int)))).map V.str) (λD hD=>⟨ag hD _,ab,U⟩) (λD i zs H' hD hi hh=>?_) (λD zs H' hD hh=>?_)⟩
  ·obtain⟨sm,eD,rfl⟩:=hh;refine⟨_,U,_,_,U,U,⟨by decide,by decide⟩,_,U,_,_,U,U,_,_,U,dD.mk hi eD (ax (by rw[length_map,length_map,length_range];lia)) ⟨sm.upd hD,ab,?_⟩⟩;rw[range_succ,map_append,map_append];rfl
  ·obtain⟨sm,eD,rfl⟩:=hh;refine⟨sm,D,?_,U⟩;rw[eD,←hxl];rfl
 rintro σ5 H5 ⟨t5,na,ena,rfl⟩;have uN:=t5 _ _ hcl;have xb:=hcs.same t5;refine⟨λσ' H'=>ar H5 H'/\∃(dl:Addr)(dv:List V),H' dl=some (.lst dv)/\aI dv cs (dC Y.i Y.j H')/\σ'=[some (.int h),some (.ref cl),some (.ref ol),some (.str wy),some (.ref bl_),some (.ref na),some (.ref dl)],?_,?_⟩
 ·refine⟨_,U,cl,U,⟨_,SqL.of uN⟩,ju (xs:=xs) (λD i zs H'=>ar H5 H'/\H' D=some (.lst zs)/\aI zs (cs.take i) (dC Y.i Y.j (hide H' D))) (λD hD=>⟨ag hD _,ab,aI.nil⟩) (λD i zs H' hD _ hh=>SqL.of (hh.1 _ _ uN)) (λD i y zs H' hD e hh=>?_) (λD zs H' hD hh=>?_)⟩
  ·obtain⟨sm,eD,hz⟩:=hh;obtain⟨l,c,rfl,ec,hc⟩:=aI.get (xb.same sm) e;have hi:i<xs.length:=(BQ.mp e).1;have ok:=hok c (BR ec);refine⟨_,U,l,c,U,hc,hok c (BR ec),λd H2 s' hd=>?_⟩;have eD2:=s' _ _ eD;have hlz:zs.length<=4:=by have:=hz.1;rw[length_take]at this;lia
   have hd2:dC Y.i Y.j (hide H2 D) d c:=hd.hide eD2 (λx hx=>by
    obtain⟨j,ej⟩:=getElem?_of_mem hx;obtain⟨r,_,er,_⟩:=aI.get hz ej;exact⟨r,er⟩) (λhw=>by
    obtain⟨p0,e0,l0⟩:=ok.first;have:=ok.w0 hw p0 e0;have:=ok.le;lia)
   refine dD.mk hi eD2 (ax (by lia)) ⟨(sm.trans s').upd hD,ab,?_⟩;rw[take_snoc ec,ll];exact aI.snoc (aI.mono hz λ_ _ p=>p.same (jF s')) hd2
  ·obtain⟨sm,eD,hz⟩:=hh;rw[hxl,take_length]at hz;exact⟨sm,D,zs,eD,aI.mono hz λ_ _ p=>p.same (nC H' D),U⟩
 rintro σ6 H6 ⟨t6,dl,dv,edl,hdl,rfl⟩;have s6:=t5.trans t6;have A6:=t6 _ _ ena;have nS:(∀z∈wd (h / 16) 0 :: (List.range cs.length).map (λj:Nat=>wd (h / 16) (1+(0+(j:Int)))),isw z=true)/\(wd (h / 16) 0 :: (List.range cs.length).map (λj:Nat=>wd (h / 16) (1+(0+(j:Int))))).Nodup:=by
  constructor
  ·intro z hz;rcases mem_cons.mp hz with rfl|hz
   ·exact qg _ _
   ·obtain⟨j,_,rfl⟩:=mem_map.mp hz;exact qg _ _
  ·have nd:=mI (c:=h / 16) (n:=cs.length+1) (by lia) (λj:Nat=>(j:Int)) (λj hj=>⟨by lia,by lia⟩) λi j e=>by lia
   have e:((List.range (cs.length+1)).map λj:Nat=>wd (h / 16) (j:Int))=wd (h / 16) 0 :: (List.range cs.length).map λj:Nat=>wd (h / 16) (1+(0+(j:Int))):=by
    rw[List.range_succ_eq_map,map_cons,List.map_map]
    congr 1
    apply List.map_congr_left
    intro j _;show wd (h / 16) ((j+1:Nat):Int)=_
    congr 1
    lia
   rw[e]at nd;exact nd
 have hzl:((List.range cs.length).map λj:Nat=>wd (h / 16) (1+(0+(j:Int)))).length=cs.length:=by simp
 have hbl:(cs.map Col.b).length=cs.length:=length_map _;refine⟨_,U,_,_,U,U,⟨by decide,by decide⟩,_,_,U,_,U,_,U,_,U,ol,oc,U,hol.same s6,ook,λou H7 s7 xc=>?_⟩;have hou:=xc.dom;have sA:=s6.trans s7;refine⟨_,U,_,U,_,U,bl_,cl,zs,xs,ws,cs,U,sA _ _ A5,hz.same sA,iH,sA _ _ hcl,hcs.same sA,hok,hb4,λw hw=>(hbo w hw).len,λrl rx rws H8 s8 erl hrl hof=>?_⟩;intro x dx hx hdx hne;have s9:ar H8 (upd (upd H8 dx (.own x)) x (.ins Y.k dx [])):=(ag hdx _).upd hx;have u9:=s7.trans (s8.trans s9);have hrk:=hof.rowOk hbo hok;have yv:rx.length=rws.length:=hrl.1;have vt:rws.length<=200:=by rw[hof.1];exact iH
 have yy:aI dv (cs.map Col.b) (Dom Y.i Y.j H6):=⟨by rw[length_map];exact hdl.1,λj b e=>by
  rw[getElem?_map]at e;cases ec:cs[j]? with
  |none=>rw[ec]at e;cases e
  |some c =>
   rw[ec]at e;cases e;obtain⟨r,e1,p⟩:=hdl.2 j c ec;exact⟨r,e1,p.dom⟩⟩
 have vv:wy=Str.ofString "sum" -> ∃dx fs,H7 ou=some (.ins Y.i dx fs):=λz=>by
  rcases xc with⟨_,dx,fs,e,_⟩|⟨hw,_⟩
  ·exact⟨dx,fs,e⟩
  ·rw[nP z]at hw;cases hw
 refine⟨x,dx,na,dl,ou,rl,_,_,(List.range cs.length).map λj:Nat=>wd (h / 16) (1+(0+(j:Int))),dv,rx,cs.map Col.b,oc.b,rws,U,ab,u9 _ _ A6,nS.1,nS.2,by rw[hzl];exact hb1,by rw[hzl];exact hb4,BR hwy,λz=>?_,u9 _ _ edl,aI.mono yy λ_ _ p=>p.same u9,hou.same (s8.trans s9),s9 _ _ erl,(RL.any hrl).same s9,by lia,by rw[hbl];exact hb4,hrk,λH' fs rl' xs' k1 k2 k3 k3a k3b k3c ⟨na',dl',k3d,k3e,k3f,k3g⟩ k4 k5=>?_⟩
 ·obtain⟨dx2,fs2,e2⟩:=vv z;exact⟨dx2,fs2,s9 _ _ (s8 _ _ e2)⟩
 ·have s10:ar H8 H':=λb u e=>k1 b u (aY e hx) (s9 _ _ e)
  have s6':ar H6 H':=(s7.trans s8).trans s10;refine⟨U,q x ou dv rws H' ((s6.trans s7).trans (s8.trans s10)) ⟨rl',dx,na',dl',fs,xs',k2,k3,k3c,k3a,k3b,k3d,k3e,k3f,k3g,k4,k5,by rw[k5.1];exact vt⟩ ⟨nS.1,nS.2,by rw[hzl];exact hb1,by rw[hzl];exact hb4,BR hwy,λz=>?_,aI.mono yy λ_ _ p=>p.same s6',hou.same (s8.trans s10),by rw[hbl,hzl],hrk,vt⟩ (aI.mono hdl λ_ _ p=>p.same s6') (xc.same (s8.trans s10)) hof⟩;obtain⟨dx2,fs2,e2⟩:=vv z;exact⟨dx2,fs2,s10 _ _ (s8 _ _ e2)⟩
theorem A7(F:Fun K "narrowed" "narrowed" Y64 f fd) (bl:Bl K mg Y)(pf:Callee P w K mg base 8 "with_rows" ["table","rows"] (fV K Y)) (ph:Callee P w K mg base 8 "with_cell" ["cells","column","spans"] (fQ K Y)):aK P w K mg base CX0 9 f fd ["table","column","narrow"] (gy K Y P w mg base):=by
 refine F.okA Z64 λcdv A outer s H vs Q E hr h=>?_
 obtain⟨t,f_,ou,c,nm,wy,zs,dv,rws,bs,o,sp,wi,J,rfl,⟨rl,dx,na,dl,fs,xs,ht,f1,f2,f3,f4,f5,f6,ena,edl,erl,hR,iH⟩,ok,hcb,hap,hN,hJ,q⟩:=h
 refine⟨_,(aG (oM (i:=3) Z64.nd U (Or.inl U) (bh (aN (pv 0) U)) (eN (N:=["cells","code","column","narrow"]) (k:=2) (fr:=[1,2]) (cl:=[("narrow",s.heap.objs.size+1+1),("column",s.heap.objs.size+1)]) U U (by decide+kernel) (by decide+kernel) U U (forall_mem_cons.mpr ⟨U,forall_mem_cons.mpr ⟨U,forall_mem_nil _⟩⟩) U) U (λ_ _ _ _=>(gn (K:=K) (n:=2) U U (aC (ay (i:=0) (show(["cells","code","column","narrow"]:List Str).Nodup by decide+kernel) U (Or.inl U) (Or.inr U)) (aC (ay (i:=1) (show(["cells","code","column","narrow"]:List Str).Nodup by decide+kernel) U (Or.inl U) (Or.inr U)) aZ)))) (λ_ _ _ _=>cc) (λ_ _ _ _=>(bq (aa (aL ph hr U (aa (pv 0) (aa (pv 2) (aa (tm (P:=P) (w:=w) (K:=K) (mg:=mg) (base:=base) (k:=3) (i:=3) U U U U U (hr.mono (by decide)) U (by first|exact Or.inr (Or.inl rfl)|exact Or.inr (Or.inr rfl)|exact Or.inl rfl) (aa (aw (dQ (K:=K) U) (pv 0) (pv 2) (λ_ _=>U)) ae)) ae)))) (aa (pv 1) ae)))))
  (ah (av (aL pf hr U (aa (pv 0) (aa (cX (bh (pv 3)) (eN (N:=["cells","code","column"]) (k:=2) (fr:=[1]) (cl:=[("column",s.heap.objs.size+1)]) U U (by decide+kernel) (by decide+kernel) U U (forall_mem_cons.mpr ⟨U,forall_mem_nil _⟩) U) U (λ_ _ _ _=>(gn (K:=K) (n:=2) U U (aC (ay (i:=0) (show(["cells","code","column"]:List Str).Nodup by decide+kernel) U (Or.inl U) (Or.inr U)) (aC (ay (i:=1) (show(["cells","code","column"]:List Str).Nodup by decide+kernel) U (Or.inl U) (Or.inr U)) aZ)))) (λ_ _ _ _=>(ke (mE (K:=K) U (aw (dQ (K:=K) U) (pv 0) (pv 2) (λ_ _=>U))))) (λ_ _ _ _=>(bq (aa (pv 0) (aa (pv 1) ae))))) ae)))))),?_⟩
 have hlen:∀x∈rws,c<x.1.length:=λx hx=>by rw[(ok.rows x hx).len];exact hcb
 obtain⟨sF,hF,hFn⟩:=hN.fn;refine⟨λσ' H'=>ar H H'/\∃(r2:Addr)(zx:List V),H' r2=some (.lst zx)/\RL NT H' zx (rws.map (nrw sp wi c))/\(∀x∈rws,Cut sp wi (x.1.getD c []) (fh sp wi (x.1.getD c [])))/\σ'=[some (.ref t),some (.int (c:Int)),some (.ref f_),some (.ref r2)],?_,?_⟩
 ·refine⟨_,U,t,_,_,_,_,U,ht,bl.k_Table,bl.na_Table_rows,f1,rl,U,⟨_,SqL.of erl⟩,cH (xs:=xs) (λD i ys H'=>ar H H'/\H' D=some (.lst ys)/\RL NT (hide H' D) ys ((rws.take i).map (nrw sp wi c))/\∀x∈rws.take i,Cut sp wi (x.1.getD c []) (fh sp wi (x.1.getD c []))) (λD hD=>⟨ag hD _,ab,aI.nil,λx hx=>by simp at hx⟩) (λD i ys H' hD _ h=>SqL.of (h.1 _ _ erl)) (λD i y ys H' hD e h ts hts=>?_) (λD ys H' hD h=>?_)⟩
  ·obtain⟨sm,eD,hz,hk⟩:=h;obtain⟨r,x,rfl,ex,ce,cs,g1,_,g2,g3⟩:=aI.get hR e;have hi:i<xs.length:=(BQ.mp e).1;have hx:=BR ex;have hcx:=hlen x hx;obtain⟨t0,t1,rfl⟩:∃t0 t1,ts=[t0,t1]:=by
    match ts,hts with
    | [t0,t1],_=>exact⟨t0,t1,U⟩
   refine⟨r,_,U,SqT.of (sm _ _ g1),U,_,_,U,_,_,U,U,⟨[some (.ref ce),some (.int x.2)],U,U⟩,?_⟩;obtain⟨ol,eol,hsp⟩:=g3.2 c _ (BP hcx);have hA:x.1[c]=x.1.getD c []:=by rw[getD_eq_getElem?_getD,BP hcx];rfl
   rw[hA]at hsp;have hJ':=hN.st _ _ hJ sm;have hxl:x.1.length<=100:=by have:=(ok.rows x hx).len;have:=ok.len;have:=ok.four;lia
   refine⟨_,U,_,U,f_,sF,U,hN.ob _ hJ',hF,?_⟩;refine⟨_,U,_,U,ce,_,_,_,U,U,SqL.of (sm _ _ g2),ba eol,hN.ob _ hJ',hFn _ ol _ _ hJ' (hsp.same sm) (hap x hx).1 (hap x hx).2 λr3 H3 R s3 nr3 hR3 uL=>?_⟩;have sA:=sm.trans s3;refine⟨ce,r3,cs,c,U,sA _ _ g2,by rw[g3.1];exact hxl,λb H4 s4 nb eb=>?_⟩;have sB:=sA.trans s4;have eD4:=s4 _ _ (s3 _ _ eD);refine⟨_,U,aV,λtt_ htt=>?_⟩;have s5:=ag htt (.tup [.ref b,.int x.2]);have eT:upd H4 tt_ (.tup [.ref b,.int x.2]) tt_=some (.tup [.ref b,.int x.2]):=ab;have eD5:=s5 _ _ eD4;have nT:tt_≠D:=λz=>by rw[z,eD4]at htt;cases htt
   have nbD:b≠D:=λz=>by rw[z,s3 _ _ eD]at nb;cases nb
   have nrD:r3≠D:=λz=>by rw[z,eD]at nr3;cases nr3
   generalize upd H4 tt_ (.tup [.ref b,.int x.2])=H5 at s5 eT eD5⊢;have sC:=sB.trans s5;have ec:=uL.is;have kp:=mM sC hD;have c9:SpA NT (hide H5 D) r3 (fh sp wi (x.1.getD c [])):=by
    rw[ec];obtain⟨_,yr,eyr,pyr⟩:=hR3.same (s4.trans s5);exact⟨trivial,yr,cy eyr nrD,pyr.mono λd zs e=>cy e λz=>by rw[z,eD5]at e;cases e⟩
   have ji:fA NT (hide H5 D) tt_ (nrw sp wi c x):=⟨b,_,cy eT nT,trivial,cy (s5 _ _ eb) nbD,aI.app (aI.app (CL.same (aI.take g3 c) kp) (aI.one c9)) (CL.same (aI.drop g3 (c+1)) kp)⟩;refine dD.mk hi eD5 (ax (by have:=hz.1;rw[length_map,length_take]at this;lia)) ⟨sC.upd hD,ab,?_,λx' hx'=>?_⟩
   ·rw[ll,take_snoc ex,map_append];exact aI.snoc (aI.mono hz λ_ _ p=>p.same (jF ((s3.trans s4).trans s5))) ji
   ·rw[take_snoc ex]at hx';rcases mem_append.mp hx' with hx' | hx'
    ·exact hk x' hx'
    ·rw[show x'=x by simpa using hx',ec];exact uL
  ·obtain⟨sm,eD,hz,hk⟩:=h;rw[hR.1,take_length]at hz hk;exact⟨sm,D,ys,eD,aI.mono hz λ_ _ p=>p.same (nC H' D),hk,U⟩
 rintro σ1 H1 ⟨s1,r2,zx,er2,hz2,hk,rfl⟩;have hzl:zx.length=rws.length:=by rw[hz2.1,length_map]
 have hrl:rws.length=xs.length:=hR.1.symm;refine⟨_,U,_,U,r2,U,⟨_,SqL.of er2⟩,cH (xs:=zx) (λD i ys H'=>ar H1 H'/\H' D=some (.lst ys)/\RL NT (hide H' D) ys (prt sp wi c (rws.take i))) (λD hD=>⟨ag hD _,ab,aI.nil⟩) (λD i ys H' hD _ h=>SqL.of (h.1 _ _ er2)) (λD i y ys H' hD e h ts hts=>?_) (λD ys H' hD h=>?_)⟩
 ·obtain⟨sm,eD,hz⟩:=h;obtain⟨r,x',rfl,ex',ce,cs,g1,_,g2,g3⟩:=aI.get hz2 e;have hi:i<zx.length:=(BQ.mp e).1;rw[getElem?_map]at ex';obtain⟨x,ex⟩:∃x,rws[i]?=some x:=⟨_,BP (by lia)⟩;rw[ex]at ex';cases ex';have hx:=BR ex;have hcx:=hlen x hx;have hcn:c<(nrw sp wi c x).1.length:=by rw[nH hcx];exact hcx
  obtain⟨t0,t1,rfl⟩:∃t0 t1,ts=[t0,t1]:=by
   match ts,hts with
   | [t0,t1],_=>exact⟨t0,t1,U⟩
  refine⟨r,_,U,SqT.of (sm _ _ g1),U,_,_,U,_,_,U,U,⟨[some (.ref ce),some (.int (nrw sp wi c x).2)],U,U⟩,?_⟩;obtain⟨ol,eol,_,yo,eyo,pyo⟩:=g3.2 c _ (BP hcn);have hA:(nrw sp wi c x).1[c]=(nrw sp wi c x).1.getD c []:=by rw[getD_eq_getElem?_getD,BP hcn];rfl
  rw[hA]at pyo;have hyl:=pyo.length;have A8:(!((nrw sp wi c x).1.getD c []).isEmpty) = !yo.isEmpty:=by
   cases yo with
   |nil=>rw[List.length_nil]at hyl;rw[List.eq_nil_of_length_eq_zero hyl.symm];rfl
   |cons a b =>
    cases q_:(nrw sp wi c x).1.getD c [] with
    |nil=>rw[q_]at hyl;cases hyl
    |cons a' b'=>rfl
  refine⟨_,U,_,U,ce,_,_,_,U,U,SqL.of (sm _ _ g2),ba eol,?_⟩;refine⟨!yo.isEmpty,.inl ⟨yo,SqL.of (sm _ _ eyo),U⟩,?_⟩;have hsn:prt sp wi c (rws.take (i+1))=prt sp wi c (rws.take i)++(if (!yo.isEmpty)=true then[nrw sp wi c x] else[]):=by rw[take_snoc ex,o8,A8]
  have hpl:=nJ sp wi c (rws.take i);rw[length_take]at hpl;cases hE:(!yo.isEmpty) with
  |true =>
   rw[hE,if_pos U]at hsn;refine cZ ⟨_,U,_,U,aV,λtt_ htt=>?_⟩;have s5:=ag htt (.tup [.ref ce,.int (nrw sp wi c x).2]);have eT:upd H' tt_ (.tup [.ref ce,.int (nrw sp wi c x).2]) tt_=some (.tup [.ref ce,.int (nrw sp wi c x).2]):=ab;have eD5:=s5 _ _ eD;have nT:tt_≠D:=λz=>by rw[z,eD]at htt;cases htt
   generalize upd H' tt_ (.tup [.ref ce,.int (nrw sp wi c x).2])=H5 at s5 eT eD5⊢;have sC:=sm.trans s5;have kp:=mM sC hD;have ji:fA NT (hide H5 D) tt_ (nrw sp wi c x):=⟨ce,_,cy eT nT,trivial,kp _ _ g2,CL.same g3 kp⟩;refine dD.mk hi eD5 (ax (by have:=hz.1;lia)) ⟨sC.upd hD,ab,?_⟩;rw[ll,hsn];exact aI.snoc (aI.mono hz λ_ _ p=>p.same (jF s5)) ji
  |false =>
   rw[hE,if_neg (by decide),append_nil]at hsn;exact bb (f9.mk hi ⟨sm,eD,by rw[hsn];exact hz⟩)
 ·obtain⟨sm,eD,hz⟩:=h;rw[hzl,take_length]at hz;have hk':=hk;have sB:=s1.trans sm;refine⟨t,D,ou,nm,wy,zs,dv,ys,rws,prt sp wi c rws,bs,o,U,⟨rl,dx,na,dl,fs,xs,sB _ _ ht,f1,f2,f3,f4,f5,f6,sB _ _ ena,sB _ _ edl,sB _ _ erl,hR.same sB,iH⟩,(ok.prt hcb hk).same sB,eD,aI.mono hz λ_ _ p=>p.same (nC H' D),λt' H9 s9 hT9=>q t' H9 (sB.trans s9) hk hT9⟩
theorem j6{c' c_0:Addr}{doc pm ctv:Value}(bl:Bl K mg Y)(nO:Callee P w K mg base 2 "both" ["ones","others"] (gM K Y)) (inj:∀x y c,([("spans",c_0)]:List (Str×Addr)).lookup x=some c->([("spans",c_0)]:List (Str×Addr)).lookup y=some c->x=y):HFn P w K mg base 3 f (gz K f c' c_0 doc pm ctv):=by
 have Z67:=@Z67 c_0;refine td (qual := "parted.<locals>.<lambda>") (e:=Y67) (c':=c') (cl:=[("spans",c_0)]) (pm:=pm) (ctv:=ctv) Z67 inj (λus hu=>match us,hu with | [u0],_=>rfl) (λvs H Q E h=>?_) (λA outer s H vs Q E hr h=>?_)
 ·obtain⟨o,b,A,B,rfl,lF,ho,hb,aA,aB,lA,lB,q⟩:=h;rfl
 obtain⟨o,b,A,B,rfl,lF,ho,hb,aA,aB,lA,lB,q⟩:=h;refine⟨_,lF,qH U,λhcs=>⟨_,(aL nO hr U (aa (pv 0) (aa (pv 1) ae))),?_⟩⟩;have fz:=lF.2.2.fzs;obtain⟨_,xs,exs,pxs⟩:=SpA.so (So.hide fz) ho;obtain⟨_,ys,eys,pys⟩:=SpA.so (So.hide fz) hb;have hx:=pxs.length;have hy:=pys.length;refine⟨_,U,_,U,o,b,xs,ys,A,B,U,SqL.of exs,SqL.of eys,pxs,pys,aA,aB,by lia,λr H' zs R s2 nr er pR aR hin _ hc=>?_⟩;have out:∀{d:Addr}{o:HO},H' d=some o->backL H H' [c_0] d=some o:=λ{d o} e=>by
  rw[b8 λm=>by rw[hc d m]at e;cases e];exact e
 have nr':H r=none:=by
  rw[←bB (H:=H) (cs:=[c_0]) (b:=r) λm=>by rw[hc r m]at er;cases er];exact nr
 exact q r _ R (kW s2) nr' ⟨trivial,zs,out er,pR.mono λd xs e=>out e⟩ ⟨aR,λn=>by rw[hin];cases inP B n <;> rfl⟩
theorem ka{c' c_0:Addr}{doc pm ctv:Value}(bl:Bl K mg Y)(mN:Callee P w K mg base 2 "without" ["ones","others"] (dZ K Y)) (inj:∀x y c,([("spans",c_0)]:List (Str×Addr)).lookup x=some c->([("spans",c_0)]:List (Str×Addr)).lookup y=some c->x=y):HFn P w K mg base 3 f (gA K f c' c_0 doc pm ctv):=by
 have Z68:=@Z68 c_0;refine td (qual := "parted.<locals>.<lambda>") (e:=Y68) (c':=c') (cl:=[("spans",c_0)]) (pm:=pm) (ctv:=ctv) Z68 inj (λus hu=>match us,hu with | [u0],_=>rfl) (λvs H Q E h=>?_) (λA outer s H vs Q E hr h=>?_)
 ·obtain⟨o,b,A,B,rfl,lF,ho,hb,aA,aB,lA,lB,q⟩:=h;rfl
 obtain⟨o,b,A,B,rfl,lF,ho,hb,aA,aB,lA,lB,q⟩:=h;refine⟨_,lF,qH U,λhcs=>⟨_,(aL mN hr U (aa (pv 0) (aa (pv 1) ae))),?_⟩⟩;have fz:=lF.2.2.fzs;obtain⟨_,xs,exs,pxs⟩:=SpA.so (So.hide fz) ho;obtain⟨_,ys,eys,pys⟩:=SpA.so (So.hide fz) hb;have hx:=pxs.length;have hy:=pys.length;refine⟨_,U,_,U,o,b,xs,ys,A,B,U,SqL.of exs,SqL.of eys,pxs,pys,aA,aB,by lia,by lia,λr H' zs R s2 nr er pR aR hin _ hc=>?_⟩;have out:∀{d:Addr}{o:HO},H' d=some o->backL H H' [c_0] d=some o:=λ{d o} e=>by
  rw[b8 λm=>by rw[hc d m]at e;cases e];exact e
 have nr':H r=none:=by
  rw[←bB (H:=H) (cs:=[c_0]) (b:=r) λm=>by rw[hc r m]at er;cases er];exact nr
 exact q r _ R (kW s2) nr' ⟨trivial,zs,out er,pR.mono λd xs e=>out e⟩ ⟨aR,λn=>by rw[hin];cases inP B n <;> rfl⟩
theorem A9(F:Fun K "parted" "parted" Y66 f fd) (bl:Bl K mg Y)(lG:Callee P w K mg base 9 "narrowed" ["table","column","narrow"] (gy K Y P w mg base)) (nO:Callee P w K mg base 9 "both" ["ones","others"] (gM K Y)) (mN:Callee P w K mg base 9 "without" ["ones","others"] (dZ K Y)) {cL tP:Addr}(hcd:fd.code=.ref cL)(ht:W.tabIn K "parted" = some (cL,tP)) (hT:W.CodeHd base cL tP/\base.BuiltinsAt mg tP)(xf:Callee P w K mg base 2 "both" ["ones","others"] (gM K Y)) (rP:Callee P w K mg base 2 "without" ["ones","others"] (dZ K Y)):aK P w K mg base CX0 10 f fd ["table","column","spans"] (jH K Y):=by
 refine F.okT hcd Z66 (λvs H Q E h=>?_) (λA outer s H vs Q E hr h=>?_)
 ·obtain⟨t,b,ou,c,nm,wy,zs,dv,rws,bs,o,sp,rfl,hT0,ok,hcb,hap,hb,aS,lS,htb,q⟩:=h;rfl
 obtain⟨t,b,ou,c,nm,wy,zs,dv,rws,bs,o,sp,rfl,hT0,ok,hcb,hap,hb,aS,lS,htb,q⟩:=h
 refine⟨_,(aG (aF (i:=3) Z66.nd U (Or.inl U) (sW (zs:=[("spans",2,s.heap.objs.size+1)]) lG hr U (aa (pv 0) (aa (pv 1) (aa (sZ (clos:=[("spans",s.heap.objs.size+1)]) U hT.1 hT.2 U (forall_mem_cons.mpr ⟨U,forall_mem_nil _⟩)) ae))) (forall_mem_cons.mpr ⟨⟨U,Or.inl U,U,Or.inl U⟩,forall_mem_nil _⟩)))
  (aG (aF (i:=4) Z66.nd U (Or.inl U) (sW (zs:=[("spans",2,s.heap.objs.size+1)]) lG hr U (aa (pv 0) (aa (pv 1) (aa (sZ (clos:=[("spans",s.heap.objs.size+1)]) U hT.1 hT.2 U (forall_mem_cons.mpr ⟨U,forall_mem_nil _⟩)) ae))) (forall_mem_cons.mpr ⟨⟨U,Or.inl U,U,Or.inl U⟩,forall_mem_nil _⟩)))
  (ah (av (bq (aa (pv 3) (aa (pv 4) ae))))))),?_⟩
 have etP:=htb _ ht;refine⟨λσ' H'=>So H H'/\ie H' tP [(rG Y67,"parted.<locals>.<lambda>"),(rG Y68,"parted.<locals>.<lambda>")]/\∃t1:Addr,(∀x∈rws,Cut sp true (x.1.getD c []) (fh sp true (x.1.getD c [])))/\TF Y.k H' t1 nm wy ou zs dv (prt sp true c rws)/\σ'=[some (.ref t),some (.int (c:Int)),some (.ref b),some (.ref t1),none],?_,?_⟩
 ·refine⟨_,U,_,U,[(rG Y67,"parted.<locals>.<lambda>"),(rG Y68,"parted.<locals>.<lambda>")],mem_cons_self,?_,ie.new etP,λf_ c' oc pm ctv H1 hf kp ef ec hco uy inj=>?_⟩
  ·intro p hp _ _;simp only[mem_cons,not_mem_nil,or_false]at hp;rcases hp with rfl|rfl <;> rfl
  have so1:So H H1:=λd o p e=>kp d o (λz=>by rw[z,etP]at e;cases e;exact p) e
  refine λos hos hz ho=>?_
  have hfz:=kZ hos hz;have fzc:∃o,gr H1 (([("spans",2,s.heap.objs.size+1)]:List (Str×Nat×Addr)).map (·.2.2) |>.zip os) (s.heap.objs.size+1)=some (.frz o TTh):=by
   obtain⟨o,_,e⟩:=fO (H:=H1) (fz:=(([("spans",2,s.heap.objs.size+1)]:List (Str×Nat×Addr)).map (·.2.2)).zip os) (b:=s.heap.objs.size+1) (by rw[kY hos];exact mem_cons_self);exact⟨o,e⟩
  have hcl:=oP (H:=H1) (cl:=[("spans",s.heap.objs.size+1)]) (ws:=[("spans",.ref b)]) hos (by simp) ho (λc hc=>by
   simp only[map_cons,map_nil,mem_cons,not_mem_nil,or_false]at hc;exact⟨_,mem_cons_self,hc.symm⟩) (λx v e=>by
   unfold List.lookup at e;split at e
   ·rename_i hx
    cases e;rw[eq_of_beq hx];exact⟨_,mem_cons_self,U,U⟩
   ·cases e)
  have lF:ib (gr H1 ((([("spans",2,s.heap.objs.size+1)]:List (Str×Nat×Addr)).map (·.2.2)).zip os)) f_ c' (W.kla_obj "<lambda>" "parted.<locals>.<lambda>" (nq Y67) (lV Y67) (jd Y67) [("spans",s.heap.objs.size+1)] pm c' ctv) "parted.<locals>.<lambda>" [("spans",s.heap.objs.size+1)] [("spans",.ref b)]:=⟨hfz _ _ ef,⟨oc,hfz _ _ ec,hco⟩,hcl⟩;have hN:wR P w K mg base f_ sp true (λH0=>ib H0 f_ c' (W.kla_obj "<lambda>" "parted.<locals>.<lambda>" (nq Y67) (lV Y67) (jd Y67) [("spans",s.heap.objs.size+1)] pm c' ctv) "parted.<locals>.<lambda>" [("spans",s.heap.objs.size+1)] [("spans",.ref b)]/\SpA NT H0 b sp) :=
   ⟨⟨_,j6 (doc:=.none) (pm:=pm) (ctv:=ctv) (c':=c') (c_0:=s.heap.objs.size+1) bl xf inj,λH0 o A Q0 hj ho_ aA lA k=>⟨o,b,A,sp,U,hj.1,ho_,hj.2,aA,aS,lA,lS,k⟩⟩,λH0 hj=>⟨_,_,hj.1.1,U⟩,λH0 H0' hj s0=>⟨hj.1.same s0,hj.2.same s0⟩⟩
  refine⟨t,f_,ou,c,nm,wy,zs,dv,rws,bs,o,sp,true,_,U,(TF.so so1 hT0).same hfz,(TOk.so so1 ok).same hfz,hcb,hap,hN,⟨lF,(SpA.so so1 hb).same hfz⟩,λt1 H2 s2 hk hT2=>?_⟩;have hs:=L2.hide_same hos hz s2;obtain⟨o2,eo2⟩:=fzc;have fz2:Fzs H2 [s.heap.objs.size+1]:=λd hd=>by rw[mem_singleton.mp hd];exact⟨o2,s2 _ _ eo2⟩
  exact⟨so1.trans (So.of hs),uy.same hs,t1,hk,TF.so (So.hide fz2) hT2,U⟩
 rintro σ1 H1 ⟨s1,vw,t1,hk1,hT1,rfl⟩;obtain⟨pst,etP,_⟩:=id vw;have Ba:=TF.so s1 hT0;have ok1:=TOk.so s1 ok;have hb1:=SpA.so s1 hb;refine⟨λσ' H'=>So H1 H'/\∃t2:Addr,(∀x∈rws,Cut sp false (x.1.getD c []) (fh sp false (x.1.getD c [])))/\TF Y.k H' t2 nm wy ou zs dv (prt sp false c rws)/\σ'=[some (.ref t),some (.int (c:Int)),some (.ref b),some (.ref t1),some (.ref t2)],?_,?_⟩
 ·refine⟨_,U,_,U,[(rG Y67,"parted.<locals>.<lambda>"),(rG Y68,"parted.<locals>.<lambda>")],mem_cons_of_mem _ mem_cons_self,?_,vw,λf_ c' oc pm ctv H2 hf kp ef ec hco uy inj=>?_⟩
  ·intro p hp _ _;simp only[mem_cons,not_mem_nil,or_false]at hp;rcases hp with rfl|rfl <;> rfl
  have so1:So H1 H2:=λd o p e=>kp d o (λz=>by rw[z,etP]at e;cases e;exact p) e
  refine λos hos hz ho=>?_
  have hfz:=kZ hos hz;have fzc:∃o,gr H2 (([("spans",2,s.heap.objs.size+1)]:List (Str×Nat×Addr)).map (·.2.2) |>.zip os) (s.heap.objs.size+1)=some (.frz o TTh):=by
   obtain⟨o,_,e⟩:=fO (H:=H2) (fz:=(([("spans",2,s.heap.objs.size+1)]:List (Str×Nat×Addr)).map (·.2.2)).zip os) (b:=s.heap.objs.size+1) (by rw[kY hos];exact mem_cons_self);exact⟨o,e⟩
  have hcl:=oP (H:=H2) (cl:=[("spans",s.heap.objs.size+1)]) (ws:=[("spans",.ref b)]) hos (by simp) ho (λc hc=>by
   simp only[map_cons,map_nil,mem_cons,not_mem_nil,or_false]at hc;exact⟨_,mem_cons_self,hc.symm⟩) (λx v e=>by
   unfold List.lookup at e;split at e
   ·rename_i hx
    cases e;rw[eq_of_beq hx];exact⟨_,mem_cons_self,U,U⟩
   ·cases e)
  have lF:ib (gr H2 ((([("spans",2,s.heap.objs.size+1)]:List (Str×Nat×Addr)).map (·.2.2)).zip os)) f_ c' (W.kla_obj "<lambda>" "parted.<locals>.<lambda>" (nq Y68) (lV Y68) (jd Y68) [("spans",s.heap.objs.size+1)] pm c' ctv) "parted.<locals>.<lambda>" [("spans",s.heap.objs.size+1)] [("spans",.ref b)]:=⟨hfz _ _ ef,⟨oc,hfz _ _ ec,hco⟩,hcl⟩;have hN:wR P w K mg base f_ sp false (λH0=>ib H0 f_ c' (W.kla_obj "<lambda>" "parted.<locals>.<lambda>" (nq Y68) (lV Y68) (jd Y68) [("spans",s.heap.objs.size+1)] pm c' ctv) "parted.<locals>.<lambda>" [("spans",s.heap.objs.size+1)] [("spans",.ref b)]/\SpA NT H0 b sp) :=
   ⟨⟨_,ka (doc:=.none) (pm:=pm) (ctv:=ctv) (c':=c') (c_0:=s.heap.objs.size+1) bl rP inj,λH0 o A Q0 hj ho_ aA lA k=>⟨o,b,A,sp,U,hj.1,ho_,hj.2,aA,aS,lA,lS,k⟩⟩,λH0 hj=>⟨_,_,hj.1.1,U⟩,λH0 H0' hj s0=>⟨hj.1.same s0,hj.2.same s0⟩⟩
  refine⟨t,f_,ou,c,nm,wy,zs,dv,rws,bs,o,sp,false,_,U,(TF.so so1 Ba).same hfz,(TOk.so so1 ok1).same hfz,hcb,hap,hN,⟨lF,(SpA.so so1 hb1).same hfz⟩,λt2 H3 s3 hk hT2=>?_⟩;have hs:=L2.hide_same hos hz s3;obtain⟨o2,eo2⟩:=fzc;have fz2:Fzs H3 [s.heap.objs.size+1]:=λd hd=>by rw[mem_singleton.mp hd];exact⟨o2,s3 _ _ eo2⟩
  exact⟨so1.trans (So.of hs),t2,hk,TF.so (So.hide fz2) hT2,U⟩
 rintro σ2 H2 ⟨s2,t2,hk2,hT2,rfl⟩;refine⟨_,U,_,U,aV,λr hr_=>?_⟩;have s3:=ag hr_ (.tup [.ref t1,.ref t2]);refine q r t1 t2 _ ((s1.trans s2).trans (So.of s3)) ab (λwi=>?_) ((TF.so s2 hT1).same s3) (hT2.same s3);cases wi with
 |true=>exact hk1
 |false=>exact hk2
theorem Bb(F:Fun K "law" "law" Y40 f fd) (bl:Bl K mg Y)(d7:Callee P w K mg base 10 "_law_cell_at" ["script","k"] (dY K Y)) (ij:Callee P w K mg base 10 "_law_column" ["m","most"] (fk K Y)) (qk:Callee P w K mg base 10 "_law_way" ["turn","out"] (iD K Y)) (kb:Callee P w K mg base 10 "_law_bit_rows" ["seeds","columns","out"] (dF K Y)) (nU:Callee P w K mg base 10 "_law_table" ["head","columns","out","way","bit_rows"] (fW K Y)) (gD:Callee P w K mg base 10 "_law_rows" ["bit_rows","columns"] (eX K Y)) (lZ:Callee P w K mg base 10 "_law_beyond" ["spans","column","turn"] (fj K Y)) (tV:Callee P w K mg base 10 "parted" ["table","column","spans"] (jH K Y)) (l7:Callee P w K mg base 10 "_law_points" ["columns"] (fi K Y)) (bH:Callee P w K mg base 10 "_law_mixed" ["cell","k"] (cz K Y)) (nV:Callee P w K mg base 10 "_law_seeds" ["cells","most"] (fU K Y)) (fX:Callee P w K mg base 10 "_law_spans" ["pairs","bits"] (dO K Y)) (jU:Callee P w K mg base 10 "_law_like" ["found","table","rows"] (gw K Y)) (nW:Callee P w K mg base 10 "_law_codes" ["columns","point","turn"] (fS K Y)) (jV:Callee P w K mg base 10 "_law_part" ["rows","at","spans","within"] (gx K Y)) (mO:Callee P w K mg base 10 "verdict" ["table","codes"] (iG K Y)) (gP:Callee P w K mg base 10 "_law_in" ["spans","code"] (gN K Y)) (jW:Callee P w K mg base 10 "_law_same" ["found","due"] (gv K Y)) (ql:Callee P w K mg base 10 "_law_due" ["way","bit_rows","out","point"] (iE K Y)):aK P w K mg base CX0 11 f fd ["script"] (J18 K):=by
 refine F.ok Z40 (λvs H Q E h=>?_) (λcdv A outer s H vs Q E hr h=>?_)
 ·obtain⟨a,ns,rfl,hS,h63,htb,q⟩:=h;rfl
 obtain⟨a,ns,rfl,hS,h63,htb,q⟩:=h
 refine⟨_,(aG (aF (i:=1) Z40.nd U (Or.inr U) (aL d7 hr U (aa (pv 0) (aa af ae))))
  (aG (aF (i:=2) Z40.nd U (Or.inl U) (aL d7 hr U (aa (pv 0) (aa af ae))))
  (aG (aF (i:=3) Z40.nd U (Or.inr U) (ak bx af (ak aQ (pv 1) af)))
  (aG (kf (i:=4) Z40.nd U (Or.inl U) (dP U bl.range_ (aa (pv 3) ae)) (dR (N:=["j","head","count"]) (fr:=[1,3]) (cl:=[("head",s.heap.objs.size+1),("count",s.heap.objs.size+1+1)]) U U (by decide+kernel) (by decide+kernel) U (by decide+kernel) U U U (forall_mem_cons.mpr ⟨U,forall_mem_cons.mpr ⟨U,forall_mem_nil _⟩⟩) U) U (λ_ _ _ _=>cc) (λ_ _ _ _=>(aL ij hr U (aa (aL bH hr U (aa (pv 1) (aa (ak bx af (pv 0)) ae))) (aa (aw (dQ (K:=K) U) (bf (aa af (aa af (aa af (aa af ae))))) (ak cP (pv 2) af) (λ_ _=>U)) ae)))))
  (aG (aF (i:=5) Z40.nd U (Or.inl U) (aL ij hr U (aa (aL bH hr U (aa (aL d7 hr U (aa (pv 0) (aa af ae))) (aa af ae))) (aa af ae))))
  (aG (aF (i:=6) Z40.nd U (Or.inl U) (aL qk hr U (aa (pv 2) (aa (pv 5) ae))))
  (aG (aF (i:=7) Z40.nd U (Or.inl U) (aL kb hr U (aa (aL nV hr U (aa (cE dk (pv 0) (dj af) di) (aa af ae))) (aa (pv 4) (aa (pv 5) ae)))))
  (aG (aF (i:=8) Z40.nd U (Or.inl U) (aL nU hr U (aa (pv 1) (aa (pv 4) (aa (pv 5) (aa (pv 6) (aa (pv 7) ae)))))))
  (aG (aF (i:=9) Z40.nd U (Or.inl U) (aL gD hr U (aa (pv 7) (aa (pv 4) ae))))
  (aG (aF (i:=10) Z40.nd U (Or.inl U) (ak aQ (ak bj (pv 2) af) (pv 3)))
  (aG (aF (i:=11) Z40.nd U (Or.inl U) (aL lZ hr U (aa (aL fX hr U (aa (aw aD (aw aD (pv 4) (pv 10) (λ_ _=>U)) af (λ_ _=>U)) (aa (ak aQ (ak bj (pv 2) af) (ak pM af (aq az U bl.len_ boot_len (aa (aw aD (aw aD (pv 4) (pv 10) (λ_ _=>U)) af (λ_ _=>U)) ae)))) ae))) (aa (aw aD (pv 4) (pv 10) (λ_ _=>U)) (aa (ak bj (pv 2) af) ae)))))
  (aG (aF (i:=12) Z40.nd U (Or.inl U) (cw cR U bl.list_ PyProof.Rows.boot_list (aa (pv 11) ae)))
  (aG (aF (i:=13) Z40.nd U (Or.inl U) (aL tV hr U (aa (pv 8) (aa (pv 10) (aa (pv 12) ae)))))
  (aG (aM (PW.pt (gh (bE (bw (aq bJ U bl.isinstance_ PyProof.Rows.boot_isinstance (aa (pv 13) (aa (fH (v:=.ty "tuple") U bl.tuple_ PyProof.Rows.boot_tuple U) ae))))) (gh (aH ko (aq az U bl.len_ boot_len (aa (pv 13) ae)) af (aJ _)) (gh (aH (qF hr) (pv 12) (pv 11) (aJ _)) (ip (aH (qF hr) (aN (pv 8) U) (pv 9) (aJ _)))))))
  (ah (av cJ))
  aE)
  (aG (aM (bE (bw (aL jU hr U (aa (aw aO (pv 13) af (λ_ _=>U)) (aa (pv 8) (aa (aL jV hr U (aa (pv 9) (aa (pv 10) (aa (pv 11) (aa cJ ae))))) ae))))))
  (ah (av cJ))
  aE)
  (aG (aM (bE (bw (aL jU hr U (aa (aw aO (pv 13) af (λ_ _=>U)) (aa (pv 8) (aa (aL jV hr U (aa (pv 9) (aa (pv 10) (aa (pv 11) (aa cJ ae))))) ae))))))
  (ah (av cJ))
  aE)
  (aj (bF PassesOwn.never U (bh (aL l7 hr U (aa (pv 4) ae))) (ay (i:=14) Z40.nd U (Or.inl U))
  (aG (aF (i:=15) Z40.nd U (Or.inl U) (aL nW hr U (aa (pv 4) (aa (pv 14) (aa (ak bj (pv 2) af) ae)))))
  (aG (aF (i:=16) Z40.nd U (Or.inl U) (bf (aa (aL mO hr U (aa (aw aO (pv 13) af (λ_ _=>U)) (aa (pv 15) ae))) (aa (aL mO hr U (aa (aw aO (pv 13) af (λ_ _=>U)) (aa (pv 15) ae))) ae))))
  (aj (aM (bE (bw (aL gP hr U (aa (pv 11) (aa (aw aD (pv 15) (pv 10) (λ_ _=>U)) ae)))))
  (ah (aF (i:=16) Z40.nd U (Or.inl U) (bf (aa (aw aD (pv 16) af (λ_ _=>U)) (aa (aw aD (pv 16) af (λ_ _=>U)) ae)))))
  aE)
  (ah (aM (PW.pt (gh (bE (bw (aL jW hr U (aa (aw aD (pv 16) af (λ_ _=>U)) (aa (aL ql hr U (aa (pv 6) (aa (pv 7) (aa (pv 5) (aa (pv 14) ae))))) ae))))) (ip (bE (bw (aL jW hr U (aa (aw aD (pv 16) af (λ_ _=>U)) (aa (bq (aa aP (aa af ae))) ae))))))))
  (ah (av cJ))
  aE))))))
  (ah (av cJ))))))))))))))))))),?_⟩
 refine⟨λσ' H'=>H'=H/\∃h:Int,σ'=[some (.ref a),some (.int h),none,none,none,none,none,none,none,none,none,none,none,none,none,none,none],⟨_,U,a,ns,0,U,hS,Int.le_refl _,λr=>⟨U,r,U⟩⟩,?_⟩;rintro σ1 H1 ⟨rfl,h,rfl⟩;refine⟨λσ' H'=>H'=H1/\∃tn:Int,σ'=[some (.ref a),some (.int h),some (.int tn),none,none,none,none,none,none,none,none,none,none,none,none,none,none],⟨_,U,a,ns,2,U,hS,by decide,λr=>⟨U,r,U⟩⟩,?_⟩;rintro σ2 H2 ⟨rfl,tn,rfl⟩;refine⟨λσ' H'=>H'=H2/\σ'=[some (.ref a),some (.int h),some (.int tn),some (.int (1+h%4)),none,none,none,none,none,none,none,none,none,none,none,none,none],⟨_,U,_,_,U,U,(by show(0:Int)<4;decide),_,_,U,U,U,U⟩,?_⟩;rintro σ3 H3 ⟨rfl,rfl⟩;have h0:=emod_nonneg h (show(4:Int)≠0 by decide);have h1:=emod_lt_of_pos h (show(0:Int)<4 by decide);obtain⟨v4,hv4,hv1,hv6⟩:=yh (h:=h);refine⟨λσ' H'=>ar H3 H'/\∃(co:Addr)(xs:List V)(cs:List Col),H' co=some (.lst xs)/\cA NT H' xs cs/\(∀c∈cs,bD c)/\cs.length=(1+h%4).toNat/\σ'=[some (.ref a),some (.int h),some (.int tn),some (.int (1+h%4)),some (.ref co),none,none,none,none,none,none,none,none,none,none,none,none],?_,?_⟩
 ·refine⟨_,U,_,U,(by show -(2^62)<=1+h%4;lia),(by show 1+h%4<2^62;lia),fK (λD i zs H'=>ar H3 H'/\H' D=some (.lst zs)/\∃cs:List Col,cA (· ≠ D) H' zs cs/\cs.length=i/\∀c∈cs,bD c) (λD hD=>⟨ag hD _,ab,[],aI.nil,U,(λc hc=>by cases hc)⟩) (λD i zs H' hD hi hh=>?_) (λD zs H' hD hh=>?_)⟩
  ·obtain⟨sm,eD,cs,hz,hl,hok⟩:=hh;refine⟨_,U,_,U,_,_,U,U,_,_,U,(by show 0<=1+(0+(i:Int));lia),(by show 1+(0+(i:Int))<=100;lia),λr _=>?_⟩;refine⟨(by show 4<=sizeLine;decide),λp hp=>?_⟩;have u1:=ag hp (.lst [V.int 6,.int 4,.int 3,.int 2]);have e1:upd H' p (.lst [V.int 6,.int 4,.int 3,.int 2]) p=some (.lst [V.int 6,.int 4,.int 3,.int 2]):=ab;generalize upd H' p (.lst [V.int 6,.int 4,.int 3,.int 2])=H5 at u1 e1⊢;refine⟨_,U,_,_,U,U,p,_,_,_,U,U,SqL.of e1,hv4,r,v4,U,hv1,hv6,λl c H6 s6 hc ok=>?_⟩;have eD5:=u1 _ _ eD;have eD6:=s6 _ _ eD5;have hlz:zs.length=i:=by rw[hz.1,hl]
   have hc2:c0 (· ≠ D) H6 l c:=hc.wk λx hx z=>by rw[z,eD5]at hx;cases hx
   have hz2:cA (· ≠ D) H6 (zs++[.ref l]) (cs++[c]):=aI.snoc (hz.same (u1.trans s6)) hc2;refine dD.mk hi eD6 (ax (by lia)) ⟨((sm.trans u1).trans s6).upd hD,ab,cs++[c],hz2.updN (λz=>z U) eD6,by rw[length_append,length_singleton,hl],λc' hc'=>?_⟩;rcases mem_append.mp hc' with hc' | hc'
   ·exact hok c' hc'
   ·rw[show c'=c by simpa using hc'];exact ok
  ·obtain⟨sm,eD,cs,hz,hl,hok⟩:=hh;exact⟨sm,D,zs,cs,eD,hz.any,hok,hl,U⟩
 rintro σ4 H4 ⟨s4,co,xs,cs,eco,hco,hok,hcn,rfl⟩;have hc1:1<=cs.length:=by lia
 have hc4:cs.length<=4:=by lia
 have hcI:(1+h%4)=(cs.length:Int):=by lia
 refine⟨λσ' H'=>ar H4 H'/\∃(ol:Addr)(oc:Col),c0 NT H' ol oc/\bD oc/\σ'=[some (.ref a),some (.int h),some (.int tn),some (.int (1+h%4)),some (.ref co),some (.ref ol),none,none,none,none,none,none,none,none,none,none,none],⟨_,U,a,ns,1,U,s4.seq hS,by decide,λr=>⟨r,0,U,by decide,by decide,λr2 _=>⟨r2,3,U,by decide,by decide,λl c H5 s5 hc ok=>⟨s5,l,c,hc.any,ok,U⟩⟩⟩⟩,?_⟩;rintro σ5 H5 ⟨t5,ol,oc,hol,ook,rfl⟩;have s5:=s4.trans t5;have uN:=t5 _ _ eco;have xb:=hco.same t5;refine⟨λσ' H'=>ar H5 H'/\∃(wy:Str)(wi:Nat),six[wi]?=some wy/\(wy=Str.ofString "sum" -> oc.w=false)/\σ'=[some (.ref a),some (.int h),some (.int tn),some (.int (1+h%4)),some (.ref co),some (.ref ol),some (.str wy),none,none,none,none,none,none,none,none,none,none],⟨_,U,_,U,tn,ol,oc,U,hol,λwy i H6 s6 hi hs=>⟨s6,wy,i,hi,hs,U⟩⟩,?_⟩;rintro σ6 H6 ⟨t6,wy,wi,hwi,nP,rfl⟩;have s6:=s5.trans t6;have yz:=t6 _ _ uN;have yA:=xb.same t6;have yB:=hol.same t6;refine⟨λσ' H'=>ar H6 H'/\∃(bl_:Addr)(zs:List V)(ws:List BW),H' bl_=some (.lst zs)/\BRL NT H' zs ws/\ws.length<=16/\(∀w∈ws,eP cs oc w)/\σ'=[some (.ref a),some (.int h),some (.int tn),some (.int (1+h%4)),some (.ref co),some (.ref ol),some (.str wy),some (.ref bl_),none,none,none,none,none,none,none,none,none],?_,?_⟩
 ·obtain⟨ms,em,lm⟩:=tq ns 3 none;refine⟨_,U,_,U,a,_,U,s6.seq hS,λc1 Bc=>?_⟩;rw[show(some (3:Int))=some ((3:Nat):Int)from U,em];have u1:=ag Bc (.lst (ms.map V.int));have e1:upd H6 c1 (.lst (ms.map V.int)) c1=some (.lst (ms.map V.int)):=ab;generalize upd H6 c1 (.lst (ms.map V.int))=H7 at u1 e1⊢;refine⟨c1,ms,16,U,SqL.of e1,by lia,by decide,by decide,λl ss H8 s8 e8 hss _ hnn=>?_⟩;have u8:=u1.trans s8;exact⟨_,U,_,U,l,co,ol,ss,xs,cs,oc,U,e8,by lia,hnn,u8 _ _ yz,yA.same u8,hok,hc1,hc4,yB.same u8,ook,λbl_ zs ws H9 s9 e9 hz hwl hbo=>⟨u8.trans s9,bl_,zs,ws,e9,hz.wk λ_ _=>trivial,by lia,hbo,U⟩⟩
 rintro σ7 H7 ⟨t7,bl_,zs,ws,ebl,hz,hwl,hbo,rfl⟩;have xg:=t7 _ _ yz;have xh:=yA.same t7;have yC:=yB.same t7;have jX:∀w∈ws,w.1.length=cs.length:=λw hw=>(hbo w hw).len
 refine⟨λσ' H'=>ar H7 H'/\∃(t ou:Addr)(dv:List V)(rws:List Rw),TF Y.k H' t (wd (h / 16) 0) wy ou ((List.range cs.length).map λj:Nat=>wd (h / 16) (1+(0+(j:Int)))) dv rws/\TOk Y.i Y.j H' (wd (h / 16) 0) wy ou ((List.range cs.length).map λj:Nat=>wd (h / 16) (1+(0+(j:Int)))) dv rws (cs.map Col.b) oc.b/\aI dv cs (dC Y.i Y.j H')/\dC Y.i Y.j H' ou oc/\dI cs ws rws/\σ'=[some (.ref a),some (.int h),some (.int tn),some (.int (1+h%4)),some (.ref co),some (.ref ol),some (.str wy),some (.ref bl_),some (.ref t),none,none,none,none,none,none,none,none],⟨_,U,_,U,_,U,_,U,_,U,h,co,ol,bl_,wy,xs,zs,cs,oc,ws,wi,U,xg,xh,hok,hc1,hc4,yC,ook,hwi,nP,ebl,hz,by lia,hbo,λt ou dv rws H8 s8 hT hOk hdv hou hof=>⟨s8,t,ou,dv,rws,hT,hOk,hdv,hou,hof,U⟩⟩,?_⟩;rintro σ8 H8 ⟨t8,t,ou,dv,rws,hT,hOk,hdv,hou,hof,rfl⟩;have hrw:rws=ws.map (rwo cs):=hof.rwo jX;subst hrw;generalize hNZ:((List.range cs.length).map λj:Nat=>wd (h / 16) (1+(0+(j:Int))))=NZ at hT hOk;refine⟨λσ' H'=>ar H8 H'/\∃(rl:Addr)(rx:List V),H' rl=some (.lst rx)/\RL NT H' rx (ws.map (rwo cs))/\σ'=[some (.ref a),some (.int h),some (.int tn),some (.int (1+h%4)),some (.ref co),some (.ref ol),some (.str wy),some (.ref bl_),some (.ref t),some (.ref rl),none,none,none,none,none,none,none],⟨_,U,_,U,bl_,co,zs,xs,ws,cs,U,t8 _ _ ebl,hz.same t8,by lia,t8 _ _ xg,xh.same t8,hok,hc4,jX,λrl rx BO H9 s9 e9 hR Be=>⟨s9,rl,rx,e9,by rw[Be.rwo jX]at hR;exact RL.any hR,U⟩⟩,?_⟩;rintro σ9 H9 ⟨t9,rl,rx,erl,hR,rfl⟩;have t79:=t8.trans t9;have uO:=t79 _ _ xg;have yD:=xh.same t79;have hT9:=hT.same t9;have Bf:=hOk.same t9;obtain⟨c,hcl,ec⟩:∃c:Nat,c<cs.length/\tn / 6%(1+h%4)=(c:Int):=by
  have q0:=emod_nonneg (tn / 6) (show 1+h%4≠0 by lia);have q1:=emod_lt_of_pos (tn / 6) (show 0<1+h%4 by lia);exact⟨(tn / 6%(1+h%4)).toNat,by lia,by lia⟩
 refine⟨λσ' H'=>H'=H9/\σ'=[some (.ref a),some (.int h),some (.int tn),some (.int (1+h%4)),some (.ref co),some (.ref ol),some (.str wy),some (.ref bl_),some (.ref t),some (.ref rl),some (.int (c:Int)),none,none,none,none,none,none],⟨_,U,_,_,U,U,⟨by decide,by decide⟩,_,U,_,_,U,U,(by show 0<1+h%4;lia),U,by rw[ec];rfl⟩,?_⟩;rintro σ10 H10 ⟨rfl,rfl⟩;obtain⟨col,xi⟩:∃col,cs[c]?=some col:=⟨_,BP hcl⟩;have okc:=hok col (BR xi);obtain⟨cr,ecr,hcr⟩:=yD.2 c col xi;obtain⟨pl,ts,_,_,g1,g2,hp⟩:=id hcr;have htl:=hp.length;have h6:=okc.few;refine⟨λσ' H'=>ar H10 H'/\∃(sl:Addr)(sp:Prs),SpA NT H' sl sp/\Apart sp/\sp.length<=10/\σ'=[some (.ref a),some (.int h),some (.int tn),some (.int (1+h%4)),some (.ref co),some (.ref ol),some (.str wy),some (.ref bl_),some (.ref t),some (.ref rl),some (.int (c:Int)),some (.ref sl),none,none,none,none,none],?_,?_⟩
 ·have hW:(0:Int)<1*2^(((ts.length:Nat):Int)).toNat:=by rw[Int.one_mul];exact Int.pow_pos (by decide)
  have hb0:=emod_nonneg (tn / 24) (Int.ne_of_gt hW);refine⟨_,U,_,U,co,_,_,_,U,U,SqL.of uO,ba ecr,cr,_,_,_,U,U,SqL.of g1,U,_,U,_,_,U,U,⟨by decide,by decide⟩,_,U,_,U,co,_,_,_,U,U,SqL.of uO,ba ecr,cr,_,_,_,U,U,SqL.of g1,U,pl,_,U,.inl (SqL.of g2),_,_,U,U,⟨by lia,by lia,by decide⟩,_,_,U,U,hW,?_⟩;refine⟨pl,ts,col.prs,(tn / 24%(1*2^(((ts.length:Nat):Int)).toNat)).toNat,by rw[toNat_of_nonneg hb0],g2,hp,okc.ch,h6,λl ps H11 s11 hsp _ his=>?_⟩;subst his;refine⟨_,U,_,U,co,_,_,_,U,U,SqL.of (s11 _ _ uO),ba ecr,_,U,_,_,U,U,⟨by decide,by decide⟩,l,cr,_,col,_,U,hsp.any,tK okc _,tL okc _,λp hp'=>?_,hcr.same s11,okc,λl' ps' H12 s12 h12 a12 l12=>⟨s11.trans s12,l',ps',h12,a12,l12,U⟩⟩;have hle:=(tK okc ((tn / 24%(1*2^(((ts.length:Nat):Int)).toNat)).toNat)).le p hp';obtain⟨k_,q_,_,e_,_,l1,_⟩:=(wM okc _ p.1).mp (dM.mpr ⟨p,hp',Int.le_refl _,hle⟩);have:=(okc.inn e_).1;lia
 rintro σ11 H11 ⟨t11,sl,sp,hsl,aS,lS,rfl⟩;obtain⟨_,yl,eyl,pyl⟩:=id hsl;refine⟨λσ' H'=>ar H11 H'/\∃hd:Addr,H' hd=some (.lst yl)/\σ'=[some (.ref a),some (.int h),some (.int tn),some (.int (1+h%4)),some (.ref co),some (.ref ol),some (.str wy),some (.ref bl_),some (.ref t),some (.ref rl),some (.int (c:Int)),some (.ref sl),some (.ref hd),none,none,none,none],⟨_,U,sl,yl,U,.inl (SqL.of eyl),λl hl=>⟨ag hl _,l,ab,U⟩⟩,?_⟩;rintro σ12 H12 ⟨t12,hd,ehd,rfl⟩;have u12:=t11.trans t12;have Bg:=hT9.same u12;have yE:=Bf.same u12;have c9:∀x∈ws.map (rwo cs),c<x.1.length/\x.1.length<=4/\Apart (x.1.getD c [])/\(x.1.getD c []).length<=6:=λx hx=>by
  obtain⟨w_,hw_,rfl⟩:=mem_map.mp hx;have hl_:=jX w_ hw_;obtain⟨b_,eb_⟩:∃b,w_.1[c]?=some b:=⟨_,BP (by lia)⟩;have e_:(rwo cs w_).1.getD c []=My.mg col b_:=by
   show(cel cs w_.1).getD c []=_;rw[getD_eq_getElem?_getD,nG xi eb_];rfl
  have el_:(rwo cs w_).1.length=cs.length:=kl hl_;rw[e_,el_];exact⟨hcl,hc4,tK okc _,tL okc _⟩
 have hbl:(cs.map Col.b).length=cs.length:=length_map _;have yF:∀z,W.tabIn K "parted" = some z->H12 z.2=some (.tbl #[]):=λz e=>u12 _ _ (t9 _ _ (t8 _ _ (t7 _ _ (s6 _ _ (htb z e)))))
 refine⟨λσ' H'=>So H12 H'/\∃(fo t1 t2:Addr),H' fo=some (.tup [.ref t1,.ref t2])/\(∀(wi:Bool),∀x∈ws.map (rwo cs),Cut sp wi (x.1.getD c []) (fh sp wi (x.1.getD c [])))/\TF Y.k H' t1 (wd (h / 16) 0) wy ou NZ dv (prt sp true c (ws.map (rwo cs)))/\TF Y.k H' t2 (wd (h / 16) 0) wy ou NZ dv (prt sp false c (ws.map (rwo cs)))/\σ'=[some (.ref a),some (.int h),some (.int tn),some (.int (1+h%4)),some (.ref co),some (.ref ol),some (.str wy),some (.ref bl_),some (.ref t),some (.ref rl),some (.int (c:Int)),some (.ref sl),some (.ref hd),some (.ref fo),none,none,none],⟨_,U,_,U,_,U,t,hd,ou,c,(wd (h / 16) 0),wy,NZ,dv,_,_,_,sp,U,Bg,yE,by rw[hbl];exact hcl,(λx hx=>(c9 x hx).2.2),⟨trivial,yl,ehd,pyl.mono t12.tups⟩,aS,lS,yF,λr t1 t2 H13 s13 e13 hk h1 h2=>⟨s13,r,t1,t2,e13,hk,h1,h2,U⟩⟩,?_⟩;rintro σ13 H13 ⟨o13,fo,t1,t2,efo,hk,hF1,hF2,rfl⟩;have o9:So H10 H13:=(So.of u12).trans o13;have xj:=TF.so o9 hT9;have uP:=RL.so o9 hR;have tW:=o9.lst erl;have vx:aI dv cs (dC Y.i Y.j H13):=aI.mono hdv λ_ _ p=>dC.so o9 (p.same t9)
 have tX:=dC.so o9 (hou.same t9);have tY:=SpA.so o13 (hsl.same t12);have yG:=o13.lst (t12 _ _ eyl);have vy:=(pyl.mono t12.tups).mono o13.tups;have yH:=o13.lst ehd;have yI:=o9.lst uO;have yJ:=cA.so o9 yD;have vz:=c0.so o9 (yC.same t79);have vA:=o9.lst (t79 _ _ ebl);have yK:=BRL.so o9 (hz.same t79);refine⟨λσ' H'=>ar H13 H'/\σ'=[some (.ref a),some (.int h),some (.int tn),some (.int (1+h%4)),some (.ref co),some (.ref ol),some (.str wy),some (.ref bl_),some (.ref t),some (.ref rl),some (.int (c:Int)),some (.ref sl),some (.ref hd),some (.ref fo),none,none,none],?_,?_⟩
 ·refine⟨_,U,_,_,_,_,true,U,.ty _,.inr ⟨fo,_,U,SqT.of efo,U⟩,(by first|rfl|with_unfolding_all rfl|decide+kernel),_,U,bb ?_⟩;refine⟨_,U,fo,_,U,.inr (SqT.of efo),U,_,U,oq U ?_⟩;refine⟨_,U,_,U,mK (SqL.of yH) (SqL.of yG) U (tF vy vy) ⟨_,U,bb ?_⟩⟩;obtain⟨trl,tdx,tna,tdl,tfs,txs,g1,g2,g3,g4,g5,g6,g7,g8,g9,g10,g11,g12⟩:=id xj;refine⟨_,U,t,_,_,_,_,U,g1,bl.k_Table,bl.na_Table_rows,g2,_,U,mK (SqL.of g10) (SqL.of tW) (by rw[g11.1,uP.1]) (oX g11 uP) ⟨_,U,bb ⟨ar.refl _,U⟩⟩⟩
 rintro σ14 H14 ⟨t14,rfl⟩;refine⟨λσ' H'=>ar H14 H'/\σ'=[some (.ref a),some (.int h),some (.int tn),some (.int (1+h%4)),some (.ref co),some (.ref ol),some (.str wy),some (.ref bl_),some (.ref t),some (.ref rl),some (.int (c:Int)),some (.ref sl),some (.ref hd),some (.ref fo),none,none,none],?_,?_⟩
 ·refine⟨_,U,fo,_,_,_,U,U,SqT.of (t14 _ _ efo),U,_,U,_,U,_,U,_,U,rl,sl,rx,ws.map (rwo cs),sp,c,true,U,t14 _ _ tW,uP.same t14,(by rw[length_map];lia),tY.same t14,aS,lS,c9,λl ys H15 s15 e15 Bh=>?_⟩;have v:=t14.trans s15;exact⟨t1,t,l,ou,(wd (h / 16) 0),wy,NZ,dv,ys,_,_,cs,oc,U,hF1.same v,xj.same v,e15,Bh,aI.mono vx λ_ _ p=>p.same v,tX.same v,λH16 s16=>⟨_,U,bb ⟨s15.trans s16,U⟩⟩⟩
 rintro σ15 H15 ⟨t15,rfl⟩;have u15:=t14.trans t15;refine⟨λσ' H'=>ar H15 H'/\σ'=[some (.ref a),some (.int h),some (.int tn),some (.int (1+h%4)),some (.ref co),some (.ref ol),some (.str wy),some (.ref bl_),some (.ref t),some (.ref rl),some (.int (c:Int)),some (.ref sl),some (.ref hd),some (.ref fo),none,none,none],?_,?_⟩
 ·refine⟨_,U,fo,_,_,_,U,U,SqT.of (u15 _ _ efo),U,_,U,_,U,_,U,_,U,rl,sl,rx,ws.map (rwo cs),sp,c,false,U,u15 _ _ tW,uP.same u15,(by rw[length_map];lia),tY.same u15,aS,lS,c9,λl ys H16 s16 e16 Bi=>?_⟩;have v:=u15.trans s16;exact⟨t2,t,l,ou,(wd (h / 16) 0),wy,NZ,dv,ys,_,_,cs,oc,U,hF2.same v,xj.same v,e16,Bi,aI.mono vx λ_ _ p=>p.same v,tX.same v,λH17 s17=>⟨_,U,bb ⟨s16.trans s17,U⟩⟩⟩
 rintro σ16 H16 ⟨t16,rfl⟩;have u16:=u15.trans t16;have vB:=u16 _ _ yI;have vC:=yJ.same u16;have hcx:∀x∈ws.map (rwo cs),x.1.length=cs.length:=λx hx=>by
  obtain⟨w_,hw_,rfl⟩:=mem_map.mp hx;exact kl (jX w_ hw_)
 refine⟨_,U,co,xs,cs,U,vB,vC,hok,hc4,λpl pz H17 s17 e17 hpt=>?_⟩;refine⟨pl,U,⟨_,SqL.of e17⟩,bO (xs:=pz) (λi σ H'=>ar H17 H'/\∃c14 c15 c16:Option V,σ=[some (.ref a),some (.int h),some (.int tn),some (.int (1+h%4)),some (.ref co),some (.ref ol),some (.str wy),some (.ref bl_),some (.ref t),some (.ref rl),some (.int (c:Int)),some (.ref sl),some (.ref hd),some (.ref fo),c14,c15,c16]) ⟨ar.refl _,_,_,_,U⟩ (λi σ H' _ hh=>SqL.of (hh.1 _ _ e17)) (λi y σ H' ey hh=>?_) (λσ H' hh=>?_)⟩
 ·obtain⟨sm,c14,c15,c16,rfl⟩:=hh;obtain⟨r,p,rfl,ep,_,hr_⟩:=aI.get (hpt.same sm) ey;have hpo:=nB.iff.mp (BR ep);have lp:p.length=cs.length:=by rw[hpo.1,o7]
  have v:=s17.trans sm;have hle:=ook.le;refine⟨λσ' H2=>ar H' H2/\∃(cl:Addr)(cd:List Int),H2 cl=some (.lst (cd.map V.int))/\AtP cs p cd/\σ'=[some (.ref a),some (.int h),some (.int tn),some (.int (1+h%4)),some (.ref co),some (.ref ol),some (.str wy),some (.ref bl_),some (.ref t),some (.ref rl),some (.int (c:Int)),some (.ref sl),some (.ref hd),some (.ref fo),some (.ref r),some (.ref cl),c16],⟨_,U,_,U,_,U,_,_,U,U,⟨by decide,by decide⟩,co,r,xs,cs,p,_,U,v _ _ vB,vC.same v,hok,hc4,hr_,hpo,λcl cd H18 s18 e18 hat=>⟨s18,cl,cd,e18,hat,U⟩⟩,?_⟩;rintro σ18 H18 ⟨s18,cl,cd,ecl,hat,rfl⟩;have v18:=u16.trans (v.trans s18);have lcd:cd.length=cs.length:=hat.1;obtain⟨x0,ex0⟩:∃x,cd[c]?=some x:=⟨_,BP (by lia)⟩;have hx0:cd.getD c 0=x0:=by rw[getD_eq_getElem?_getD,ex0];rfl
  have hfl:∀wi:Bool,fl (prt sp wi c (ws.map (rwo cs))) cd=if (inP sp x0 == wi)=true then pc ws p else[]:=λwi=>by
   rw[tN (by lia) (λx hx=>by rw[hcx x hx,lcd]) (hk wi),hx0,yi (uH hok jX) hbo hok hpo hat]
  have hpl:∀(wi:Bool),∀x∈prt sp wi c (ws.map (rwo cs)),x.1.length=cd.length:=λwi x hx=>by
   obtain⟨w_,hw_,rfl⟩:=qS hx;rw[nH (c9 w_ hw_).1,hcx w_ hw_,lcd]
  have vD:=(tX.same v18).dom;refine⟨λσ' H2=>ar H18 H2/\∃(to r1 r2:Addr),H2 to=some (.lst [.ref r1,.ref r2])/\SqT K H2 r1 (tp (ver (wf wi oc.b.1 oc.b.2) (if (inP sp x0 == true)=true then pc ws p else[])))/\SqT K H2 r2 (tp (ver (wf wi oc.b.1 oc.b.2) (if (inP sp x0 == false)=true then pc ws p else[])))/\σ'=[some (.ref a),some (.int h),some (.int tn),some (.int (1+h%4)),some (.ref co),some (.ref ol),some (.str wy),some (.ref bl_),some (.ref t),some (.ref rl),some (.int (c:Int)),some (.ref sl),some (.ref hd),some (.ref fo),some (.ref r),some (.ref cl),some (.ref to)],?_,?_⟩
  ·refine⟨_,U,fo,_,_,_,U,U,SqT.of (v18 _ _ efo),U,_,U,t1,cl,_,wi,oc.b,cd,U,(hF1.same v18).tbl hwi vD hle,SqL.of ecl,hpl true,λr1 H19 s19 h19=>?_⟩;rw[tE,hfl true]at h19;have v19:=v18.trans s19;refine⟨_,U,fo,_,_,_,U,U,SqT.of (v19 _ _ efo),U,_,U,t2,cl,_,wi,oc.b,cd,U,(hF2.same v19).tbl hwi (vD.same s19) hle,SqL.of (s19 _ _ ecl),hpl false,λr2 H20 s20 h20=>?_⟩;rw[tE,hfl false]at h20;refine⟨aV,λto hto=>?_⟩;have s21:=ag hto (.lst [V.ref r1,.ref r2]);exact⟨(s19.trans s20).trans s21,to,r1,r2,ab,s21.seqT (s20.seqT h19),s21.seqT h20,U⟩
  rintro σ19 H19 ⟨s19,to,r1,r2,eto,h1_,h2_,rfl⟩;have v19:=v18.trans s19;have yL:=s19 _ _ ecl;have ecd:(cd.map V.int)[c]?=some (.int x0):=by rw[getElem?_map,ex0];rfl
  have w19:=s18.trans s19;obtain⟨_,yl2,Bj,Bm⟩:=tY.same v19;refine⟨_,U,_,U,_,U,cl,_,_,_,U,U,SqL.of yL,ba ecd,sl,yl2,sp,x0,U,SqL.of Bj,Bm,_,U,?_⟩;cases hb:inP sp x0 with
  |true =>
   rw[hb,if_pos (by decide)]at h1_;rw[hb,if_neg (by decide)]at h2_;refine bb ?_;refine⟨_,U,to,_,_,_,U,U,SqL.of eto,U,_,U,_,U,_,U,_,U,wy,wi,bl_,ol,r,zs,ws,oc,p,U,hwi,v19 _ _ vA,yK.same v19,by lia,vz.same v19,ook,w19 _ _ hr_,(λw hw=>by rw[jX w hw,lp]),by lia,λrd H21 s21 e21=>?_⟩;refine⟨r1,rd,_,U,s21.seqT h1_,SqT.of e21,_,U,bb ?_⟩;refine⟨_,U,to,_,_,_,U,U,SqL.of (s21 _ _ eto),U,aV,λtn_ htn=>?_⟩;have s22:=ag htn (.tup [V.str (Str.ofString "none"),.int 0]);refine⟨r2,tn_,(Str.ofString "none",0),U,s22.seqT (s21.seqT h2_),SqT.of ab,_,U,bb ⟨((sm.trans w19).trans s21).trans s22,_,_,_,U⟩⟩
  |false =>
   rw[hb,if_neg (by decide)]at h1_;rw[hb,if_pos (by decide)]at h2_;refine cZ ?_;refine⟨_,U,to,_,_,_,U,U,SqL.of eto,U,_,U,to,_,_,_,U,U,SqL.of eto,U,aV,λto2 Bo=>?_⟩;have s20:=ag Bo (.lst [V.ref r2,.ref r1]);have xk:upd H19 to2 (.lst [V.ref r2,.ref r1]) to2=some (.lst [V.ref r2,.ref r1]):=ab;generalize upd H19 to2 (.lst [V.ref r2,.ref r1])=H20 at s20 xk⊢;have v20:=v19.trans s20;have w20:=w19.trans s20;have h1b:=s20.seqT h1_;have h2b:=s20.seqT h2_;refine⟨_,U,to2,_,_,_,U,U,SqL.of xk,U,_,U,_,U,_,U,_,U,wy,wi,bl_,ol,r,zs,ws,oc,p,U,hwi,v20 _ _ vA,yK.same v20,by lia,vz.same v20,ook,w20 _ _ hr_,(λw hw=>by rw[jX w hw,lp]),by lia,λrd H21 s21 e21=>?_⟩;refine⟨r2,rd,_,U,s21.seqT h2b,SqT.of e21,_,U,bb ?_⟩;refine⟨_,U,to2,_,_,_,U,U,SqL.of (s21 _ _ xk),U,aV,λtn_ htn=>?_⟩;have s22:=ag htn (.tup [V.str (Str.ofString "none"),.int 0]);refine⟨r1,tn_,(Str.ofString "none",0),U,s22.seqT (s21.seqT h1b),SqT.of ab,_,U,bb ⟨((sm.trans w20).trans s21).trans s22,_,_,_,U⟩⟩
 ·exact q H'
end
structure FF(K:W.Frag)(Y:AD):Prop where
 (h0:GF K "all_among" "all_among" Y32)
 (h1:GF K "is_word" "is_word" Y38)
 (h2:GF K "is_whole" "is_whole" Y37)
 (h3:GF K "alike" "alike" Y31)
 (h4:GF K "holds" "holds" Y36)
 (h5:GF K "both" "both" Y33)
 (h6:GF K "without" "without" Y77)
 (h7:GF K "gaps" "gaps" Y35)
 (h8:GF K "way_by" "way_by" Y74)
 (h9:GF K "refuse_names" "refuse_names" Y70)
 (h10:GF K "refuse_counts" "refuse_counts" Y69)
 (h11:GF K "refuse_way" "refuse_way" Y72)
 (h12:GF K "refuse_row" "refuse_row" Y71)
 (h13:GF K "own_row" "own_row" Y65)
 (h14:GF K "fits" "fits" Y34)
 (h15:GF K "mask" "mask" Y63)
 (h16:GF K "judged" "judged" Y39)
 (h17:GF K "verdict" "verdict" Y73)
 (h18:GF K "with_rows" "with_rows" Y76)
 (h19:GF K "with_cell" "with_cell" Y75)
 (h21:GF K "narrowed" "narrowed" Y64)
 (h22:GF K "_law_cell_at" "_law_cell_at" Y44)
 (h23:GF K "_law_mixed" "_law_mixed" Y53)
 (h24:GF K "_law_seeds" "_law_seeds" Y58)
 (h25:GF K "_law_word" "_law_word" Y62)
 (h26:GF K "_law_column" "_law_column" Y46)
 (h27:GF K "_law_domain" "_law_domain" Y48)
 (h28:GF K "_law_spans" "_law_spans" Y59)
 (h29:GF K "_law_bit_row" "_law_bit_row" Y42)
 (h30:GF K "_law_bit_rows" "_law_bit_rows" Y43)
 (h31:GF K "_law_rows" "_law_rows" Y56)
 (h32:GF K "_law_table" "_law_table" Y60)
 (h33:GF K "_law_points" "_law_points" Y55)
 (h34:GF K "_law_codes" "_law_codes" Y45)
 (h35:GF K "_law_fit" "_law_fit" Y50)
 (h36:GF K "_law_way" "_law_way" Y61)
 (h37:GF K "_law_due" "_law_due" Y49)
 (h38:GF K "_law_same" "_law_same" Y57)
 (h39:GF K "_law_beyond" "_law_beyond" Y41)
 (h40:GF K "_law_in" "_law_in" Y51)
 (h41:GF K "_law_cut" "_law_cut" Y47)
 (h42:GF K "_law_part" "_law_part" Y54)
 (h43:GF K "_law_like" "_law_like" Y52)
 (h75:GF K "law" "law" Y40)
 (m57:MF K Y.i "has_code" "Domain.has_code" Y2)
 (m58:MF K Y.j "has_code" "Domain.has_code" Y3)
 (m63:MF K Y.b "verdict" "Way.verdict" Y24)
 (m64:MF K Y.b "chosen" "First.chosen" Y5)
 (m65:MF K Y.c "verdict" "Way.verdict" Y28)
 (m66:MF K Y.c "chosen" "Only.chosen" Y14)
 (m67:MF K Y.d "verdict" "Way.verdict" Y26)
 (m68:MF K Y.d "chosen" "Like.chosen" Y9)
 (m69:MF K Y.e "verdict" "Way.verdict" Y27)
 (m70:MF K Y.e "chosen" "Low.chosen" Y11)
 (m71:MF K Y.f "verdict" "Way.verdict" Y25)
 (m72:MF K Y.f "chosen" "High.chosen" Y7)
 (m73:MF K Y.g "verdict" "Way.verdict" Y29)
 (m74:MF K Y.g "chosen" "Sum.chosen" Y16)
 (k44:KF K Y.k "Table" "Table.__init__" Y17)
 (k45:KF K Y.b "First" "First.__init__" Y4)
 (k47:KF K Y.c "Only" "Only.__init__" Y13)
 (k49:KF K Y.d "Like" "Like.__init__" Y8)
 (k51:KF K Y.e "Low" "Low.__init__" Y10)
 (k53:KF K Y.f "High" "High.__init__" Y6)
 (k55:KF K Y.g "Sum" "Sum.__init__" Y15)
 (k59:KF K Y.i "Numbers" "Numbers.__init__" Y12)
 (k61:KF K Y.j "Words" "Words.__init__" Y30)
 (b46:BF K Y.a "Way" "__init__" "Way.__init__" Y18)
 (b48:BF K Y.a "Way" "__init__" "Way.__init__" Y22)
 (b50:BF K Y.a "Way" "__init__" "Way.__init__" Y20)
 (b52:BF K Y.a "Way" "__init__" "Way.__init__" Y21)
 (b54:BF K Y.a "Way" "__init__" "Way.__init__" Y19)
 (b56:BF K Y.a "Way" "__init__" "Way.__init__" Y23)
 (b60:BF K Y.h "Domain" "__init__" "Domain.__init__" Y0)
 (b62:BF K Y.h "Domain" "__init__" "Domain.__init__" Y1)
 (t20:TFn K "parted" Y66)
 (z0:W.nsIn K mainGlobals "len" = some none)
 (z1:W.nsIn K mainGlobals "isinstance" = some none)
 (z2:W.nsIn K mainGlobals "int" = some none)
 (z3:W.nsIn K mainGlobals "bool" = some none)
 (z4:W.nsIn K mainGlobals "max" = some none)
 (z5:W.nsIn K mainGlobals "min" = some none)
 (z6:W.nsIn K mainGlobals "set" = some none)
 (z7:W.nsIn K mainGlobals "zip" = some none)
 (z8:W.nsIn K mainGlobals "list" = some none)
 (z9:W.nsIn K mainGlobals "sum" = some none)
 (z10:W.nsIn K mainGlobals "range" = some none)
 (z11:W.nsIn K mainGlobals "enumerate" = some none)
 (z12:W.nsIn K mainGlobals "all" = some none)
 (z13:W.nsIn K mainGlobals "tuple" = some none)
 (z14:W.nsIn K mainGlobals "str" = some none)
 (z15:W.nsIn K mainGlobals "sorted" = some none)
 (y0:∃u,W.nsIn K mainGlobals "MOST_SIGNS" = some (some u)/\RelV (V.int 12) u)
 (y1:∃u,W.nsIn K mainGlobals "SMALL_LETTERS" = some (some u)/\RelV (V.str "abcdefghijklmnopqrstuvwxyz") u)
 (y2:∃u,W.nsIn K mainGlobals "MOST_ROWS" = some (some u)/\RelV (V.int 200) u)
 (y3:∃u,W.nsIn K mainGlobals "MOST_COLUMNS" = some (some u)/\RelV (V.int 4) u)
 (y4:∃u,W.nsIn K mainGlobals "MOST_WORDS" = some (some u)/\RelV (V.int 40) u)
theorem all_mk{l:W.OpenLaw}{w:World}{K:W.Frag}{h:Heap}{mg:Str->Option Value}{fa:Addr}{Y:AD}(X:K.In h)(G:h.Ns mainGlobals mg)(hfa:mg "law" = some (.ref fa)) (b:Bk K Y)(u:FF K Y)
  : ∃fd:FuncData,(∀(s:Shared)(v:Value),BindsTo s fd ⟨[v],[]⟩ [("script",v)])/\∀base:Heap,K.In base->base.Ns mainGlobals mg->(∀q∈(W.tabIn K "parted").toList,W.CodeHd base q.1 q.2/\base.BuiltinsAt mg q.2)->aK l.prog w K mg base CX0 11 fa fd ["script"] (J18 K):=by
 cases u.h75 with | @mk _ fd a F =>
 cases hfa.symm.trans (W.mg_of X G a);have bl:Bl K mg Y:=⟨b,W.mg_of X G b.n_Way,W.mg_of X G b.n_First,W.mg_of X G b.n_Only,W.mg_of X G b.n_Like,W.mg_of X G b.n_Low,W.mg_of X G b.n_High,W.mg_of X G b.n_Sum,W.mg_of X G b.n_Domain,W.mg_of X G b.n_Numbers,W.mg_of X G b.n_Words,W.mg_of X G b.n_Table,W.mg_of X G b.n_NONE,W.mg_of X G b.n_CLASH,W.mg_none_of X G u.z0,W.mg_none_of X G u.z1,W.mg_none_of X G u.z2,W.mg_none_of X G u.z3,W.mg_none_of X G u.z4,W.mg_none_of X G u.z5,W.mg_none_of X G u.z6,W.mg_none_of X G u.z7,W.mg_none_of X G u.z8,W.mg_none_of X G u.z9,W.mg_none_of X G u.z10,W.mg_none_of X G u.z11,W.mg_none_of X G u.z12,W.mg_none_of X G u.z13,W.mg_none_of X G u.z14,W.mg_none_of X G u.z15,(let ⟨_,y,x⟩:=u.y0;⟨_,W.mg_of X G y,x⟩),(let ⟨_,y,x⟩:=u.y1;⟨_,W.mg_of X G y,x⟩),(let ⟨_,y,x⟩:=u.y2;⟨_,W.mg_of X G y,x⟩),(let ⟨_,y,x⟩:=u.y3;⟨_,W.mg_of X G y,x⟩),(let ⟨_,y,x⟩:=u.y4;⟨_,W.mg_of X G y,x⟩)⟩;refine⟨fd,λs v=>by obtain⟨_,_,_,_,_,_,_,_,_,e,_,_⟩:=F.ex;rw[e];exact .of_eq U,λbase _ _ hq=>?_⟩;have z:Zb l.prog w K mg base:=⟨X,G⟩;have pj:=mkC z u.h0 λF=>zE F bl
 have lH:=mkC z u.h2 λF=>zF F bl
 have uQ:=mkC z u.h3 λF=>zG F bl
 have uR:=mkC z u.h4 λF=>zH F bl
 have qm:=mkC z u.h5 λF=>zI F bl
 have xl:=mkC z u.h7 λF=>zJ F bl
 have kc:=mkC z u.h10 λF=>zK F bl
 have rQ:=mkC z u.h13 λF=>zL F bl
 have pq:=mkC z u.h19 λF=>zM F bl
 have l8:=mkC z u.h22 λF=>zN F bl
 have eZ:=mkC z u.h23 λF=>zO F bl
 have lI:=mkC z u.h25 λF=>zP F bl
 have jY:=mkC z u.h28 λF=>zQ F bl
 have nX:=mkC z u.h33 λF=>zR F bl
 have pC:=mkC z u.h34 λF=>zS F bl
 have rR:=mkC z u.h35 λF=>zT F bl
 have rS:=mkC z u.h36 λF=>zU F bl
 have qo:=mkC z u.h38 λF=>zV F bl
 have nY:=mkC z u.h39 λF=>zW F bl
 have pD:=mkC z u.h40 λF=>zX F bl
 have gE:=mkB z u.b46 λF=>zY F bl
 have gX:=mkB z u.b48 λF=>zZ F bl
 have gY:=mkB z u.b50 λF=>Aa F bl
 have iR:=mkB z u.b52 λF=>Ab F bl
 have gZ:=mkB z u.b54 λF=>Ac F bl
 have iS:=mkB z u.b56 λF=>Ad F bl
 have eB:=mkB z u.b60 λF=>O_0 F bl
 have fF:=mkB z u.b62 λF=>O_1 F bl
 have gF:=mkM z u.m64 λF=>O_5 F bl
 have iT:=mkM z u.m66 λF=>Ae F bl
 have iU:=mkM z u.m68 λF=>O_9 F bl
 have jL:=mkM z u.m70 λF=>Af F bl
 have iV:=mkM z u.m72 λF=>O_7 F bl
 have jM:=mkM z u.m74 λF=>Ag F bl
 have mP:=mkC z u.h1 λF=>Ah F bl pj.up
 have mQ:=mkC z u.h6 λF=>Ai F bl qm.up xl.up
 have xm:=mkC z u.h14 λF=>Al F bl uR.up
 have pE:=mkC z u.h24 λF=>Am F bl eZ.up
 have nZ:=mkC z u.h26 λF=>An F bl eZ.up
 have l9:=mkC z u.h29 λF=>Ap F bl eZ.up
 have lJ:=mkC z u.h31 λF=>Aq F bl jY.up
 have rT:=mkC z u.h37 λF=>As F bl rR.up
 have rV:=mkC z u.h41 λF=>Au F bl pD.up
 have qp:=mkC z u.h43 λF=>Aw F bl uQ.up
 have fY:=mkK z u.k45 λF=>O_4 F bl gE.up
 have gG:=mkK z u.k47 λF=>AA F bl gX.up
 have gH:=mkK z u.k49 λF=>O_8 F bl gY.up
 have iW:=mkK z u.k51 λF=>AB F bl iR.up
 have gI:=mkK z u.k53 λF=>O_6 F bl gZ.up
 have iX:=mkK z u.k55 λF=>AE F bl iS.up
 have eG:=mkM z u.m57 λF=>O_2 F bl lH.up
 have fG:=mkM z u.m58 λF=>O_3 F bl lH.up
 have d8:=mkK z u.k59 λF=>AF F bl eB.up
 have hU:=mkM z u.m63 λF=>AG F bl gF.up
 have iY:=mkM z u.m65 λF=>AH F bl iT.up
 have iZ:=mkM z u.m67 λF=>AI F bl iU.up
 have jl:=mkM z u.m69 λF=>AJ F bl jL.up
 have i0:=mkM z u.m71 λF=>AK F bl iV.up
 have jm:=mkM z u.m73 λF=>AL F bl jM.up
 have lK:=mkC z u.h9 λF=>AM F bl mP.up
 have n6:=mkC z u.h12 λF=>AN F bl eG.up fG.up
 have xn:=mkC z u.h15 λF=>AO F bl xm.up
 have lL:=mkC z u.h30 λF=>AQ F bl l9.up
 have qr:=mkC z u.h42 λF=>AR F bl rV.up
 have fZ:=mkK z u.k61 λF=>AS F bl fF.up mP.up
 have pF:=mkC z u.h8 λF=>AU F bl fY.up gG.up gH.up iW.up gI.up iX.up
 have n8:=mkC z u.h11 λF=>AV F bl pF.up
 have ua:=mkC z u.h16 λF=>AW F bl hU.up iY.up iZ.up jl.up i0.up jm.up pF.up
 have n9:=mkC z u.h27 λF=>AX F bl d8.up fZ.up lI.up
 have rW:=mkC z u.h17 λF=>AZ F bl ua.up xn.up
 have cY:=mkK z u.k44 λF=>A2 F bl lK.up kc.up n8.up n6.up rQ.up
 have pG:=mkC z u.h18 λF=>A3 F bl cY.up
 have pH:=mkC z u.h32 λF=>A4 F bl cY.up lI.up n9.up lJ.up
 have qt:=mkC z u.h21 λF=>A7 F bl pG.up pq.up
 have ub:=mkT z u.t20 hq λF h1 h2 h3=>A9 F bl qt.up qm.up mQ.up h1 h2 h3 qm.up mQ.up
 exact Bb F bl l8.up nZ.up rS.up lL.up pH.up lJ.up nY.up ub.up nX.up eZ.up pE.up jY.up qp.up pC.up qr.up rW.up pD.up qo.up rT.up
theorem walk{l:W.OpenLaw}{q:Program}{loose:List Str}{XP:(Str->Option Value)->Heap->Prop}{YP:World->Heap->Prop}{d:DefRec}{K:Params->W.Frag}(hn:l.most=some 63)(hdf:d.params.defaults=[])
  (hY:∀(w:World)(h:Heap),YP w h->(K w.params).In h)(hnK:∀p:Params,W.noTabs (K p)=true)(hxs:∃d',(PyProof.Rows.recsOf q).find? (λe=>e.name == ("parted" : Str))=some d')
  (F:∀(w:World)(mg:Str->Option Value)(fa:Addr)(h:Heap),(K w.params).In h->h.Ns mainGlobals mg->mg d.name=some (.ref fa) ->
   ∃fd:FuncData,(∀(s:Shared)(u:Value),BindsTo s fd ⟨[u],[]⟩ [("script",u)])/\∀base:Heap,(K w.params).In base->base.Ns mainGlobals mg->(∀q∈(W.tabIn (K w.params) "parted").toList,W.CodeHd base q.1 q.2/\base.BuiltinsAt mg q.2)->aK l.prog w (K w.params) mg base CX0 11 fa fd ["script"] (J18 (K w.params))) :
  W.WalkO q loose XP YP l.row.toRowW d [] (λf vs=>PySem.call f vs) :=
 L2.walk_ofT (n:=63) (k:=11) (x := "script") (CX:=λ_=>CX0) (sp:=λw=>J18 (K w.params)) (tabs:=λp=>(W.tabIn (K p) "parted").toList) (xs:=["parted"]) hn (by decide) hdf ⟨U,by decide,by decide⟩ hY hnK (forall_mem_cons.mpr ⟨hxs,forall_mem_nil _⟩)
  (λp t ht=>⟨"parted",mem_cons_self,by cases e:W.tabIn (K p) "parted" with|none=>rw[e]at ht;cases ht|some z=>rw[e]at ht;rw[mem_singleton.mp ht]⟩) F
  (λw H a ns hl _ hS hq=>⟨a,ns,U,hS,hl,λz e=>hq z (by rw[e];exact mem_cons_self),λ_=>U⟩) λ_ _ _ _ _ z=>z
end My
set_option genSizeOf false in
set_option genInjectivity false in
structure PySem.W.Fast:Prop where (tw12376936117235202451 tw15694156004868501130 tw11508653951410858168 tw1631786687537188015 tw9865247238580645714 tw8611655828583978006 tw8795175910500902708 tw4033115844429314698 tw2128660524964155119 tw10680384259569310218 tw13273277876987485551 tw14964070116862918921 tw9367316131265348188 tw16095284614976364368 tw17046952471362430257 tw10435364160131509813 tw9640652337490056996 tw16167465982020288564 tw245887005840644531 tw434397552491796195 tw10835059993609597414 tw6742447882595566019 tw16921296803562666797 tw8116025115331161394 tw15258353542112766459 tw5296605116604554651 tw4687474322852466214 tw16905490692369546044 tw242999919952792021 tw1018991132471583442 tw2069785713105832621 tw15321272712201726780 tw16461651814042338772 tw17494525988568775380 tw14949941380242382866 tw5850450845952122069 tw7627463037482600968 tw2760526894971098275 tw10829146664598291307 tw11795601533921074609 tw1675570311543790149 tw14818320642474525854 tw10351670526766179528 tw11673246096379214106 tw15036990327998558914 tw14473712275792188355 tw7714614019827214673 tw15188347295854968777 tw998740420457537622 tw8864859573252950531 tw12214922342110021041 tw8249629203671116101 tw7246131794276667765 tw24563413313971492 tw17826985907272359105 tw7942280765823186245 tw7248664505132949739 tw9850524025513400179 tw6681676251348663001 tw13983965904663696009 tw3002535795083955333 tw7506081540320772395 tw4689700690212835485 tw11804233556204461518 tw14331041200773585454 tw17891682191763912618 tw5278280760680488915 tw13185653174396974835 tw274039407392005861 tw15117689809985081379 tw16309262417148625606 tw9054918766212433477 tw9581692044976241238 tw14784917138744458734 tw7157584383226379910 tw2305382810770001559 tw7010804403783310407 tw7090623684519103756 tw6403002775191708567 tw1992110657173107211 tw9499777511434008512 tw9142620854421167634 tw1024573555624454325 tw10145563820234894580 tw1215299009016386923 tw6436625243359159815 tw12840685802780803284 tw17993242455838499698 tw14821749751472356836 tw6871062242877458186 tw15148231359357610075 tw16959943359701218900 tw14026573346809688684 tw7328146078473853090 tw13448867672301657746 tw2187768377826777935 tw2641691050518458689 tw15537064364762169157 tw6786788851738135340 tw9921036251481740768 tw17148158939737114896 tw6930332180054448677 tw7050933969443759480 tw10069172702393200800 tw3762557997717834557 tw12987699671120410674 tw11082961453742231515 tw15962893127547607900 tw8589823714612013391 tw1976514250323071655 tw6746113686105555730 tw10901731516316268449 tw8806942750346586063 tw2630156068487149657 tw14439637588184865559 tw10950211416677930473 tw7130579173388325475 tw14718323372888118130 tw13436832050738138613 tw10671900371105924308 tw17403315856796465852 tw13788581252271458202 tw2512523565120793747 tw446650492531075838 tw11291405737177129216 tw15564081836954718125 tw13112178584520683901 tw14809910918841252876 tw16137947384463460289 tw1008226849811447101 tw4631587877549407099 tw7777646083879608586 tw412813130803069130 tw12127876282895916432 tw11313661001309458721 tw9741494250479713342 tw9544484071371425558 tw5941569363928518073 tw1028588202974336256 tw13331288664135227696 tw11216067715122645566 tw6056796966947144170 tw12084626799763116971 tw11526485544561075085 tw12338370806716880128 tw14858824252325965731 tw13636015521940952260 tw8007575081437810079 tw499960889556200423 tw17460203994136431824 tw5134797987488217424 tw15169488865218401601 tw8481748491909438969 tw11431658105238052560 tw2320604277787947170 tw6134705729038942973 tw4055225746050851549 tw11902419905160960454 tw14262213937009074343 tw8201919338736724580 tw14601255656551410608 tw7074074755787933795 tw4491920441683981765 tw3390449408590601048 tw1111648686137998794 tw1669633888220463296 tw3337346028652577766 tw6750822790598929924 tw18378200802313128262 tw88576398914723277 tw6484603641541481997 tw15944775118363333315 tw13617423883506751378 tw3653379998630353252 tw11650186025566243459 tw9111912045323548831 tw11558657114125464856 tw6131608835054031553 tw15705876238431022948 tw826943829193202831 tw16460586993709315397 tw11074669550179264154 tw4707946147429578649 tw14916964390254422692 tw10816668708050460689 tw3713969968689960350 tw15525430270745669619 tw10741182961140211437 tw328311489163304694 tw10357865021635487496 tw12121692107654358425 tw13919613825117176416 tw13425991015692558732 tw4588445525900739330 tw4502539581084369450 tw751423839830707512 tw2121921417976502128 tw2613783712243215076 tw12558736238588968045 tw11466583513535443021 tw13196775016012882742 tw5181264132911118594 tw16858846902390273786 tw8063152547734527923 tw9293318086615909238 tw3916966470198293127 tw1013066905957145651 tw12429317715877293483 tw8967835492672001888 tw13237683177209780554 tw9608772449148091887 tw16155890350857853285 tw2895445601817867516 tw2796338284557997212 tw2722394704179827229 tw13978146457947728415 tw787555410855285050 tw11604742926258378259 tw16480314217530935077 tw11840071117540714650 tw17896530168228373948 tw9920204771314538912 tw1325678471352787371 tw3790907355607606345 tw15580945608828217020 tw14336180179425946521 tw9984991928858655259 tw9945749750214478933 tw13696676059811532908 tw4629648935639703152 tw9715742136992346865 tw6327609781831979463 tw14908369713530811323 tw16660349666227268735 tw10345224914252502835 tw5298195494327653105 tw7398297596269113168 tw3401742632976091188 tw14851539245833542525 tw7777498720107125483 tw6393966812173681453 tw16479534623230696575 tw5230722530736507633 tw7931827221167247166 tw3807740831393079582 tw8877378423149994366 tw13879659143901393160 tw9213272958690751179 tw13421581114737049702 tw13673100043631955371 tw17464358618118450439 tw14884592624872027887 tw12320140235928768593 tw5423388005014465521 tw15623971678256727168 tw17435897236198552380 tw8514518168896800883 tw6556225371791231343 tw2098874007595971780 tw14686514323033068471 tw15956243347753097916 tw7733680501831394141 tw12819907045185921758 tw7310832162091847146 tw6486844141207651692 tw7047600752327494780 tw5788665347444258498 tw10765388289114303117 tw3452926156605769629 tw11723169799529240294 tw16785563877748221904 tw17241487207417920902 tw9089665317410584903 tw12235701269801706028 tw789027035758423266 tw8844007639358615923 tw16212443498470498749 tw2004670111742340912 tw15669211320809249362 tw10619151185890185923 tw3975077429400234425 tw11528935202564907523 tw15625618406468385213 tw1151861010173573144 tw9490476348948641731 tw18410665316477860069 tw15222228549014581287 tw10229142910901072035 tw8687634658610201311 tw13159346487542672398 tw248384814875094210 tw1328407868342366567 tw15965721794974156286 tw17632246876345137357 tw15387808558672416951 tw9482363176885185813 tw6959985435030534893 tw786150858783436058 tw3277939142271487950 tw6454053854119789446 tw3236399434635699818 tw17689025845337844638 tw6410955274393726527 tw2028094008749791570 tw2390714530818419777 tw9693117404970581503 tw6807578608767424626 tw4479214795761107479 tw6365967590719150991 tw1602026525518844869 tw12348747121362399731 tw13087894621567355255 tw8900827155653507344 tw12704048250914292579 tw16936809055842193924 tw16977243269009448665 tw8650484563892067656 tw3992523254214563683 tw10564949799216792235 tw15589332782665226525 tw679972038559751036 tw925611546615333745 tw16747925092897050037 tw5327117349981589344 tw9785361256573454756 tw12194363052415014619 tw14283295092266026932 tw14639430990145056924 tw496364323730236485 tw12868693423143479108 tw16723883995046124062 tw33642567860916179 tw12250330149161626552 tw12681191721501421265 tw16752914644180447717 tw15906382207462942282 tw9129961927088399373 tw15376078063088429396 tw2216066712290963215 tw18237559565031940967 tw10514238928253776188 tw1208144108573130946 tw8429461276429677428 tw18098962180046892550 tw10544005662753391946 tw16068364918860676951 tw14285497172868252041 tw4918750609449491899 tw2409392546951965356 tw11222158292638367811 tw10788233168358643771 tw11923378864017477140 tw2322121295749976612 tw1501186714720164025 tw1371635945950887169 tw5785585945867675920 tw6464918694713793756 tw5713408084930310058 tw9860036150091062854 tw8580383842998751769 tw5403989370849668504 tw11330868047778754896 tw16633848724440292006 tw8016251262390781871 tw9417670364670474789 tw6523769805645668687 tw7949220440278877024 tw15546374080882209445 tw12055540093589167449 tw18115333484955529801 tw12082979011836067233 tw7672869921419151684 tw2810998417414569920 tw9882686094006615643 tw12210870966677527104 tw8181704593807739419 tw6261797433319532039 tw8478668347941881921 tw3278401063246159028 tw3424478065660046769 tw4360611602236743845 tw8919559306445072779 tw13110738914147087029 tw13606780993066913688 tw18204558466127548608 tw5384780473042141522 tw13265245773637762113 tw13518175769887613086 tw14123648332944586296 tw9129671203889572361 tw11542369751575177574 tw14099003891121723765 tw1292326485011380911 tw8684348091496686924 tw948536236253990742 tw10893739659072410341 tw11741582041064155880 tw16644440760351303569 tw11641913072789229491 tw14921762760921369272 tw17083611198526348896 tw745643917367503271 tw13165328817225245540 tw18113783612630271865 tw15951411265797144606 tw12085554518160548521 tw13821149332764616928 tw9831336923369460316 tw1355762433174028578 tw15003597343047689516 tw12415257336284234877 tw1795700092536409911 tw17160557000806544738 tw16688528081394108372 tw7350896500072739392 tw14700028240148009848 tw2665808986834468532 tw12993373924850418965 tw11222224437291012972 tw18132085175370359434 tw1117236218171331166 tw8821484361575749552 tw5717751423493379274 tw17310264474733538240 tw13580672905482784307 tw4621993294411003646 tw18326532638090045224 tw17689776787634677015 tw14661890266039701305 tw8010606124962710549 tw15980057424541003534 tw9972980936200067218 tw6736540748251199288 tw3110012124132520949 tw3055933643065794733 tw11590855044546499343 tw12455950563571402627 tw8949605546465893181 tw445240669402671074 tw3956713598350470322 tw1764810604522954459 tw7153215946983995336 tw3178594121178172125 tw18181099210416344634 tw2223528418753677858 tw11994976441857241287 tw4445926552222297817 tw7730075747571801264 tw15982457903796527410 tw14602509201149138167 tw13659805708123828392 tw15768129710653366289 tw3348543296424337938 tw5039877550565180116 tw5574324691974622511 tw8071237923418808517 tw3658482195047227479 tw1854566338862160847 tw6802784653911129232 tw14391850855124659495 tw1680452083593906974 tw17319184072204191266 tw3846275425264603684 tw12858771842801302022 tw9717106488909781079 tw11007407214256231330 tw16111269523510515551 tw18153283725928651632 tw2448963830738586565 tw8773237112694897726 tw8887834757613778286 tw14794533327694330083 tw12585179078986754068 tw14966563852720602051 tw11219366041155251929 tw11466711427347356935 tw17608975749851803407 tw3123116441876049867 tw9434956573707603725 tw12109120631930002224 tw15714541154280591551 tw8890015627032115315 tw2441220478861263922 tw9316384998563531415 tw7843445821095419064 tw16152447483819643355 tw11040674385003985819 tw8277292995653949250 tw16448248794031301224 tw2191881993243679664 tw17363592723136502411 tw3632041633577555704 tw13312541616958302778 tw10098426624194095487 tw4375027320969567231 tw8442516858305428416 tw8103796165015904097 tw16156500177492980521 tw220950185834727659 tw14069067842326593826 tw1702975193010479804 tw16537458883216884996 tw1491839093531541762 tw4973366894643566733 tw4635674446222668489 tw7411125668871081264 tw17361541869096484290 tw1364658441522912822 tw18130870006648477462 tw11026545776878271770 tw3591239726427669035 tw13676846151574774561 tw12526988475146456490 tw6707698072355659343 tw9227260190534245598 tw12999893339296525733 tw8654332593912134307 tw12113447902314849833 tw996948104353195893 tw3955412769868140845 tw5459056356157730700 tw16143241462838296345 tw14628590711590970937 tw9413900893205666422 tw5471343104041092565 tw10914624227440707485 tw9167046861784315814 tw6949955470033941522 tw16934147617140669467 tw10645770845832221640 tw15715586267209008186 tw10401217567559841772 tw11113696646701322717 tw9682669590447368336 tw10526241643490496832 tw2556980060123089811 tw1886364789458624104 tw4698313582897916827 tw10793216287162459389 tw13432066297545402245 tw5550634960518058781 tw4454522430379474352 tw489539291233745413 tw13707251246728071105 tw7279990026325611283 tw145009974037485887 tw10363833941439698567 tw16129291217146733367 tw551442608989975697 tw10341435533675005657 tw4356854547057792464 tw6034943781872032731 tw15849045926188797157 tw1376567485128852672 tw12829131472494038537 tw4430617466328757369 tw11149049055432678275 tw2213291920962877731 tw4241804231552463451 tw7150856363554324091 tw4184480364011494857 tw13985664428127756088 tw9332324065861629354 tw6405466952285783509 tw6217617121794800113 tw11113234896760525523 tw2804053135879557892 tw1398758458238118471 tw15663526299314718749 tw9111800811294744357 tw1531214861913603694 tw13694155450378001531 tw14708775297387957509 tw17612797751748884709 tw9875926790052204402 tw10831431419641193459 tw7010538060105925772 tw7886788114088832567 tw9573148939709707436 tw18029005384915194530 tw12136758535769931758 tw7193141801305411244 tw4849412659129920144 tw15987650282670278009 tw737698198031458190 tw17715617520379316652 tw13468765527125147575 tw12246192787010993160 tw4748310366865395770 tw13203150887184640391 tw14944906164891374323 tw16966017012773685123 tw9881466290525501443 tw15083263530765186287 tw1596428160225329346 tw16070121974204228455 tw6662100847921641549 tw2620980471709792897 tw4681549401113680817 tw3764180054237977788 tw17167886105436971237 tw1475315631753686229 tw12608193969889719844 tw5077789758051913885 tw13747445462614189363 tw8093624877440338679 tw7443799823246354389 tw17457504009130171697 tw18433466425510697668 tw9404974869983927638 tw13994137570540731858 tw6639947077079105379 tw13852121098117195027 tw8474569435784474372 tw15588130035094178203 tw14375478819036737328 tw16120926649153915734 tw10143430489213946630 tw13055904078162430699 tw15406825247166778765 tw17951489096713237314 tw14504328240939797596 tw2737120541617291489 tw15717441304432716832 tw18002186383627513763 tw16458425558249492326 tw16368558230367839901 tw4667797690511795678 tw10630272589731464270 tw7962023075169981467 tw10786949591229635963 tw12176788647088356002 tw14795967344769689319 tw12918167671549222585 tw1652436042998245156 tw8783917824771201522 tw1544360260660922662 tw6038486336927854469 tw1711945848466992393 tw1893024808522097861 tw6806425680366465109 tw4578871939685448269 tw10520068058177657598 tw10839582715591402401 tw3126829482298027936 tw3848623225239787633 tw12237539769094646612 tw18328898814540919832 tw6821661373755340702 tw16586990835724408393 tw3518547291124345198 tw9896047138885753063 tw17443178152635582681 tw18158448829352085311 tw10055976667438026725 tw3430371391744776274 tw15047825611703877905 tw9690343253963873205 tw10812356744609395552 tw17440589269346075660 tw828508066531051843 tw9408428283835514688 tw1087566568896037764 tw16060210152146951526 tw12665046690130234962 tw4623463723059061748 tw14638460171311712182 tw449458244728187814 tw5444297335608108068 tw4814050398968350155 tw389940502516416415 tw11710149196015775498 tw9099684065206159814 tw7440140206032127423 tw66342219283582335 tw7069077031039615469 tw1429832832728526964 tw15044889651449672368 tw10114975427302535116 tw4144382686528012277 tw12066568153454610545 tw17319847847213549316 tw10641534609763527408 tw17380032334198028733 tw1524177748646180893 tw10309882877059422992 tw12167629110112508289 tw15031808799785737706 tw14117328947870372317 tw9152469192438832866 tw11374216635066965688 tw5725986413799040878 tw5759254971995522264 tw14172530002002709697 tw10207788581534352928 tw9122154853040473135 tw13833112079686444220 tw7046436017911148263 tw18297083164537009692 tw3291344868481799658 tw5627273197103408290 tw15929004281938352864 tw2761416694554694009 tw18445553345048218137 tw2732049468967001278 tw642141807334381983 tw12805358294076784231 tw13707028625824215959 tw15961159805904242158 tw16001773911670454270 tw11589329397579444814 tw3102794021366039981 tw3030375666883216947 tw4249088747315455799 tw12098793151788951555 tw1970384207330665838 tw15626847755231344328 tw3443589516251451050 tw15663269041636084596 tw12471845048114696339 tw13680476892791511363 tw7241749585865210993 tw1196321468863919358 tw587074880395474895 tw9413402937744835920 tw8280169863418916101 tw3740025048612553863 tw11676667492179215633 tw15684875646050918291 tw8300924026264771725 tw11749356184060130692 tw15575275993604365708 tw6259236849719479538 tw17247864345571651841 tw9906939025038296800 tw5102184045266647859 tw16945474985391060281 tw1593415340420668361 tw1046243565163941360 tw2272837456955414195 tw17104612714202898535 tw107669606145723422 tw7616262238535971316 tw10900892203684348199 tw12232899121424245643 tw1762827122801781176 tw16925520373824681734 tw16717900229271267058 tw8821174425280907589 tw17175383258883796887 tw34116444023013948 tw2447793848327092314 tw15920840653409836993 tw7351170130108255392 tw8470216255930861100 tw14978390443296791828 tw4574632213989279504 tw5993768840087143450 tw5974388551319504103 tw4009268764927158886 tw12752125977208201485 tw5532160236598018741 tw13451528189372149861 tw4514986925261208718 tw10450812435486981836 tw7894977940941098268 tw3938944012150496707 tw2154905995624550490 tw4507648781618829253 tw3892054190703544578 tw6115607651092210110 tw15388314598900470956 tw1629487582721241262 tw13173638703412004045 tw14279695710976815543 tw14880355709556431045 tw1644422242695566047 tw1355624876961526148 tw14982366322073737561 tw14689907928159096335 tw11246485419734990114 tw16014715420299863131 tw12344873123841027969 tw10828605892891798072 tw8283767581951766474 tw14810681891354745039 tw8439526274633819495 tw17379778145055114807 tw7138563367101313572 tw5964517649974820659 tw4722179865801343738 tw13460259469293857738 tw9996454083254446860 tw7924769720087511997 tw9583136022230779337 tw7378925576296207098 tw6116708583596891185 tw6256771400881313043 tw6297137180225263153 tw13315295756763436950 tw10216772168700629761 tw1257457728042370418 tw14209785794319182277 tw10562751180716677918 tw16489682958613039796 tw16617626927950640687 tw422640711903422346 tw16928723537893379344 tw6186123788430138346 tw13174537056353598901 tw5576825755698995461 tw16292355316111279065 tw12145637537888489196 tw4648299192045809998 tw16945109710820317692 tw1175922556153808037 tw4737827611956398382 tw9381234216366135656 tw716615568834106574 tw18187812599225389979 tw15818938744654775976 tw17329724663134303846 tw3902122796234027794 tw2648600344778797563 tw11099781923781576965 tw6743666608336927024 tw5225569398690202449 tw8445636778416488756 tw11327664886260893358 tw39027681107133864 tw8990242504893810524 tw17745008422424262990 tw10646650115935217972 tw11178879895000680978 tw1428935212852237394 tw8669497329815664888 tw3040351651825606573 tw15254849111550764854 tw15103243295239113600 tw5136523316438903001 tw9871036202034084386 tw15483579120647139106 tw4996568106128124400 tw14295395605019398086 tw14147818144985260995 tw2387854133019444841 tw8678311280741838169 tw8401558128459371717 tw9740773648968943597 tw10120977316737989807 tw12455455813585551679 tw5640280732050418634 tw4358092056297929152 tw5186906889315753518 tw14956083373784123851 tw12252714523822439460 tw15518506331538114795 tw14442046132580478069 tw582449800682389958 tw1365743409618112797 tw16849369647749244360 tw17882308456422978768 tw410140851881118640 tw160425585232712958 tw15408108796254057055 tw5581495851111224494 tw7086925560447355316 tw2771332563982255574 tw12411395008158049544 tw7902078153570442474 tw15359133789154936179 tw2713262776010539210 tw9295947516526538040 tw14782297374183012756 tw9687205366962877905 tw355641863802491419 tw4867891531785111775 tw13861148763870978405 tw14515499139000773898 tw4915741937274242328 tw4508284829172097739 tw165055647270372651 tw14226559558504621903 tw15103593746605281640 tw7936998449714118297:True)
open PySem PySem.W PyProof.Rows
set_option maxRecDepth 100000 in
set_option maxHeartbeats 0 in
theorem PySem.Challenge.cw_rowjudge_k63_parted_in_two_holds : PySem.Challenge.rw_rowjudge_k63_parted_in_two.Holds := by
 w_on;o_law;k_head;(case hw=>w_witness2)
 k_fill
 refine My.walk (l:=PySem.Challenge.rw_rowjudge_k63_parted_in_two) rfl rfl (λw h Y=>PySem.W.km_in_of Y) ?hnK ?hxs ?F
 case hnK=>intro p;first|rfl|decide+kernel|with_unfolding_all rfl
 case hxs=>exact⟨_,rfl⟩
 case F =>
  intro w mg fa h KX G hmg;refine' My.all_mk (Y:=.mk ..) KX G hmg ?b ?u
  case b =>
   constructor
   all_goals try dsimp only
   iterate 13 (k_is)
   iterate 9 (constructor <;> first|k_is|rfl|with_unfolding_all rfl)
   iterate 9 (refine'⟨⟨?_,?_,?_,?_⟩,?_,?_,?_,?_⟩ <;> first|k_is|rfl|with_unfolding_all rfl)
   refine' L2.ModT.mk ?lk ?sz ?vs
   (case lk=>k_is)
   (case sz=>decide)
   (case vs=>exact(.cons ⟨_,rfl⟩ (.cons ⟨_,rfl⟩ .nil)))
   refine' L2.ModT.mk ?lk ?sz ?vs
   (case lk=>k_is)
   (case sz=>decide)
   (case vs=>exact(.cons ⟨_,rfl⟩ (.cons ⟨_,rfl⟩ .nil)))
   iterate 18 (delta L2.NoAttr;k_is)
   iterate 5 (first|k_is|rfl|with_unfolding_all rfl)
  case u =>
   constructor
   all_goals try dsimp only
   iterate 44 (refine' L2.GF.mk ?a1 (L2.fun_mk ?l ?c ?k);(case a1=>k_is);(case l=>k_is);(case c=>k_is);(case k=>k_is))
   iterate 14 (refine' L2.MF.mk ?a1 ?a2 (L2.fun_mk ?l ?c ?k);(case a1=>k_is);(case a2=>k_is);(case l=>k_is);(case c=>k_is);(case k=>k_is))
   iterate 9 (refine' L2.KF.mk ?a1 ?a2 ?a3 ?a4 ?a5 (L2.fun_mk ?l ?c ?k);(case a1=>k_is);(case a2=>k_is);(case a3=>k_is);(case a4=>k_is);(case a5=>k_is);(case l=>k_is);(case c=>k_is);(case k=>k_is))
   iterate 8 (refine' L2.BF.mk ?a1 ?a2 ?a3 ?a4 (L2.fun_mk ?l ?c ?k);(case a1=>k_is);(case a2=>k_is);(case a3=>k_is);(case a4=>k_is);(case l=>k_is);(case c=>k_is);(case k=>k_is))
   iterate 1 (refine' L2.tfn_mk ?l1 ?l2 ?l3 ?l4 ?l5 ?l6;(case l1=>k_is);(case l2=>k_is);(case l3=>k_is);(case l4=>k_is);(case l5=>k_is);(case l6=>rfl))
   iterate 16 (k_is)
   iterate 5 (refine' L2.gv_mk ?a1 ?a2;(case a1=>k_is);(case a2=>exact⟨_,rfl⟩))
