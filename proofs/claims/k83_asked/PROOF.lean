import PyProof.Rows.All
import Wide.All
import OpenK.AllK
import Wide.FinOn
import Lean
import PyProof.EqAt
import PyProof.EqKinds
import PyProof.TupleCall
import KE.KIntText
import KE.KTryMore
import KE.KIsAll
import PyProof.ZipIter
import KE.KRevIter
import PyProof.AttrMissHeap
import KE.KDictOf
import PyProof.DictUpdate
import PyProof.DictList
import KE.KEqDict
import PyProof.FactsAll.zip_1
import PySem.Challenge.RW_rowjudge_k83_asked
open List (length_map map_append mem_cons length_take getElem?_map mem_cons_self take_length mem_cons_of_mem size_toArray length_append forall_mem_cons mem_map mem_append length_range forall_mem_nil mem_singleton mem_append_right length_cons map_cons getElem?_append_left getElem?_of_mem mem_range getD_eq_getElem?_getD mem_filter all_eq_true getElem?_append_right range_succ filter_append length_replicate length_filter_le nodup_cons not_mem_nil foldl_cons filter_nil mem_append_left length_singleton getElem?_take append_nil filter_cons_of_pos filter_cons_of_neg take_sublist take_add_one any_eq_true length_eq_zero_iff getElem?_eq_none lookup_cons length_zipWith filterMap_cons all_cons any_cons nodup_iff_pairwise_ne pairwise_map find?_cons length_zip mem_filterMap length_reverse nodup_append map_map ext_getElem? getElem?_range getElem_mem pairwise_cons nodup_range getElem?_zipWith filter_sublist mem_of_mem_take length_dropLast of_mem_zip length_set sum_append filter_cons nodup_nil)
open Nat (le_refl ne_of_lt lt_of_lt_of_le zero_le ne_of_gt le_trans lt_trans le_succ lt_irrefl le_of_lt lt_succ_of_lt lt_succ_self le_add_right sub_self lt_of_le_of_lt not_lt_zero succ_pos lt_of_succ_lt lt_or_ge)
open Int (toNat_natCast emod_nonneg emod_lt_of_pos toNat_of_nonneg natCast_nonneg zero_add)
open Array (length_toList getElem?_eq_getElem toList_push)
open Bool (and_eq_true false_eq_true eq_false_iff)
open Option (isSome_iff_exists map_some getD_none isSome_map)
set_option Elab.async false
set_option linter.all false
set_option maxRecDepth 100000
theorem EV{α:Type _}{l:List α}{i:Nat}(h:i<l.length):l[i]?=some l[i]:=List.getElem?_eq_getElem h
theorem EW{α:Type _}{a:α}{l:List α}{i:Nat}:l[i]?=some a ↔ ∃h:i<l.length, l[i]=a:=List.getElem?_eq_some_iff
theorem EY{α:Type _}{l:List α}{i:Nat}{a:α}(e:l[i]?=some a):a∈l:=List.mem_of_getElem? e
namespace L2
theorem U{α:Sort _}{a:α}:a=a:=rfl
open PySem PySem.Spec PyProof.Rows
abbrev Key:=Sum Int Str
def nk:Key->Value->Bool
 | .inl k,v=>Value.isInt k v
 | .inr x,v=>Value.isStrOf x v
def BJ(w:World):Key->Int
 | .inl k=>hashInt k
 | .inr x=>hashStr w x
theorem bP:∀{k:Key}{v:Value},nk k v=true->(∃i t,k=Sum.inl i/\v=Value.int i t)\/(∃x t,k=Sum.inr x/\v=Value.str x t)
 | .inl i,v,h=>by
  obtain⟨t,e⟩:=Value.isInt_shape (k:=i) (v:=v) h;exact .inl ⟨i,t,U,e⟩
 | .inr x,v,h=>by
  obtain⟨t,e⟩:=Value.isStrOf_shape (x:=x) (v:=v) h;exact .inr ⟨x,t,U,e⟩
theorem ui(i:Int)(t:Tok):nk (.inl i) (.int i t)=true:=by simp[nk,Value.isInt]
theorem uj(x:Str)(t:Tok):nk (.inr x) (.str x t)=true:=by simp[nk,Value.isStrOf]
theorem yx(a b:Int):decide ((Sum.inl a:Key)=Sum.inl b)=(a == b):=by
 by_cases e:a=b
 ·subst e;simp
 ·have h:¬ (Sum.inl a:Key)=Sum.inl b:=λq=>e (Sum.inl.inj q)
  rw[decide_eq_false h];exact(beq_eq_false_iff_ne.mpr e).symm
theorem yz(a b:Str):decide ((Sum.inr a:Key)=Sum.inr b)=decide (a=b):=by
 by_cases e:a=b
 ·subst e;simp
 ·have h:¬ (Sum.inr a:Key)=Sum.inr b:=λq=>e (Sum.inr.inj q)
  rw[decide_eq_false h,decide_eq_false e]
theorem yA(a:Int)(b:Str):decide ((Sum.inl a:Key)=Sum.inr b)=false:=decide_eq_false (λq=>nomatch q)
theorem yB(a:Str)(b:Int):decide ((Sum.inr a:Key)=Sum.inl b)=false:=decide_eq_false (λq=>nomatch q)
def bI(prog:Program)(w:World):PySem.KeyKind prog w Key where
 is:=nk
 hash:=BJ w
 inj:=λv a b ha hb=>by
  rcases bP ha with⟨i,t,rfl,rfl⟩|⟨x,t,rfl,rfl⟩
  ·rcases bP hb with⟨j,u,rfl,e⟩|⟨y,u,rfl,e⟩
   ·injection e with e1 _;rw[e1]
   ·exact nomatch e
  ·rcases bP hb with⟨j,u,rfl,e⟩|⟨y,u,rfl,e⟩
   ·exact nomatch e
   ·injection e with e1 _;rw[e1]
 byValue:=λk v h=>by
  rcases bP h with⟨i,t,rfl,rfl⟩|⟨x,t,rfl,rfl⟩ <;> rfl
 pyHash:=λhv h=>by
  rcases bP hv with⟨i,t,rfl,rfl⟩|⟨x,t,rfl,rfl⟩
  ·exact wpAny_pyHash_int h
  ·exact wpAny_pyHash_str h
 eqBool:=λhu hv h=>by
  rcases bP hu with⟨i,t,rfl,rfl⟩|⟨x,t,rfl,rfl⟩
  ·rcases bP hv with⟨j,u,rfl,rfl⟩|⟨y,u,rfl,rfl⟩
   ·rw[yx]at h;exact wpAny_eqBool_int h
   ·rw[yA]at h;exact SeqAt.EqAt.int_str i t y u _ _ _ _ h
  ·rcases bP hv with⟨j,u,rfl,rfl⟩|⟨y,u,rfl,rfl⟩
   ·rw[yB]at h;exact SeqAt.EqAt.str_int x t j u _ _ _ _ h
   ·rw[yz]at h;exact wpAny_eqBool_str h
 «strs»:=λk x t v h=>by
  rcases bP h with⟨i,u,rfl,e⟩|⟨y,u,rfl,e⟩
  ·exact nomatch e
  ·injection e with e1 _;subst e1;cases v <;> rfl
theorem pR(prog:Program)(w:World)(i:Int)(t:Tok):(bI prog w).is (.inl i) (.int i t)=true:=ui i t
theorem fm(prog:Program)(w:World)(x:Str)(t:Tok):(bI prog w).is (.inr x) (.str x t)=true:=uj x t
inductive V where
 |non|bl (b:Bool)|int (i:Int)|str (x:Str)|byt (b:Array UInt8)|flt (b:UInt64)|ref (a:Addr)|ty (n:String)
 deriving DecidableEq
def RelV:V->Value->Prop
 | .non,u=>u=Value.none
 | .bl b,u=>u=Value.bool b
 | .int i,u=>∃t,u=Value.int i t
 | .str x,u=>∃t,u=Value.str x t
 | .byt b,u=>∃t,u=Value.bytes b t
 | .flt b,u=>∃t,u=Value.float b t
 | .ref a,u=>u=Value.ref a
 | .ty n,u=>u=Value.type n
abbrev Vals:List V->List Value->Prop:=Paired RelV
theorem Vals.length{xs:List V}{us:List Value}(r:Vals xs us):xs.length=us.length:=Paired.length r
theorem Vals.get:∀{xs:List V}{us:List Value}{i:Nat}{x:V},Vals xs us->xs[i]?=some x->∃u,us[i]?=some u/\RelV x u
 |_,_,_,_,.nil,e=>by simp at e
 |_,_,0,_,.cons r _,e=>by simp at e;subst e;exact⟨_,U,r⟩
 |_,_,i+1,x,.cons _ t,e=>by
  obtain⟨u,h1,h2⟩:=Vals.get (i:=i) (x:=x) t (by simpa using e);exact⟨u,by simpa using h1,h2⟩
theorem Vals.set{x:V}{u:Value}(r:RelV x u):∀{xs:List V}{us:List Value}(i:Nat),Vals xs us->Vals (xs.set i x) (us.set i u)
 |_,_,_,.nil=>.nil
 |_,_,0,.cons _ t=>.cons r t
 |_,_,i+1,.cons q t=>.cons q (Vals.set r i t)
theorem Vals.append:∀{xs ys:List V}{us ws:List Value},Vals xs us->Vals ys ws->Vals (xs++ys) (us++ws)
 |_,_,_,_,.nil,s=>s
 |_,_,_,_,.cons r t,s=>.cons r (Vals.append t s)
theorem Vals.take:∀{xs:List V}{us:List Value}(n:Nat),Vals xs us->Vals (xs.take n) (us.take n)
 |_,_,0,_=>.nil
 |_,_,_+1,.nil=>.nil
 |_,_,n+1,.cons r t=>.cons r (Vals.take n t)
theorem Vals.drop:∀{xs:List V}{us:List Value}(n:Nat),Vals xs us->Vals (xs.drop n) (us.drop n)
 |_,_,0,r=>r
 |_,_,_+1,.nil=>.nil
 |_,_,n+1,.cons _ t=>Vals.drop n t
def iP:Option V->Option Value->Prop
 |some v,some u=>RelV v u
 |none,none=>True
 |_,_=>False
def KV{κ:Type}:List (κ×V)->List (κ×Value)->Prop:=Paired λ(p:κ×V)(q:κ×Value)=>p.1=q.1/\RelV p.2 q.2
def kV:Key->V
 | .inl i=>.int i
 | .inr x=>.str x
inductive HO where
 |lst (xs:List V)
 |tup (xs:List V)
 |dK (kvs:List (Key×V))|dT (kvs:List (List Key×V))
 |set (S:Int->Bool)(n:Nat)
 |ins (C dx:Addr)(fs:List (Str×V))
 |own (x:Addr)
 |xd (fs:List (Str×V))
 |met (f x:Addr)
 |rng (lo hi:Int)
 |frz (o:Obj)(u:HO)
 |tbl (ps:Array Value)
 |ext (φ:Heap->Prop)
abbrev Hp:=Addr->Option HO
def upd(H:Hp)(a:Addr)(o:HO):Hp:=λb=>if b=a then some o else H b
theorem ae{H:Hp}{a:Addr}{o:HO}:upd H a o a=some o:=by unfold upd;rw[if_pos U]
theorem ar{H:Hp}{a b:Addr}{o:HO}(h:b≠a):upd H a o b=H b:=by unfold upd;rw[if_neg h]
theorem cg{H:Hp}{a b:Addr}{o u:HO}(h:H a=some o)(h':H b=some u)(d:o≠u):a≠b:=by
 intro e;subst e;rw[h]at h';exact d (Option.some.inj h')
theorem bj{H:Hp}{a b:Addr}{o:HO}(h:H a=some o)(h':H b=none):a≠b:=by
 intro e;subst e;rw[h]at h';cases h'
section
variable(P:Program)(w:World)
def bQ(H:Hp)(h:Heap)(a:Addr):HO->Prop
 | .lst xs=>xs.length<=sizeLine/\∃(its:List Value)(n:Nat),Vals xs its/\h.get? a=some { cls:=.type "list",data:=.seq its.toArray n }
 | .tup xs=>xs.length<=sizeLine/\∃its:List Value,Vals xs its/\IsTup h a its.toArray
 | .dK kvs=>kvs.length<=sizeLine/\(a == sysModules)=false/\∃vs,KV kvs vs/\h.DictOf (bI P w) a vs
 | .dT kvs=>kvs.length<=sizeLine/\(a == sysModules)=false/\∃xs:List (List Key×Addr×Value),
   Paired (λ(p:List Key×V)(q:List Key×Addr×Value)=>p.1=q.1/\H q.2.1=some (.tup (p.1.map kV))/\RelV p.2 q.2.2) kvs xs /\
   ∃o es ep,h.get? a=some o/\o.ExactDict/\o.data=.dict es ep/\es.toList=xs.map (entryOfKey (tupleKind (bI P w)))/\(xs.map (·.1)).Nodup
 | .set S n=>h.SetOf (intKind P w) a S n
 | .ins C dx fs=>H dx=some (.own a)/\fs.length<=1000/\dx≠a/\h.get? a=some (W.instObj C dx) /\
   ∃mA,h.Ns1 dx mA/\(∀f,iP (fs.lookup f) (mA f))/\PySem.Within mA (fs.map (·.1))
 | .own _=>∃o,h.get? a=some o
 | .xd fs=>∃mA,h.Ns1 a mA/\∀f,iP (fs.lookup f) (mA f)
 | .rng lo hi=>∃t u v,h.get? a=some { cls:=.type "range",data:=.fields #[.int lo t,.int hi u,.int 1 v] }
 | .frz o u=>h.get? a=some o/\bQ H h a u
 | .tbl ps=>h.get? a=some { cls:=.none,data:=.fields ps }
 | .met f x=>h.get? a=some (W.methodObj (.ref f) (.ref x))
 | .ext φ=>φ h/\(∃o,h.get? a=some o)/\∀h1 h2:Heap,φ h1->(∀o,h1.get? a=some o->h2.get? a=some o)->φ h2
def HOk(H:Hp)(h:Heap):Prop:=∀a o,H a=some o->bQ P w H h a o
end
variable{P:Program}{w:World}{H H':Hp}{h h':Heap}{a:Addr}
section
variable{o:HO}
theorem bQ.lt(x:bQ P w H h a o):a<h.objs.size:=by
 cases o with
 |lst xs=>obtain⟨_,_,_,_,e⟩:=x;exact Heap.lt_size e
 |tup xs=>obtain⟨_,_,_,p⟩:=x;exact p.lt
 |dK kvs=>obtain⟨_,_,_,_,o,_,_,e,_⟩:=x;exact Heap.lt_size e
 |dT kvs=>obtain⟨_,_,_,_,o,_,_,e,_⟩:=x;exact Heap.lt_size e
 |set S n=>obtain⟨o,_,_,_,e,_⟩:=x;exact Heap.lt_size e
 |ins C dx fs=>obtain⟨_,_,_,e,_⟩:=x;exact Heap.lt_size e
 |own y=>obtain⟨_,e⟩:=x;exact Heap.lt_size e
 |xd fs=>obtain⟨_,⟨_,_,_,e,_⟩,_⟩:=x;exact Heap.lt_size e
 |rng lo hi=>obtain⟨_,_,_,e⟩:=x;exact Heap.lt_size e
 |frz ob u=>obtain⟨e,_⟩:=x;exact Heap.lt_size e
 |tbl ps=>exact Heap.lt_size (show h.get? a=some _ from x)
 |met f y=>exact Heap.lt_size (show h.get? a=some _ from x)
 |ext φ=>obtain⟨_,⟨_,e⟩,_⟩:=x;exact Heap.lt_size e
theorem Paired.mapP{α β:Type}{F G:α->β->Prop}:∀{l₁:List α}{l₂:List β},Paired F l₁ l₂->(∀a b,F a b->G a b)->Paired G l₁ l₂
 |_,_,.nil,_=>.nil
 |_,_,.cons r t,f=>.cons (f _ _ r) (Paired.mapP t f)
theorem bQ.stay(x:bQ P w H h a o)(k:∀b u,(b=a\/H b=some (.own a))->h.get? b=some u->h'.get? b=some u)
  (ho:∀b,H b=some (.own a)->H' b=some (.own a))(ht:∀b xs,H b=some (.tup xs)->H' b=some (.tup xs)):bQ P w H' h' a o:=by
 induction o with
 |lst xs=>obtain⟨z,its,n,r,e⟩:=x;exact⟨z,its,n,r,k _ _ (.inl U) e⟩
 |tup xs=>obtain⟨z,its,r,ob,e,c⟩:=x;exact⟨z,its,r,ob,k _ _ (.inl U) e,c⟩
 |dK kvs=>obtain⟨z,y,vs,r,ob,es,ep,e,c⟩:=x;exact⟨z,y,vs,r,ob,es,ep,k _ _ (.inl U) e,c⟩
 |dT kvs =>
  obtain⟨z,y,xs,r,ob,es,ep,e,c⟩:=x;exact⟨z,y,xs,Paired.mapP r λp q z=>⟨z.1,ht _ _ z.2.1,z.2.2⟩,ob,es,ep,k _ _ (.inl U) e,c⟩
 |set S n=>obtain⟨ob,es,ep,t,e,c⟩:=x;exact⟨ob,es,ep,t,k _ _ (.inl U) e,c⟩
 |ins C dx fs =>
  obtain⟨d,z,ne,e,mA,⟨od,es,ep,e2,c⟩,r⟩:=x;exact⟨ho _ d,z,ne,k _ _ (.inl U) e,mA,⟨od,es,ep,k _ _ (.inr d) e2,c⟩,r⟩
 |own y=>obtain⟨ob,e⟩:=x;exact⟨ob,k _ _ (.inl U) e⟩
 |xd fs=>obtain⟨mA,⟨od,es,ep,e,c⟩,r⟩:=x;exact⟨mA,⟨od,es,ep,k _ _ (.inl U) e,c⟩,r⟩
 |rng lo hi=>obtain⟨t,u,v,e⟩:=x;exact⟨t,u,v,k _ _ (.inl U) e⟩
 |frz ob u ih=>obtain⟨e,q⟩:=x;exact⟨k _ _ (.inl U) e,ih q⟩
 |tbl ps =>
  have e:h.get? a=some { cls:=.none,data:=.fields ps }:=x;show h'.get? a=some { cls:=.none,data:=.fields ps };exact k a _ (.inl U) e
 |met f y =>
  have e:h.get? a=some (W.methodObj (.ref f) (.ref y)):=x;show h'.get? a=some (W.methodObj (.ref f) (.ref y));exact k a _ (.inl U) e
 |ext φ=>obtain⟨p,⟨o,e⟩,st⟩:=x;exact⟨st _ _ p λo q=>k _ _ (.inl U) q,⟨o,k _ _ (.inl U) e⟩,st⟩
theorem HOk.lt(x:HOk P w H h)(e:H a=some o):a<h.objs.size:=(x a o e).lt
theorem HOk.fresh(x:HOk P w H h)(e:h.objs.size<=a):H a=none:=by
 cases q:H a with
 |none=>rfl
 |some u=>exact absurd (lt_of_lt_of_le (x.lt q) e) (lt_irrefl _)
theorem HOk.kept(x:HOk P w H h)(k:∀b u,h.get? b=some u->h'.get? b=some u):HOk P w H h':=λa o e =>
 (x a o e).stay (λb u _ q=>k b u q) (λ_ q=>q) λ_ _ q=>q
theorem HOk.laid(x:HOk P w H h)(k:∀b u,h.get? b=some u->h'.get? b=some u)(hp:h.objs.size<=a)(new:bQ P w (upd H a o) h' a o):HOk P w (upd H a o) h':=λb u e=>by
 have hn:=x.fresh hp;by_cases hb:b=a
 ·subst hb;rw[ae]at e;cases e;exact new
 ·rw[ar hb]at e;exact(x b u e).stay (λc v _ q=>k c v q) (λc q=>by rw[ar (bj q hn)];exact q) λc xs q=>by rw[ar (bj q hn)];exact q
end
def Rd(H:Hp)(a:Addr)(u:HO):Prop:=H a=some u\/∃o,H a=some (.frz o u)
theorem Rd.ok{P:Program}{w:World}{H:Hp}{h:Heap}{a:Addr}{u:HO}(r:Rd H a u)(x:HOk P w H h):bQ P w H h a u:=by
 rcases r with r|⟨o,r⟩
 ·exact x a u r
 ·obtain⟨_,q⟩:=x a _ r;exact q
def Mut:Option HO->Prop
 |some (.lst _)=>True
 |some (.dK _)=>True
 |some (.dT _)=>True
 |some (.set _ _)=>True
 |some (.ins _ _ _)=>True
 |some (.ext _)=>True
 |_=>False
variable{x:Addr}
section
variable{e:Addr}{o':HO}
theorem HOk.write(ok:HOk P w H h)(mu:Mut (H x))(he:e=x\/H e=some (.own x))(k:∀b u,b≠e->h.get? b=some u->h'.get? b=some u)(heo:∃u,h'.get? e=some u)
  (new:bQ P w (upd H x o') h' x o'):HOk P w (upd H x o') h':=λb u q=>by
 have Al:∀c y,H c=some (.own y)->c≠x:=λc y r z=>by subst z;rw[r]at mu;exact mu
 have BK:∀c xs,H c=some (.tup xs)->c≠x:=λc xs r z=>by subst z;rw[r]at mu;exact mu
 by_cases hb:b=x
 ·subst hb;rw[ae]at q;cases q;exact new
 ·rw[ar hb]at q;by_cases hbe:b=e
  ·have q':H b=some (.own x):=by
    rcases he with z|z
    ·exact absurd (hbe.trans z) hb
    ·rw[hbe];exact z
   rw[q]at q';cases q';obtain⟨v,hv⟩:=heo;exact⟨v,by rw[hbe];exact hv⟩
  ·refine(ok b u q).stay (λc v hc r=>k c v ?_ r) (λc r=>by rw[ar (Al c b r)];exact r) λc xs r=>by rw[ar (BK c xs r)];exact r
   rcases hc with rfl|hc
   ·exact hbe
   ·rintro rfl;rcases he with z|z
    ·exact Al c b hc z
    ·rw[hc]at z;cases z;exact hb U
end
structure Un(fs ex:List Addr)(H H':Hp)(h h':Heap):Prop where
 keep:∀b o,h.get? b=some o->H b=none->b ∉ fs->b ∉ ex->h'.get? b=some o
 slot:∀b o,h.get? b=some o->H b=none->b∈fs->b ∉ ex->∃sl,h'.get? b=some { o with slots:=sl }
 free:∀b o,h.get? b=some o->H b=none->b ∉ ex->H' b=none
 there:∀b o,h.get? b=some o->b ∉ ex->∃o',h'.get? b=some o'
 tups:∀b xs,H b=some (.tup xs)->H' b=some (.tup xs)
 frzs:∀b o u,H b=some (.frz o u)->H' b=some (.frz o u)
 tbls:∀b ps,H b=some (.tbl ps)->∃more,H' b=some (.tbl (ps++more))
section
variable{fs fs' ex ex':List Addr}{H1 H2:Hp}{h1 h2:Heap}{e:Addr}{o:HO}
theorem Un.any(u:Un fs ex H H1 h h1){b:Addr}{ob:Obj}(q:h.get? b=some ob)(n:H b=none)(hx:b ∉ ex):∃sl,h1.get? b=some { ob with slots:=sl }:=by
 by_cases hb:b∈fs
 ·exact u.slot b ob q n hb hx
 ·exact⟨ob.slots,u.keep b ob q n hb hx⟩
theorem Un.kept(k:∀b u,h.get? b=some u->h'.get? b=some u):Un fs ex H H h h' :=
 ⟨λb ob q _ _ _=>k b ob q,λb ob q _ _ _=>⟨ob.slots,k b ob q⟩,λ_ _ _ n _=>n,λb ob q _=>⟨ob,k b ob q⟩,λ_ _ q=>q,λ_ _ _ q=>q,λ_ ps q=>⟨#[],by rw[q];simp⟩⟩
theorem Un.refl:Un fs ex H H h h:=Un.kept λ_ _ q=>q
theorem Un.laid(k:∀b u,h.get? b=some u->h'.get? b=some u)(hp:h.objs.size<=a)(hn:H a=none):Un fs ex H (upd H a o) h h' where
 keep:=λb u q _ _ _=>k b u q
 slot:=λb u q _ _ _=>⟨u.slots,k b u q⟩
 free:=λb u q n _=>by rw[ar (ne_of_lt (lt_of_lt_of_le (Heap.lt_size q) hp))];exact n
 there:=λb u q _=>⟨u,k b u q⟩
 tups:=λb xs q=>by rw[ar (bj q hn)];exact q
 frzs:=λb u xs q=>by rw[ar (bj q hn)];exact q
 tbls:=λb ps q=>⟨#[],by rw[ar (bj q hn),q];simp⟩
theorem Un.write(mu:Mut (H x))(he:e=x\/H e=some (.own x))(k:∀b u,b≠e->h.get? b=some u->h'.get? b=some u)(heo:∃u,h'.get? e=some u):Un fs ex H (upd H x o) h h':=by
 have hx:∀b,H b=none->b≠x:=λb n z=>by subst z;rw[n]at mu;exact mu
 have hb:∀b,H b=none->b≠e:=λb n z=>by
  subst z;rcases he with r|r
  ·exact hx b n r
  ·rw[n]at r;cases r
 have hm:∀b u,H b=some u->¬ Mut (some u)->b≠x:=λb u q nm z=>by subst z;rw[q]at mu;exact nm mu
 refine⟨λb u q n _ _=>k b u (hb b n) q,λb u q n _ _=>⟨u.slots,k b u (hb b n) q⟩,λb u q n _=>by rw[ar (hx b n)];exact n,λb u q _=>?_,
  λb xs q=>by rw[ar (hm b _ q λz=>z)];exact q,λb u xs q=>by rw[ar (hm b _ q λz=>z)];exact q,λb ps q=>⟨#[],by rw[ar (hm b _ q λz=>z),q];simp⟩⟩
 by_cases hbe:b=e
 ·subst hbe;exact heo
 ·exact⟨u,k b u hbe q⟩
end
def trk(h:Heap)(H:Hp):List Addr:=(List.range h.objs.size).filter λa=>(H a).isSome
def oz(h:Heap)(H:Hp):Heap:=W.hideAll h (trk h H)
theorem uk(h:Heap)(H:Hp):(oz h H).objs.size=h.objs.size:=W.hideAll_size _ _
theorem vg{h:Heap}{H:Hp}{b:Addr}{o:Obj}(e:h.get? b=some o)(n:H b=none):(oz h H).get? b=some o :=
 W.hideAll_get _ e λhm=>by
  have q:(H b).isSome=true:=(mem_filter.mp hm).2;rw[n]at q;simp at q
theorem wZ{h:Heap}{H:Hp}{b:Addr}{o:Obj}(e:(oz h H).get? b=some o):h.get? b=some o/\H b=none:=by
 have e':h.get? b=some o:=W.of_hideAll (trk h H) e;refine⟨e',?_⟩;cases q:H b with
 |none=>rfl
 |some x =>
  have hm:b∈trk h H:=mem_filter.mpr ⟨mem_range.mpr (Heap.lt_size e'),by simp[q]⟩;have z:(oz h H).get? b=none:=W.hideAll_none (trk h H) hm;rw[z]at e;cases e
def w6(g h:Heap)(L:Addr):List (Addr×Obj):=(List.range h.objs.size).filterMap λa=>if a=L\/(g.get? a).isSome=true then none else(h.get? a).map λo=>(a,o)
def rest(g h:Heap)(L d:Addr):List (Addr×Obj):=(w6 g h L).filter λp=>decide (p.1≠d)
structure Mod(K:W.Frag)(mg:Str->Option Value)(base:Heap):Prop where
 kin:K.In base
 glob:base.Ns mainGlobals mg
 blt:∃mb,base.Ns builtinsNs mb/\∀x:Str,x ≠ "__name__" -> mb x=bootBuiltins x
 nolimit:base.NoLimit
structure Cx where
 prog:Program
 w:World
 K:W.Frag
 mg:Str->Option Value
 base:Heap
 A:Around
 N:List Str
 s₀:Shared
 H₀:Hp
 env:Env
 outer:List Env
 stack:List Env
 ex:List Addr
 fn:Str->Bool
 calm:Bool
 pn:List (Addr×Obj)
 xe:Value->Shared->Prop
def frs(l:List Env):List Addr:=l.filterMap (·.frame)
abbrev Cx.fs(X:Cx):List Addr:=frs X.outer
def Vis(sc:Scope)(x:Str):Prop:=sc.names.lookup x=some .local\/sc.names.lookup x=some .cell\/sc.names.lookup x=some .free
def Loc(sc:Scope)(x:Str):Prop:=sc.names.lookup x=some .local\/sc.names.lookup x=some .cell
def Look(env:Env)(h:Heap)(m:Str->Option Value)(x:Str)(u:Value):Prop :=
 (env.kindOf x=some .local/\m x=some u)\/((env.kindOf x=some .cell\/env.kindOf x=some .free)/\∃c,env.cells.lookup x=some c/\h.IsCell c (some u))
structure Cx.Ok(X:Cx):Prop where
 mod:Mod X.K X.mg X.base
 kind:X.env.scope.kind=.function
 glob:X.env.globals=mainGlobals
 blt:X.env.builtins=builtinsNs
 above:X.s₀.heap.objs.size<=X.env.locals
 inj:∀x y c,X.env.cells.lookup x=some c->X.env.cells.lookup y=some c->x=y
 has:∀x,(X.env.kindOf x=some .cell\/X.env.kindOf x=some .free)->∃c,X.env.cells.lookup x=some c
 cab:∀x c,X.fn x=true->X.env.cells.lookup x=some c->X.s₀.heap.objs.size<=c
 hd:X.calm=true->X.A.handled=none
 frames:X.A.frames=some X.stack
 stk:X.stack=X.outer\/(X.stack=X.env :: X.outer/\X.env.frame=some X.env.locals)
 exf:∀b∈X.ex,b≠X.env.locals/\∀x c,X.env.cells.lookup x=some c->c≠b
 bs:∀b o,X.base.get? b=some o->X.s₀.heap.get? b=some o/\X.H₀ b=none
 bsz:X.base.objs.size<=X.s₀.heap.objs.size
 noex:∀b o,X.base.get? b=some o->b ∉ X.ex
 exfs:∀b∈X.ex,b ∉ X.fs
 funs:X.s₀.heap.FunFrames X.base X.outer
 frf:∀b∈X.fs,X.H₀ b=none
structure Inv(X:Cx)(pins:List (Addr×Obj))(σ:List (Option V))(H:Hp)(s:Shared):Prop where
 ok:X.Ok
 os:s.os=X.s₀.os
 bare:AllBare s.gens
 base:Un X.fs X.ex X.H₀ H X.s₀.heap s.heap
 loc:∃m,s.heap.Ns X.env.locals m/\∀(i:Nat)(x:Str)(v:V),X.N[i]?=some x->σ[i]?=some (some v)->Vis X.env.scope x->∃u,RelV v u/\Look X.env s.heap m x u
 cell:∀x c,X.env.cells.lookup x=some c->∃v,s.heap.IsCell c v
 free:H X.env.locals=none
 freeC:∀x c,X.env.cells.lookup x=some c->H c=none
 pin:∀p∈X.pn++pins,s.heap.get? p.1=some p.2/\H p.1=none/\p.1≠X.env.locals/\p.1 ∉ X.fs/\∀v,p.2.data≠.cell v
 hok:HOk X.prog X.w H s.heap
 len:σ.length=X.N.length
variable{X:Cx}{pins:List (Addr×Obj)}{s:Shared}
section
variable{σ:List (Option V)}
theorem Cx.Ok.nofr(ok:X.Ok){b:Addr}{o:Obj}(e:X.base.get? b=some o):b ∉ X.fs:=λhb=>by
 have:=(ok.funs.mem hb).1;rw[e]at this;cases this
theorem Inv.bs(I:Inv X pins σ H s):∀b o,X.base.get? b=some o->s.heap.get? b=some o/\H b=none:=λb o e =>
 ⟨I.base.keep b o (I.ok.bs b o e).1 (I.ok.bs b o e).2 (I.ok.nofr e) (I.ok.noex b o e),I.base.free b o (I.ok.bs b o e).1 (I.ok.bs b o e).2 (I.ok.noex b o e)⟩
theorem Inv.bk(I:Inv X pins σ H s):∀b o,X.base.get? b=some o->s.heap.get? b=some o:=λb o e=>(I.bs b o e).1
theorem Inv.mod(I:Inv X pins σ H s):Mod X.K X.mg X.base:=I.ok.mod
theorem Inv.kIn(I:Inv X pins σ H s):X.K.In s.heap:=I.ok.mod.kin.keeps I.bk
theorem Inv.lt(I:Inv X pins σ H s):X.env.locals<s.heap.objs.size:=by obtain⟨_,hn,_⟩:=I.loc;exact hn.lt
theorem Inv.sz(I:Inv X pins σ H s):X.s₀.heap.objs.size<=s.heap.objs.size:=le_trans I.ok.above (le_of_lt I.lt)
theorem Inv.nofs(I:Inv X pins σ H s){a:Addr}(h:s.heap.objs.size<=a):a ∉ X.fs:=λhb=>by
 obtain⟨_,o,ho,_⟩:=I.ok.funs.mem hb;exact absurd (lt_of_lt_of_le (Heap.lt_size ho) (le_trans I.sz h)) (lt_irrefl _)
theorem Inv.cne(I:Inv X pins σ H s):∀x c,X.env.cells.lookup x=some c->c≠X.env.locals:=λx c e z=>by
 obtain⟨v,o,ho,hd⟩:=I.cell x c e;obtain⟨m,⟨o',es,ep,ho',hd',_⟩,_⟩:=I.loc;rw[z,ho']at ho;cases ho;rw[hd']at hd;cases hd
theorem Inv.funs(I:Inv X pins σ H s):s.heap.FunFrames X.base X.outer:=by
 have all:∀(l:List Env),(∀b∈frs l,b∈X.fs)->X.s₀.heap.FunFrames X.base l->s.heap.FunFrames X.base l:=by
  intro l;induction l with
  |nil=>intro _ _;trivial
  |cons env r ih =>
   intro hs hl;obtain⟨hk,⟨L,o,hf,hn,ho,hd⟩,hr⟩:=hl;have hL:L∈X.fs:=hs L (by unfold frs;rw[filterMap_cons,hf];exact mem_cons_self);obtain⟨sl,e⟩:=I.base.slot L o ho (I.ok.frf L hL) hL λz=>I.ok.exfs L z hL
   exact⟨hk,⟨L,_,hf,hn,e,hd⟩,ih (λb hb=>hs b (by unfold frs;rw[filterMap_cons,hf];exact mem_cons_of_mem _ hb)) hr⟩
 exact all X.outer (λ_ hb=>hb) I.ok.funs
theorem Inv.stack(I:Inv X pins σ H s):s.heap.FunFrames X.base X.stack:=by
 rcases I.ok.stk with e|⟨e,hf⟩
 ·rw[e];exact I.funs
 ·rw[e];obtain⟨m,hn,_⟩:=I.loc;refine .cons (by rw[I.ok.kind];decide) hf hn ?_ I.funs;exact Heap.get?_none_of_le (le_trans I.ok.bsz I.ok.above)
theorem Inv.stkSub(I:Inv X pins σ H s):∀b∈frs X.stack,b∈X.env.locals :: X.fs:=λb hb=>by
 rcases I.ok.stk with e|⟨e,hf⟩
 ·rw[e]at hb;exact mem_cons_of_mem _ hb
 ·rw[e]at hb;unfold frs at hb;rw[filterMap_cons,hf]at hb;exact hb
theorem Inv.stkFree(I:Inv X pins σ H s):∀b∈frs X.stack,H b=none:=λb hb=>by
 rcases mem_cons.mp (I.stkSub b hb)with e|hb
 ·rw[e];exact I.free
 ·obtain⟨_,o,ho,_⟩:=I.ok.funs.mem hb;exact I.base.free b o ho (I.ok.frf b hb) λz=>I.ok.exfs b z hb
theorem Inv.step{g':Array GenState}{t':Nat}{d':Drawn}{ch:List Addr}(I:Inv X pins σ H s)
  (hch:∀b∈ch,(b∈X.ex\/X.s₀.heap.objs.size<=b)/\b≠X.env.locals/\(∀x c,X.env.cells.lookup x=some c->c≠b)/\∀p∈X.pn++pins,p.1≠b)
  (keep:∀b o,b≠X.env.locals->b ∉ X.fs->b ∉ ch->s.heap.get? b=some o->H b=none->h'.get? b=some o)
  (slot:∀b o,b≠X.env.locals->b∈X.fs->b ∉ ch->s.heap.get? b=some o->H b=none->∃sl,h'.get? b=some { o with slots:=sl })(free:∀b o,b ∉ ch->s.heap.get? b=some o->H b=none->H' b=none)
  (there:∀b o,b ∉ ch->s.heap.get? b=some o->∃o',h'.get? b=some o')
  (tups:∀b xs,H b=some (.tup xs)->H' b=some (.tup xs))(frzs:∀b o u,H b=some (.frz o u)->H' b=some (.frz o u))(tbls:∀b ps,H b=some (.tbl ps)->∃more,H' b=some (.tbl (ps++more)))
  (ns:∀m,s.heap.Ns X.env.locals m->h'.Ns X.env.locals m)(hok:HOk X.prog X.w H' h')(hg:AllBare g') :
  Inv X pins σ H' { s with heap:=h',gens:=g',drawn:=d',toks:=t' }:=by
 have neL:∀b o,X.s₀.heap.get? b=some o->b≠X.env.locals:=λb o e=>ne_of_lt (lt_of_lt_of_le (Heap.lt_size e) I.ok.above)
 have neC:∀b o,X.s₀.heap.get? b=some o->b ∉ X.ex->b ∉ ch:=λb o e hx hb=>by
  rcases(hch b hb).1 with z|z
  ·exact hx z
  ·exact absurd (lt_of_lt_of_le (Heap.lt_size e) z) (lt_irrefl _)
 have cellK:∀x c,X.env.cells.lookup x=some c->∀v,s.heap.IsCell c v->h'.IsCell c v:=λx c e v ⟨o,ho,hd⟩=>by
  have nch:c ∉ ch:=λz=>(hch c z).2.2.1 x c e U
  by_cases hc:c∈X.fs
  ·obtain⟨sl,q⟩:=slot c o (I.cne x c e) hc nch ho (I.freeC x c e);exact⟨_,q,hd⟩
  ·exact⟨o,keep c o (I.cne x c e) hc nch ho (I.freeC x c e),hd⟩
 refine⟨I.ok,I.os,hg,⟨λb o e n hb hx=>?_,λb o e n hb hx=>?_,λb o e n hx=>?_,λb o e hx=>?_,λb xs e=>tups b xs (I.base.tups b xs e),λb o xs e=>frzs b o xs (I.base.frzs b o xs e),λb ps e=>?_⟩,?_,λx c e=>?_,?_,λx c e=>?_,λp hp=>?_,hok,I.len⟩
 ·exact keep b o (neL b o e) hb (neC b o e hx) (I.base.keep b o e n hb hx) (I.base.free b o e n hx)
 ·obtain⟨sl,e1⟩:=I.base.slot b o e n hb hx;obtain⟨sl',e2⟩:=slot b _ (neL b o e) hb (neC b o e hx) e1 (I.base.free b o e n hx);exact⟨sl',e2⟩
 ·obtain⟨o',e1⟩:=I.base.there b o e hx;exact free b o' (neC b o e hx) e1 (I.base.free b o e n hx)
 ·obtain⟨o',e1⟩:=I.base.there b o e hx;exact there b o' (neC b o e hx) e1
 ·obtain⟨m1,e1⟩:=I.base.tbls b ps e;obtain⟨m2,e2⟩:=tbls b _ e1;exact⟨m1++m2,by rw[e2,Array.append_assoc]⟩
 ·obtain⟨m,hn,hl⟩:=I.loc;refine⟨m,ns m hn,λi x v e1 e2 e3=>?_⟩;obtain⟨u,r,l⟩:=hl i x v e1 e2 e3;refine⟨u,r,?_⟩;rcases l with l|⟨k,c,e,z⟩
  ·exact .inl l
  ·exact .inr ⟨k,c,e,cellK x c e _ z⟩
 ·obtain⟨v,z⟩:=I.cell x c e;exact⟨v,cellK x c e v z⟩
 ·obtain⟨m,⟨o,_,_,ho,_⟩,_⟩:=I.loc;exact free _ o (λz=>(hch _ z).2.1 U) ho I.free
 ·obtain⟨v,o,ho,hd⟩:=I.cell x c e;exact free c o (λz=>(hch c z).2.2.1 x c e U) ho (I.freeC x c e)
 ·obtain⟨e,n,ne,nf,d⟩:=I.pin p hp;have nch:p.1 ∉ ch:=λz=>(hch p.1 z).2.2.2 p hp U
  exact⟨keep p.1 p.2 ne nf nch e n,free p.1 p.2 nch e n,ne,nf,d⟩
theorem Inv.un{t':Nat}(I:Inv X pins σ H s)(u:Un X.fs [] H H' s.heap h')(hok:HOk X.prog X.w H' h'):Inv X pins σ H' { s with heap:=h',toks:=t' }:=by
 obtain⟨m,⟨o,es,ep,ho,r⟩,_⟩:=id I.loc;obtain⟨sl,hL⟩:=u.any ho I.free (by simp);exact I.step (g':=s.gens) (d':=s.drawn) (ch:=[]) (λ_ z=>nomatch z) (λb o _ hb _ e n=>u.keep b o e n hb (by simp)) (λb o _ hb _ e n=>u.slot b o e n hb (by simp)) (λb o _ e n=>u.free b o e n (by simp)) (λb o _ e=>u.there b o e (by simp)) u.tups u.frzs u.tbls (λm' hm=>by
  obtain⟨o',es',ep',ho',r'⟩:=hm;rw[ho]at ho';cases ho';exact⟨_,es',ep',hL,r'⟩) hok I.bare
theorem Inv.call{g':Array GenState}{t':Nat}{d':Drawn}{ch:List Addr}(I:Inv X pins σ H s)(u:Un (frs X.stack) ch H H' s.heap h')(hok:HOk X.prog X.w H' h')(hg:AllBare g')
  (hch:∀b∈ch,(b∈X.ex\/X.s₀.heap.objs.size<=b)/\b≠X.env.locals/\(∀x c,X.env.cells.lookup x=some c->c≠b)/\∀p∈X.pn++pins,p.1≠b) :
  Inv X pins σ H' { s with heap:=h',gens:=g',drawn:=d',toks:=t' }:=by
 obtain⟨m,⟨o,es,ep,ho,r⟩,_⟩:=id I.loc;obtain⟨sl,hL⟩:=u.any ho I.free λz=>(hch _ z).2.1 U
 exact I.step (ch:=ch) hch (λb o hL hb hc e n=>u.keep b o e n (λz=>(mem_cons.mp (I.stkSub b z)).elim hL hb) hc) (λb o _ _ hc e n=>u.any e n hc) (λb o hc e n=>u.free b o e n hc) (λb o hc e=>u.there b o e hc) u.tups u.frzs u.tbls (λm' hm=>by
  obtain⟨o',es',ep',ho',r'⟩:=hm;rw[ho]at ho';cases ho';exact⟨_,es',ep',hL,r'⟩) hok hg
theorem Inv.turned{t':Nat}{it:Addr}(I:Inv X pins σ H s)(k:∀b o,b≠it->s.heap.get? b=some o->h'.get? b=some o)(hn:H it=none)(hL:it≠X.env.locals)
  (h1:it∈X.ex\/X.s₀.heap.objs.size<=it)(h2:∀x c,X.env.cells.lookup x=some c->c≠it)(h3:∀p∈X.pn++pins,p.1≠it):Inv X pins σ H { s with heap:=h',toks:=t' }:=by
 have nit:∀b u,H b=some u->b≠it:=λb u e z=>by rw[z,hn]at e;cases e
 refine I.step (g':=s.gens) (d':=s.drawn) (ch:=[it]) (λb hb=>?_) (λb o _ _ hc e _=>k b o (λz=>hc (by simp[z])) e) (λb o _ _ hc e _=>⟨o.slots,k b o (λz=>hc (by simp[z])) e⟩) (λ_ _ _ _ n=>n)
  (λb o hc e=>⟨o,k b o (λz=>hc (by simp[z])) e⟩) (λ_ _ e=>e) (λ_ _ _ e=>e) (λb ps e=>⟨#[],by rw[e];simp⟩) (λm hm=>?_) (λb u e=>?_) I.bare
 ·have e:b=it:=by simpa using hb
  subst e;exact⟨h1,hL,h2,h3⟩
 ·obtain⟨o,es,ep,ho,r⟩:=hm;exact⟨o,es,ep,k _ o (Ne.symm hL) ho,r⟩
 ·refine(I.hok b u e).stay (λc v hc q=>k c v ?_ q) (λ_ q=>q) λ_ _ q=>q
  rcases hc with z|z
  ·rw[z];exact nit b u e
  ·exact nit c _ z
theorem Inv.tok(I:Inv X pins σ H s)(t:Nat):Inv X pins σ H { s with toks:=t }:=I.un (h':=s.heap) (t':=t) Un.refl I.hok
theorem Inv.kept{t':Nat}(I:Inv X pins σ H s)(k:∀b u,s.heap.get? b=some u->h'.get? b=some u):Inv X pins σ H { s with heap:=h',toks:=t' }:=I.un (Un.kept k) (I.hok.kept k)
theorem Inv.laid{a:Addr}{o:HO}{t':Nat}(I:Inv X pins σ H s)(k:∀b u,s.heap.get? b=some u->h'.get? b=some u)(hp:s.heap.objs.size<=a)(new:bQ X.prog X.w (upd H a o) h' a o) :
  Inv X pins σ (upd H a o) { s with heap:=h',toks:=t' }:=I.un (Un.laid k hp (I.hok.fresh hp)) (I.hok.laid k hp new)
theorem Inv.write{x e:Addr}{o:HO}{t':Nat}(I:Inv X pins σ H s)(mu:Mut (H x))(he:e=x\/H e=some (.own x))(k:∀b u,b≠e->s.heap.get? b=some u->h'.get? b=some u)(heo:∃u,h'.get? e=some u)
  (new:bQ X.prog X.w (upd H x o) h' x o):Inv X pins σ (upd H x o) { s with heap:=h',toks:=t' }:=I.un (Un.write mu he k heo) (I.hok.write mu he k heo new)
theorem Inv.pins_of{xU:List (Addr×Obj)}(I:Inv X pins σ H s)(h:∀p∈xU,s.heap.get? p.1=some p.2/\H p.1=none/\p.1≠X.env.locals/\p.1 ∉ X.fs/\∀v,p.2.data≠.cell v):Inv X xU σ H s :=
 ⟨I.ok,I.os,I.bare,I.base,I.loc,I.cell,I.free,I.freeC,λp hp=>(mem_append.mp hp).elim (λz=>I.pin p (mem_append_left _ z)) (h p),I.hok,I.len⟩
theorem lG{N:List Str}(hN:N.Nodup){i j:Nat}{x:Str}(a:N[i]?=some x)(b:N[j]?=some x):i=j:=by
 obtain⟨h1,e1⟩:=EW.mp a;obtain⟨h2,e2⟩:=EW.mp b;exact(List.getElem_inj hN).mp (e1.trans e2.symm)
theorem kl{M:Model}{A:Around}{E:Value->Shared->Prop}{i:Nat}{x:Str}{v:V}{u:Value}{Q:Unit->Shared->Prop}(I:Inv X pins σ H s)(hN:X.N.Nodup)(hi:X.N[i]?=some x)(hx:Loc X.env.scope x)(r:RelV v u)
  (h:∀s',Inv X pins (σ.set i (some v)) H s'->(∃a,Heap.SameBut a s.heap s'.heap/\(a=X.env.locals\/X.env.cells.lookup x=some a))->Q () s')(hf:X.fn x=true\/X.env.scope.names.lookup x=some .local:=by first|exact .inl U|exact .inr U|assumption):wpAny M A (storeName X.env x u) Q E s:=by
 obtain⟨m,hn,hl⟩:=id I.loc;have BL:(X.env.scope.kind == .class || (X.env.scope.kind == .module && X.env.locals != X.env.globals))=false:=by rw[I.ok.kind];rfl
 have hiσ:i<σ.length:=by rw[I.len];exact(EW.mp hi).1
 have cne:=I.cne;have tracked:∀{a:Addr}{h':Heap},(∃o,s.heap.get? a=some o/\H a=none)->Heap.SameBut a s.heap h'->HOk X.prog X.w H h':=λ{a h'} ha hs b ob e=>by
  obtain⟨_,_,xV⟩:=ha;refine(I.hok b ob e).stay (λc w' hc q=>(hs.2 c ?_).trans q) (λ_ q=>q) λ_ _ q=>q
  rintro rfl;rcases hc with rfl|hc
  ·rw[xV]at e;cases e
  ·rw[xV]at hc;cases hc
 rcases hx with hk|hk
 ·refine wpAny_storeName_local hk hn (λh' hn' hs=>?_) BL;obtain⟨oL,_,_,hoL,_⟩:=id hn;refine h _ ⟨I.ok,I.os,I.bare,⟨λb o e n hb hx=>?_,λb o e n hb hx=>?_,I.base.free,λb o e hx=>?_,I.base.tups,I.base.frzs,I.base.tbls⟩,⟨_,hn',λj y v' e1 e2 e3=>?_⟩,λy c e=>?_,I.free,I.freeC,λp hp=>?_,tracked ⟨oL,hoL,I.free⟩ hs,by simpa using I.len⟩ ⟨_,hs,.inl U⟩
  ·exact(hs.2 b (ne_of_lt (lt_of_lt_of_le (Heap.lt_size e) I.ok.above))).trans (I.base.keep b o e n hb hx)
  ·obtain⟨sl,e1⟩:=I.base.slot b o e n hb hx;exact⟨sl,(hs.2 b (ne_of_lt (lt_of_lt_of_le (Heap.lt_size e) I.ok.above))).trans e1⟩
  ·obtain⟨o',e1⟩:=I.base.there b o e hx;exact⟨o',(hs.2 b (ne_of_lt (lt_of_lt_of_le (Heap.lt_size e) I.ok.above))).trans e1⟩
  ·by_cases hj:j=i
   ·subst hj;rw[hi]at e1;cases e1;rw[List.getElem?_set_self hiσ]at e2;cases e2;exact⟨u,r,.inl ⟨hk,by simp⟩⟩
   ·rw[List.getElem?_set_ne (Ne.symm hj)]at e2;obtain⟨u',r',q⟩:=hl j y v' e1 e2 e3;refine⟨u',r',?_⟩;rcases q with⟨k,e⟩|⟨k,c,e,z⟩
    ·refine .inl ⟨k,?_⟩;have:y≠x:=λe=>hj (lG hN e1 (e ▸ hi))
     simp[this,e]
    ·exact .inr ⟨k,c,e,z.sameBut hs (cne y c e)⟩
  ·obtain⟨w',z⟩:=I.cell y c e;exact⟨w',z.sameBut hs (cne y c e)⟩
  ·obtain⟨e,n,ne,nf,d⟩:=I.pin p hp;exact⟨(hs.2 p.1 ne).trans e,n,ne,nf,d⟩
 ·have hfn:X.fn x=true:=by
   rcases hf with z|z
   ·exact z
   ·rw[z]at hk;cases hk
  obtain⟨c,hc⟩:=I.ok.has x (.inl hk);obtain⟨w',z⟩:=I.cell x c hc;refine wpAny_storeName_cell I.ok.kind hk hc z (λh' hc' hs=>?_);obtain⟨oc,hoc,BM⟩:=id z;refine h { s with heap:=h' } ⟨I.ok,I.os,I.bare,⟨λb o e n hb hx=>?_,λb o e n hb hx=>?_,I.base.free,λb o e hx=>?_,I.base.tups,I.base.frzs,I.base.tbls⟩,⟨m,hn.sameBut hs (Ne.symm (cne x c hc)),λj y v' e1 e2 e3=>?_⟩,λy c' e=>?_,I.free,I.freeC,λp hp=>?_,tracked ⟨oc,hoc,I.freeC x c hc⟩ hs,by simpa using I.len⟩ ⟨c,hs,.inr hc⟩
  ·exact(hs.2 b (ne_of_lt (lt_of_lt_of_le (Heap.lt_size e) (I.ok.cab x c hfn hc)))).trans (I.base.keep b o e n hb hx)
  ·obtain⟨sl,e1⟩:=I.base.slot b o e n hb hx;exact⟨sl,(hs.2 b (ne_of_lt (lt_of_lt_of_le (Heap.lt_size e) (I.ok.cab x c hfn hc)))).trans e1⟩
  ·obtain⟨o',e1⟩:=I.base.there b o e hx;exact⟨o',(hs.2 b (ne_of_lt (lt_of_lt_of_le (Heap.lt_size e) (I.ok.cab x c hfn hc)))).trans e1⟩
  ·by_cases hj:j=i
   ·subst hj;rw[hi]at e1;cases e1;rw[List.getElem?_set_self hiσ]at e2;cases e2;exact⟨u,r,.inr ⟨.inl hk,c,hc,hc'⟩⟩
   ·rw[List.getElem?_set_ne (Ne.symm hj)]at e2;obtain⟨u',r',q⟩:=hl j y v' e1 e2 e3;refine⟨u',r',?_⟩;rcases q with q|⟨k,c',e,z'⟩
    ·exact .inl q
    ·refine .inr ⟨k,c',e,z'.sameBut hs ?_⟩;rintro rfl;exact hj (lG hN e1 (I.ok.inj _ _ _ e hc ▸ hi))
  ·by_cases hcc:c'=c
   ·subst hcc;exact⟨_,hc'⟩
   ·obtain⟨w2,z2⟩:=I.cell y c' e;exact⟨w2,z2.sameBut hs hcc⟩
  ·obtain⟨e,n,ne,nf,d⟩:=I.pin p hp;refine⟨(hs.2 p.1 ?_).trans e,n,ne,nf,d⟩;intro q;rw[q,hoc]at e;have q':oc=p.2:=Option.some.inj e;exact d w' (by rw[←q'];exact BM)
theorem pS{M:Model}{A:Around}{E:Value->Shared->Prop}{i:Nat}{x:Str}{v:V}{u:Value}{Q:Unit->Shared->Prop}(I:Inv X pins σ H s)(hN:X.N.Nodup)(hi:X.N[i]?=some x)(hx:Loc X.env.scope x)(r:RelV v u)
  (h:∀s',Inv X pins (σ.set i (some v)) H s'->Q () s')(hf:X.fn x=true\/X.env.scope.names.lookup x=some .local:=by first|exact .inl U|exact .inr U|assumption):wpAny M A (storeName X.env x u) Q E s :=
 kl I hN hi hx r (λs' I' _=>h s' I') hf
theorem Inv.call'{s':Shared}{ch:List Addr}(I:Inv X pins σ H s)(ho:s'.os=s.os)(u:Un (frs X.stack) ch H H' s.heap s'.heap)(hok:HOk X.prog X.w H' s'.heap)(hg:AllBare s'.gens)
  (hch:∀b∈ch,(b∈X.ex\/X.s₀.heap.objs.size<=b)/\b≠X.env.locals/\(∀x c,X.env.cells.lookup x=some c->c≠b)/\∀p∈X.pn++pins,p.1≠b):Inv X pins σ H' s':=by
 obtain⟨h',g',d',t',o'⟩:=s';have e:o'=s.os:=ho;subst e;exact I.call (g':=g') (t':=t') (d':=d') u hok hg hch
end
abbrev XK:=Value->Option Addr->Hp->Prop
abbrev St:=List (Option V)
abbrev VK:=V->Hp->Prop
abbrev TE:=St->Hp->VK->Prop
abbrev TT:=St->Hp->(Bool->Hp->Prop)->Prop
abbrev TA:=St->Hp->(List V->Hp->Prop)->Prop
structure Ends where
 nx:St->Hp->Prop
 rt:VK
 bk:St->Hp->Prop:=λ_ _=>False
 ct:St->Hp->Prop:=λ_ _=>False
abbrev TS:=Ends->St->Hp->Prop
def EP(X:Cx)(pins:List (Addr×Obj))(σ:St)(Q:VK)(u:Value)(s':Shared):Prop:=∃v H',Inv X pins σ H' s'/\RelV v u/\Q v H'
def TP(X:Cx)(pins:List (Addr×Obj))(σ:St)(Q:Bool->Hp->Prop)(b:Bool)(s':Shared):Prop:=∃H',Inv X pins σ H' s'/\Q b H'
def AP(X:Cx)(pins:List (Addr×Obj))(σ:St)(Q:List V->Hp->Prop)(us:List Value)(s':Shared):Prop:=∃vs H',Inv X pins σ H' s'/\Vals vs us/\Q vs H'
def SP(X:Cx)(pins:List (Addr×Obj))(D:Ends)(f:Flow)(s':Shared):Prop :=
 match f with
 | .next=>∃σ' H',Inv X pins σ' H' s'/\D.nx σ' H'
 | .brk=>∃σ' H',Inv X pins σ' H' s'/\D.bk σ' H'
 | .cont=>∃σ' H',Inv X pins σ' H' s'/\D.ct σ' H'
 | .ret u=>∃v σ' H',Inv X pins σ' H' s'/\RelV v u/\D.rt v H'
def PE(X:Cx)(e:Expr)(t:TE):Prop :=
 ∀(pins:List (Addr×Obj))(s:Shared)(σ:St)(H:Hp)(Q:VK),Inv X pins σ H s->t σ H Q->wpAny (model X.prog X.w) X.A (eval e X.env) (EP X pins σ Q) X.xe s
def PT(X:Cx)(e:Expr)(t:TT):Prop :=
 ∀(pins:List (Addr×Obj))(s:Shared)(σ:St)(H:Hp)(Q:Bool->Hp->Prop),Inv X pins σ H s->t σ H Q->wpAny (model X.prog X.w) X.A (isTrue e X.env (eval e X.env)) (TP X pins σ Q) X.xe s
def PW(X:Cx)(e:Expr)(t:TT):Prop :=
 ∀(whole:Sem Value)(pins:List (Addr×Obj))(s:Shared)(σ:St)(H:Hp)(Q:Bool->Hp->Prop),Inv X pins σ H s->t σ H Q->wpAny (model X.prog X.w) X.A (isTrue e X.env whole) (TP X pins σ Q) X.xe s
theorem PW.pt{X:Cx}{e:Expr}{t:TT}(h:PW X e t):PT X e t:=h _
def PA(X:Cx)(es:List Expr)(t:TA):Prop :=
 ∀(pos:Pos)(pins:List (Addr×Obj))(s:Shared)(σ:St)(H:Hp)(Q:List V->Hp->Prop),Inv X pins σ H s->t σ H Q->wpAny (model X.prog X.w) X.A (spliced (backTo pos (starEach es X.env))) (AP X pins σ Q) X.xe s
def PS(X:Cx)(st:Stmt)(t:TS):Prop :=
 ∀(pins:List (Addr×Obj))(s:Shared)(σ:St)(H:Hp)(D:Ends),Inv X pins σ H s->t D σ H->wpAny (model X.prog X.w) X.A (exec st X.env) (SP X pins D) X.xe s
def PSs(X:Cx)(st:List Stmt)(t:TS):Prop :=
 ∀(pins:List (Addr×Obj))(s:Shared)(σ:St)(H:Hp)(D:Ends),Inv X pins σ H s->t D σ H->wpAny (model X.prog X.w) X.A (execs st X.env) (SP X pins D) X.xe s
theorem thn{α:Type}{t:Sem α}{Q Q':α->Shared->Prop}{M:Model}{A:Around}{E:Value->Shared->Prop}{s:Shared}(h:wpAny M A t Q E s)(hQ:∀a s,Q a s->Q' a s):wpAny M A t Q' E s:=wpAny_mono h hQ λ_ _ x=>x
variable{ta:TE}{pos:Pos}
section
inductive yC(i:Nat)(σ:St)(H:Hp)(Q:VK):Prop
 |mk (v:_)(_:σ[i]?=some (some v))(_:Q v H):yC i σ H Q
def tC(v:V):TE:=λ_ H Q=>Q v H
theorem yD{i:Nat}{x:Str}{pos:Pos}(hN:X.N[i]?=some x)(hv:Vis X.env.scope x)(hd:(x == ("__debug__" : Str))=false:=by decide) (hcd:(x == ("__classdict__" : Str))=false:=by decide):PE X (.Name x pos) (yC i):=by
 intro pins s σ H Q I h;obtain⟨v,e,h⟩:=h;obtain⟨m,hn,hl⟩:=I.loc;obtain⟨u,r,l⟩:=hl i x v hN e hv;have fin:EP X pins σ Q u s:=⟨v,H,I,r,h⟩;rcases l with⟨hk,hm⟩|⟨hk,c,hc,xW⟩
 ·exact wpAny_Name (wpAny_loadName_local I.ok.kind hk hn hm fin) hd
 ·rcases hk with hk|hk
  ·exact wpAny_Name (wpAny_loadName_cell I.ok.kind hk hc xW fin) hd
  ·exact wpAny_Name (wpAny_loadName_free I.ok.kind hk hc xW fin hcd) hd
theorem ai{i j pos}:PE X (.Constant (.int i) j pos) (tC (.int i)):=λ_ _ _ H _ I h=>wpAny_Constant_int ⟨.int i,H,I.tok _,⟨_,U⟩,h⟩
theorem fT{b j pos}:PE X (.Constant (.bool b) j pos) (tC (.bl b)):=λ_ _ _ H _ I h=>Constant_bool ⟨.bl b,H,I,U,h⟩
theorem vh{j pos}:PE X (.Constant .none j pos) (tC .non):=λ_ _ _ H _ I h=>Constant_none ⟨.non,H,I,U,h⟩
theorem aS{x j pos}:PE X (.Constant (.str x) j pos) (tC (.str x)):=λ_ _ _ H _ I h=>Calls.Constant_str ⟨.str x,H,I.tok _,⟨_,U⟩,h⟩
def Gl(X:Cx)(x:Str):Prop:=X.env.kindOf x=some .globalImplicit
theorem gj{E:Value->Shared->Prop}{pins:List (Addr×Obj)}{s:Shared}{σ:St}{H:Hp}{x:Str}{u:Value}{pos:Pos}{Q:Value->Shared->Prop}(I:Inv X pins σ H s)(hg:Gl X x)(hm:X.mg x=some u)(h:Q u s)
  (hd:(x == ("__debug__" : Str))=false:=by decide):wpAny (model X.prog X.w) X.A (eval (.Name x pos) X.env) Q E s :=
 Calls.Name_function_global I.ok.kind hg (Calls.loadGlobal_global (by rw[I.ok.glob];exact I.mod.glob.keeps I.bk) hm h) hd
theorem gm{E:Value->Shared->Prop}{pins:List (Addr×Obj)}{s:Shared}{σ:St}{H:Hp}{x:Str}{u:Value}{pos:Pos}{Q:Value->Shared->Prop}(I:Inv X pins σ H s)(hg:Gl X x)(hm:X.mg x=none)(hv:bootBuiltins x=some u)(h:Q u s)
  (hn:x ≠ "__name__" := by decide) (hd:(x == ("__debug__" : Str))=false:=by decide):wpAny (model X.prog X.w) X.A (eval (.Name x pos) X.env) Q E s:=by
 obtain⟨mb,h1,h2⟩:=I.mod.blt;exact Calls.Name_function_global I.ok.kind hg (Calls.loadGlobal_builtin (by rw[I.ok.glob];exact I.mod.glob.keeps I.bk) hm (by rw[I.ok.blt];exact h1.keeps I.bk) ((h2 x hn).trans hv) h) hd
theorem cM{x:Str}{v:V}{u:Value}{pos:Pos}(hg:Gl X x)(hm:X.mg x=some u)(r:RelV v u)(hd:(x == ("__debug__" : Str))=false:=by decide):PE X (.Name x pos) (tC v) :=
 λ_ _ _ H _ I h=>gj I hg hm ⟨v,H,I,r,h⟩ hd
theorem oA{x:Str}{v:V}{u:Value}{pos:Pos}(hg:Gl X x)(hm:X.mg x=none)(hv:bootBuiltins x=some u)(r:RelV v u)(hn:x ≠ "__name__" := by decide) (hd:(x == ("__debug__" : Str))=false:=by decide):PE X (.Name x pos) (tC v) :=
 λ_ _ _ H _ I h=>gm I hg hm hv ⟨v,H,I,r,h⟩ hn hd
variable{a b:Expr}{tb:TE}
inductive tBq  (Q:Bool->Hp->Prop)(x:V)(H1:Hp):Prop
 |mk (c:_)(_:x=.bl c)(_:Q c H1):tBq Q x H1
def tB(t:TE):TT:=λσ H Q=>t σ H λx H1=>tBq Q x H1
theorem dg{e:Expr}{t:TE}(h:PE X e t)(he:∀whole,isTrue e X.env whole=(do let v ←whole;standAt e.pos;holding [v] (truthy v)):=by intro _;rfl):PT X e (tB t):=by
 intro pins s σ H Q I hw;refine isTrue_plain (thn (h pins s σ H _ I hw) λv s1 ⟨x,H1,I1,r1,q1⟩=>?_) (he _);obtain⟨d,rfl,q⟩:=q1;cases r1;exact wpAny_truthy_bool ⟨H1,I1,q⟩
variable{tA tB':TT}{rest:List Expr}
def BN(t u:TT):TT:=λσ H Q=>t σ H λc H1=>if c=true then u σ H1 Q else Q false H1
def tOr(t u:TT):TT:=λσ H Q=>t σ H λc H1=>if c=true then Q true H1 else u σ H1 Q
def BO(t:TT):TT:=λσ H Q=>t σ H λc H1=>Q (!c) H1
theorem eP(ha:PT X a tA):PW X (.BoolOp .And [a] pos) tA:=by
 intro wh pins s σ H Q I h;refine isTrue_and (thn (ha pins s σ H Q I h) λc s1 e=>?_);cases c with
 |true=>exact isTrue_and_nil e
 |false=>exact e
theorem lH(ha:PT X a tA):PW X (.BoolOp .Or [a] pos) tA:=by
 intro wh pins s σ H Q I h;refine isTrue_or (thn (ha pins s σ H Q I h) λc s1 e=>?_);cases c with
 |false=>exact isTrue_or_nil e
 |true=>exact e
theorem gn(ha:PT X a tA)(hb:PW X (.BoolOp .And (b :: rest) pos) tB'):PW X (.BoolOp .And (a :: b :: rest) pos) (BN tA tB'):=by
 intro wh pins s σ H Q I h;refine isTrue_and (thn (ha pins s σ H _ I h) λc s1 ⟨H1,I1,q1⟩=>?_);cases c with
 |true=>exact hb wh pins s1 σ H1 Q I1 q1
 |false=>exact⟨H1,I1,q1⟩
theorem nq(ha:PT X a tA)(hb:PW X (.BoolOp .Or (b :: rest) pos) tB'):PW X (.BoolOp .Or (a :: b :: rest) pos) (tOr tA tB'):=by
 intro wh pins s σ H Q I h;refine isTrue_or (thn (ha pins s σ H _ I h) λc s1 ⟨H1,I1,q1⟩=>?_);cases c with
 |true=>exact⟨H1,I1,q1⟩
 |false=>exact hb wh pins s1 σ H1 Q I1 q1
theorem cP(ha:PT X a tA):PT X (.UnaryOp .Not a pos) (BO tA):=by
 intro pins s σ H Q I h;exact isTrue_not (ha pins s σ H (λc H1=>Q (!c) H1) I h)
inductive vi(tb:TE)(σ:St)(Q:VK)(x:V)(H1:Hp):Prop
 |mk (c:_)(_:x=.bl c)(_:if c=true then tb σ H1 Q else Q (.bl false) H1):vi tb σ Q x H1
def Am(ta tb:TE):TE:=λσ H Q=>ta σ H λx H1=>vi tb σ Q x H1
inductive vj  (Q:VK)(x:V)(H1:Hp):Prop
 |mk (c:_)(_:x=.bl c)(_:Q (.bl (!c)) H1):vj Q x H1
def An(ta:TE):TE:=λσ H Q=>ta σ H λx H1=>vj Q x H1
theorem lI{op} {t:TE}(h:PE X a t):PE X (.BoolOp op [a] pos) t:=λpins s σ H Q I hw=>BoolOp_one (h pins s σ H Q I hw)
theorem km(ha:PE X a ta)(hb:PE X (.BoolOp .And (b :: rest) pos) tb):PE X (.BoolOp .And (a :: b :: rest) pos) (Am ta tb):=by
 intro pins s σ H Q I h;refine BoolOp_and (thn (ha pins s σ H _ I h) λv s1 ⟨x,H1,I1,r1,q1⟩=>?_);obtain⟨c,rfl,q1⟩:=q1;cases r1;refine wpAny_truthy_bool ?_;cases c with
 |true=>exact hb pins s1 σ H1 Q I1 q1
 |false=>exact⟨.bl false,H1,I1,U,q1⟩
theorem yE(ha:PE X a ta):PE X (.UnaryOp .Not a pos) (An ta):=by
 intro pins s σ H Q I h;refine UnaryOp_ (thn (ha pins s σ H _ I h) λv s1 ⟨x,H1,I1,r1,q1⟩=>?_);obtain⟨c,rfl,q1⟩:=q1;cases r1;exact not_of (wpAny_truthy_bool ⟨.bl (!c),H1,I1,U,q1⟩)
def tIf(t:TT)(ta tb:TE):TE:=λσ H Q=>t σ H λc H1=>if c=true then ta σ H1 Q else tb σ H1 Q
theorem pT{c:Expr}(hc:PT X c tA)(ha:PE X a ta)(hb:PE X b tb):PE X (.IfExp c a b pos) (tIf tA ta tb):=by
 intro pins s σ H Q I h;refine wpAny_IfExp (thn (hc pins s σ H _ I h) λd s1 ⟨H1,I1,q1⟩=>?_);cases d with
 |true=>exact ha pins s1 σ H1 Q I1 q1
 |false=>exact hb pins s1 σ H1 Q I1 q1
end
def SqL(K:W.Frag)(H:Hp)(a:Addr)(xs:List V):Prop :=
 Rd H a (.lst xs) \/
  ∃(o:Obj)(its:Array Value)(n:Nat),K.lookup a=some o/\o.cls=.type "list" /\ o.dict=none/\o.data=.seq its n/\its.size<=sizeLine/\Vals xs its.toList
def SqT(K:W.Frag)(H:Hp)(a:Addr)(xs:List V):Prop :=
 Rd H a (.tup xs) \/
  ∃(o:Obj)(its:Array Value)(n:Nat),K.lookup a=some o/\o.cls=.type "tuple" /\ o.data=.seq its n/\its.size<=sizeLine/\Vals xs its.toList
def BP:Value->Option V
 | .none=>some .non
 | .bool b=>some (.bl b)
 | .int i _=>some (.int i)
 | .str x _=>some (.str x)
 | .bytes b _=>some (.byt b)
 | .float b _=>some (.flt b)
 | .ref a=>some (.ref a)
 | .type n=>some (.ty n)
 |_=>none
theorem RelV.abs{x:V}{u:Value}(r:RelV x u):BP u=some x:=by
 cases x with
 |non=>cases r;rfl
 |bl _=>cases r;rfl
 |int _=>obtain⟨t,rfl⟩:=r;rfl
 |str _=>obtain⟨t,rfl⟩:=r;rfl
 |byt _=>obtain⟨t,rfl⟩:=r;rfl
 |flt _=>obtain⟨t,rfl⟩:=r;rfl
 |ref _=>cases r;rfl
 |ty _=>cases r;rfl
theorem RelV.inj{x y:V}{u:Value}(r:RelV x u)(q:RelV y u):x=y:=Option.some.inj (r.abs.symm.trans q.abs)
theorem Vals.inj:∀{xs ys:List V}{us:List Value},Vals xs us->Vals ys us->xs=ys
 |_,_,_,.nil,.nil=>rfl
 |_,_,_,.cons r t,.cons r' t'=>by rw[r.inj r',Vals.inj t t']
variable{σ:St}
section
variable{xs ys:List V}
theorem SqL.of{K:W.Frag}(h:H a=some (.lst xs)):SqL K H a xs:=.inl (.inl h)
theorem SqT.of{K:W.Frag}(h:H a=some (.tup xs)):SqT K H a xs:=.inl (.inl h)
theorem Inv.list(I:Inv X pins σ H s)(h:SqL X.K H a xs):∃its:List Value,Vals xs its/\PlainL s.heap a its.toArray/\xs.length<=sizeLine:=by
 rcases h with h|⟨o,its,n,hk,hc,hd,hs,hz,r⟩
 ·obtain⟨z,its,n,r,e⟩:=h.ok I.hok;exact⟨its,r,⟨_,n,e,U,U,U⟩,z⟩
 ·refine⟨its.toList,r,⟨o,n,I.kIn a o hk,hc,hd,by simpa using hs⟩,?_⟩;have e:=r.length;simp only[length_toList]at e;lia
theorem Inv.tuple(I:Inv X pins σ H s)(h:SqT X.K H a xs):∃its:List Value,Vals xs its/\IsTup s.heap a its.toArray/\xs.length<=sizeLine:=by
 rcases h with h|⟨o,its,n,hk,hc,hs,hz,r⟩
 ·obtain⟨z,its,r,p⟩:=h.ok I.hok;exact⟨its,r,p,z⟩
 ·refine⟨its.toList,r,⟨o,I.kIn a o hk,hc,n,by simpa using hs⟩,?_⟩;have e:=r.length;simp only[length_toList]at e;lia
theorem Inv.list_inj(I:Inv X pins σ H s)(h:SqL X.K H a xs)(h':SqL X.K H a ys):xs=ys:=by
 obtain⟨its,r,⟨o,n,e,_,_,d⟩,_⟩:=I.list h;obtain⟨its',r',⟨o',n',e',_,_,d'⟩,_⟩:=I.list h';rw[e]at e';cases e';rw[d]at d';injection d' with d1 _;have:its=its':=by simpa using congrArg Array.toList d1
 subst this;exact r.inj r'
theorem Inv.tuple_inj(I:Inv X pins σ H s)(h:SqT X.K H a xs)(h':SqT X.K H a ys):xs=ys:=by
 obtain⟨its,r,⟨o,e,_,n,d⟩,_⟩:=I.tuple h;obtain⟨its',r',⟨o',e',_,n',d'⟩,_⟩:=I.tuple h';rw[e]at e';cases e';rw[d]at d';injection d' with d1 _;have:its=its':=by simpa using congrArg Array.toList d1
 subst this;exact r.inj r'
end
abbrev Cx.wish(X:Cx)(E:Value->Shared->Prop):Cx:={ X with xe:=E }
abbrev Cx.nox(X:Cx):Cx:=X.wish λ_ _=>False
theorem Cx.Ok.wish{X:Cx}(ok:X.Ok)(E:Value->Shared->Prop):(X.wish E).Ok :=
 ⟨ok.mod,ok.kind,ok.glob,ok.blt,ok.above,ok.inj,ok.has,ok.cab,ok.hd,ok.frames,ok.stk,ok.exf,ok.bs,ok.bsz,ok.noex,ok.exfs,ok.funs,ok.frf⟩
theorem Cx.Ok.unwish{X:Cx}{E:Value->Shared->Prop}(ok:(X.wish E).Ok):X.Ok :=
 ⟨ok.mod,ok.kind,ok.glob,ok.blt,ok.above,ok.inj,ok.has,ok.cab,ok.hd,ok.frames,ok.stk,ok.exf,ok.bs,ok.bsz,ok.noex,ok.exfs,ok.funs,ok.frf⟩
variable{E:Value->Shared->Prop}
theorem Inv.wish(I:Inv X pins σ H s)(E:Value->Shared->Prop):Inv (X.wish E) pins σ H s:=⟨I.ok.wish E,I.os,I.bare,I.base,I.loc,I.cell,I.free,I.freeC,I.pin,I.hok,I.len⟩
theorem Inv.unwish(I:Inv (X.wish E) pins σ H s):Inv X pins σ H s:=⟨I.ok.unwish,I.os,I.bare,I.base,I.loc,I.cell,I.free,I.freeC,I.pin,I.hok,I.len⟩
theorem SP.unwish{D:Ends}{f:Flow}{s':Shared}(h:SP (X.wish E) pins D f s'):SP X pins D f s':=by
 cases f with
 |next=>obtain⟨σ',H',I,q⟩:=h;exact⟨σ',H',I.unwish,q⟩
 |brk=>obtain⟨σ',H',I,q⟩:=h;exact⟨σ',H',I.unwish,q⟩
 |cont=>obtain⟨σ',H',I,q⟩:=h;exact⟨σ',H',I.unwish,q⟩
 |ret u=>obtain⟨v,σ',H',I,r,q⟩:=h;exact⟨v,σ',H',I.unwish,r,q⟩
theorem PSs.nox{st:List Stmt}{t:TS}(h:PSs X.nox st t):PSs X st t:=λpins s σ H D I hw =>
 wpAny_mono (h pins s σ H D (I.wish _) hw) (λ_ _ q=>q.unwish) λ_ _ z=>False.elim z
variable{e:Expr}{te:TE}
section
variable{st:Stmt}{rest:List Stmt}{t u:TS}
def Ao:TS:=λD σ H=>D.nx σ H
def BQ(t u:TS):TS:=λD σ H=>t { D with nx:=u D } σ H
theorem aH:PSs X [] Ao:=λ_ _ σ H _ I h=>wpAny_execs_nil ⟨σ,H,I,h⟩
theorem ay(h1:PS X st t)(h2:PSs X rest u):PSs X (st :: rest) (BQ t u):=by
 intro pins s σ H D I h;refine wpAny_execs_cons (thn (h1 pins s σ H { D with nx:=u D } I h) λf s1 q=>?_);cases f with
 |next =>
  obtain⟨σ',H',I',q⟩:=q;exact h2 pins s1 σ' H' D I' q
 |ret v=>exact q
 |brk=>exact q
 |cont=>exact q
theorem ag(h1:PS X st t):PSs X [st] t:=by
 intro pins s σ H D I h;refine wpAny_execs_cons (thn (h1 pins s σ H D I h) λf s1 q=>?_);cases f with
 |next=>exact wpAny_execs_nil q
 |ret v=>exact q
 |brk=>exact q
 |cont=>exact q
theorem Inv.quiet{pins:List (Addr×Obj)}{σ:St}{H:Hp}{s:Shared}(I:Inv X pins σ H s):interactive X.env=false:=by simp[interactive,I.ok.kind]
def Ap(te:TE):TS:=λD σ H=>te σ H λ_ H1=>D.nx σ H1
theorem aT(he:PE X e te)(hs:swapsWith e none pos.line X.env=pure false:=by rfl):PS X (.Expr e pos) (Ap te):=by
 intro pins s σ H D I h;exact wpAny_Expr_any (thn (he pins s σ H _ I h) λv s1 ⟨x,H1,I1,r1,q1⟩=>⟨σ,H1,I1,q1⟩) I.quiet hs
def BR(te:TE):TS:=λD σ H=>te σ H D.rt
theorem aG(he:PE X e te):PS X (.Return (some e) pos) (BR te):=by
 intro pins s σ H D I h;exact wpAny_Return_some (thn (he pins s σ H _ I h) λv s1 ⟨x,H1,I1,r1,q1⟩=>⟨x,σ,H1,I1,r1,q1⟩)
def BS(c:TT)(t u:TS):TS:=λD σ H=>c σ H λb H1=>if b=true then t D σ H1 else u D σ H1
theorem aQ{c:Expr}{a b:List Stmt}{tc:TT}(hc:PT X c tc)(ha:PSs X a t)(hb:PSs X b u):PS X (.If c a b pos) (BS tc t u):=by
 intro pins s σ H D I h;refine wpAny_If (thn (hc pins s σ H _ I h) λd s1 ⟨H1,I1,q1⟩=>?_);cases d with
 |true=>exact ha pins s1 σ H1 D I1 q1
 |false=>exact hb pins s1 σ H1 D I1 q1
def yF:TS:=λ_ _ _=>False
theorem bc:PS X st yF:=λ_ _ _ _ _ _ h=>h.elim
end
abbrev TG:=V->St->Hp->(St->Hp->Prop)->Prop
abbrev TGs:=List V->St->Hp->(St->Hp->Prop)->Prop
def PG(X:Cx)(target:Expr)(t:TG):Prop :=
 ∀(pins:List (Addr×Obj))(s:Shared)(σ:St)(H:Hp)(v:V)(u:Value)(Q:St->Hp->Prop),Inv X pins σ H s->RelV v u->t v σ H Q ->
  wpAny (model X.prog X.w) X.A (assign target X.env u) (λ_ s'=>∃σ' H',Inv X pins σ' H' s'/\Q σ' H') X.xe s
def PGs(X:Cx)(ts:List Expr)(t:TGs):Prop :=
 ∀(pins:List (Addr×Obj))(s:Shared)(σ:St)(H:Hp)(vs:List V)(us:List Value)(Q:St->Hp->Prop),Inv X pins σ H s->Vals vs us->t vs σ H Q ->
  wpAny (model X.prog X.w) X.A (assignInOrder ((assignEach ts X.env).map (·.2)) us) (λ_ s'=>∃σ' H',Inv X pins σ' H' s'/\Q σ' H') X.xe s
abbrev yG:=V->V->V->Hp->(Hp->Prop)->Prop
def Aq(X:Cx)(t:yG):Prop :=
 ∀(pins:List (Addr×Obj))(s:Shared)(σ:St)(H:Hp)(o i v:V)(ov iv u:Value)(Q:Hp->Prop),Inv X pins σ H s->RelV o ov->RelV i iv->RelV v u->t o i v H Q ->
  wpAny (model X.prog X.w) X.A (setItem ov iv u) (λ_ s'=>∃H',Inv X pins σ H' s'/\Q H') X.xe s
def nr(i:Nat):TG:=λv σ H Q=>Q (σ.set i (some v)) H
theorem aD{i:Nat}{x:Str}(hN:X.N.Nodup)(hi:X.N[i]?=some x)(hx:Loc X.env.scope x)(hf:X.fn x=true\/X.env.scope.names.lookup x=some .local:=by first|exact .inl U|exact .inr U|assumption):PG X (.Name x pos) (nr i):=by
 intro pins s σ H v u Q I r h;exact wpAny_assign_Name (pS I hN hi hx r (λs' I'=>⟨_,H,I',h⟩) hf)
def BU:TGs:=λvs σ H Q=>vs=[]/\Q σ H
def Ar(t:TG)(u:TGs):TGs:=λvs σ H Q=>∃v r,vs=v :: r/\t v σ H λσ' H'=>u r σ' H' Q
theorem bJ:PGs X [] BU:=by
 intro pins s σ H vs us Q I r h;obtain⟨e,h⟩:=h;subst e;cases r;exact assignInOrder_nil ⟨σ,H,I,h⟩
theorem aJ{e:Expr}{es:List Expr}{t:TG}{u:TGs}(h1:PG X e t)(h2:PGs X es u)
  (hs:(assignEach (e :: es) X.env).map (·.2)=assign e X.env :: (assignEach es X.env).map (·.2):=by rfl):PGs X (e :: es) (Ar t u):=by
 intro pins s σ H vs us Q I r h;obtain⟨v,vr,e1,h⟩:=h;subst e1;cases r with
 |cons r rr =>
  rw[hs];refine assignInOrder_cons (thn (h1 pins s σ H _ _ _ I r h) λ_ s1 ⟨σ1,H1,I1,q1⟩=>?_);exact h2 pins s1 σ1 H1 _ _ Q I1 rr q1
def As(K:W.Frag)(n:Nat)(t:TGs):TG:=λv σ H Q=>∃a xs,v=.ref a/\SqT K H a xs/\xs.length=n/\t xs σ H Q
theorem dh{es:List Expr}{k:Nat}{t:TGs}{n:Nat}(hc:X.calm=true)(h:PGs X es t)
  (hn:(assignEach es X.env).length=n:=by rfl)(hst:(assignEach es X.env).findIdx? (·.1)=none:=by rfl):PG X (.Tuple es k pos) (As X.K n t):=by
 intro pins s σ H v u Q I r hw;obtain⟨a,xs,e1,hq,hl,hw⟩:=hw;subst e1;cases r;obtain⟨its,rv,ht,hz⟩:=I.tuple hq;refine assign_Tuple_tuple (I.ok.hd hc) ht (by simp[hn,←hl,rv.length]) hst λh' hx=>?_
 have I1:Inv X pins σ H { s with heap:=h' }:=I.kept (t':=s.toks) λb o e=>hx b o (ne_of_lt (Heap.lt_size e)) e
 exact h pins _ σ H xs _ Q I1 (by simpa using rv) hw
def BV(to ti:TE)(t:yG):TG:=λv σ H Q=>to σ H λo H1=>ti σ H1 λi H2=>t o i v H2 λH3=>Q σ H3
theorem yH{o i:Expr}{to ti:TE}{t:yG}(ho:PE X o to)(hi:PE X i ti)(hs:Aq X t)
  (ha:∀v,assign (.Subscript o i pos) X.env v=(do
   let ov ←holding [v] (eval o X.env)
   let iv ←holding [v,ov] (eval i X.env)
   standAt pos
   holding [v,ov,iv] (setItem ov iv v)
   release [v,ov,iv] []):=by intro _;rfl):PG X (.Subscript o i pos) (BV to ti t):=by
 intro pins s σ H v u Q I r h;rw[ha];refine wpAny_bind (wpAny_holding (thn (ho pins s σ H _ I h) λov s1 ⟨x,H1,I1,r1,q1⟩=>?_));refine wpAny_bind (wpAny_holding (thn (hi pins s1 σ H1 _ I1 q1) λiv s2 ⟨y,H2,I2,r2,q2⟩=>?_));refine wpAny_bind (wpAny_standAt (wpAny_bind (wpAny_holding (thn (hs pins s2 σ H2 x y v ov iv u _ I2 r1 r2 r q2) λ_ s3 ⟨H3,I3,q3⟩=>?_))));exact wpAny_release ⟨σ,H3,I3,q3⟩
def xa(te:TE)(g:TG):TS:=λD σ H=>te σ H λx H1=>g x σ H1 D.nx
theorem gY{tg e:Expr}{te:TE}{g:TG}(he:PE X e te)(hg:PG X tg g)(hs:swapsWithSole [tg] e pos.line X.env=pure false:=by rfl)(hw:swappedStores [tg] e X.env=pure none:=by rfl)
  (h1:(assignEach [tg] X.env).map (·.2)=[assign tg X.env]:=by rfl):PS X (.Assign [tg] e pos) (xa te g):=by
 intro pins s σ H D I h;refine wpAny_Assign_stores (thn (he pins s σ H _ I h) λv s1 ⟨x,H1,I1,r1,q1⟩=>?_) hs hw;rw[h1];exact thn (hg pins s1 σ H1 x v _ I1 r1 q1) λ_ s2 q=>q
theorem aK{i:Nat}{x:Str}{e:Expr}{te:TE}{pos':Pos}(hN:X.N.Nodup)(hi:X.N[i]?=some x)(hx:Loc X.env.scope x)(he:PE X e te)(hs:swapsWith e (some (.Name x pos')) pos.line X.env=pure false:=by rfl)(hf:X.fn x=true\/X.env.scope.names.lookup x=some .local:=by first|exact .inl U|exact .inr U|assumption) :
  PS X (.Assign [.Name x pos'] e pos) (xa te (nr i)):=by
 intro pins s σ H D I h;refine wpAny_Assign_Name (thn (he pins s σ H _ I h) λv s1 ⟨y,H1,I1,r1,q1⟩=>?_) hs;exact pS I1 hN hi hx r1 (λs2 I2=>⟨_,H1,I2,q1⟩) hf
def yI(c:TT)(tb:TS):TS:=λD σ H=>∃W:Nat->St->Hp->Prop,(∃m,W m σ H)/\∀m σ H,W m σ H ->
 c σ H λb H1=>if b=true then ∃N:St->Hp->Prop,(∀σ' H',N σ' H'->∃m',m'<m/\W m' σ' H')/\tb { D with nx:=N,ct:=N,bk:=D.nx } σ H1 else D.nx σ H1
theorem vk{c:Expr}{body:List Stmt}{tc:TT}{tb:TS}(hp:PassesOwn (model X.prog X.w) X.A X.env X.xe)(hc:PT X c tc)(hb:PSs X body tb):PS X (.While c body [] pos) (yI tc tb):=by
 intro pins s σ H D I h;obtain⟨W,⟨m0,w0⟩,turn⟩:=h;refine wpAny_While (codeAny_whileLoop (λn s'=>∃σ' H',Inv X pins σ' H' s'/\W n σ' H') ?_ m0 ⟨σ,H,I,w0⟩);rintro n s1 ⟨σ1,H1,I1,w1⟩;refine wpAny_passesOwn hp (thn (hc pins s1 σ1 H1 _ I1 (turn n σ1 H1 w1)) λb s2 ⟨H2,I2,q2⟩=>?_);cases b with
 |true =>
  obtain⟨N,hN,q2⟩:=q2;rw[if_pos U];refine wpAny_passesOwn hp (thn (hb pins s2 σ1 H2 _ I2 q2) λf s3 q3=>?_);cases f with
  |next =>
   obtain⟨σ3,H3,I3,n3⟩:=q3;obtain⟨m',hm,w3⟩:=hN σ3 H3 n3;exact⟨m',hm,σ3,H3,I3,w3⟩
  |cont =>
   obtain⟨σ3,H3,I3,n3⟩:=q3;obtain⟨m',hm,w3⟩:=hN σ3 H3 n3;exact⟨m',hm,σ3,H3,I3,w3⟩
  |brk=>exact q3
  |ret v=>exact q3
 |false =>
  rw[if_neg Bool.false_ne_true];exact wpAny_execs_nil ⟨σ1,H2,I2,q2⟩
structure It where
 go:Nat->Hp->Prop
 yld:Nat->Hp->V->Hp->Prop
 stop:Nat->Hp->Prop
def kn(X:Cx)(pins:List (Addr×Obj))(H:Hp)(b:Addr):Prop :=
 H b=none/\b≠X.env.locals/\b ∉ X.fs/\(b∈X.ex\/X.s₀.heap.objs.size<=b)/\(∀x c,X.env.cells.lookup x=some c->c≠b)/\∀p∈X.pn++pins,p.1≠b
theorem Inv.fpOk{X:Cx}{pins:List (Addr×Obj)}{σ:St}{H H':Hp}{s:Shared}{b:Addr}(I:Inv X pins σ H s)(hb:s.heap.objs.size<=b)(hn:H' b=none):kn X pins H' b:=by
 refine⟨hn,ne_of_gt (lt_of_lt_of_le I.lt hb),I.nofs hb,.inr (le_trans I.sz hb),λx c e z=>?_,λp hp z=>?_⟩
 ·obtain⟨v,q⟩:=I.cell x c e;exact absurd (lt_of_lt_of_le q.lt (by rw[z];exact hb)) (lt_irrefl _)
 ·exact absurd (lt_of_lt_of_le (Heap.lt_size (I.pin p hp).1) (by rw[z];exact hb)) (lt_irrefl _)
structure Turn(P:Program)(w:World)(K:W.Frag)(tg:Expr)(J:It)(fp:List Addr)(it:Addr)(tn:Nat->Heap->Prop):Prop where
 mem:it∈fp
 obj:∀i h,tn i h->∀b∈fp,∃o,h.get? b=some o/\∀v,o.data≠.cell v
 keep:∀i h h',tn i h->(∀b∈fp,∀o,h.get? b=some o->h'.get? b=some o)->tn i h'
 item:∀(X:Cx),X.prog=P->X.w=w->X.K=K->X.calm=true->∀(i:Nat)(pins:List (Addr×Obj))(s:Shared)(σ:St)(H:Hp)(E:Value->Shared->Prop),Inv X pins σ H s->(∀b∈fp,kn X pins H b)->tn i s.heap->J.go i H ->
  wpAny (model P w) X.A (pyNext (.ref it)) (λr s1=>∃u,r=some u /\
   wpAny (model P w) X.A (letOwnedTupleGo tg (.ref it) u) (λ_ s2=>∃x H',Inv X pins σ H' s2/\RelV x u/\J.yld i H x H'/\tn (i+1) s2.heap/\∀b∈fp,H' b=none) E s1) E s
 done:∀(X:Cx),X.prog=P->X.w=w->X.K=K->X.calm=true->∀(i:Nat)(pins:List (Addr×Obj))(s:Shared)(σ:St)(H:Hp)(E:Value->Shared->Prop),Inv X pins σ H s->(∀b∈fp,kn X pins H b)->tn i s.heap->J.stop i H ->
  wpAny (model P w) X.A (pyNext (.ref it)) (λr s1=>r=none/\Inv X pins σ H s1) E s
 self:∀(A:Around)(i:Nat)(s:Shared)(Q:Value->Shared->Prop)(E:Value->Shared->Prop),tn i s.heap->Q (.ref it) s->wpAny (model P w) A (pyIter (.ref it)) Q E s
abbrev TI:=St->Hp->(It->Hp->Prop)->Prop
def PIE(X:Cx)(pins:List (Addr×Obj))(σ:St)(tg:Expr)(R:It->Hp->Prop)(itv:Value)(s2:Shared):Prop :=
 ∃(it:Addr)(fp:List Addr)(tn:Nat->Heap->Prop)(J:It)(H':Hp),itv=.ref it/\Inv X pins σ H' s2/\Turn X.prog X.w X.K tg J fp it tn/\tn 0 s2.heap/\(∀b∈fp,kn X pins H' b)/\R J H'
def PI(X:Cx)(tg iter:Expr)(wi:TI):Prop :=
 ∀(pins:List (Addr×Obj))(s:Shared)(σ:St)(H:Hp)(R:It->Hp->Prop),Inv X pins σ H s->wi σ H R ->
  wpAny (model X.prog X.w) X.A (eval iter X.env) (λv s1=>wpAny (model X.prog X.w) X.A (pyIter v) (PIE X pins σ tg R) X.xe s1) X.xe s
theorem sQ{M:Model}{A:Around}{E:Value->Shared->Prop}{s:Shared}{tg:Expr}{it:Addr}{u:Value}{o:Obj}{n:String}{vs:Array Value}{Q:Unit->Shared->Prop}(ho:s.heap.get? it=some o)(hc:o.cls=.type n)(hd:o.data=.fields vs)
  (hn:["enumerate","zip","dict_itemiterator","dict_reverseitemiterator","odict_iterator","itertools.zip_longest","itertools.pairwise"].contains n=false) (hQ:Q () s):wpAny M A (letOwnedTupleGo tg (.ref it) u) Q E s:=by
 unfold letOwnedTupleGo
 cases tg <;> first
  |exact wpAny_pure hQ
  |(cases u <;> first
    |exact wpAny_pure hQ
    |(refine wpAny_bind (wpAny_load ho ?_);rw[hc,hd];show wpAny M A (if (["enumerate","zip","dict_itemiterator","dict_reverseitemiterator","odict_iterator","itertools.zip_longest","itertools.pairwise"].contains n && vs[0]? == some (rawInt _))=true then _ else _) Q E s;rw[if_neg (by intro h;rw[hn,Bool.false_and]at h;cases h)];exact wpAny_pure hQ))
def Itl(K:W.Frag)(a:Addr):It :=
 ⟨λi H=>∃xs x,SqL K H a xs/\xs[i]?=some x,λi H x H'=>H'=H/\∀xs,SqL K H a xs->xs[i]?=some x,λi H=>∃xs,SqL K H a xs/\xs.length<=i⟩
def Itr(lo:Int)(n:Nat):It:=⟨λi _=>i<n,λi H x H'=>H'=H/\x=.int (lo+i),λi _=>n<=i⟩
theorem um{P:Program}{w:World}{K:W.Frag}{tg:Expr}(a it:Addr):Turn P w K tg (Itl K a) [it] it (λi h=>h.IsListIter it a i) where
 mem:=by simp
 obj:=λi h st b hb=>by
  have e:b=it:=by simpa using hb
  subst e;obtain⟨o,e,c,d⟩:=st;exact⟨o,e,λv z=>by rw[d]at z;cases z⟩
 keep:=λi h h' st k=>st.at λo e=>k it (by simp) o e
 item:=by
  intro X hP hw hK hc i pins s σ H E I hf st hg;subst hP hw hK;obtain⟨xs,x,hq,hx⟩:=hg;obtain⟨its,rv,p,hz⟩:=I.list hq;obtain⟨u,hu,ru⟩:=rv.get hx;obtain⟨f0,f1,f2,f3,f4,f5⟩:=hf it (by simp);refine wpAny_pyNext_list_item st p.isList (x:=u) (by simpa using hu) λh' st' sb=>?_
  have I1:Inv X pins σ H { s with heap:=h' }:=I.turned (t':=s.toks) (λb o hb e=>(sb.2 b hb).trans e) f0 f1 f3 f4 f5;obtain⟨o,e,c,d⟩:=id st';exact⟨u,U,sQ (s:={ s with heap:=h' }) e c d (by decide) ⟨x,H,I1,ru,⟨U,λys hy=>by rw[I.list_inj hy hq];exact hx⟩,st',λb hb=>(hf b hb).1⟩⟩
 done:=by
  intro X hP hw hK hc i pins s σ H E I hf st hg;subst hP hw hK;obtain⟨xs,hq,hx⟩:=hg;obtain⟨its,rv,p,hz⟩:=I.list hq;obtain⟨f0,f1,f2,f3,f4,f5⟩:=hf it (by simp);have hl:=rv.length;exact wpAny_pyNext_list_end (I.ok.hd hc) st p.isList (by simp;lia) λh' eb=>⟨U,I.turned (t':=s.toks) (λb o hb e=>eb b o hb e) f0 f1 f3 f4 f5⟩
 self:=λ_ _ _ _ _ st h=>wpAny_pyIter_listiter st h
theorem qW{P:Program}{w:World}{K:W.Frag}{tg:Expr}(it:Addr)(lo:Int)(n:Nat):Turn P w K tg (Itr lo n) [it] it (λi h=>IsRangeIter h it (lo+(i:Nat)*1) ((n:Int)-(i:Nat)) 1) where
 mem:=by simp
 obj:=λi h st b hb=>by
  have e:b=it:=by simpa using hb
  subst e;exact⟨_,st,λv z=>by
   have z':Data.fields _=Data.cell v:=z;cases z'⟩
 keep:=λi h h' st k=>k it (by simp) _ st
 item:=by
  intro X hP hw hK hc i pins s σ H E I hf st hg;subst hP hw hK;obtain⟨f0,f1,f2,f3,f4,f5⟩:=hf it (by simp);have W:=Walks.range (prog:=X.prog) (w:=X.w) (I.ok.hd hc) it lo 1 n;refine W.item i s _ _ hg st λv h' tk hv st' kk=>?_
  obtain⟨t,rfl⟩:=hv;have I1:Inv X pins σ H { s with heap:=h',toks:=tk }:=I.turned (λb o hb e=>kk b o (by simpa using hb) e) f0 f1 f3 f4 f5;refine⟨_,U,sQ (s:={ s with heap:=h',toks:=tk }) (n := "range_iterator") st' U U (by decide) ⟨.int (lo+i),H,I1,⟨t,?_⟩,⟨U,U⟩,st',λb hb=>(hf b hb).1⟩⟩;rw[Int.mul_one]
 done:=by
  intro X hP hw hK hc i pins s σ H E I hf st hg;subst hP hw hK;obtain⟨f0,f1,f2,f3,f4,f5⟩:=hf it (by simp);exact wpAny_pyNext_range_end (I.ok.hd hc) st (by have:n<=i:=hg;lia) λh' eb=>⟨U,I.turned (t':=s.toks) (λb o hb e=>eb b o hb e) f0 f1 f3 f4 f5⟩
 self:=λ_ _ _ _ _ st h=>wpAny_pyIter_rangeiter st h
section
variable{tg:Expr}
inductive vm(K:W.Frag)(R:It->Hp->Prop)(x:V)(H1:Hp):Prop
 |mk (a:_)(_:x=.ref a)(_:(∃xs,SqL K H1 a xs))(_:R (Itl K a) H1):vm K R x H1
def xX(K:W.Frag)(tl:TE):TI:=λσ H R=>tl σ H λx H1=>vm K R x H1
theorem aO{l:Expr}{tl:TE}(hl:PE X l tl):PI X tg l (xX X.K tl):=by
 intro pins s σ H R I h;refine thn (hl pins s σ H _ I h) λv s1 ⟨x,H1,I1,r1,q1⟩=>?_
 obtain⟨a,e,⟨xs,hq⟩,q⟩:=q1;subst e;cases r1;obtain⟨its,rv,p,hz⟩:=I1.list hq;refine wpAny_pyIter_list p.isList ?_;refine⟨s1.heap.objs.size,[s1.heap.objs.size],_,_,H1,U,I1.kept (t':=s1.toks) λb o e=>Heap.get?_push_of_some _ e,um a _,⟨_,Heap.get?_push_size _ U,U,U⟩,λb hb=>?_,q⟩;have e:b=s1.heap.objs.size:=by simpa using hb
 subst e;exact I1.fpOk (le_refl _) (I1.hok.fresh (le_refl _))
theorem pU{pins:List (Addr×Obj)}{σ:St}{H:Hp}{s:Shared}{R:It->Hp->Prop}{E:Value->Shared->Prop}{lo hi:Int}{t u v:Tok}{tk:Nat}(I:Inv X pins σ H s)(h1 : -(2^62)<=lo)(h2:lo<2^62)(h3 : -(2^62)<=hi)(h4:hi<2^62)
  (q:R (Itr lo (hi-lo).toNat) H):wpAny (model X.prog X.w) X.A (pyIter (.ref s.heap.objs.size)) (PIE X pins σ tg R) E { s with heap:=s.heap.push { cls:=.type "range",data:=.fields #[.int lo t,.int hi u,.int 1 v] },toks:=tk }:=by
 refine wpAny_pyIter_range (IsRange.new ..) (small_one h1 h2 h3 h4) ?_;have I1:Inv X pins σ H { s with heap:=s.heap.push { cls:=.type "range",data:=.fields #[.int lo t,.int hi u,.int 1 v] },toks:=tk }:=I.kept λb o e=>Heap.get?_push_of_some _ e
 refine⟨(s.heap.push { cls:=.type "range",data:=.fields #[.int lo t,.int hi u,.int 1 v] }).objs.size,[(s.heap.push { cls:=.type "range",data:=.fields #[.int lo t,.int hi u,.int 1 v] }).objs.size],_,_,H,U,
  I1.kept (t':=tk) λb o e=>Heap.get?_push_of_some _ e,qW _ lo (hi-lo).toNat,?_,λb hb=>?_,q⟩
 ·have e1:lo+((0:Nat):Int)*1=lo:=by simp
  have e2:(((hi-lo).toNat:Nat):Int)-((0:Nat):Int)=Builtin.Range.rangeSize lo hi 1:=by rw[rangeSize_one];split <;> lia
  show IsRangeIter _ _ (lo+((0:Nat):Int)*1) ((((hi-lo).toNat:Nat):Int)-((0:Nat):Int)) 1;rw[e1,e2];exact Heap.get?_push_size _ U
 ·have e:b=(s.heap.push { cls:=.type "range",data:=.fields #[.int lo t,.int hi u,.int 1 v] }).objs.size:=by simpa using hb
  subst e;exact I1.fpOk (le_refl _) (I1.hok.fresh (le_refl _))
inductive vn  (R:It->Hp->Prop)(vs:List V)(H1:Hp):Prop
 |mk (j:Int)(_:vs=[.int j])(_ : -(2^62)<=j)(_:j<2^62)(_:R (Itr 0 j.toNat) H1):vn R vs H1
def Au(ta:TA):TI:=λσ H R=>ta σ H λvs H1=>vn R vs H1
inductive vo  (R:It->Hp->Prop)(vs:List V)(H1:Hp):Prop
 |mk (i j:Int)(_:vs=[.int i,.int j])(_:(-(2^62)<=i/\i<2^62/\-(2^62)<=j/\j<2^62))(_:R (Itr i (j-i).toNat) H1):vo R vs H1
def Av(ta:TA):TI:=λσ H R=>ta σ H λvs H1=>vo R vs H1
theorem br{a:Expr}{ta:TA}{p pos:Pos}(hg:Gl X "range") (hm:X.mg "range" = none) (ha:PA X [a] ta)(hs:starEach [a] X.env=[(false,eval a X.env)]:=by rfl):PI X tg (.Call (.Name "range" p) [a] [] pos) (Au ta):=by
 intro pins s σ H R I h;refine Call_ (gm I hg hm boot_range (PyProof.Rows.callWith_type1 (thn (ha pos pins s σ H _ I h) λus s1 ⟨vs,H1,I1,r1,q1⟩=>?_) hs U));obtain⟨j,e,q1,q2,q⟩:=q1;subst e;cases r1 with
 |cons r rr =>
  cases rr;obtain⟨t,rfl⟩:=r;exact call_range_1 (pU I1 (by lia) (by lia) q1 q2 (by simpa using q))
theorem ko{a b:Expr}{ta:TA}{p pos:Pos}(hg:Gl X "range") (hm:X.mg "range" = none) (ha:PA X [a,b] ta)(hs:starEach [a,b] X.env=[(false,eval a X.env),(false,eval b X.env)]:=by rfl)(hs2:starEach [b] X.env=[(false,eval b X.env)]:=by rfl) :
  PI X tg (.Call (.Name "range" p) [a,b] [] pos) (Av ta):=by
 intro pins s σ H R I h;refine Call_ (gm I hg hm boot_range (PyProof.Rows.callWith_type1 (thn (ha pos pins s σ H _ I h) λus s1 ⟨vs,H1,I1,r1,q1⟩=>?_) (by rw[hs,hs2]) (by rw[hs2];rfl)));obtain⟨i,j,e,⟨q1,q2,q3,q4⟩,q⟩:=q1;subst e;cases r1 with
 |cons r rr =>
  cases rr with
  |cons r' rr =>
   cases rr;obtain⟨t,rfl⟩:=r;obtain⟨t',rfl⟩:=r';exact call_range_2 (pU I1 q1 q2 q3 q4 q)
def BX(wi:TI)(g:TG)(tb:TS):TS:=λD σ H=>wi σ H λJ H1=>∃W:Nat->Nat->St->Hp->Prop,(∃m,W 0 m σ H1)/\∀i m σ H,W i m σ H ->
 (J.stop i H/\D.nx σ H)\/(J.go i H/\∃N:St->Hp->Prop,(∀σ' H',N σ' H'->∃m',m'<m/\W (i+1) m' σ' H')/\∀x H',J.yld i H x H'->g x σ H' λσ2 H2=>tb { D with nx:=N,ct:=N,bk:=D.nx } σ2 H2)
def kq(fp:List Addr)(h:Heap):List (Addr×Obj):=fp.filterMap λb=>(h.get? b).map λo=>(b,o)
theorem dX{fp:List Addr}{h:Heap}{b:Addr}{o:Obj}(hb:b∈fp)(e:h.get? b=some o):(b,o)∈kq fp h:=mem_filterMap.mpr ⟨b,hb,by rw[e];rfl⟩
theorem uo{fp:List Addr}{h:Heap}{p:Addr×Obj}(hp:p∈kq fp h):p.1∈fp/\h.get? p.1=some p.2:=by
 obtain⟨b,hb,e⟩:=mem_filterMap.mp hp;cases q:h.get? b with
 |none=>rw[q]at e;cases e
 |some o =>
  rw[q]at e;have e':(b,o)=p:=Option.some.inj e;subst e';exact⟨hb,q⟩
theorem Inv.pinned{pins:List (Addr×Obj)}{σ:St}{H:Hp}{s:Shared}{fp:List Addr}(I:Inv X pins σ H s)(hf:∀b∈fp,kn X pins H b)(ho:∀b∈fp,∃o,s.heap.get? b=some o/\∀v,o.data≠.cell v):Inv X (pins++kq fp s.heap) σ H s :=
 I.pins_of λp hp=>(mem_append.mp hp).elim (λz=>I.pin p (mem_append_right _ z)) λz=>by
  obtain⟨hb,e⟩:=uo z;obtain⟨f0,f1,f2,_⟩:=hf p.1 hb;obtain⟨o,e',d⟩:=ho p.1 hb;rw[e]at e';cases e';exact⟨e,f0,f1,f2,d⟩
theorem Inv.unpinned{pins pl:List (Addr×Obj)}{σ:St}{H:Hp}{s:Shared}(I:Inv X (pins++pl) σ H s):Inv X pins σ H s:=I.pins_of λp hp=>I.pin p (mem_append_right _ (mem_append_left _ hp))
theorem bf{iter:Expr}{body:List Stmt}{wi:TI}{g:TG}{tb:TS}{pos:Pos}(hp:PassesOwn (model X.prog X.w) X.A X.env X.xe)(hc:X.calm=true)(hi:PI X tg iter wi)(hg:PG X tg g)(hb:PSs X body tb)
  (hs:∀x,foldedSetIterable iter X.env x=pure x:=by intro _;rfl):PS X (.For tg iter body [] pos) (BX wi g tb):=by
 intro pins s σ H D I h;refine wpAny_For (thn (hi pins s σ H _ I h) λv s1 h1=>thn h1 λitv s2 h2=>?_) hs;obtain⟨it,fp,tn,J,H2,e,I2,T,st2,f2,W,⟨m0,w0⟩,turn⟩:=h2;subst e;have yJ:∀{H':Hp},(∀b∈fp,H' b=none)->∀b∈fp,kn X pins H' b:=λhn b hb=>⟨hn b hb,(f2 b hb).2⟩
 refine codeAny_forLoop_any (λn s'=>∃i σ' H',Inv X pins σ' H' s'/\tn i s'.heap/\(∀b∈fp,H' b=none)/\W i n σ' H') ?_ m0 ⟨0,σ,H2,I2,st2,λb hb=>(f2 b hb).1,w0⟩;rintro n s3 ⟨i,σ3,H3,I3,st3,fr3,w3⟩;rcases turn i n σ3 H3 w3 with⟨stop,qn⟩|⟨go,N,hN,step⟩
 ·refine wpAny_passesOwn hp (thn (T.done X U U U hc i pins s3 σ3 H3 X.xe I3 (yJ fr3) st3 stop) λr s4 ⟨hr,I4⟩=>?_);subst hr;exact wpAny_execs_nil ⟨σ3,H3,I4,qn⟩
 ·refine wpAny_passesOwn hp (thn (T.item X U U U hc i pins s3 σ3 H3 X.xe I3 (yJ fr3) st3 go) λr s4 ⟨u,hr,h4⟩=>?_);subst hr;refine wpAny_passesOwn hp (thn h4 λ_ s5 ⟨x,H5,I5,r5,y5,st5,fr5⟩=>?_);have I5':=I5.pinned (yJ fr5) (T.obj _ _ st5);refine wpAny_passesOwn hp (thn (hg _ s5 σ3 H5 x u _ I5' r5 (step x H5 y5)) λ_ s6 ⟨σ6,H6,I6,q6⟩=>?_);refine wpAny_passesOwn hp (thn (hb _ s6 σ6 H6 _ I6 q6) λf s7 q7=>?_);have again:∀{σ7:St}{H7:Hp},Inv X (pins++kq fp s5.heap) σ7 H7 s7->N σ7 H7->∃m,m<n/\∃i σ' H',Inv X pins σ' H' s7/\tn i s7.heap/\(∀b∈fp,H' b=none)/\W i m σ' H':=λ{σ7 H7} I7 n7=>by
   obtain⟨m',hm,w7⟩:=hN σ7 H7 n7;refine⟨m',hm,i+1,σ7,H7,I7.unpinned,T.keep _ _ _ st5 λb hb o e=>(I7.pin (b,o) (mem_append_right _ (mem_append_right _ (dX hb e)))).1,λb hb=>?_,w7⟩;obtain⟨o,e,d⟩:=T.obj _ _ st5 b hb;exact(I7.pin (b,o) (mem_append_right _ (mem_append_right _ (dX hb e)))).2.1
  cases f with
  |next=>obtain⟨σ7,H7,I7,n7⟩:=q7;exact again I7 n7
  |cont=>obtain⟨σ7,H7,I7,n7⟩:=q7;exact again I7 n7
  |brk=>obtain⟨σ7,H7,I7,q7⟩:=q7;exact⟨σ7,H7,I7.unpinned,q7⟩
  |ret v=>obtain⟨x7,σ7,H7,I7,r7,q7⟩:=q7;exact⟨x7,σ7,H7,I7.unpinned,r7,q7⟩
end
theorem bg{K:W.Frag}{a:Addr}{xs:List V}{g:TG}{tb:TS}{D:Ends}{σ:St}{H:Hp}(Pv:Nat->St->Hp->Prop)(h0:Pv 0 σ H)(hl:∀i σ H,i<=xs.length->Pv i σ H->SqL K H a xs)
  (hs:∀i x σ H,xs[i]?=some x->Pv i σ H->g x σ H λσ2 H2=>tb { D with nx:=Pv (i+1),ct:=Pv (i+1),bk:=D.nx } σ2 H2)(hd:∀σ H,Pv xs.length σ H->D.nx σ H) :
  ∃W:Nat->Nat->St->Hp->Prop,(∃m,W 0 m σ H)/\∀i m σ H,W i m σ H ->
   ((Itl K a).stop i H/\D.nx σ H)\/((Itl K a).go i H/\∃N:St->Hp->Prop,(∀σ' H',N σ' H'->∃m',m'<m/\W (i+1) m' σ' H')/\∀x H',(Itl K a).yld i H x H'->g x σ H' λσ2 H2=>tb { D with nx:=N,ct:=N,bk:=D.nx } σ2 H2):=by
 refine⟨λi m σ H=>m=xs.length-i/\i<=xs.length/\Pv i σ H,⟨xs.length,by simp,zero_le _,h0⟩,?_⟩;rintro i m σ H ⟨rfl,hi,p⟩;have q:=hl i σ H hi p;by_cases hlt:i<xs.length
 ·refine .inr ⟨⟨xs,xs[i],q,by simp[hlt]⟩,Pv (i+1),λσ' H' p'=>⟨xs.length-(i+1),by lia,U,hlt,p'⟩,λx H' y=>?_⟩;obtain⟨e,y⟩:=y;subst e;exact hs i x σ _ (y xs q) p
 ·have e:i=xs.length:=by lia
  subst e;exact .inl ⟨⟨xs,q,le_refl _⟩,hd σ H p⟩
theorem dG{lo:Int}{n:Nat}{g:TG}{tb:TS}{D:Ends}{σ:St}{H:Hp}(Pv:Nat->St->Hp->Prop)(h0:Pv 0 σ H)
  (hs:∀i σ H,i<n->Pv i σ H->g (.int (lo+i)) σ H λσ2 H2=>tb { D with nx:=Pv (i+1),ct:=Pv (i+1),bk:=D.nx } σ2 H2)(hd:∀σ H,Pv n σ H->D.nx σ H) :
  ∃W:Nat->Nat->St->Hp->Prop,(∃m,W 0 m σ H)/\∀i m σ H,W i m σ H ->
   ((Itr lo n).stop i H/\D.nx σ H)\/((Itr lo n).go i H/\∃N:St->Hp->Prop,(∀σ' H',N σ' H'->∃m',m'<m/\W (i+1) m' σ' H')/\∀x H',(Itr lo n).yld i H x H'->g x σ H' λσ2 H2=>tb { D with nx:=N,ct:=N,bk:=D.nx } σ2 H2):=by
 refine⟨λi m σ H=>m=n-i/\i<=n/\Pv i σ H,⟨n,by simp,zero_le _,h0⟩,?_⟩;rintro i m σ H ⟨rfl,hi,p⟩;by_cases hlt:i<n
 ·refine .inr ⟨hlt,Pv (i+1),λσ' H' p'=>⟨n-(i+1),by lia,U,hlt,p'⟩,λx H' y=>?_⟩;obtain⟨e,y⟩:=y;subst e y;exact hs i σ _ hlt p
 ·have e:i=n:=by lia
  subst e;exact .inl ⟨le_refl _,hd σ H p⟩
abbrev R2:=V->V->Hp->VK->Prop
def OpR(X:Cx)(f:Value->Value->Sem Value)(r:R2):Prop :=
 ∀(pins:List (Addr×Obj))(s:Shared)(σ:St)(H:Hp)(x y:V)(v u:Value)(Q:VK),Inv X pins σ H s->RelV x v->RelV y u->r x y H Q ->
  wpAny (model X.prog X.w) X.A (f v u) (EP X pins σ Q) X.xe s
def UnR(X:Cx)(f:Value->Sem Value)(r:V->Hp->VK->Prop):Prop :=
 ∀(pins:List (Addr×Obj))(s:Shared)(σ:St)(H:Hp)(x:V)(v:Value)(Q:VK),Inv X pins σ H s->RelV x v->r x H Q ->
  wpAny (model X.prog X.w) X.A (f v) (EP X pins σ Q) X.xe s
def cw(X:Cx)(f:Value)(r:List V->Hp->VK->Prop):Prop :=
 ∀(pins:List (Addr×Obj))(s:Shared)(σ:St)(H:Hp)(xs:List V)(us:List Value)(Q:VK),Inv X pins σ H s->Vals xs us->r xs H Q ->
  wpAny (model X.prog X.w) X.A (call f us) (EP X pins σ Q) X.xe s
def BY(X:Cx)(r:V->Hp->(Bool->Hp->Prop)->Prop):Prop :=
 ∀(pins:List (Addr×Obj))(s:Shared)(σ:St)(H:Hp)(x:V)(v:Value)(Q:Bool->Hp->Prop),Inv X pins σ H s->RelV x v->r x H Q ->
  wpAny (model X.prog X.w) X.A (truthy v) (TP X pins σ Q) X.xe s
def tOp(r:R2)(ta tb:TE):TE:=λσ H Q=>ta σ H λx H1=>tb σ H1 λy H2=>r x y H2 Q
def tUn(r:V->Hp->VK->Prop)(ta:TE):TE:=λσ H Q=>ta σ H λx H1=>r x H1 Q
inductive rI(C:Int->Int->Prop)(g:Int->Int->V)(x:V)(y:V)(H:Hp)(Q:VK):Prop
 |mk (i j:_)(_:x=.int i)(_:y=.int j)(_:C i j)(_:Q (g i j) H):rI C g x y H Q
inductive rI0(g:Int->Int->V)(x:V)(y:V)(H:Hp)(Q:VK):Prop
 |mk (i j:_)(_:x=.int i)(_:y=.int j)(_:Q (g i j) H):rI0 g x y H Q
inductive rU(g:Int->V)(x:V)(H:Hp)(Q:VK):Prop
 |mk (i:_)(_:x=.int i)(_:Q (g i) H):rU g x H Q
section
variable{a b c:Expr}{tb tc:TE}
theorem yK(ha:PE X a ta)(hb:PE X b tb){pins:List (Addr×Obj)}{s:Shared}{σ:St}{H:Hp}{R:V->V->Hp->Prop}(I:Inv X pins σ H s)
  (h:ta σ H λx H1=>tb σ H1 λy H2=>R x y H2){Q:Value->Shared->Prop}{f:Value->Value->Sem Value}
  (hf:∀v u s2 x y H2,Inv X pins σ H2 s2->RelV x v->RelV y u->R x y H2->wpAny (model X.prog X.w) X.A (f v u) Q X.xe s2) :
  wpAny (model X.prog X.w) X.A (eval a X.env) (λv s₁=>wpAny (model X.prog X.w) X.A (eval b X.env) (λu s₂=>wpAny (model X.prog X.w) X.A (f v u) Q X.xe s₂) X.xe s₁) X.xe s:=by
 refine thn (ha pins s σ H _ I h) λv s1 ⟨x,H1,I1,r1,q1⟩=>?_
 refine thn (hb pins s1 σ H1 _ I1 q1) λu s2 ⟨y,H2,I2,r2,q2⟩=>?_
 exact hf v u s2 x y H2 I2 r1 r2 q2
theorem aE{op:Operator}{r:R2}(ho:OpR X (binaryOp op) r)(ha:PE X a ta)(hb:PE X b tb):PE X (.BinOp a op b pos) (tOp r ta tb):=by
 intro pins s σ H Q I h;exact wpAny_BinOp (yK ha hb I h λv u s2 x y H2 I2 rx ry q=>ho pins s2 σ H2 x y v u Q I2 rx ry q)
theorem xY{op:UnaryOp}{r:V->Hp->VK->Prop}(ho:UnR X (unaryOp op) r)(ha:PE X a ta):PE X (.UnaryOp op a pos) (tUn r ta):=by
 intro pins s σ H Q I h;exact UnaryOp_ (thn (ha pins s σ H _ I h) λv s1 ⟨x,H1,I1,r1,q1⟩=>ho pins s1 σ H1 x v Q I1 r1 q1)
theorem opI{f:Value->Value->Sem Value}{C:Int->Int->Prop}{g:Int->Int->Int}
  (rule:∀(i j:Int)(t u:Tok)(s:Shared)(Q:Value->Shared->Prop)(E:Value->Shared->Prop),C i j->Q (.int (g i j) s.toks) { s with toks:=s.toks+1 }->wpAny (model X.prog X.w) X.A (f (.int i t) (.int j u)) Q E s) :
  OpR X f (rI C λi j=>.int (g i j)):=by
 intro pins s σ H x y v u Q I rx ry h;obtain⟨i,j,rfl,rfl,hc,q⟩:=h;obtain⟨t,rfl⟩:=rx;obtain⟨t',rfl⟩:=ry;exact rule i j t t' s _ _ hc ⟨.int (g i j),H,I.tok _,⟨_,U⟩,q⟩
theorem yL{f:Value->Value->Sem Value}{g:Int->Int->Int}
  (rule:∀(i j:Int)(t u:Tok)(s:Shared)(Q:Value->Shared->Prop)(E:Value->Shared->Prop),Q (.int (g i j) s.toks) { s with toks:=s.toks+1 }->wpAny (model X.prog X.w) X.A (f (.int i t) (.int j u)) Q E s) :
  OpR X f (rI0 λi j=>.int (g i j)):=by
 intro pins s σ H x y v u Q I rx ry h;obtain⟨i,j,rfl,rfl,q⟩:=h;obtain⟨t,rfl⟩:=rx;obtain⟨t',rfl⟩:=ry;exact rule i j t t' s _ _ ⟨.int (g i j),H,I.tok _,⟨_,U⟩,q⟩
theorem yM{f:Value->Value->Sem Value}{g:Int->Int->Bool}
  (rule:∀(i j:Int)(t u:Tok)(s:Shared)(Q:Value->Shared->Prop)(E:Value->Shared->Prop),Q (.bool (g i j)) s->wpAny (model X.prog X.w) X.A (f (.int i t) (.int j u)) Q E s) :
  OpR X f (rI0 λi j=>.bl (g i j)):=by
 intro pins s σ H x y v u Q I rx ry h;obtain⟨i,j,rfl,rfl,q⟩:=h;obtain⟨t,rfl⟩:=rx;obtain⟨t',rfl⟩:=ry;exact rule i j t t' s _ _ ⟨.bl (g i j),H,I,U,q⟩
def Aw(i j:Int):Prop:=0<j/\j<1073741824
def Ax(i j:Int):Prop:=0<=j/\j<=1000000/\i.natAbs<2^64
def yN(i j:Int):Prop:=(-(2^64)<i/\i<2^64)\/(-(2^64)<j/\j<2^64)
theorem yN.ok{i j:Int}(h:yN i j):IntMulOk i j:=by
 rcases h with⟨h1,h2⟩|⟨h1,h2⟩
 ·exact .of_left (intBits_le_64 h1 h2)
 ·exact .of_right (intBits_le_64 h1 h2)
theorem qX(k:Nat):(0:Int)<=2^k:=by
 rw[two_pow_cast];exact natCast_nonneg _
theorem bG:OpR X (binaryOp .Add) (rI0 λi j=>.int (i+j)):=yL λ_ _ _ _ _ _ _ q=>add_int q
theorem ck:OpR X (binaryOp .Sub) (rI0 λi j=>.int (i-j)):=yL λ_ _ _ _ _ _ _ q=>sub_int q
theorem gZ:OpR X (binaryOp .Mult) (rI yN λi j=>.int (i*j)):=opI λ_ _ _ _ _ _ _ hc q=>mul_int q hc.ok
theorem bE:OpR X (binaryOp .FloorDiv) (rI Aw λi j=>.int (i / j)):=opI λi j _ _ _ _ _ hc q=>by
 have h1:(0:Int)<j:=hc.1;have h2:j<1073741824:=hc.2;exact floordiv_int (by lia) (by rw[Int.fdiv_eq_ediv_of_nonneg i (by lia)];exact q) (.inl (PyProof.noPylong_small (by lia)))
theorem bu:OpR X (binaryOp .Mod) (rI (λ_ j=>0<j) λi j=>.int (i%j)):=opI λi j _ _ _ _ _ hc q=>by
 have h1:(0:Int)<j:=hc;exact mod_int' (by lia) (by rw[Int.fmod_eq_emod_of_nonneg i (by lia)];exact q)
theorem lJ:OpR X (binaryOp .Pow) (rI Ax λi j=>.int (i^j.toNat)):=opI λ_ _ _ _ _ _ _ hc q=>pow_int_small hc.1 hc.2.1 hc.2.2 q
theorem yO:OpR X (binaryOp .LShift) (rI Ax λi j=>.int (i*2^j.toNat)):=opI λ_ _ _ _ _ _ _ hc q=>lshift_int_small hc.1 hc.2.1 hc.2.2 q
theorem yP:OpR X (binaryOp .RShift) (rI (λ_ j=>0<=j) λi j=>.int (i / 2^j.toNat)):=opI λi j _ _ _ _ _ hc q =>
 rshift_int hc (by rw[Int.fdiv_eq_ediv_of_nonneg i (qX _)];exact q)
theorem yQ:OpR X (binaryOp .BitAnd) (rI0 λi j=>.int (Builtin.bitAnd i j)):=yL λ_ _ _ _ _ _ _ q=>and_int q
theorem unI{f:Value->Sem Value}{g:Int->Int}
  (rule:∀(i:Int)(t:Tok)(s:Shared)(Q:Value->Shared->Prop)(E:Value->Shared->Prop),Q (.int (g i) s.toks) { s with toks:=s.toks+1 }->wpAny (model X.prog X.w) X.A (f (.int i t)) Q E s) :
  UnR X f (rU λi=>.int (g i)):=by
 intro pins s σ H x v Q I rx h;obtain⟨i,rfl,q⟩:=h;obtain⟨t,rfl⟩:=rx;exact rule i t s _ _ ⟨.int (g i),H,I.tok _,⟨_,U⟩,q⟩
theorem vp:UnR X (unaryOp .USub) (rU λi=>.int (-i)):=unI λ_ _ _ _ _ q=>neg_int q
end
def Ay:V->V->Bool
 | .non,.non=>true | .non,.int _=>true | .int _,.non=>true | .non,.bl _=>true | .bl _,.non=>true | .non,.str _=>true | .str _,.non=>true
 | .int _,.int _=>true | .bl _,.bl _=>true | .str _,.str _=>true | .byt _,.byt _=>true
 | .int _,.str _=>true | .str _,.int _=>true | .bl _,.str _=>true | .str _,.bl _=>true
 |_,_=>false
def rEq:R2:=λx y H Q=>Ay x y=true/\Q (.bl (decide (x=y))) H
def rNe:R2:=λx y H Q=>Ay x y=true/\Q (.bl (!decide (x=y))) H
theorem sR{i j:Int}:decide (V.int i=V.int j)=(i == j):=by
 rw[Bool.eq_iff_iff];simp
theorem vq{i j:Bool}:decide (V.bl i=V.bl j)=(i == j):=by
 rw[Bool.eq_iff_iff];simp
theorem sS{i j:Str}:decide (V.str i=V.str j)=(i == j):=by
 rw[Bool.eq_iff_iff];simp
theorem sT{i j:Array UInt8}:decide (V.byt i=V.byt j)=(i.toList == j.toList):=by
 rw[Bool.eq_iff_iff];cases i;cases j;simp
section
variable{a b c:Expr}{tb tc:TE}
theorem bw{pins:List (Addr×Obj)}{σ:St}{H:Hp}{s:Shared}{Q:VK}{k k':Bool}(I:Inv X pins σ H s)(q:Q (.bl k) H)(e:k=k'):EP X pins σ Q (.bool k') s:=by
 subst e;exact⟨.bl k,H,I,U,q⟩
theorem cx:OpR X (compareOp .Eq) rEq:=by
 intro pins s σ H x y v u Q I rx ry h;obtain⟨hs,q⟩:=h;cases x with
 |non =>
  cases rx;cases y with
  |non=>cases ry;exact PySem.EqNone.eq_none_none (bw I q (by simp))
  |bl j=>cases ry;exact PySem.EqNone.eq_none_bool (bw I q (by simp))
  |int j=>obtain⟨t',rfl⟩:=ry;exact PySem.EqNone.eq_none_int (bw I q (by simp))
  |str j=>obtain⟨t',rfl⟩:=ry;exact PySem.EqNone.eq_none_str (bw I q (by simp))
  |_=>exact absurd (show false=true from hs) Bool.false_ne_true
 |bl i =>
  cases rx;cases y with
  |non=>cases ry;exact PySem.EqNone.eq_bool_none (bw I q (by simp))
  |bl j=>cases ry;exact eq_bool (bw I q vq)
  |str j=>obtain⟨t',rfl⟩:=ry;exact PySem.EqMixed.eq_bool_str (bw I q (by simp))
  |_=>exact absurd (show false=true from hs) Bool.false_ne_true
 |int i =>
  obtain⟨t,rfl⟩:=rx;cases y with
  |non=>cases ry;exact PySem.EqNone.eq_int_none (bw I q (by simp))
  |int j=>obtain⟨t',rfl⟩:=ry;exact eq_int (bw I q sR)
  |str j=>obtain⟨t',rfl⟩:=ry;exact PySem.EqMixed.eq_int_str (bw I q (by simp))
  |_=>exact absurd (show false=true from hs) Bool.false_ne_true
 |str i =>
  obtain⟨t,rfl⟩:=rx;cases y with
  |non=>cases ry;exact PySem.EqNone.eq_str_none (bw I q (by simp))
  |bl j=>cases ry;exact PySem.EqMixed.eq_str_bool (bw I q (by simp))
  |int j=>obtain⟨t',rfl⟩:=ry;exact PySem.EqMixed.eq_str_int (bw I q (by simp))
  |str j=>obtain⟨t',rfl⟩:=ry;exact eq_str (bw I q sS)
  |_=>exact absurd (show false=true from hs) Bool.false_ne_true
 |byt i =>
  obtain⟨t,rfl⟩:=rx;cases y with
  |byt j=>obtain⟨t',rfl⟩:=ry;exact W.eq_bytes (bw I q sT)
  |_=>exact absurd (show false=true from hs) Bool.false_ne_true
 |_=>cases y <;> exact absurd (show false=true from hs) Bool.false_ne_true
theorem pV:OpR X (compareOp .NotEq) rNe:=by
 intro pins s σ H x y v u Q I rx ry h;obtain⟨hs,q⟩:=h;cases x with
 |non =>
  cases rx;cases y with
  |non=>cases ry;exact PySem.EqNone.ne_none_none (bw I q (by simp))
  |bl j=>cases ry;exact PySem.EqNone.ne_none_bool (bw I q (by simp))
  |int j=>obtain⟨t',rfl⟩:=ry;exact PySem.EqNone.ne_none_int (bw I q (by simp))
  |str j=>obtain⟨t',rfl⟩:=ry;exact PySem.EqNone.ne_none_str (bw I q (by simp))
  |_=>exact absurd (show false=true from hs) Bool.false_ne_true
 |bl i =>
  cases rx;cases y with
  |non=>cases ry;exact PySem.EqNone.ne_bool_none (bw I q (by simp))
  |bl j=>cases ry;exact ne_bool (bw I q (congrArg not vq))
  |str j=>obtain⟨t',rfl⟩:=ry;exact PySem.EqMixed.ne_bool_str (bw I q (by simp))
  |_=>exact absurd (show false=true from hs) Bool.false_ne_true
 |int i =>
  obtain⟨t,rfl⟩:=rx;cases y with
  |non=>cases ry;exact PySem.EqNone.ne_int_none (bw I q (by simp))
  |int j=>obtain⟨t',rfl⟩:=ry;exact ne_int (bw I q (congrArg not sR))
  |str j=>obtain⟨t',rfl⟩:=ry;exact PySem.EqMixed.ne_int_str (bw I q (by simp))
  |_=>exact absurd (show false=true from hs) Bool.false_ne_true
 |str i =>
  obtain⟨t,rfl⟩:=rx;cases y with
  |non=>cases ry;exact PySem.EqNone.ne_str_none (bw I q (by simp))
  |bl j=>cases ry;exact PySem.EqMixed.ne_str_bool (bw I q (by simp))
  |int j=>obtain⟨t',rfl⟩:=ry;exact PySem.EqMixed.ne_str_int (bw I q (by simp))
  |str j=>obtain⟨t',rfl⟩:=ry;exact ne_str (bw I q (congrArg not sS))
  |_=>exact absurd (show false=true from hs) Bool.false_ne_true
 |byt i =>
  obtain⟨t,rfl⟩:=rx;cases y with
  |byt j=>obtain⟨t',rfl⟩:=ry;exact W.ne_bytes (bw I q (congrArg not sT))
  |_=>exact absurd (show false=true from hs) Bool.false_ne_true
 |_=>cases y <;> exact absurd (show false=true from hs) Bool.false_ne_true
theorem kS:OpR X (compareOp .Lt) (rI0 λi j=>.bl (decide (i<j))):=yM λ_ _ _ _ _ _ _ q=>lt_int q
theorem eL:OpR X (compareOp .LtE) (rI0 λi j=>.bl (decide (i<=j))):=yM λ_ _ _ _ _ _ _ q=>le_int q
theorem hU:OpR X (compareOp .Gt) (rI0 λi j=>.bl (decide (j<i))):=yM λ_ _ _ _ _ _ _ q=>gt_int q
theorem oB:OpR X (compareOp .NotIn) (λx y H Q=>∃i j,x=.str i/\y=.str j/\Q (.bl (!(!(Builtin.Str.occurrences j i 0 j.length 1).isEmpty))) H):=by
 intro pins s σ H x y v u Q I rx ry h;obtain⟨i,j,rfl,rfl,q⟩:=h;obtain⟨t,rfl⟩:=rx;obtain⟨t',rfl⟩:=ry;exact notIn_str (bw I q U)
theorem aP(b:Expr){op:CmpOp}(h:op≠.In:=by decide)(h2:op≠.NotIn:=by decide):behindInMarks op b=false:=by
 have e1:(op == CmpOp.In)=false:=by cases op <;> first|rfl|exact absurd U h
 have e2:(op == CmpOp.NotIn)=false:=by cases op <;> first|rfl|exact absurd U h2
 cases b <;> simp[behindInMarks,e1,e2]
theorem jP{op:CmpOp}{r:R2}(ho:OpR X (compareOp op) r)(ha:PE X a ta)(hb:PE X b tb)(hm:behindInMarks op b=false):PE X (.Compare a [op] [b] pos) (tOp r ta tb):=by
 intro pins s σ H Q I h;exact wpAny_Compare1 (yK ha hb I h λv u s2 x y H2 I2 rx ry q=>ho pins s2 σ H2 x y v u Q I2 rx ry q) hm
inductive vt  (Q:Bool->Hp->Prop)(x:V)(H':Hp):Prop
 |mk (k:_)(_:x=.bl k)(_:Q k H'):vt Q x H'
def xZ(t:TE):TT:=λσ H Q=>t σ H λx H'=>vt Q x H'
theorem aI{op:CmpOp}{r:R2}(ho:OpR X (compareOp op) r)(ha:PE X a ta)(hb:PE X b tb)(hm:behindInMarks op b=false):PT X (.Compare a [op] [b] pos) (xZ (tOp r ta tb)):=by
 intro pins s σ H Q I h;refine wpAny_isTrue_Compare1 (thn (ha pins s σ H _ I h) λv s1 ⟨x,H1,I1,r1,q1⟩=>thn (hb pins s1 σ H1 _ I1 q1) λu s2 ⟨y,H2,I2,r2,q2⟩ =>
  thn (ho pins s2 σ H2 x y v u _ I2 r1 r2 q2) λc s3 ⟨z,H3,I3,r3,k,e,q3⟩=>?_) hm
 subst e;cases r3;exact wpAny_truthy_bool ⟨H3,I3,q3⟩
inductive sU(r':R2)(tc:TE)(σ:St)(Q:VK)(y:V)(z:V)(H3:Hp):Prop
 |mk (k:_)(_:z=.bl k)(_:(if k=true then tc σ H3 λw' H4=>r' y w' H4 Q else Q (.bl false) H3)):sU r' tc σ Q y z H3
def vw(r r':R2)(ta tb tc:TE):TE:=λσ H Q=>ta σ H λx H1=>tb σ H1 λy H2=>r x y H2 λz H3=>sU r' tc σ Q y z H3
theorem lK{op op':CmpOp}{r r':R2}(ho:OpR X (compareOp op) r)(ho':OpR X (compareOp op') r')(ha:PE X a ta)(hb:PE X b tb)(hc:PE X c tc)
  (hm:lastMarks [op,op'] [b,c]=false:=by with_unfolding_all rfl):PE X (.Compare a [op,op'] [b,c] pos) (vw r r' ta tb tc):=by
 intro pins s σ H Q I h;refine Compare_chain (thn (ha pins s σ H _ I h) λv s1 ⟨x,H1,I1,r1,q1⟩=>chain_link (thn (hb pins s1 σ H1 _ I1 q1) λu s2 ⟨y,H2,I2,r2,q2⟩ =>
  thn (ho pins s2 σ H2 x y v u _ I2 r1 r2 q2) λd s3 ⟨z,H3,I3,r3,k,e,q3⟩=>?_)) hm
 subst e;cases r3;refine wpAny_truthy_bool ?_;cases k with
 |false=>exact ite_ff ⟨.bl false,H3,I3,U,q3⟩
 |true=>exact ite_tt (chain_last (thn (hc pins s3 σ H3 _ I3 q3) λw' s4 ⟨z',H4,I4,r4,q4⟩=>ho' pins s4 σ H4 y z' u w' Q I4 r2 r4 q4))
theorem lL{op op':CmpOp}{r r':R2}(ho:OpR X (compareOp op) r)(ho':OpR X (compareOp op') r')(ha:PE X a ta)(hb:PE X b tb)(hc:PE X c tc)
  (hm:lastMarks [op,op'] [b,c]=false:=by with_unfolding_all rfl):PT X (.Compare a [op,op'] [b,c] pos) (xZ (vw r r' ta tb tc)):=by
 intro pins s σ H Q I h;refine isTrue_chain (thn (ha pins s σ H _ I h) λv s1 ⟨x,H1,I1,r1,q1⟩=>test_link (thn (hb pins s1 σ H1 _ I1 q1) λu s2 ⟨y,H2,I2,r2,q2⟩ =>
  thn (ho pins s2 σ H2 x y v u _ I2 r1 r2 q2) λd s3 ⟨z,H3,I3,r3,k,e,q3⟩=>?_)) hm
 subst e;cases r3;refine wpAny_truthy_bool ?_;cases k with
 |false =>
  obtain⟨k',e',q'⟩:=q3;cases e';exact ite_ff ⟨H3,I3,q'⟩
 |true =>
  refine ite_tt (test_last (thn (hc pins s3 σ H3 _ I3 q3) λw' s4 ⟨z',H4,I4,r4,q4⟩=>thn (ho' pins s4 σ H4 y z' u w' _ I4 r2 r4 q4) λd' s5 ⟨z2,H5,I5,r5,k2,e2,q5⟩=>?_));subst e2;cases r5;exact wpAny_truthy_bool ⟨H5,I5,q5⟩
def yR(K:W.Frag)(x:V)(H:Hp)(k:Bool):Prop :=
 match x with
 | .non=>k=false
 | .bl b=>k=b
 | .int i=>k=(i != 0)
 | .str y=>y.length<=sizeLine/\k=((y.length:Int) != 0)
 | .byt y=>y.size<=sizeLine/\k=((y.size:Int) != 0)
 | .ref p=>(∃xs,SqL K H p xs/\k = !xs.isEmpty)\/(∃xs,SqT K H p xs/\k = !xs.isEmpty)\/∃kvs,H p=some (.dK kvs)/\k = !kvs.isEmpty
 |_=>False
theorem qY{κ:Type}{kvs:List (κ×V)}{vs:List (κ×Value)}(r:KV kvs vs):(!vs.isEmpty) = !kvs.isEmpty:=by
 cases r <;> rfl
theorem lM{xs:List V}{its:List Value}(r:Vals xs its):(!its.toArray.isEmpty) = !xs.isEmpty:=by
 cases r <;> simp
theorem jh:(sizeLine:Nat)<2^63:=by rw[sizeLine_eq];decide
theorem yS:BY X (λx H Q=>∃k,yR X.K x H k/\Q k H):=by
 intro pins s σ H x v Q I rx h;obtain⟨k,e,q⟩:=h;have hl:=jh;have hs:sizeLine=16777216:=sizeLine_eq;cases x with
 |non =>
  cases rx;have e':k=false:=e;subst e';exact truthy_none ⟨H,I,q⟩
 |bl b =>
  cases rx;have e':k=b:=e;subst e';exact wpAny_truthy_bool ⟨H,I,q⟩
 |int i =>
  obtain⟨t,rfl⟩:=rx;have e':k=(i != 0):=e;subst e';exact PySem.P.truthy_int ⟨H,I,q⟩
 |str y =>
  obtain⟨t,rfl⟩:=rx;obtain⟨hy,e'⟩:y.length<=sizeLine/\k=((y.length:Int) != 0):=e;subst e';exact PySem.P.truthy_str (by lia) ⟨H,I.tok _,q⟩
 |byt y =>
  obtain⟨t,rfl⟩:=rx;obtain⟨hy,e'⟩:y.size<=sizeLine/\k=((y.size:Int) != 0):=e;subst e';exact W.truthy_bytes (by lia) ⟨H,I.tok _,q⟩
 |ref p =>
  cases rx;have e':(∃xs,SqL X.K H p xs/\k = !xs.isEmpty)\/(∃xs,SqT X.K H p xs/\k = !xs.isEmpty)\/∃kvs,H p=some (.dK kvs)/\k = !kvs.isEmpty:=e;rcases e' with⟨xs,hx,e'⟩|⟨xs,hx,e'⟩|⟨kvs,hx,e'⟩
  ·subst e';obtain⟨its,r,pl,hz⟩:=I.list hx;have hlen:=r.length;exact wpAny_truthy_list pl.isList (by simp only[size_toArray];lia) ⟨H,I.tok _,by rw[lM r];exact q⟩
  ·subst e';obtain⟨its,r,pl,hz⟩:=I.tuple hx;have hlen:=r.length;exact truthy_tuple pl (by simp only[size_toArray];lia) ⟨H,I.tok _,by rw[lM r];exact q⟩
  ·subst e';obtain⟨hz,hS,vs,r,m⟩:kvs.length<=sizeLine/\(p == sysModules)=false/\∃vs,KV kvs vs/\s.heap.DictOf (bI X.prog X.w) p vs:=I.hok p _ hx;have hlen:kvs.length=vs.length:=Paired.length r;exact wpAny_truthy_dict hS m (by lia) ⟨H,I.tok _,by rw[qY r];exact q⟩
 |_=>exact(show False from e).elim
theorem dJ(ha:PE X a ta)(he:∀whole,isTrue a X.env whole=(do let v ←whole;standAt a.pos;holding [v] (truthy v))) :
  PT X a (λσ H Q=>ta σ H λx H'=>∃k,yR X.K x H' k/\Q k H'):=by
 intro pins s σ H Q I h;exact isTrue_plain (thn (ha pins s σ H _ I h) λv s1 ⟨x,H1,I1,r1,q1⟩=>yS pins s1 σ H1 x v Q I1 r1 q1) (he _)
theorem lN:OpR X (binaryOp .Add) (λx y H Q=>∃i j,x=.str i/\y=.str j/\i.length+j.length<=sizeLine/\Q (.str (i++j)) H):=by
 intro pins s σ H x y v u Q I rx ry h;obtain⟨i,j,rfl,rfl,hz,q⟩:=h;obtain⟨t,rfl⟩:=rx;obtain⟨t',rfl⟩:=ry;exact add_str (λt' tk=>⟨.str (i++j),H,I.tok _,⟨_,U⟩,q⟩) hz
theorem yT:OpR X (binaryOp .Add) (λx y H Q=>∃i j,x=.byt i/\y=.byt j/\i.size+j.size<=16777216/\Q (.byt (i++j)) H):=by
 intro pins s σ H x y v u Q I rx ry h;obtain⟨i,j,rfl,rfl,hz,q⟩:=h;obtain⟨t,rfl⟩:=rx;obtain⟨t',rfl⟩:=ry;exact W.KBy.add_bytes hz (λt' tk=>⟨.byt (i++j),H,I.tok _,⟨_,U⟩,q⟩)
theorem vals1{x:V}{us:List Value}(r:Vals [x] us):∃u,us=[u]/\RelV x u:=by
 cases r with
 |cons r1 r2=>cases r2;exact⟨_,U,r1⟩
theorem vals2{x y:V}{us:List Value}(r:Vals [x,y] us):∃u w',us=[u,w']/\RelV x u/\RelV y w':=by
 cases r with
 |cons r1 r2 =>
  cases r2 with
  |cons r3 r4=>cases r4;exact⟨_,_,U,r1,r3⟩
theorem iK(hc:X.calm=true):cw X (.builtin "max") (λxs H Q=>∃i j,xs=[.int i,.int j]/\Q (.int (if j>i then j else i)) H):=by
 intro pins s σ H xs us Q I r h;obtain⟨i,j,rfl,q⟩:=h;obtain⟨u,w',rfl,⟨t,rfl⟩,⟨t',rfl⟩⟩:=vals2 r;refine max_two_ints (I.ok.hd hc) λh' tk k=>⟨_,H,I.kept k,?_,q⟩
 by_cases hj:j>i
 ·rw[if_pos hj,if_pos hj];exact⟨_,U⟩
 ·rw[if_neg hj,if_neg hj];exact⟨_,U⟩
theorem fU(hc:X.calm=true):cw X (.builtin "min") (λxs H Q=>∃i j,xs=[.int i,.int j]/\Q (.int (if j<i then j else i)) H):=by
 intro pins s σ H xs us Q I r h;obtain⟨i,j,rfl,q⟩:=h;obtain⟨u,w',rfl,⟨t,rfl⟩,⟨t',rfl⟩⟩:=vals2 r;refine min_two_ints (I.ok.hd hc) λh' tk k=>⟨_,H,I.kept k,?_,q⟩
 by_cases hj:j<i
 ·rw[if_pos hj,if_pos hj];exact⟨_,U⟩
 ·rw[if_neg hj,if_neg hj];exact⟨_,U⟩
end
structure qZ(h:Heap)(x dx C:Addr)(mA:Str->Option Value):Prop where
 obj:h.get? x=some (W.instObj C dx)
 ns:h.Ns1 dx mA
 ne:dx≠x
theorem uq{h:Heap}{dx:Addr}{mA:Str->Option Value}(n:h.Ns1 dx mA):∃od,h.get? dx=some od/\∀name,W.lookIn name od=some (mA name):=by
 obtain⟨o,es,ep,ho,hd,hk,_,hm⟩:=n;refine⟨o,ho,λname=>?_⟩;have e:=hm name;unfold nsFind findBy at e;rw[←Array.find?_toList]at e;unfold W.lookIn;rw[hd];dsimp only;split
 ·rename_i y q
  rw[q]at e;exact congrArg some e
 ·rename_i q
  rw[q]at e;have a:es.toList.any (·.refKey)=false:=by
   rw[List.any_eq_false];intro y hy;obtain⟨z,t,vx⟩:=hk y (Array.mem_toList_iff.mp hy);simp[DictEntry.refKey,vx]
  have a':¬ es.toList.any (·.refKey)=true:=by rw[a];exact Bool.false_ne_true
  rw[if_neg a'];exact congrArg some e
theorem qZ.look{h:Heap}{x dx C:Addr}{mA:Str->Option Value}(I:qZ h x dx C mA):∃od,W.InstAt h x (W.instObj C dx) C (some od)/\∀name,W.lookIn name od=some (mA name):=by
 obtain⟨od,ho,hl⟩:=uq I.ns;exact⟨od,⟨I.obj,U,U,ho⟩,hl⟩
variable{A:Around}{dx C f:Addr}
section
variable{prog:Program}{K:W.Frag}{mA:Str->Option Value}{name:Str}{v:Value}
theorem get_map{expr:Bool}{Q:Value->Shared->Prop}(X:K.In s.heap)(I:qZ s.heap x dx C mA)(hg:W.plainGet K C name=true)(hh:W.hasDictIn K C=true)
  (ha:W.findIn K (.ref C) name=some none)(hv:mA name=some v)(hv':W.handedIn v=true)(h:Q v { s with toks:=s.toks+1 }) :
  wpAny (model prog w) A (getAttr (.ref x) name expr) Q E s:=by
 obtain⟨od,J,hl⟩:=I.look;exact W.get_value X J (W.plainGet_of hg).1 (W.findObj_own hh ha U (by rw[hl,hv])) hv' h
theorem vy{pl:Sem Bool}{Q:Value×List Value->Shared->Prop}(X:K.In s.heap)(I:qZ s.heap x dx C mA)(hg:W.plainGet K C name=true)
  (hf:W.findIn K (.ref C) name=some (some (.ref f)))(ht:W.isFn K (.ref f)=true)(hv:mA name=none)(h:Q (.ref f,[.ref x]) s) :
  wpAny (model prog w) A (getMethod (.ref x) name pl) Q E s:=by
 obtain⟨od,J,hl⟩:=I.look;exact W.method_fn X J (W.plainGet_of hg).1 (W.plainGet_of hg).2 hf (beq_iff_eq.mp ht) (by show(W.lookIn name od).map (·.isSome)=some false;rw[hl,hv];rfl) h
theorem xb{ns:List Str}{Q:Unit->Shared->Prop}(X:K.In s.heap)(I:qZ s.heap x dx C mA)
  (hs:W.findIn K (.ref C) "__setattr__" = some (some (.builtin "object.__setattr__"))) (hp:W.plainOver K C=true)(ht:W.takerIn K C name=some none)(hh:W.hasDictIn K C=true)
  (hw:PySem.Within mA ns)(hsz:ns.length<=sizeLine)
  (h:∀h',qZ h' x dx C (λy=>if y=name then some v else mA y)->Heap.SameBut dx s.heap h'->Q () { s with heap:=h',toks:=s.toks+2 }) :
  wpAny (model prog w) A (setAttr (.ref x) name v) Q E s:=by
 obtain⟨od,J,hl⟩:=I.look;refine W.set_plain X J hs (W.osa_open (s:={ s with toks:=s.toks+1 }) (r:=none) X J hp ht λb=>?_);obtain⟨cd,hc,hd'⟩:=W.any_some hh;have hx:s.heap.get? x=some ⟨.ref C,some dx,.plain,#[]⟩:=I.obj;refine wpAny_bind (wpAny_pure (wpAny_bind (wpAny_bind (wpAny_loadPart hx (wpAny_bind (W.Looks.here (s:={ s with toks:=s.toks+1 }) (W.looks_clsIn X hc) ?_))))));rw[hd'];refine wpAny_pure (a:=some dx) (wpAny_bind (wpAny_pure (wpAny_bind ?_)));refine wpAny_nsSet1 (s:={ s with toks:=s.toks+1 }) I.ns λh' hn2 hs2=>?_
 obtain⟨oD,esD,epD,hoD,hdD,hcD⟩:=hn2.count (PySem.Within.cons name v hw);refine wpAny_bind (wpAny_lookBehind hoD (by rw[hdD];exact pastItsLine_dict (le_trans hcD (by rw[length_cons];lia))) ?_);exact wpAny_pure (h _ ⟨(hs2.2 _ (Ne.symm I.ne)).trans I.obj,hn2,I.ne⟩ hs2)
theorem vz{R:Result->Shared->Prop}{vs:List Value}{kw:List (Str×Value)}(X:K.In s.heap)(hm:W.makesIn K C=true)
  (hi:W.findIn K (.ref C) "__init__" = some (some (.ref f))) (hf:W.typeIn K (.ref f)=some (.type "function"))
  (h:codeAny (model prog w) (A.under (.builtin "type.__call__" ⟨.ref C :: vs,kw⟩)) (.call (.ref f) ⟨.ref (s.heap.objs.size+1) :: vs,kw⟩) (W.InitBack (s.heap.objs.size+1) R)
   { s with heap:=(s.heap.push W.emptyDict).push (W.instObj C s.heap.objs.size) }) :
  codeAny (model prog w) A (.call (.ref C) ⟨vs,kw⟩) R s:=by
 obtain⟨hh,g,d,t,os⟩:=s;exact W.make_core (W.makes_of X hm) (W.looks_findIn X hi) (λself=>W.bind_fn X self hf) (.inl U) h
end
def bC(f:Str)(v:V):List (Str×V)->List (Str×V)
 | []=>[(f,v)]
 |(g,x) :: r=>if g=f then(g,v) :: r else(g,x) :: bC f v r
theorem kT(f g:Str)(v:V):∀fs:List (Str×V),(bC f v fs).lookup g=if g=f then some v else fs.lookup g
 | []=>by
  show List.lookup g [(f,v)]=_;by_cases h:g=f
  ·have hb:(g == f)=true:=beq_iff_eq.mpr h;simp only[List.lookup,hb,if_pos h]
  ·have hb:(g == f)=false:=beq_eq_false_iff_ne.mpr h;simp only[List.lookup,hb,if_neg h]
 |(k,x) :: r=>by
  have ih:=kT f g v r;rw[show bC f v ((k,x) :: r)=(if k=f then(k,v) :: r else(k,x) :: bC f v r)from U];by_cases hk:k=f
  ·rw[if_pos hk];by_cases h:g=k
   ·have hb:(g == k)=true:=beq_iff_eq.mpr h;simp only[List.lookup,hb,if_pos (h.trans hk)]
   ·have hb:(g == k)=false:=beq_eq_false_iff_ne.mpr h;simp only[List.lookup,hb,if_neg (λe:g=f=>h (e.trans hk.symm))]
  ·rw[if_neg hk];by_cases h:g=k
   ·have hb:(g == k)=true:=beq_iff_eq.mpr h;simp only[List.lookup,hb,if_neg (λe:g=f=>hk (h.symm.trans e))]
   ·have hb:(g == k)=false:=beq_eq_false_iff_ne.mpr h;simp only[List.lookup,hb];exact ih
theorem kr(f:Str)(v:V):∀fs:List (Str×V),f∈(bC f v fs).map (·.1)/\∀g,g∈fs.map (·.1)->g∈(bC f v fs).map (·.1)
 | []=>⟨by simp[bC],λg h=>by simp at h⟩
 |(k,x) :: r=>by
  obtain⟨i1,i2⟩:=kr f v r;rw[show bC f v ((k,x) :: r)=(if k=f then(k,v) :: r else(k,x) :: bC f v r)from U];by_cases hk:k=f
  ·rw[if_pos hk];subst hk;exact⟨by simp,λg h=>by simpa using h⟩
  ·rw[if_neg hk];refine⟨?_,λg h=>?_⟩
   ·rw[map_cons];exact mem_cons_of_mem _ i1
   ·rw[map_cons]at h⊢;rcases mem_cons.mp h with e|e
    ·exact mem_cons.mpr (.inl e)
    ·exact mem_cons_of_mem _ (i2 g e)
theorem kU(f:Str)(v:V):∀fs:List (Str×V),(bC f v fs).length<=fs.length+1
 | []=>by simp[bC]
 |(k,x) :: r=>by
  have ih:=kU f v r;rw[show bC f v ((k,x) :: r)=(if k=f then(k,v) :: r else(k,x) :: bC f v r)from U];by_cases hk:k=f
  ·rw[if_pos hk,length_cons,length_cons];lia
  ·rw[if_neg hk,length_cons,length_cons];lia
theorem iP.some_of{v:V}{o:Option Value}(r:iP (some v) o):∃u,o=some u/\RelV v u:=by
 cases o with
 |none=>exact(show False from r).elim
 |some u=>exact⟨u,U,r⟩
theorem iP.none_of{o:Option Value}(r:iP none o):o=none:=by
 cases o with
 |none=>rfl
 |some u=>exact(show False from r).elim
theorem nt{v:V}{u:Value}(r:RelV v u):W.handedIn u=true:=by
 cases v with
 |non=>cases (show u=Value.none from r);rfl
 |bl b=>cases (show u=Value.bool b from r);rfl
 |int i=>obtain⟨t,e⟩:=(show ∃t,u=Value.int i t from r);cases e;rfl
 |str x=>obtain⟨t,e⟩:=(show ∃t,u=Value.str x t from r);cases e;rfl
 |byt b=>obtain⟨t,e⟩:=(show ∃t,u=Value.bytes b t from r);cases e;rfl
 |flt b=>obtain⟨t,e⟩:=(show ∃t,u=Value.float b t from r);cases e;rfl
 |ref a=>cases (show u=Value.ref a from r);rfl
 |ty n=>cases (show u=Value.type n from r);rfl
section
variable{fs fs':List (Str×V)}
theorem ly(hok:HOk P w H h)(e:H a=some (.ins C dx fs)):∃mA,qZ h a dx C mA/\(∀f,iP (fs.lookup f) (mA f))/\PySem.Within mA (fs.map (·.1))/\fs.length<=1000/\H dx=some (.own a):=by
 obtain⟨d,z,ne,ob,mA,n,r,q⟩:=(show bQ P w H h a (.ins C dx fs)from hok a _ e);exact⟨mA,⟨ob,n,ne⟩,r,q,z,d⟩
end
structure Cls(K:W.Frag)(C:Addr):Prop where
 pg:W.plainGet K C Str.empty=true
 hd:W.hasDictIn K C=true
 po:W.plainOver K C=true
 sa:W.findIn K (.ref C) "__setattr__" = some (some (.builtin "object.__setattr__"))
theorem Cls.get{K:W.Frag}{C:Addr}(c:Cls K C)(f:Str):W.plainGet K C f=true:=c.pg
def NoAttr(K:W.Frag)(C:Addr)(f:Str):Prop:=W.findIn K (.ref C) f=some none
theorem NoAttr.taker{K:W.Frag}{C:Addr}{f:Str}(n:NoAttr K C f):W.takerIn K C f=some none:=by
 unfold W.takerIn;rw[show W.findIn K (.ref C) f=some none from n];rfl
structure Con(K:W.Frag)(C:Addr)(f:Str)(v:V)(u:Value):Prop where
 at_:W.findIn K (.ref C) f=some (some u)
 rel:RelV v u
 get:W.specialIn K u "__get__" = some none
 cp:W.copiedNames.contains f=false
structure Meth(K:W.Frag)(C:Addr)(m:Str)(f:Addr):Prop where
 at_:W.findIn K (.ref C) m=some (some (.ref f))
 fn:W.isFn K (.ref f)=true
 kp:W.keepIn K (.ref f)=true
section
variable{fs:List (Str×V)}{f:Str}{v:V}
theorem q0{b:Bool}{Q:Value->Shared->Prop}(I:Inv X pins σ H s)(e:H a=some (.ins C dx fs))(c:Cls X.K C)(n:NoAttr X.K C f)(l:fs.lookup f=some v)
  (h:∀u s',Inv X pins σ H s'->RelV v u->Q u s'):wpAny (model X.prog X.w) A (getAttr (.ref a) f b) Q E s:=by
 obtain⟨mA,O,r,_,_,_⟩:=ly I.hok e;obtain⟨u,hu,ru⟩:=iP.some_of (v:=v) (o:=mA f) (by rw[←l];exact r f);exact get_map I.kIn O (c.get f) c.hd n hu (nt ru) (h u _ (I.tok _) ru)
theorem lO{m:Str}{g:Addr}{pl:Sem Bool}{Q:Value×List Value->Shared->Prop}(I:Inv X pins σ H s)(e:H a=some (.ins C dx fs))(c:Cls X.K C)(k:Meth X.K C m g)(l:fs.lookup m=none)
  (h:Q (.ref g,[.ref a]) s):wpAny (model X.prog X.w) A (getMethod (.ref a) m pl) Q E s:=by
 obtain⟨mA,O,r,_,_,_⟩:=ly I.hok e;have hn:mA m=none:=iP.none_of (by rw[←l];exact r m);exact vy I.kIn O (c.get m) k.at_ k.fn hn h
theorem q8{y:V}{u:Value}{Q:Unit->Shared->Prop}(I:Inv X pins σ H s)(e:H a=some (.ins C dx fs))(c:Cls X.K C)(n:NoAttr X.K C f)(hl:fs.length<1000)(ry:RelV y u)
  (h:∀s',Inv X pins σ (upd H a (.ins C dx (bC f y fs))) s'->Q () s'):wpAny (model X.prog X.w) A (setAttr (.ref a) f u) Q E s:=by
 obtain⟨mA,O,r,wi,_,ho⟩:=ly I.hok e;have hz:(fs.map (·.1)).length<=sizeLine:=by rw[length_map,sizeLine_eq];lia
 refine xb I.kIn O c.sa c.po n.taker c.hd wi hz λh' O' sb=>h _ ?_
 have hd:∃o,h'.get? dx=some o:=let ⟨o,_,_,e',_⟩:=O'.ns;⟨o,e'⟩;refine I.write (x:=a) (e:=dx) (by rw[e];exact True.intro) (.inr ho) (λb q hb z=>(sb.2 b hb).trans z) hd ?_;refine⟨by rw[ar O.ne];exact ho,?_,O.ne,O'.obj,_,O'.ns,λg=>?_,λg hg=>?_⟩
 ·have:=kU f y fs;lia
 ·show iP ((bC f y fs).lookup g) (if g=f then some u else mA g);rw[kT];by_cases q:g=f
  ·rw[if_pos q,if_pos q];exact ry
  ·rw[if_neg q,if_neg q];exact r g
 ·by_cases q:g=f
  ·rw[q];exact(kr f y fs).1
  ·refine(kr f y fs).2 g (wi g λz=>hg ?_);show(if g=f then some u else mA g)=none;rw[if_neg q];exact z
theorem Inv.made(I:Inv X pins σ H s):Inv X pins σ (upd (upd H s.heap.objs.size (.own (s.heap.objs.size+1))) (s.heap.objs.size+1) (.ins C s.heap.objs.size []))
  { s with heap:=(s.heap.push W.emptyDict).push (W.instObj C s.heap.objs.size) }:=by
 have e1:(s.heap.push W.emptyDict).get? s.heap.objs.size=some W.emptyDict:=Heap.get?_push_size s.heap U;have e2:((s.heap.push W.emptyDict).push (W.instObj C s.heap.objs.size)).get? (s.heap.objs.size+1)=some (W.instObj C s.heap.objs.size):=by
  have:=Heap.get?_push_size (s.heap.push W.emptyDict) (o:=W.instObj C s.heap.objs.size) U
  rwa [Heap.size_push]at this
 have e3:(s.heap.push W.emptyDict).Ns s.heap.objs.size (λ_=>none):=⟨W.emptyDict,#[],_,e1,U,(λe he=>absurd he (by simp)),λ_=>U⟩;have I1:=I.laid (a:=s.heap.objs.size) (o:=.own (s.heap.objs.size+1)) (h':=s.heap.push W.emptyDict) (t':=s.toks) (λb u q=>Heap.get?_push_of_some _ q) (le_refl _) ⟨_,e1⟩;refine I1.laid (a:=s.heap.objs.size+1) (o:=.ins C s.heap.objs.size []) (t':=s.toks) (λb u q=>Heap.get?_push_of_some _ q) (Nat.le_of_eq (Heap.size_push _ _)) ?_;have ne:s.heap.objs.size≠s.heap.objs.size+1:=ne_of_lt (lt_succ_self _);refine⟨by rw[ar ne,ae],zero_le _,ne,e2,λ_=>none,(Heap.Ns1.of_empty e3).at λo q=>Heap.get?_push_of_some _ q,λ_=>True.intro,λy hy=>absurd U hy⟩
theorem xc{prog:Program}{w:World}{env:Env}{e:Expr}{f:Str}{pos:Pos}{s:Shared}{Q:Value->Shared->Prop}(hb:attributeBase e f env (eval e env)=eval e env)
  (h:wpAny (model prog w) A (eval e env) (λo s₁=>wpAny (model prog w) A (getAttr o f true) Q E s₁) E s):wpAny (model prog w) A (eval (.Attribute e f pos) env) Q E s :=
 Attribute_any_ h (by rw[arm_eval_Attribute,hb])
end
inductive ya(K:W.Frag)(f:Str)(Q:VK)(x:V)(H1:Hp):Prop
 |mk (a C dx fs v:_)(_:x=.ref a)(_:H1 a=some (.ins C dx fs))(_:Cls K C)(_:NoAttr K C f)(_:fs.lookup f=some v)(_:Q v H1):ya K f Q x H1
def Az(K:W.Frag)(ta:TE)(f:Str):TE:=λσ H Q=>ta σ H λx H1=>ya K f Q x H1
def BZ(K:W.Frag)(ta tv:TE)(f:Str):TS:=λD σ H=>tv σ H λy H1=>ta σ H1 λx H2=>∃a C dx fs,x=.ref a/\H2 a=some (.ins C dx fs)/\Cls K C/\NoAttr K C f/\fs.length<1000 /\
 D.nx σ (upd H2 a (.ins C dx (bC f y fs)))
variable{o:Expr}
section
variable{value:Expr}{f:Str}{pos' AA:Pos}{tv:TE}
theorem aY(he:PE X e ta)(hb:attributeBase e f X.env (eval e X.env)=eval e X.env):PE X (.Attribute e f pos) (Az X.K ta f):=by
 intro pins s σ H Q I h;refine xc hb (thn (he pins s σ H _ I h) λu s1 ⟨x,H1,I1,rx,a,C,dx,fs,v,ex,ea,c,n,l,q⟩=>?_);subst ex;obtain rfl:u=Value.ref a:=rx;exact q0 I1 ea c n l λu' s2 I2 ru=>⟨v,H1,I2,ru,q⟩
theorem cz(ha:PE X o ta)(hv:PE X value tv)(hs:swapsWith value (some (.Attribute o f pos')) pos.line X.env=pure false):PS X (.Assign [.Attribute o f pos'] value pos) (BZ X.K ta tv f):=by
 intro pins s σ H D I h;refine plainObj_wpAny_Assign_Attribute (thn (hv pins s σ H _ I h) λu s1 ⟨y,H1,I1,ry,q⟩=>thn (ha pins s1 σ H1 _ I1 q) λov s2 ⟨x,H2,I2,rx,a,C,dx,fs,ex,ea,c,n,l,q2⟩=>?_) hs;subst ex;obtain rfl:ov=Value.ref a:=rx;exact q8 I2 ea c n l ry λs3 I3=>⟨σ,_,I3,q2⟩
end
section
variable{Q:Value->Shared->Prop}{c:Value}{b:Bool}
inductive ku(K:W.Frag)(H:Hp):V->Value->Prop where
 |non:ku K H .non (.type "NoneType")
 |bl (x:Bool):ku K H (.bl x) (.type "bool")
 |int (i:Int):ku K H (.int i) (.type "int")
 |str (x:Str):ku K H (.str x) (.type "str")
 |flt (x:UInt64):ku K H (.flt x) (.type "float")
 |lst {a:Addr}{xs:List V}(e:H a=some (.lst xs)):ku K H (.ref a) (.type "list")
 |frz {a:Addr}{o:Obj}{xs:List V}(e:H a=some (.frz o (.lst xs))):ku K H (.ref a) (.type "list")
 |tup {a:Addr}{xs:List V}(e:H a=some (.tup xs)):ku K H (.ref a) (.type "tuple")
 |dK {a:Addr}{kvs:List (Key×V)}(e:H a=some (.dK kvs)):ku K H (.ref a) (.type "dict")
 |dT {a:Addr}{kvs:List (List Key×V)}(e:H a=some (.dT kvs)):ku K H (.ref a) (.type "dict")
 |ins {a C dx:Addr}{fs:List (Str×V)}(e:H a=some (.ins C dx fs))(cl:Cls K C)(ha:W.findIn K (.ref C) "__class__" = some (some (.builtin "object.__class__")))
   (hn:W.specialIn K (.builtin "object.__class__") "__get__" = some (some (.builtin "getset_descriptor.__get__"))) (htk:W.takesIn K (.builtin "object.__class__")=some true)
   (hm:W.mroIn K C (.type "object")=some true):ku K H (.ref a) (.ref C)
theorem ur{x:V}{u t:Value}(I:Inv X pins σ H s)(rx:RelV x u)(ty:ku X.K H x t)(e:W.kitOne X.K t c=some b)(h:∀tk,Q (.bool b) { s with toks:=tk }) :
  wpAny (model X.prog X.w) A (call (.builtin "isinstance") [u,c]) Q E s:=by
 cases ty with
 |non=>cases (show u=Value.none from rx);exact W.kia_one W.kitx_none I.kIn True.intro e (λz=>nomatch z) h
 |bl y=>cases (show u=Value.bool y from rx);exact W.kia_one W.kitx_bool I.kIn True.intro e (λz=>nomatch z) h
 |int i=>obtain⟨t,q⟩:=(show ∃t,u=Value.int i t from rx);cases q;exact W.kia_one W.kitx_int I.kIn True.intro e (λz=>nomatch z) h
 |str y=>obtain⟨t,q⟩:=(show ∃t,u=Value.str y t from rx);cases q;exact W.kia_one W.kitx_str I.kIn True.intro e (λz=>nomatch z) h
 |flt y=>obtain⟨t,q⟩:=(show ∃t,u=Value.float y t from rx);cases q;exact W.kia_one W.kitx_float I.kIn True.intro e (λz=>nomatch z) h
 | @lst a xs ea =>
  cases (show u=Value.ref a from rx);obtain⟨_,_,n,_,h1⟩:=(show bQ X.prog X.w H s.heap a (.lst xs)from I.hok a _ ea);exact W.kia_one W.kitx_list I.kIn ⟨_,h1,U⟩ e (λz=>nomatch z) h
 | @frz a ob xs ea =>
  cases (show u=Value.ref a from rx);obtain⟨_,_,_,n,_,h1⟩:=(show bQ X.prog X.w H s.heap a (.frz ob (.lst xs))from I.hok a _ ea);exact W.kia_one W.kitx_list I.kIn ⟨_,h1,U⟩ e (λz=>nomatch z) h
 | @tup a xs ea =>
  cases (show u=Value.ref a from rx);obtain⟨_,_,_,p⟩:=(show bQ X.prog X.w H s.heap a (.tup xs)from I.hok a _ ea);obtain⟨o,h1,h2,_⟩:=p;exact W.kia_one W.kitx_tuple I.kIn ⟨o,h1,h2⟩ e (λz=>nomatch z) h
 | @dK a kvs ea =>
  cases (show u=Value.ref a from rx);obtain⟨_,_,vs,_,p⟩:=(show bQ X.prog X.w H s.heap a (.dK kvs)from I.hok a _ ea);obtain⟨o,es,ep,h1,h2,_⟩:=p;exact W.kia_one W.kitx_dict I.kIn ⟨o,h1,h2.1⟩ e (λz=>nomatch z) h
 | @dT a kvs ea =>
  cases (show u=Value.ref a from rx);obtain⟨_,_,xs,_,o,es,ep,h1,h2,_⟩:=(show bQ X.prog X.w H s.heap a (.dT kvs)from I.hok a _ ea);exact W.kia_one W.kitx_dict I.kIn ⟨o,h1,h2.1⟩ e (λz=>nomatch z) h
 | @ins a C dx fs ea cl ha hn htk hm =>
  cases (show u=Value.ref a from rx);obtain⟨mA,O,_⟩:=ly I.hok ea;obtain⟨od,J,_⟩:=O.look;exact W.kia_one (W.kitx_own (cl.get _) cl.hd ha hn htk hm) I.kIn J e (λz=>nomatch z) h
end
structure cb(k:Nat)(A:Around):Prop where
 hd:A.handled=none
 dp:A.depth+3*k+5<recursionLimit
 un:A.units+16*k+200<cLine
theorem cb.mono{j k:Nat}{A:Around}(r:cb k A)(h:j<=k):cb j A:=⟨r.hd,by have:=r.dp;lia,by have:=r.un;lia⟩
theorem cb.deeper{k:Nat}{A:Around}(r:cb (k+1) A)(env:Env):cb k (A.deeper env) :=
 ⟨r.hd,by have:=r.dp;show A.depth+1+3*k+5<_;lia,by have:=r.un;show A.units+3+16*k+200<_;lia⟩
theorem q9{A:Around}{C:Addr}{us:List Value}{kw:List (Str×Value)}:(A.under (.builtin "type.__call__" ⟨.ref C :: us,kw⟩)).depth=A.depth+1:=by
 first|rfl|simp[Around.under,Code.weight,Code.isCreation,Code.isGuard,Code.isCaller,Code.frames,Code.isFrame,guardIds]
theorem rf{A:Around}{C:Addr}{us:List Value}{kw:List (Str×Value)}:(A.under (.builtin "type.__call__" ⟨.ref C :: us,kw⟩)).units=A.units+1:=by
 first|rfl|simp[Around.under,Code.cUnits,Code.frames,Code.isFrame]
theorem cb.make{k:Nat}{A:Around}(r:cb (k+1) A)(C:Addr)(us:List Value)(kw:List (Str×Value)):cb k (A.under (.builtin "type.__call__" ⟨.ref C :: us,kw⟩)) :=
 ⟨r.hd,by have:=r.dp;rw[q9];lia,by have:=r.un;rw[rf];lia⟩
theorem cb.depth{k:Nat}{A:Around}(r:cb k A):A.depth<recursionLimit:=by have:=r.dp;lia
theorem cb.units{k:Nat}{A:Around}(r:cb k A):A.units+64<cLine:=by have:=r.un;lia
theorem cb.units0{k:Nat}{A:Around}(r:cb k A):A.units<cLine:=by have:=r.un;lia
def yU:TA:=λ_ H Q=>Q [] H
def AB(ta:TE)(tr:TA):TA:=λσ H Q=>ta σ H λx H1=>tr σ H1 λxs H2=>Q (x :: xs) H2
variable{es:List Expr}{t:TA}
theorem af:PA X [] yU:=λ_ _ _ _ H Q I h=>Calls.spliced_nil ⟨[],H,I,.nil,h⟩
theorem aa(ha:PE X e te)(hr:PA X es t)(hs:starEach (e :: es) X.env=(false,eval e X.env) :: starEach es X.env:=by rfl):PA X (e :: es) (AB te t):=by
 intro pos pins s σ H Q I h;rw[hs];show wpAny _ _ (spliced ((false,eval e X.env) :: backTo pos (starEach es X.env))) _ _ s;refine Calls.spliced_cons (thn (ha pins s σ H _ I h) λu s1 ⟨x,H1,I1,r1,q1⟩=>?_);exact thn (hr pos pins s1 σ H1 _ I1 q1) λus s2 ⟨xs,H2,I2,r2,q2⟩=>⟨x :: xs,H2,I2,.cons r1 r2,q2⟩
def B1(t:TA):TE:=λσ H Q=>t σ H λxs H1=>xs.length<=sizeLine/\∀p,H1 p=none->Q (.ref p) (upd H1 p (.tup xs))
def B2(t:TA):TE:=λσ H Q=>t σ H λxs H1=>xs.length<=sizeLine/\∀p,H1 p=none->Q (.ref p) (upd H1 p (.lst xs))
theorem aZ{x1} (h:PA X es t):PE X (.Tuple es x1 pos) (B1 t):=by
 intro pins s σ H Q I hq;refine wpAny_Tuple_spliced (thn (h pos pins s σ H _ I hq) λus s1 ⟨xs,H1,I1,r,z,q⟩=>⟨by rw[←r.length];exact z,?_⟩);have hf:H1 s1.heap.objs.size=none:=I1.hok.fresh (le_refl _);refine⟨.ref s1.heap.objs.size,upd H1 s1.heap.objs.size (.tup xs),I1.laid (t':=s1.toks) (λb u e=>Heap.get?_push_of_some _ e) (le_refl _) ?_,U,q _ hf⟩;exact⟨z,us,r,⟨_,Heap.get?_push_size _ U,U,_,U⟩⟩
theorem bz(h:PA X es t):PE X (.List es pos) (B2 t):=by
 intro pins s σ H Q I hq;refine wpAny_List_spliced (thn (h pos pins s σ H _ I hq) λus s1 ⟨xs,H1,I1,r,z,q⟩=>⟨by rw[←r.length];exact z,?_⟩);have hf:H1 s1.heap.objs.size=none:=I1.hok.fresh (le_refl _);refine⟨.ref s1.heap.objs.size,upd H1 s1.heap.objs.size (.lst xs),I1.laid (t':=s1.toks) (λb u e=>Heap.get?_push_of_some _ e) (le_refl _) ?_,U,q _ hf⟩;exact⟨z,us,0,r,Heap.get?_push_size _ U⟩
abbrev Sp:=List V->Hp->VK->XK->Prop
abbrev CXT:=List Env->Hp->Shared->XK->Value->Shared->Prop
structure rg(P:Program)(w:World)(K:W.Frag)(mg:Str->Option Value)(base:Heap)(A:Around)(outer:List Env)(s:Shared)(H:Hp):Prop where
 frames:A.frames=some outer
 mod:Mod K mg base
 bs:∀b o,base.get? b=some o->s.heap.get? b=some o/\H b=none
 bsz:base.objs.size<=s.heap.objs.size
 funs:s.heap.FunFrames base outer
 frf:∀b∈frs outer,H b=none
 hok:HOk P w H s.heap
 bare:AllBare s.gens
def CE(outer:List Env)(P:Program)(w:World)(H:Hp)(s:Shared)(Q:VK)(u:Value)(s':Shared):Prop :=
 ∃v H',s'.os=s.os/\AllBare s'.gens/\Un (frs outer) [] H H' s.heap s'.heap/\HOk P w H' s'.heap/\RelV v u/\Q v H'
def CR(CX:CXT)(outer:List Env)(P:Program)(w:World)(H:Hp)(s:Shared)(Q:VK)(E:XK)(r:Result)(s':Shared):Prop :=
 match r with
 | .ok (.ret u)=>CE outer P w H s Q u s'
 | .ok _=>False
 | .error e=>CX outer H s E e s'
structure aN(P:Program)(w:World)(K:W.Frag)(mg:Str->Option Value)(base:Heap)(CX:CXT)(k:Nat)(f:Addr)(fd:FuncData)(ps:List Str)(sp:Sp):Prop where
 len:∀vs H Q E,sp vs H Q E->vs.length=ps.length
 run:∀(A:Around)(outer:List Env)(s:Shared)(H:Hp)(args:Args)(us:List Value)(vs:List V)(Q:VK)(E:XK),cb k A->rg P w K mg base A outer s H->BindsTo s fd args (ps.zip us)->Vals vs us->sp vs H Q E ->
  codeAny (model P w) A (.call (.ref f) args) (CR CX outer P w H s Q E) s
theorem aN.mono{P:Program}{w:World}{K:W.Frag}{mg:Str->Option Value}{base:Heap}{CX:CXT}{j k:Nat}{f:Addr}{fd:FuncData}{ps:List Str}{sp:Sp}(F:aN P w K mg base CX j f fd ps sp)(h:j<=k) :
  aN P w K mg base CX k f fd ps sp:=⟨F.len,λA outer s H args us vs Q E hr=>F.run A outer s H args us vs Q E (hr.mono h)⟩
theorem rg.make{P:Program}{w:World}{K:W.Frag}{mg:Str->Option Value}{base:Heap}{A:Around}{outer:List Env}{s:Shared}{H:Hp}(e:rg P w K mg base A outer s H)(C:Addr)(us:List Value)(kw:List (Str×Value)) :
  rg P w K mg base (A.under (.builtin "type.__call__" ⟨.ref C :: us,kw⟩)) outer s H:=⟨by first|exact e.frames|(simpa[Around.under,Code.envs,Code.isFrame,pushEnvs]using e.frames),e.mod,e.bs,e.bsz,e.funs,e.frf,e.hok,e.bare⟩
section
variable{s':Shared}
theorem Inv.env0(I:Inv X pins σ H s):rg X.prog X.w X.K X.mg X.base X.A X.stack s H :=
 ⟨I.ok.frames,I.ok.mod,I.bs,le_trans I.ok.bsz I.sz,I.stack,I.stkFree,I.hok,I.bare⟩
theorem Inv.after{Q:VK}{u:Value}(I:Inv X pins σ H s)(h:CE X.stack X.prog X.w H s Q u s'):EP X pins σ Q u s':=by
 obtain⟨v,H',os,bare,un,hok,r,q⟩:=h;obtain⟨hh,g,d,t,os'⟩:=s';obtain rfl:os'=s.os:=os;exact⟨v,H',I.call (h':=hh) (g':=g) (d':=d) (t':=t) (ch:=[]) un hok bare (λb z=>absurd z (by simp)),r,q⟩
end
def AE(sp:Sp)(dvs:List V)(E:XK)(t:TA):TE:=λσ H Q=>t σ H λvs H1=>sp (vs++dvs) H1 Q E
def yb(C:Addr)(sp:Sp)(dvs:List V)(E:XK)(t:TA):TE:=λσ H Q=>t σ H λvs H1=>∀x dx,H1 x=none->H1 dx=none->dx≠x ->
 sp (.ref x :: (vs++dvs)) (upd (upd H1 dx (.own x)) x (.ins C dx [])) (λv H2=>v=.non/\Q (.ref x) H2) E
def Binds(K:W.Frag)(fd:FuncData)(ps:List Str)(ds:List Value):Prop :=
 ∀(s:Shared)(us:List Value),K.In s.heap->(us++ds).length=ps.length->BindsTo s fd ⟨us,[]⟩ (ps.zip (us++ds))
theorem Binds.all{K:W.Frag}{fd:FuncData}{ps:List Str}(h:∀us:List Value,us.length=ps.length->bindArgs fd ⟨us,[]⟩=pure (ps.zip us)):Binds K fd ps []:=λs us _ hl=>by
 rw[append_nil]at hl⊢;exact .of_eq (h us hl)
def Passes(CX:CXT)(X:Cx)(E:XK):Prop:=∀(pins:List (Addr×Obj))(σ:St)(H:Hp)(s:Shared)(e:Value)(s':Shared),Inv X pins σ H s->CX X.stack H s E e s'->X.xe e s'
variable{p:Pos}
section
variable{CX:CXT}{k:Nat}{fd:FuncData}{ps:List Str}{sp:Sp}{dvs:List V}{ds:List Value}{E:XK}{x m:Str}{apos:Pos}
theorem vA{pins:List (Addr×Obj)}{σ:St}{H:Hp}{s:Shared}{Q:VK}{us:List Value}{vs:List V}(F:aN X.prog X.w X.K X.mg X.base CX k f fd ps sp)(hr:cb k X.A)(hb:Binds X.K fd ps ds)(hd:Vals dvs ds)(hx:Passes CX X E)
  (I:Inv X pins σ H s)(r:Vals vs us)(h:sp (vs++dvs) H Q E):wpAny (model X.prog X.w) X.A (call (.ref f) us) (EP X pins σ Q) X.xe s:=by
 have r2:Vals (vs++dvs) (us++ds):=r.append hd;have hl:(us++ds).length=ps.length:=by rw[←r2.length];exact F.len _ _ _ _ h
 refine wpAny_call (codeAny_mono (F.run X.A X.stack s H ⟨us,[]⟩ (us++ds) (vs++dvs) Q E hr I.env0 (hb s us I.kIn hl) r2 h) λr s' hq=>?_);cases r with
 |error e=>exact hx pins σ H s e s' I hq
 |ok fl =>
  cases fl with
  |ret u=>exact I.after hq
  |next=>exact False.elim hq
  |brk=>exact False.elim hq
  |cont=>exact False.elim hq
theorem xf(F:aN X.prog X.w X.K X.mg X.base CX k f fd ps sp)(hr:cb k X.A)(hg:Gl X x)(hm:X.mg x=some (.ref f))(hk:W.keepIn X.K (.ref f)=true)(hb:Binds X.K fd ps ds)(hd:Vals dvs ds)(hx:Passes CX X E)
  (ha:PA X (e :: es) t)(hdb:(x == ("__debug__" : Str))=false:=by decide) (he:starEach (e :: es) X.env=(false,eval e X.env) :: starEach es X.env:=by rfl)(hpl:(backTo pos (starEach es X.env)).any (·.1)=false:=by rfl) :
  PE X (.Call (.Name x p) (e :: es) [] pos) (AE sp dvs E t):=by
 intro pins s σ H Q I h;refine wpAny_Call_Name_kw (gj I hg hm ?_ hdb);refine W.callWith_K (h₀:=X.base) I.ok.mod.kin hk (thn (ha pos pins s σ H _ I h) λus s1 ⟨vs,H1,I1,r,q⟩=>⟨I1.kIn,?_⟩) he hpl;exact vA F hr hb hd hx I1 r q
structure Mk(K:W.Frag)(C f:Addr):Prop where
 makes:W.makesIn K C=true
 init:W.findIn K (.ref C) "__init__" = some (some (.ref f))
 fn:W.isFn K (.ref f)=true
 kp:W.keepIn K (.ref C)=true
theorem pW{pins:List (Addr×Obj)}{σ:St}{H:Hp}{s:Shared}{Q:VK}{us:List Value}{vs:List V}(M:Mk X.K C f)(F:aN X.prog X.w X.K X.mg X.base CX k f fd ps sp)(hr:cb (k+1) X.A)(hb:Binds X.K fd ps ds)(hd:Vals dvs ds)
  (hx:Passes CX X E)(I:Inv X pins σ H s)(r:Vals vs us)
  (h:∀x dx,H x=none->H dx=none->dx≠x->sp (.ref x :: (vs++dvs)) (upd (upd H dx (.own x)) x (.ins C dx [])) (λv H2=>v=.non/\Q (.ref x) H2) E) :
  wpAny (model X.prog X.w) X.A (call (.ref C) us) (EP X pins σ Q) X.xe s:=by
 have hq:=h (s.heap.objs.size+1) s.heap.objs.size (I.hok.fresh (le_succ _)) (I.hok.fresh (le_refl _)) (ne_of_lt (lt_succ_self _));have I2:=Inv.made (C:=C) I;have r2:Vals (V.ref (s.heap.objs.size+1) :: (vs++dvs)) (Value.ref (s.heap.objs.size+1) :: (us++ds)):=.cons U (r.append hd);have hl:(Value.ref (s.heap.objs.size+1) :: us++ds).length=ps.length:=by
  have e:=r2.length;rw[F.len _ _ _ _ hq]at e;exact e.symm
 refine wpAny_call (vz (f:=f) I.kIn M.makes M.init (beq_iff_eq.mp M.fn) (codeAny_mono (F.run _ X.stack _ _ ⟨Value.ref (s.heap.objs.size+1) :: us,[]⟩ (Value.ref (s.heap.objs.size+1) :: (us++ds)) _ _ E (hr.make C us [])
  (I2.env0.make C us []) (hb _ (Value.ref (s.heap.objs.size+1) :: us) I2.kIn hl) r2 hq) λr s' hq'=>?_))
 cases r with
 |error e=>exact hx pins σ _ _ e s' I2 hq'
 |ok fl =>
  cases fl with
  |ret u =>
   obtain⟨v,H',I3,rv,ev,q3⟩:=I2.after hq';subst ev;exact⟨rv,⟨V.ref (s.heap.objs.size+1),H',I3,U,q3⟩⟩
  |next=>exact False.elim hq'
  |brk=>exact False.elim hq'
  |cont=>exact False.elim hq'
theorem xg(M:Mk X.K C f)(F:aN X.prog X.w X.K X.mg X.base CX k f fd ps sp)(hr:cb (k+1) X.A)(hg:Gl X x)(hm:X.mg x=some (.ref C))(hb:Binds X.K fd ps ds)(hd:Vals dvs ds)(hx:Passes CX X E)
  (ha:PA X (e :: es) t)(hdb:(x == ("__debug__" : Str))=false:=by decide) (he:starEach (e :: es) X.env=(false,eval e X.env) :: starEach es X.env:=by rfl)(hpl:(backTo pos (starEach es X.env)).any (·.1)=false:=by rfl) :
  PE X (.Call (.Name x p) (e :: es) [] pos) (yb C sp dvs E t):=by
 intro pins s σ H Q I h;refine wpAny_Call_Name_kw (gj I hg hm ?_ hdb);refine W.callWith_K (h₀:=X.base) I.ok.mod.kin M.kp (thn (ha pos pins s σ H _ I h) λus s1 ⟨vs,H1,I1,r,q⟩=>⟨I1.kIn,?_⟩) he hpl;exact pW M F hr hb hd hx I1 r q
theorem vB(M:Mk X.K C f)(F:aN X.prog X.w X.K X.mg X.base CX k f fd ps sp)(hr:cb (k+1) X.A)(hg:Gl X x)(hm:X.mg x=some (.ref C))(hb:Binds X.K fd ps ds)(hd:Vals dvs ds)(hx:Passes CX X E)
  (hdb:(x == ("__debug__" : Str))=false:=by decide):PE X (.Call (.Name x p) [] [] pos) (yb C sp dvs E yU):=by
 intro pins s σ H Q I h;refine wpAny_Call_Name_kw (gj I hg hm ?_ hdb);exact W.callWith_K0 I.kIn M.kp (pW (us:=[]) M F hr hb hd hx I .nil h)
end
section
variable{CX:CXT}{k:Nat}{fd:FuncData}{ps ks:List Str}{sp:Sp}{E:XK}{x m:Str}{apos B3:Pos}{kws:List Keyword}{tk:TA}{nm:Option Str}
structure B4(K:W.Frag)(fd:FuncData)(ps ks:List Str)(g:List Value->List Value->List Value)(gV:List V->List V->List V):Prop where
 to:∀(s:Shared)(us ws:List Value),K.In s.heap->(g us ws).length=ps.length->BindsTo s fd ⟨us,ks.zip ws⟩ (ps.zip (g us ws))
 rel:∀{vs:List V}{us:List Value}{zs:List V}{ws:List Value},Vals vs us->Vals zs ws->Vals (gV vs zs) (g us ws)
variable{g:List Value->List Value->List Value}{gV:List V->List V->List V}
end
structure aw(N P:List Str)(sc:Scope):Prop where
 kind:sc.kind=.function
 co:sc.isCoroutine=false
 gen:sc.isGenerator=false
 nd:N.Nodup
 pre:N.take P.length=P
 par:∀x∈P,sc.names.lookup x=some .local\/sc.names.lookup x=some .cell
 nofree:∀y∈sc.names,y.2≠.free
theorem nv{kindOf:Str->Option NameKind}{x:Str}:∀{binds:List (Str×Value)}{m:Str->Option Value},(∀v,(x,v) ∉ binds)->bindL kindOf binds m x=m x
 | [],_,_=>rfl
 |(n,v) :: r,m,h=>by
  unfold bindL;rw[nv λw hw=>h w (mem_cons_of_mem _ hw)];split
  ·have:x≠n:=by rintro rfl;exact h v mem_cons_self
   simp[this]
  ·rfl
theorem nA{kindOf:Str->Option NameKind}{x:Str}:∀{binds:List (Str×Value)}{m:Str->Option Value},(∀v,(x,v) ∉ binds)->bindC kindOf binds m x=m x
 | [],_,_=>rfl
 |(n,v) :: r,m,h=>by
  unfold bindC;rw[nA λw hw=>h w (mem_cons_of_mem _ hw)];split
  ·rfl
  ·have:x≠n:=by rintro rfl;exact h v mem_cons_self
   simp[this]
theorem nB{kindOf:Str->Option NameKind}{x:Str}{v:Value}:∀{P:List Str}{vs:List Value}{i:Nat}{m:Str->Option Value},P.Nodup->P[i]?=some x->vs[i]?=some v->kindOf x=some .local ->
  bindL kindOf (P.zip vs) m x=some v
 | [],_,_,_,_,h,_,_=>by simp at h
 |_ :: _,[],_,_,_,_,h,_=>by simp at h
 |p :: P,w :: vs,0,m,nd,h1,h2,hk=>by
  simp at h1 h2;subst h1;subst h2;show bindL kindOf ((p,w) :: P.zip vs) m p=_;unfold bindL;rw[nv λv hv=>(nodup_cons.mp nd).1 (of_mem_zip hv).1,if_pos hk];simp
 |p :: P,w :: vs,i+1,m,nd,h1,h2,hk=>by
  show bindL kindOf ((p,w) :: P.zip vs) m x=_;unfold bindL;exact nB (i:=i) (nodup_cons.mp nd).2 (by simpa using h1) (by simpa using h2) hk
theorem nC{kindOf:Str->Option NameKind}{x:Str}{v:Value}:∀{P:List Str}{vs:List Value}{i:Nat}{m:Str->Option Value},P.Nodup->P[i]?=some x->vs[i]?=some v->kindOf x≠some .local ->
  bindC kindOf (P.zip vs) m x=some v
 | [],_,_,_,_,h,_,_=>by simp at h
 |_ :: _,[],_,_,_,_,h,_=>by simp at h
 |p :: P,w :: vs,0,m,nd,h1,h2,hk=>by
  simp at h1 h2;subst h1;subst h2;show bindC kindOf ((p,w) :: P.zip vs) m p=_;unfold bindC;rw[nA λv hv=>(nodup_cons.mp nd).1 (of_mem_zip hv).1,if_neg hk];simp
 |p :: P,w :: vs,i+1,m,nd,h1,h2,hk=>by
  show bindC kindOf ((p,w) :: P.zip vs) m x=_;unfold bindC;exact nC (i:=i) (nodup_cons.mp nd).2 (by simpa using h1) (by simpa using h2) hk
def start(N:List Str)(vs:List V):St:=vs.map some++List.replicate (N.length-vs.length) none
def ji(CX:CXT)(P:Program)(w:World)(K:W.Frag)(mg:Str->Option Value)(base:Heap)(N:List Str)(qual:Str)(scope:Scope)(f:Addr)(cd:Value)(A:Around)(outer:List Env)(s:Shared)(H:Hp)(E:XK):Cx where
 prog:=P
 w:=w
 K:=K
 mg:=mg
 base:=base
 A:=A.deeper (envOfC qual scope s.heap.objs.size f cd)
 N:=N
 s₀:=s
 H₀:=H
 env:=envOfC qual scope s.heap.objs.size f cd
 outer:=outer
 stack:=envOfC qual scope s.heap.objs.size f cd :: outer
 ex:=[]
 calm:=true
 fn:=λ_=>true
 pn:=[]
 xe:=λe s'=>wpAny (model P w) (A.deeper (envOfC qual scope s.heap.objs.size f cd)) (leaving (envOfC qual scope s.heap.objs.size f cd) e) (λ_ s''=>CX outer H s E e s'') (λe' s''=>CX outer H s E e' s'') s'
theorem pX{sc:Scope}{n:Nat}{x:Str}(h:sc.names.lookup x=some .cell):∃c,(cellsFrom n sc.names []).lookup x=some c:=by
 have q:=W.cellsFrom_some sc.names n [] (.inl h);exact isSome_iff_exists.mp q
theorem uu{CX:CXT}{P:Program}{w:World}{K:W.Frag}{mg:Str->Option Value}{base:Heap}{N ps:List Str}{qual:Str}{scope:Scope}{f:Addr}{cd:Value}{A:Around}{outer:List Env}{s s1:Shared}{H:Hp}{E:XK}{us:List Value}{vs:List V}
  (S:aw N ps scope)(hd:A.handled=none)(e0:rg P w K mg base A outer s H)(hl:vs.length=ps.length)(r:Vals vs us)
  (x:InCallC s s.heap.objs.size (bindL (envOfC qual scope s.heap.objs.size f cd).kindOf (ps.zip us) λ_=>none) (cellsFrom (s.heap.objs.size+1) scope.names []) (bindC (envOfC qual scope s.heap.objs.size f cd).kindOf (ps.zip us) λ_=>none) s1) :
  Inv (ji CX P w K mg base N qual scope f cd A outer s H E) [] (start N vs) H s1:=by
 have hpl:ps.length<=N.length:=by have:=congrArg List.length S.pre;rw[length_take]at this;lia
 obtain⟨h1,tk,rfl,hk⟩:=x.done;have noA:∀b:Addr,b ∉ (ji CX P w K mg base N qual scope f cd A outer s H E).ex:=λb z=>absurd (show b∈([]:List Addr)from z) (by simp)
 refine⟨⟨e0.mod,S.kind,U,U,le_refl _,λy z c h1 h2=>?_,λy hy=>?_,λy c _ h=>?_,λ_=>hd,Around.frames_deeper e0.frames,.inr ⟨U,U⟩,λb z=>absurd z (noA b),e0.bs,e0.bsz,λb _ _=>noA b,λb z=>absurd z (noA b),e0.funs,e0.frf⟩,
  rfl,e0.bare,Un.kept hk,⟨_,x.toInCall.ns,λi y v h1 h2 h3=>?_⟩,λy c h=>⟨_,x.cell y c h⟩,e0.hok.fresh (le_refl _),λy c h=>?_,λp hp=>absurd (show p∈([]:List (Addr×Obj))from hp) (by simp),e0.hok.kept hk,?_⟩
 ·exact name_of_addr x.apart (mem_of_lookup h1) (mem_of_lookup h2)
 ·have hy:scope.names.lookup y=some .cell\/scope.names.lookup y=some .free:=hy;rcases hy with hy|hy
  ·exact pX hy
  ·exact absurd U (S.nofree _ (mem_of_lookup hy))
 ·exact le_of_lt (x.above y c (mem_of_lookup h))
 ·have hi:i<vs.length:=by
   unfold start at h2;by_cases hi:i<vs.length
   ·exact hi
   ·rw[getElem?_append_right (by simpa using hi)]at h2;rw[List.getElem?_replicate]at h2;split at h2 <;> cases h2
  have ha:vs[i]?=some v:=by
   unfold start at h2;rw[getElem?_append_left (by simpa using hi),getElem?_map]at h2;cases e:vs[i]? with
   |none=>rw[e]at h2;cases h2
   |some a=>rw[e]at h2;cases h2;rfl
  obtain⟨u,hu,rv⟩:=r.get ha;have hp:ps[i]?=some y:=by
   rw[←S.pre,List.getElem?_take_of_lt (by lia)];exact h1
  have ndP:ps.Nodup:=by rw[←S.pre];exact S.nd.sublist (take_sublist _ _)
  refine⟨u,rv,?_⟩;rcases S.par y (EY hp)with k|k
  ·exact .inl ⟨k,nB ndP hp hu k⟩
  ·obtain⟨c,e⟩:=pX (n:=s.heap.objs.size+1) k;refine .inr ⟨.inl k,c,e,?_⟩;have q:=x.cell y c e;rw[nC ndP hp hu (by show scope.names.lookup y≠_;rw[k];decide)]at q;exact q
 ·exact e0.hok.fresh (le_of_lt (x.above y c (mem_of_lookup h)))
 ·unfold start;show _=N.length;rw[length_append,length_map,length_replicate];lia
theorem yc{CX:CXT}{P:Program}{w:World}{K:W.Frag}{mg:Str->Option Value}{base:Heap}{k:Nat}{f:Addr}{name qual:Str}{params:Arguments}{body:List Stmt}{scope:Scope}{dV kV doc pm cdv ct oc:Value}{an od:Option Addr}
  {osl:Array (Option Value)}{N ps:List Str}{sp:Sp}(lk:K.lookup f=some ⟨oc,od,.func (W.fnOf name qual params body scope dV kV doc pm an cdv ct),osl⟩)(hcd:W.codeIn K cdv qual=true)(S:aw N ps scope)
  (len:∀vs H Q E,sp vs H Q E->vs.length=ps.length)
  (jQ:∀(A:Around)(outer:List Env)(s:Shared)(H:Hp)(vs:List V)(Q:VK)(E:XK),cb k (A.deeper (envOfC qual scope s.heap.objs.size f cdv))->sp vs H Q E ->
   ∃t,PSs (ji CX P w K mg base N qual scope f cdv A outer s H E) body t/\t { nx:=λ_ H'=>Q .non H',rt:=Q } (start N vs) H) :
  aN P w K mg base CX (k+1) f (W.fnOf name qual params body scope dV kV doc pm an cdv ct) ps sp:=by
 refine⟨len,λA outer s H args us vs Q E hr e0 hb r hsp=>?_⟩;have hl:=len _ _ _ _ hsp;have KX:K.In s.heap:=e0.mod.kin.keeps λb o e=>(e0.bs b o e).1
 have lim:s.heap.NoLimit:=e0.mod.nolimit.keeps λb o e=>(e0.bs b o e).1
 have AF:∀y∈ps.zip us,scope.names.lookup y.1=some .local\/(scope.names.lookup y.1=some .cell/\((cellsFrom (s.heap.objs.size+1) scope.names []).lookup y.1).isSome=true):=λ⟨n,v⟩ hy=>by
  rcases S.par n (of_mem_zip hy).1 with q|q
  ·exact .inl q
  ·exact .inr ⟨q,W.cellsFrom_some _ _ _ (.inl q)⟩
 refine codeAny_call_function hr.depth (KX _ _ lk) U S.co S.gen U (W.codeRec_of KX hcd) (hb _ _ _ _ ?_);refine wpAny_newFunctionEnv_cells S.kind AF λenv he s1 x=>?_
 subst he;refine⟨lim.keeps x.toInCall.keep,codeAny_func ?_⟩;obtain⟨t,ht,hq⟩:=jQ A outer s H vs Q E (hr.deeper _) hsp;have I:Inv (ji CX P w K mg base N qual scope f cdv A outer s H E) [] (start N vs) H s1:=uu S hr.hd e0 hl r x;refine wpAny_mono (ht [] s1 (start N vs) H _ I hq) (λfl s' hs=>?_) λe s' hs=>hs
 have fin:∀{σ':St}{H':Hp}{v:V}{u:Value},Inv (ji CX P w K mg base N qual scope f cdv A outer s H E) [] σ' H' s'->RelV v u->Q v H'->CE outer P w H s Q u s' :=
  λ{σ' H' v u} J rv q=>⟨v,H',J.os,J.bare,J.base,J.hok,rv,q⟩
 cases fl with
 |ret u =>
  obtain⟨v,σ',H',J,rv,q⟩:=hs;exact fin J rv q
 |next =>
  obtain⟨σ',H',J,q⟩:=hs;exact fin (v:=V.non) (u:=Value.none) J U q
 |brk =>
  obtain⟨_,_,_,q⟩:=hs;exact False.elim q
 |cont =>
  obtain⟨_,_,_,q⟩:=hs;exact False.elim q
section
variable{x:Str}{id T:String}{r:List V->Hp->VK->Prop}
def tCB(r:List V->Hp->VK->Prop)(t:TA):TE:=λσ H Q=>t σ H λvs H1=>r vs H1 Q
theorem au(hc:cw X (.builtin id) r)(hg:Gl X x)(hm:X.mg x=none)(hv:bootBuiltins x=some (.builtin id))(ha:PA X (e :: es) t)(hn:x ≠ "__name__" := by decide) (hdb:(x == ("__debug__" : Str))=false:=by decide)
  (he:starEach (e :: es) X.env=(false,eval e X.env) :: starEach es X.env:=by rfl)(hpl:(backTo pos (starEach es X.env)).any (·.1)=false:=by rfl):PE X (.Call (.Name x p) (e :: es) [] pos) (tCB r t):=by
 intro pins s σ H Q I h;refine wpAny_Call_Name_kw (gm I hg hm hv ?_ hn hdb);exact PyProof.Rows.callWith_builtin1 (thn (ha pos pins s σ H _ I h) λus s1 ⟨vs,H1,I1,r1,q1⟩=>hc pins s1 σ H1 vs us Q I1 r1 q1) he hpl
theorem bx(hc:cw X (.type T) r)(hg:Gl X x)(hm:X.mg x=none)(hv:bootBuiltins x=some (.type T))(ha:PA X (e :: es) t)(hn:x ≠ "__name__" := by decide) (hdb:(x == ("__debug__" : Str))=false:=by decide)
  (he:starEach (e :: es) X.env=(false,eval e X.env) :: starEach es X.env:=by rfl)(hpl:(backTo pos (starEach es X.env)).any (·.1)=false:=by rfl):PE X (.Call (.Name x p) (e :: es) [] pos) (tCB r t):=by
 intro pins s σ H Q I h;refine wpAny_Call_Name_kw (gm I hg hm hv ?_ hn hdb);exact PyProof.Rows.callWith_type1 (thn (ha pos pins s σ H _ I h) λus s1 ⟨vs,H1,I1,r1,q1⟩=>hc pins s1 σ H1 vs us Q I1 r1 q1) he hpl
end
end L2
namespace HT
open PySem PyProof.Rows
section
open PySem.SeqAt
open PySem.AutoSeq1 (wpAny_loadPart')
open PySem.MeetsSeq PySem.MeetsSeq2 PySem.MeetsSeq3
end
section
variable{prog:Program}{w:World}{A:Around}{E:Value->Shared->Prop}{s:Shared}
def sIx(n d:Nat):Option Int->Nat
 |none=>d
 |some v=>if v<0 then(v+(n:Int)).toNat else min v.toNat n
end
end HT
namespace L2
open PySem PySem.Spec PyProof.Rows
abbrev TO:=St->Hp->(Option Int->Hp->Prop)->Prop
def PO(X:Cx)(e:Option Expr)(t:TO):Prop :=
 ∀(pins:List (Addr×Obj))(s:Shared)(σ:St)(H:Hp)(Q:Option Int->Hp->Prop),Inv X pins σ H s->t σ H Q ->
  wpAny (model X.prog X.w) X.A (evalPart e X.env) (λu s'=>∃o H',Inv X pins σ H' s'/\IsPart u o/\Q o H') X.xe s
def xh:TO:=λ_ H Q=>Q none H
inductive vC  (Q:Option Int->Hp->Prop)(x:V)(H1:Hp):Prop
 |mk (i:_)(_:x=.int i)(_:Q (some i) H1):vC Q x H1
def AG(t:TE):TO:=λσ H Q=>t σ H λx H1=>vC Q x H1
variable{X:Cx}
section
variable{e:Expr}{te:TE}{lo hi:Option Expr}{tl th:TO}{pos p2:Pos}
theorem xi:PO X none xh:=by
 intro pins s σ H Q I h;rw[evalPart_none];exact wpAny_pure ⟨none,H,I,.none,h⟩
theorem oC(h:PE X e te):PO X (some e) (AG te):=by
 intro pins s σ H Q I hw;rw[evalPart_some];refine thn (h pins s σ H _ I hw) λu s1 ⟨x,H1,I1,r1,q1⟩=>?_
 obtain⟨i,rfl,q⟩:=q1;obtain⟨t,rfl⟩:=r1;exact⟨some i,H1,I1,.int i t,q⟩
def SlR(X:Cx)(r:V->Option Int->Option Int->Hp->VK->Prop):Prop :=
 ∀(pins:List (Addr×Obj))(s:Shared)(σ:St)(H:Hp)(x:V)(v vl vu:Value)(lo hi:Option Int)(sl:Addr)(Q:VK),Inv X pins σ H s->RelV x v->s.heap.IsSliceOf sl vl vu .none->IsPart vl lo->IsPart vu hi->r x lo hi H Q ->
  ∃T id,typeLookup (.type T) "__getitem__" = pure (some (.builtin id))/\s.TypeIs v T/\wpAny (model X.prog X.w) X.A (getItem v (.ref sl)) (EP X pins σ Q) X.xe s
def tSl(r:V->Option Int->Option Int->Hp->VK->Prop)(te:TE)(tl th:TO):TE:=λσ H Q=>te σ H λx H1=>tl σ H1 λl H2=>th σ H2 λu H3=>r x l u H3 Q
theorem pY{r:V->Option Int->Option Int->Hp->VK->Prop}(hr:SlR X r)(he:PE X e te)(hl:PO X lo tl)(hu:PO X hi th):PE X (.Subscript e (.Slice lo hi none p2) pos) (tSl r te tl th):=by
 intro pins s σ H Q I h;refine Subscript_ (thn (he pins s σ H _ I h) λv s1 ⟨x,H1,I1,r1,q1⟩=>?_);refine wpAny_Slice (thn (hl pins s1 σ H1 _ I1 q1) λvl s2 ⟨l,H2,I2,pl,q2⟩=>thn (hu pins s2 σ H2 _ I2 q2) λvu s3 ⟨u,H3,I3,pu,q3⟩=>?_);rw[evalPart_none];refine wpAny_pure ?_;have I4:Inv X pins σ H3 { s3 with heap:=s3.heap.push { cls:=.type "slice",data:=.fields #[vl,vu,.none] } }:=I3.kept (t':=s3.toks) λb ob q=>Heap.get?_push_of_some _ q
 obtain⟨T,id,hT,ht,hg⟩:=hr pins { s3 with heap:=s3.heap.push { cls:=.type "slice",data:=.fields #[vl,vu,.none] } } σ H3 x v vl vu l u s3.heap.objs.size Q I4 r1 (Heap.IsSliceOf.new ..) pl pu q3;show wpAny (model X.prog X.w) X.A (subscriptTail e (.Slice lo hi none p2) v (.ref s3.heap.objs.size)) (EP X pins σ Q) X.xe { s3 with heap:=s3.heap.push { cls:=.type "slice",data:=.fields #[vl,vu,.none] } };exact tail_any (ops:=[.ref s3.heap.objs.size,v]) ht hT hg (by with_unfolding_all rfl)
def hV(xs:List V)(lo hi:Option Int):List V:=(xs.drop (HT.sIx xs.length 0 lo)).take (HT.sIx xs.length xs.length hi-HT.sIx xs.length 0 lo)
theorem kW(xs:List V)(lo hi:Option Int):(hV xs lo hi).length<=xs.length:=by
 unfold hV;rw[length_take,List.length_drop];lia
end
def ixN(n:Nat)(i:Int):Option Nat:=if 0<=i then(if i<n then some i.toNat else none)else if -(n:Int)<=i then some (i+n).toNat else none
def atI{α:Type}(xs:List α)(i:Int):Option α:=(ixN xs.length i).bind λj=>xs[j]?
theorem sV{n:Nat}{i:Int}{j:Nat}(h:ixN n i=some j):seqIndex? i n=some j/\j<n/\-(n:Int)<=i/\i<n:=by
 unfold ixN at h;by_cases h0:0<=i
 ·rw[if_pos h0]at h;by_cases h1:i<n
  ·rw[if_pos h1]at h;have e:i.toNat=j:=Option.some.inj h;exact⟨by rw[seqIndex_of h0 h1,e],by lia,by lia,h1⟩
  ·rw[if_neg h1]at h;cases h
 ·rw[if_neg h0]at h;by_cases h1 : -(n:Int)<=i
  ·rw[if_pos h1]at h;have e:(i+n).toNat=j:=Option.some.inj h;exact⟨by rw[seqIndex_neg (by lia) h1,e],by lia,h1,by lia⟩
  ·rw[if_neg h1]at h;cases h
theorem oE{α:Type}{xs:List α}{i:Int}{v:α}(h:atI xs i=some v):∃j,seqIndex? i xs.length=some j/\xs[j]?=some v/\j<xs.length/\-(xs.length:Int)<=i/\i<xs.length:=by
 unfold atI at h;cases e:ixN xs.length i with
 |none=>rw[e]at h;cases h
 |some j =>
  rw[e]at h;obtain⟨h1,h2,h3,h4⟩:=sV e;exact⟨j,h1,h,h2,h3,h4⟩
theorem aM{α:Type}{xs:List α}{j:Nat}{v:α}(h:xs[j]?=some v):atI xs (j:Int)=some v:=by
 have hj:j<xs.length:=(EW.mp h).1;have e:ixN xs.length (j:Int)=some j:=by
  unfold ixN;rw[if_pos (by lia),if_pos (by lia)];simp
 unfold atI;rw[e];exact h
theorem vD{α:Type}(xs:List α)(v:α):atI (xs++[v]) (-1)=some v:=by
 have hl:(xs++[v]).length=xs.length+1:=by simp
 have e:ixN (xs++[v]).length (-1)=some xs.length:=by
  unfold ixN;rw[hl,if_neg (by decide),if_pos (by lia)]
  congr 1
  lia
 unfold atI;rw[e];show(xs++[v])[xs.length]?=some v;simp
def xj(b:Expr):Prop:=∀o i,subscripted b false o i=operate [o,i] (getItem o i)
def IxR(X:Cx)(r:R2):Prop :=
 ∀(value slice:Expr)(pins:List (Addr×Obj))(s:Shared)(σ:St)(H:Hp)(x y:V)(v u:Value)(Q:VK),Inv X pins σ H s->RelV x v->RelV y u->r x y H Q ->
  subscripted slice false v u=operate [v,u] (getItem v u)->wpAny (model X.prog X.w) X.A (subscriptTail value slice v u) (EP X pins σ Q) X.xe s
def MtR(X:Cx)(id:String)(r:V->List V->Hp->VK->Prop):Prop :=
 ∀(pins:List (Addr×Obj))(s:Shared)(σ:St)(H:Hp)(x:V)(xs:List V)(v:Value)(us:List Value)(Q:VK),Inv X pins σ H s->RelV x v->Vals xs us->r x xs H Q ->
  wpAny (model X.prog X.w) X.A (call (.builtin id) (v :: us)) (EP X pins σ Q) X.xe s
section
variable{a b:Expr}{ta tb:TE}{pos:Pos}
theorem aF{r:R2}(hr:IxR X r)(ha:PE X a ta)(hb:PE X b tb)(hs:xj b):PE X (.Subscript a b pos) (tOp r ta tb):=by
 intro pins s σ H Q I h;exact Subscript_ (yK ha hb I h λv u s2 x y H2 I2 rx ry q=>hr a b pins s2 σ H2 x y v u Q I2 rx ry q (hs _ _))
inductive yV(K:W.Frag)(x:V)(y:V)(H:Hp)(Q:VK):Prop
 |mk (p xs i v:_)(_:x=.ref p)(_:y=.int i)(_:SqL K H p xs)(_:atI xs i=some v)(_:Q v H):yV K x y H Q
inductive yW(K:W.Frag)(x:V)(y:V)(H:Hp)(Q:VK):Prop
 |mk (p xs i v:_)(_:x=.ref p)(_:y=.int i)(_:SqT K H p xs)(_:atI xs i=some v)(_:Q v H):yW K x y H Q
inductive AH  (x:V)(y:V)(H:Hp)(Q:VK):Prop
 |mk (z i c:_)(_:x=.str z)(_:y=.int i)(_:z.length<=sizeLine)(_:atI z.cps.toList i=some c)(_:Q (.str ⟨#[c]⟩) H):AH x y H Q
theorem aL:IxR X (yV X.K):=by
 intro value slice pins s σ H x y v u Q I rx ry h hs;obtain⟨p,xs,i,z,rfl,rfl,hq,he,q⟩:=h;cases rx;obtain⟨t,rfl⟩:=ry;obtain⟨its,r,pl,hz⟩:=I.list hq;obtain⟨j,h1,h2,h3,h4,h5⟩:=oE he;obtain⟨w,ew,rw'⟩:=r.get h2;have hl:=r.length;have hn:=jh;have fin:EP X pins σ Q w s:=⟨z,H,I,rw',q⟩;by_cases h0:0<=i
 ·have hj:i.toNat=j:=by
   rw[seqIndex_of h0 h5]at h1;exact Option.some.inj h1
  exact item_listR pl.isList h0 (by lia) (by rw[hj];simpa using ew) fin hs
 ·have hj:(i+(its.toArray.size:Int)).toNat=j:=by
   rw[seqIndex_neg (by lia) h4]at h1;rw[size_toArray,←hl];exact Option.some.inj h1
  exact subscriptTail_builtinR (x:=w) pl.isList.typeIs slot_list_getitem.lookup
   (wpAny_getItem_list_neg (Q:=λr s'=>r=w/\EP X pins σ Q r s') pl.isList (by lia) (by rw[size_toArray] <;> lia) (by lia) (by rw[hj];simpa using ew) ⟨U,fin⟩) hs
theorem aW:IxR X (yW X.K):=by
 intro value slice pins s σ H x y v u Q I rx ry h hs;obtain⟨p,xs,i,z,rfl,rfl,hq,he,q⟩:=h;cases rx;obtain⟨t,rfl⟩:=ry;obtain⟨its,r,pl,hz⟩:=I.tuple hq;obtain⟨j,h1,h2,h3,h4,h5⟩:=oE he;obtain⟨w,ew,rw'⟩:=r.get h2;have hl:=r.length;have hn:=jh;have fin:EP X pins σ Q w s:=⟨z,H,I,rw',q⟩
 exact subscriptTail_builtinR (x:=w) pl.typeIs slot_tuple_getitem.lookup
  (getItem_tuple (j:=j) (Q:=λr s'=>r=w/\EP X pins σ Q r s') pl (by lia) (by lia) (by rw[size_toArray,←hl];exact h1) (by simpa using ew) ⟨U,fin⟩) hs
theorem rh:IxR X AH:=by
 intro value slice pins s σ H x y v u Q I rx ry h hs;obtain⟨z,i,c,rfl,rfl,hz,he,q⟩:=h;obtain⟨t,rfl⟩:=rx;obtain⟨t',rfl⟩:=ry;obtain⟨j,h1,h2,h3,h4,h5⟩:=oE he;have hl:z.cps.toList.length=z.length:=by simp[Str.length]
 rw[hl]at h1 h4 h5;have hn:=jh;exact tail_any (typeIs_str s z t) slot_str_getitem.lookup (getItem_str (c:=c) (by
  have e1:decide (i < -(2^63:Int))=false:=decide_eq_false (by lia);have e2:decide (i ≥ 2^63)=false:=decide_eq_false (by lia);rw[e1,e2,Bool.or_false]) (by rw[h1];simpa using h2) ⟨.str ⟨#[c]⟩,H,I.tok _,⟨_,U⟩,q⟩) hs
theorem rj(its:List Value)(n j:Nat)(u:Value):Obj.mapSeq (·.setIfInBounds j u) { cls:=.type "list",data:=.seq its.toArray n }={ cls:=.type "list",data:=.seq (its.set j u).toArray n }:=by
 simp[Obj.mapSeq]
theorem Inv.lst{pins:List (Addr×Obj)}{σ:St}{H:Hp}{s:Shared}{p:Addr}{xs:List V}(I:Inv X pins σ H s)(h:H p=some (.lst xs)) :
  ∃(its:List Value)(n:Nat),Vals xs its/\s.heap.get? p=some { cls:=.type "list",data:=.seq its.toArray n }/\xs.length<=sizeLine:=by
 obtain⟨z,its,n,r,e⟩:=I.hok p _ h;exact⟨its,n,r,e,z⟩
theorem Inv.lstUpd{pins:List (Addr×Obj)}{σ:St}{H:Hp}{s:Shared}{p:Addr}{xs ys:List V}{its its':List Value}{n n':Nat}{f:Obj->Obj}(I:Inv X pins σ H s)(h:H p=some (.lst xs))
  (ho:s.heap.get? p=some { cls:=.type "list",data:=.seq its.toArray n }) (hf:f { cls:=.type "list",data:=.seq its.toArray n }={ cls:=.type "list",data:=.seq its'.toArray n' }) (r:Vals ys its')(hz:ys.length<=sizeLine)(t:Nat) :
  Inv X pins σ (upd H p (.lst ys)) { s with heap:=s.heap.update p f,toks:=t }:=by
 have e:(s.heap.update p f).get? p=some { cls:=.type "list",data:=.seq its'.toArray n' }:=by
  rw[Heap.get?_update_self f ho (by rw[hf] <;> rfl),hf]
 refine I.write (x:=p) (e:=p) (by rw[h];trivial) (.inl U) (λb u hb q=>(Heap.get?_update_other _ _ (Ne.symm hb)).trans q) ⟨_,e⟩ ?_;exact⟨hz,its',n',r,e⟩
inductive yd  (o:V)(i:V)(v:V)(H:Hp)(Q:(Hp->Prop)):Prop
 |mk (p xs k j:_)(_:o=.ref p)(_:i=.int k)(_:H p=some (.lst xs))(_:ixN xs.length k=some j)(_:Q (upd H p (.lst (xs.set j v)))):yd o i v H Q
theorem set_list:Aq X yd:=by
 intro pins s σ H o i v ov iv u Q I ro ri rv h;obtain⟨p,xs,k,j,rfl,rfl,hp,hj,q⟩:=h;cases ro;obtain⟨t,rfl⟩:=ri;obtain⟨its,n,r,ho,hz⟩:=I.lst hp;obtain⟨h1,h2,h3,h4⟩:=sV hj;have hl:=r.length;have hn:=jh;have I':Inv X pins σ (upd H p (.lst (xs.set j v))) { s with heap:=s.heap.update p (Obj.mapSeq (·.setIfInBounds j u)) } :=
  I.lstUpd hp ho (rj its n j u) (r.set rv j) (by rw[length_set];exact hz) s.toks
 by_cases h0:0<=k
 ·have hk:k.toNat=j:=by
   rw[seqIndex_of h0 h4]at h1;exact Option.some.inj h1
  exact W.ki_setAt ho h0 (by lia) (by rw[size_toArray,←hl];exact h4) (by rw[hk];exact⟨_,I',q⟩)
 ·have hk:(k+(its.toArray.size:Int)).toNat=j:=by
   rw[seqIndex_neg (by lia) h3]at h1;rw[size_toArray,←hl];exact Option.some.inj h1
  exact W.ki_setBack ho (by lia) (by rw[size_toArray,←hl];exact h3) (by lia) (by rw[hk];exact⟨_,I',q⟩)
theorem oF(lo hi:Option Int)(n:Nat):(sliceBounds lo hi none n).1=((HT.sIx n 0 lo:Nat):Int)/\(sliceBounds lo hi none n).2.1=((HT.sIx n n hi:Nat):Int)/\(sliceBounds lo hi none n).2.2=1:=by
 refine⟨?_,?_,U⟩
 ·cases lo with
  |none=>simp[sliceBounds,HT.sIx]
  |some i =>
   simp only[sliceBounds,HT.sIx,getD_none,show(1:Int)>0 by decide,if_true];by_cases h:i<0
   ·simp only[h,if_true] <;> lia
   ·simp only[h,if_false] <;> lia
 ·cases hi with
  |none=>simp[sliceBounds,HT.sIx]
  |some i =>
   simp only[sliceBounds,HT.sIx,getD_none,show(1:Int)>0 by decide,if_true];by_cases h:i<0
   ·simp only[h,if_true] <;> lia
   ·simp only[h,if_false] <;> lia
theorem mX(its:List Value)(lo hi:Option Int):slicePick its.toArray lo hi none=((its.drop (HT.sIx its.length 0 lo)).take (HT.sIx its.length its.length hi-HT.sIx its.length 0 lo)).toArray:=by
 obtain⟨h1,h2,h3⟩:=oF lo hi its.toArray.size;unfold slicePick;rw[h1,h2,h3];simp only[sliceRange_one,pick_run,size_toArray] <;> rfl
inductive AI(K:W.Frag)(x:V)(lo:Option Int)(hi:Option Int)(H:Hp)(Q:VK):Prop
 |mk (a xs:_)(_:x=.ref a)(_:SqL K H a xs)(_:∀p,H p=none->Q (.ref p) (upd H p (.lst (hV xs lo hi)))):AI K x lo hi H Q
theorem sW:SlR X (AI X.K):=by
 intro pins s σ H x v vl vu lo hi sl Q I rx hs pl pu h;obtain⟨a,xs,rfl,hx,q⟩:=h;cases rx;obtain⟨its,r,ht,hz⟩:=I.list hx;have hlen:=r.length;refine⟨"list",_,slot_list_getitem.lookup,ht.isList.typeIs,?_⟩;refine wpAny_getItem_list_slice ht.isList hs pl pu .none (by simp) ?_ (by rw[size_toArray] <;> lia);rw[mX,←hlen];refine⟨.ref s.heap.objs.size,_,I.laid (t':=s.toks) (o:=.lst (hV xs lo hi)) (λb ob q=>Heap.get?_push_of_some _ q) (le_refl _) ?_,U,q _ (I.hok.fresh (le_refl _))⟩;exact⟨le_trans (kW xs lo hi) hz,_,0,(r.drop (HT.sIx xs.length 0 lo)).take (HT.sIx xs.length xs.length hi-HT.sIx xs.length 0 lo),Heap.get?_push_size _ U⟩
def bY:V->Bool
 | .non=>true
 | .bl _=>true
 | .int _=>true
 | .str _=>true
 |_=>false
def eqV:V->V->Bool
 | .non,.non=>true
 | .bl a,.bl b=>a == b
 | .bl a,.int b=>(if a then 1 else 0) == b
 | .int a,.bl b=>a == (if b then 1 else 0)
 | .int a,.int b=>a == b
 | .str a,.str b=>a == b
 |_,_=>false
theorem oG{A:Around}{s:Shared}{y x:V}{u v:Value}(ry:RelV y u)(rx:RelV x v)(fy:bY y=true)(fx:bY x=true):SeqAt.EqAt A s u v (eqV y x):=by
 cases y with
 |non =>
  cases ry;cases x with
  |non=>cases rx;exact SeqAt.EqAt.same _
  |bl b=>cases rx;exact SeqAt.EqAt.none_bool b
  |int b=>obtain⟨t,rfl⟩:=rx;exact SeqAt.EqAt.none_int b t
  |str b=>obtain⟨t,rfl⟩:=rx;exact SeqAt.EqAt.none_str b t
  |_=>exact absurd (show false=true from fx) Bool.false_ne_true
 |bl a =>
  cases ry;cases x with
  |non=>cases rx;exact SeqAt.EqAt.bool_none a
  |bl b=>cases rx;exact SeqAt.EqAt.bool_bool a b
  |int b=>obtain⟨t,rfl⟩:=rx;exact SeqAt.EqAt.bool_int a b t
  |str b=>obtain⟨t,rfl⟩:=rx;exact SeqAt.EqAt.bool_str a b t
  |_=>exact absurd (show false=true from fx) Bool.false_ne_true
 |int a =>
  obtain⟨t',rfl⟩:=ry;cases x with
  |non=>cases rx;exact SeqAt.EqAt.int_none a t'
  |bl b=>cases rx;exact SeqAt.EqAt.int_bool a t' b
  |int b=>obtain⟨t,rfl⟩:=rx;exact SeqAt.EqAt.int_int a t' b t
  |str b=>obtain⟨t,rfl⟩:=rx;exact SeqAt.EqAt.int_str a t' b t
  |_=>exact absurd (show false=true from fx) Bool.false_ne_true
 |str a =>
  obtain⟨t',rfl⟩:=ry;cases x with
  |non=>cases rx;exact SeqAt.EqAt.str_none a t'
  |bl b=>cases rx;exact SeqAt.EqAt.str_bool a t' b
  |int b=>obtain⟨t,rfl⟩:=rx;exact SeqAt.EqAt.str_int a t' b t
  |str b=>obtain⟨t,rfl⟩:=rx;exact SeqAt.EqAt.str_str a t' b t
  |_=>exact absurd (show false=true from fx) Bool.false_ne_true
 |_=>exact absurd (show false=true from fy) Bool.false_ne_true
def eqU(x:V)(u:Value):Bool:=match u with
 | .none=>eqV .non x
 | .bool b=>eqV (.bl b) x
 | .int i _=>eqV (.int i) x
 | .str z _=>eqV (.str z) x
 |_=>false
theorem rm{x y:V}{u:Value}(r:RelV y u)(f:bY y=true):eqU x u=eqV y x:=by
 cases y with
 |non=>cases r;rfl
 |bl b=>cases r;rfl
 |int i=>obtain⟨t,rfl⟩:=r;rfl
 |str z=>obtain⟨t,rfl⟩:=r;rfl
 |_=>exact absurd (show false=true from f) Bool.false_ne_true
theorem jR{x:V}:∀{xs:List V}{us:List Value},Vals xs us->xs.all bY=true->us.any (eqU x)=xs.any λy=>eqV y x
 |_,_,.nil,_=>rfl
 |y :: xs,u :: us,.cons r t,f=>by
  rw[all_cons,and_eq_true]at f;rw[any_cons,any_cons,rm r f.1,jR t f.2]
theorem fV{A:Around}{s:Shared}{x:V}{v:Value}(rx:RelV x v)(fx:bY x=true):∀{xs:List V}{us:List Value},Vals xs us->xs.all bY=true->∀u∈us,SeqAt.EqAt A s u v (eqU x u)
 |_,_,.nil,_=>λu hu=>by cases hu
 |y :: xs,u :: us,.cons r t,f=>λu' hu=>by
  rw[all_cons,and_eq_true]at f;rcases mem_cons.mp hu with rfl|hu
  ·rw[rm r f.1];exact oG r rx f.1 fx
  ·exact fV rx fx t f.2 u' hu
def inV(x:V)(xs:List V):Bool:=xs.any λy=>eqV y x
inductive rIn(K:W.Frag)(neg:Bool)(x:V)(y:V)(H:Hp)(Q:VK):Prop
 |mk (p xs:_)(_:y=.ref p)(_:(SqL K H p xs\/SqT K H p xs))(_:bY x=true)(_:xs.all bY=true)(_:Q (.bl (if neg then !inV x xs else inV x xs)) H):rIn K neg x y H Q
theorem nE:OpR X (compareOp .In) (rIn X.K false):=by
 intro pins s σ H x y v u Q I rx ry h;obtain⟨p,xs,rfl,hq,fx,fs,q⟩:=h;cases ry;rcases hq with hq|hq
 ·obtain⟨its,r,pl,hz⟩:=I.list hq;refine SeqAt.in_listAt (eqU x) pl.isList (λw hw=>fV rx fx r fs w (by simpa using hw)) ⟨.bl _,H,I,U,?_⟩;rw[show its.toArray.any (eqU x)=its.any (eqU x) by simp,jR r fs];exact q
 ·obtain⟨its,r,pl,hz⟩:=I.tuple hq;refine SeqAt.in_tupleAt (eqU x) pl (λw hw=>fV rx fx r fs w (by simpa using hw)) ⟨.bl _,H,I,U,?_⟩;rw[show its.toArray.any (eqU x)=its.any (eqU x) by simp,jR r fs];exact q
theorem jS:OpR X (compareOp .NotIn) (rIn X.K true):=by
 intro pins s σ H x y v u Q I rx ry h;obtain⟨p,xs,rfl,hq,fx,fs,q⟩:=h;cases ry;rcases hq with hq|hq
 ·obtain⟨its,r,pl,hz⟩:=I.list hq;refine SeqAt.notIn_listAt (eqU x) pl.isList (λw hw=>fV rx fx r fs w (by simpa using hw)) ⟨.bl _,H,I,U,?_⟩;rw[show its.toArray.any (eqU x)=its.any (eqU x) by simp,jR r fs];exact q
 ·obtain⟨its,r,pl,hz⟩:=I.tuple hq;refine SeqAt.notIn_tupleAt (eqU x) pl (λw hw=>fV rx fx r fs w (by simpa using hw)) ⟨.bl _,H,I,U,?_⟩;rw[show its.toArray.any (eqU x)=its.any (eqU x) by simp,jR r fs];exact q
theorem aq:cw X (.builtin "len") (λxs H Q=>∃p ys,xs=[.ref p]/\(SqL X.K H p ys\/SqT X.K H p ys)/\Q (.int ys.length) H):=by
 intro pins s σ H xs us Q I r h;obtain⟨p,ys,rfl,hq,q⟩:=h;obtain⟨u,rfl,rx⟩:=vals1 r;cases rx;have hn:=jh;rcases hq with hq|hq
 ·obtain⟨its,r',pl,hz⟩:=I.list hq;have hlen:=r'.length;exact Calls.call_len_list pl.isList (by simp only[size_toArray] <;> lia) ⟨.int ys.length,H,I.tok _,⟨s.toks+1,by rw[size_toArray,hlen]⟩,q⟩
 ·obtain⟨its,r',pl,hz⟩:=I.tuple hq;have hlen:=r'.length;exact len_tuple pl (by simp only[size_toArray] <;> lia) ⟨.int ys.length,H,I.tok _,⟨s.toks+1,by rw[size_toArray,hlen]⟩,q⟩
theorem oH:cw X (.builtin "len") (λxs H Q=>∃z,xs=[.str z]/\z.length<=sizeLine/\Q (.int z.length) H):=by
 intro pins s σ H xs us Q I r h;obtain⟨z,rfl,hz,q⟩:=h;obtain⟨u,rfl,t,rfl⟩:=vals1 r;have hn:=jh;exact len_str (by lia) ⟨.int z.length,H,I.tok _,⟨_,U⟩,q⟩
theorem cw.or{f:Value}{r r':List V->Hp->VK->Prop}(h:cw X f r)(h':cw X f r'):cw X f (λxs H Q=>r xs H Q\/r' xs H Q):=by
 intro pins s σ H xs us Q I rs q;rcases q with q|q
 ·exact h pins s σ H xs us Q I rs q
 ·exact h' pins s σ H xs us Q I rs q
theorem cA:cw X (.type "list") (λxs H Q=>∃p ys,xs=[.ref p]/\(SqL X.K H p ys\/SqT X.K H p ys)/\∀l,H l=none->Q (.ref l) (upd H l (.lst ys))):=by
 intro pins s σ H xs us Q I r h;obtain⟨p,ys,rfl,hq,q⟩:=h;obtain⟨u,rfl,rx⟩:=vals1 r;cases rx
 have fin:∀(its:List Value),Vals ys its->ys.length<=sizeLine->∀(h':Heap)(c':Nat),(∀b o',s.heap.get? b=some o'->h'.get? b=some o') ->
   h'.get? s.heap.objs.size=some { cls:=.type "list",dict:=none,data:=.seq its.toArray c',slots:=#[] }->EP X pins σ Q (.ref s.heap.objs.size) { s with heap:=h' }:=λits r' hz h' c' kp e =>
  ⟨.ref s.heap.objs.size,_,I.laid (t':=s.toks) kp (le_refl _) (show bQ X.prog X.w _ h' _ (.lst ys) from⟨hz,its,c',r',e⟩),U,q _ (I.hok.fresh (le_refl _))⟩
 rcases hq with hq|hq
 ·obtain⟨its,r',pl,hz⟩:=I.list hq;have hlen:=r'.length;obtain⟨o,ho,hc,n,hd⟩:=pl.isList;exact call_list_seq p (.inl U) ho hc hd (λh' c' kp e=>fin its r' hz h' c' kp e) (by simp only[size_toArray] <;> lia)
 ·obtain⟨its,r',pl,hz⟩:=I.tuple hq;have hlen:=r'.length;obtain⟨o,ho,hc,n,hd⟩:=pl;exact call_list_seq p (.inr U) ho hc hd (λh' c' kp e=>fin its r' hz h' c' kp e) (by simp only[size_toArray] <;> lia)
def tyV(K:W.Frag)(T:String)(x:V)(H:Hp):Prop:=match x with
 | .str _=>T = "str"
 | .int _=>T = "int"
 | .ref p=>(T = "list" /\ ∃xs,SqL K H p xs)\/(T = "tuple" /\ ∃o,K.lookup p=some o/\o.cls=.type "tuple" /\ o.dict=none) \/
   (T = "dict" /\ ((∃kvs,H p=some (.dK kvs))\/∃kvs,H p=some (.dT kvs)))\/(T = "set" /\ ∃S n,H p=some (.set S n))
 |_=>False
theorem vE{pins:List (Addr×Obj)}{σ:St}{H:Hp}{s:Shared}{T:String}{x:V}{v:Value}(I:Inv X pins σ H s)(r:RelV x v)(ty:tyV X.K T x H) :
  s.TypeIs v T/\∀a,v=.ref a->∃ob,s.heap.get? a=some ob/\ob.dict=none:=by
 cases x with
 |str z =>
  obtain⟨t,rfl⟩:=r;cases (show T = "str" from ty);exact⟨typeIs_str s z t,λ_ e=>nomatch e⟩
 |int i =>
  obtain⟨t,rfl⟩:=r;cases (show T = "int" from ty);exact⟨typeIs_int s i t,λ_ e=>nomatch e⟩
 |ref p =>
  cases r;rcases ty with⟨rfl,xs,hq⟩|⟨rfl,o,hk,hc,hd⟩|⟨rfl,hk⟩|⟨rfl,S,n,hk⟩
  ·obtain⟨its,_,pl,_⟩:=I.list hq;refine⟨pl.isList.typeIs,λa e=>?_⟩;cases e;obtain⟨o,n,e,c,hd,_⟩:=pl;exact⟨o,e,hd⟩
  ·refine⟨⟨o,I.kIn p o hk,hc⟩,λa e=>?_⟩;cases e;exact⟨o,I.kIn _ o hk,hd⟩
  ·have z:∃o,s.heap.get? p=some o/\o.ExactDict:=by
    rcases hk with⟨kvs,hk⟩|⟨kvs,hk⟩
    ·obtain⟨_,_,_,_,o,_,_,e,ex,_⟩:=I.hok p _ hk;exact⟨o,e,ex⟩
    ·obtain⟨_,_,_,_,o,_,_,e,ex,_⟩:=I.hok p _ hk;exact⟨o,e,ex⟩
   obtain⟨o,e,ex⟩:=z;refine⟨⟨o,e,ex.1⟩,λa e2=>?_⟩;cases e2;exact⟨o,e,ex.2.1⟩
  ·obtain⟨o,_,_,_,e,ex,_⟩:=I.hok p _ hk;refine⟨⟨o,e,ex.1⟩,λa e2=>?_⟩;cases e2;exact⟨o,e,ex.2.1⟩
 |_=>exact False.elim ty
def B5(K:W.Frag)(T:String)(r:V->List V->Hp->VK->Prop)(to:TE):TE:=λσ H Q=>to σ H λx H1=>tyV K T x H1/\r x [] H1 Q
def tBM(K:W.Frag)(T:String)(r:V->List V->Hp->VK->Prop)(to:TE)(t:TA):TE:=λσ H Q=>to σ H λx H1=>tyV K T x H1/\t σ H1 λxs H2=>r x xs H2 Q
variable{o e:Expr}{es:List Expr}{to:TE}{t:TA}{name:Str}{apos dD:Pos}{T id:String}{r:V->List V->Hp->VK->Prop}
theorem yX(pa:PlainAttrs T)(slot:Slot T name id)(hty:typeOf (.builtin id)=pure (.type "method_descriptor")) (hm:MtR X id r)(ho:PE X o to)
  (pZ:attributeBase o name X.env (eval o X.env)=eval o X.env:=by rfl)(p4:(apos.endLine == dD.line)=true:=by rfl):PE X (.Call (.Attribute o name apos) [] [] dD) (B5 X.K T r to):=by
 intro pins s σ H Q I h;refine wpAny_Call_method0_late pZ p4 (thn (ho pins s σ H _ I h) λv s1 ⟨x,H1,I1,r1,ty,q1⟩=>?_);obtain⟨h1,h2⟩:=vE I1 r1 ty;exact⟨T,id,pa,slot,hty,h1,h2,Calls.callWith_builtin U (PySem.evalArgs_none (hm pins s1 σ H1 x [] v [] Q I1 r1 .nil q1))⟩
theorem d9(pa:PlainAttrs T)(slot:Slot T name id)(hty:typeOf (.builtin id)=pure (.type "method_descriptor")) (hm:MtR X id r)(ho:PE X o to)(ha:PA X (e :: es) t)
  (pZ:attributeBase o name X.env (eval o X.env)=eval o X.env:=by rfl)
  (rn:((backTo dD (starEach (e :: es) X.env)).all (λx=>!x.1) && (backToKw dD (keywordEach [] X.env)).all (λx=>x.1.isSome)
   && decide ((e :: es).length+([]:List Keyword).length+(if ([]:List Keyword).isEmpty then 0 else 1)<30))=true:=by rfl)
  (p4:(apos.endLine == dD.line)=true:=by rfl)(hs:starEach (e :: es) X.env=(false,eval e X.env) :: starEach es X.env:=by rfl)(yY:(backTo dD (starEach es X.env)).any (·.1)=false:=by rfl) :
  PE X (.Call (.Attribute o name apos) (e :: es) [] dD) (tBM X.K T r to t):=by
 intro pins s σ H Q I h;refine wpAny_Call_method_late pZ rn p4 U (thn (ho pins s σ H _ I h) λv s1 ⟨x,H1,I1,r1,ty,q1⟩=>?_);obtain⟨h1,h2⟩:=vE I1 r1 ty;refine⟨T,id,pa,slot,hty,h1,h2,?_⟩;have hA:=ha dD pins s1 σ H1 _ I1 q1;rw[hs]at hA⊢;refine Calls.callWith_builtin (by show(false || (backTo dD (starEach es X.env)).any (·.1))=false;rw[yY] <;> rfl) (Calls.evalArgs_plain ?_);exact thn hA λus s2 ⟨vs,H2,I2,r2,q2⟩=>hm pins s2 σ H2 x vs v us Q I2 r1 r2 q2
end
def MtM(X:Cx)(id:String)(r:V->List V->Hp->VK->Prop):Prop :=
 ∀(pins:List (Addr×Obj))(s:Shared)(σ:St)(H:Hp)(x:V)(xs:List V)(v:Value)(us:List Value)(Q:VK),Inv X pins σ H s->RelV x v->Vals xs us->r x xs H Q ->
  wpAny (model X.prog X.w) X.A (call (.builtin id) (v :: us)) (EP X pins σ Q) X.xe s
theorem Vals.one:∀{x:V}{us:List Value},Vals [x] us->∃u,us=[u]/\RelV x u
 |_,_,.cons r .nil=>⟨_,U,r⟩
theorem Vals.two:∀{x y:V}{us:List Value},Vals [x,y] us->∃u v,us=[u,v]/\RelV x u/\RelV y v
 |_,_,_,.cons r (.cons q .nil)=>⟨_,_,U,r,q⟩
theorem Vals.zero:∀{us:List Value},Vals [] us->us=[]
 |_,.nil=>rfl
theorem Vals.reverse{xs:List V}{us:List Value}(h:Vals xs us):Vals xs.reverse us.reverse:=by
 induction h with
 |nil=>exact .nil
 |cons r t ih=>rw[List.reverse_cons,List.reverse_cons];exact Vals.append ih (.cons r .nil)
section
variable{pins:List (Addr×Obj)}{σ:St}{H:Hp}{s:Shared}{l b:Addr}{xs ys zs:List V}
theorem Inv.lset{its its':List Value}{n:Nat}{f:Array Value->Array Value}{t':Nat}(I:Inv X pins σ H s)(hH:H l=some (.lst xs))
  (e:s.heap.get? l=some { cls:=.type "list",data:=.seq its.toArray n }) (hf:f its.toArray=its'.toArray)(hv:Vals ys its')(hz:ys.length<=sizeLine) :
  Inv X pins σ (upd H l (.lst ys)) { s with heap:=s.heap.update l (Obj.mapSeq f),toks:=t' }:=by
 have q:=PySem.IsL.update e f;rw[hf]at q;refine I.write (x:=l) (e:=l) (by rw[hH];exact trivial) (.inl U) (λb' u hb hu=>(Heap.get?_update_other s.heap (Obj.mapSeq f) (Ne.symm hb)).trans hu) ⟨_,q⟩ ?_;exact⟨hz,its',_,hv,q⟩
theorem Inv.lnew{its:List Value}{t':Nat}(I:Inv X pins σ H s)(hv:Vals ys its)(hz:ys.length<=sizeLine) :
  Inv X pins σ (upd H s.heap.objs.size (.lst ys)) { s with heap:=s.heap.push { cls:=.type "list",data:=.seq its.toArray },toks:=t' } :=
 I.laid (λ_ _ q=>Heap.get?_push_of_some _ q) (le_refl _) ⟨hz,its,0,hv,Heap.get?_push_size _ U⟩
theorem Inv.fresh(I:Inv X pins σ H s):H s.heap.objs.size=none:=I.hok.fresh (le_refl _)
theorem Inv.lstM(I:Inv X pins σ H s)(hH:H l=some (.lst xs)):xs.length<=sizeLine/\∃(its:List Value)(n:Nat),Vals xs its/\xs.length=its.length/\s.heap.get? l=some { cls:=.type "list",data:=.seq its.toArray n }:=by
 obtain⟨z,its,n,r,e⟩:=I.hok l _ hH;exact⟨z,its,n,r,r.length,e⟩
theorem vF{n:Nat}(h:n<=sizeLine):Builtin.List.listTooLong n=false:=by
 unfold Builtin.List.listTooLong;exact decide_eq_false (by lia)
end
inductive sY  (x:V)(vs:List V)(H:Hp)(Q:VK):Prop
 |mk (l xs y:_)(_:x=.ref l)(_:vs=[y])(_:H l=some (.lst xs))(_:xs.length<sizeLine)(_:Q .non (upd H l (.lst (xs++[y])))):sY x vs H Q
theorem bS:MtM X "list.append" sY:=by
 intro pins s σ H x vs v us Q I rx rv h;obtain⟨l,xs,y,rfl,rfl,hH,hz,q⟩:=h;cases rx;obtain⟨u,rfl,ru⟩:=rv.one;obtain⟨z,its,n,r,hl,e⟩:=I.lstM hH;refine call_meets F.slot_list_append ⟨_,e,U⟩ F.entry_list_append (F.args_list_append_2 _ _) (PySem.list_append l its.toArray n u (by rw[size_toArray];lia)) ⟨e,?_⟩;refine⟨.non,_,I.lset (its':=its++[u]) hH e (by simp) (r.append (.cons ru .nil)) ?_,U,q⟩;rw[length_append,length_singleton];lia
inductive sZ  (x:V)(vs:List V)(H:Hp)(Q:VK):Prop
 |mk (l b xs zs:_)(_:x=.ref l)(_:vs=[.ref b])(_:H l=some (.lst xs))(_:H b=some (.lst zs))(_:xs.length+zs.length<=sizeLine)(_:Q .non (upd H l (.lst (xs++zs)))):sZ x vs H Q
theorem kx:MtM X "list.extend" sZ:=by
 intro pins s σ H x vs v us Q I rx rv h;obtain⟨l,b,xs,zs,rfl,rfl,hH,hB,hz,q⟩:=h;cases rx;obtain⟨u,rfl,ru⟩:=rv.one;cases ru;obtain⟨z,its,n,r,hl,e⟩:=I.lstM hH;obtain⟨z2,rq,n2,r2,hl2,e2⟩:=I.lstM hB;have hsz:its.toArray.size+rq.toArray.size<=sizeLine:=by rw[size_toArray,size_toArray];lia
 have AJ:¬ (!its.toArray.isEmpty && Builtin.List.listTooLong (its.toArray.size+rq.toArray.size))=true:=by
  rw[vF hsz,Bool.and_false];exact Bool.false_ne_true
 refine call_meets F.slot_list_extend ⟨_,e,U⟩ F.entry_list_extend (F.args_list_extend_2 _ _)
  (AutoSeq1.list_extend_list_list_0 l its.toArray n b rq.toArray n2 AJ (by rw[size_toArray];lia) (by lia)) ⟨e,e2,?_⟩
 refine⟨.non,_,I.lset (its':=its++rq) hH e (by simp) (r.append r2) ?_,U,q⟩;rw[length_append];lia
inductive p5  (x:V)(vs:List V)(H:Hp)(Q:VK):Prop
 |mk (l xs:_)(_:x=.ref l)(_:vs=[])(_:H l=some (.lst xs))(_:Q .non (upd H l (.lst xs.reverse))):p5 x vs H Q
theorem rz:MtM X "list.reverse" p5:=by
 intro pins s σ H x vs v us Q I rx rv h;obtain⟨l,xs,rfl,rfl,hH,q⟩:=h;cases rx;have hus:=rv.zero;subst hus;obtain⟨z,its,n,r,hl,e⟩:=I.lstM hH;refine call_meets F.slot_list_reverse ⟨_,e,U⟩ F.entry_list_reverse (F.args_list_reverse_1 _) (AutoSeq1.list_reverse_list_0 l its.toArray n (by rw[size_toArray];lia)) ⟨e,?_⟩;refine⟨.non,_,I.lset (its':=its.reverse) hH e (by simp) r.reverse ?_,U,q⟩;rw[length_reverse];lia
inductive AK  (x:V)(y:V)(H:Hp)(Q:VK):Prop
 |mk (l b xs zs:_)(_:x=.ref l)(_:y=.ref b)(_:H l=some (.lst xs))(_:H b=some (.lst zs))(_:xs.length+zs.length<=sizeLine)(_:∀p,H p=none->Q (.ref p) (upd H p (.lst (xs++zs)))):AK x y H Q
theorem ky:OpR X (binaryOp .Add) AK:=by
 intro pins s σ H x y v u Q I rx ry h;obtain⟨l,b,xs,zs,rfl,rfl,hH,hB,hz,q⟩:=h;cases rx;cases ry;obtain⟨z,its,n,r,hl,e⟩:=I.lstM hH;obtain⟨z2,rq,n2,r2,hl2,e2⟩:=I.lstM hB;refine PySem.P.add_list e e2 ?_ (by rw[size_toArray,size_toArray];lia);have ea:its.toArray++rq.toArray=(its++rq).toArray:=by simp
 rw[ea];exact⟨.ref _,_,I.lnew (t':=s.toks) (r.append r2) (by rw[length_append];lia),U,q _ I.fresh⟩
section
variable{prog:Program}{w:World}{A:Around}{E:Value->Shared->Prop}{s:Shared}
end
end L2
namespace Att
open PySem PySem.W PySem.Calls PyProof.Rows
theorem lh{P:Params}{h:Heap}:∀(ns:List Int)(vs:List Value),WellAll P h vs (ns.map WData.int)->IntsAre vs ns:=by
 intro ns;induction ns with
 |nil =>
  intro vs w;rw[List.map_nil]at w;cases w;exact .nil
 |cons n ns ih =>
  intro vs w;rw[map_cons]at w;cases w with
  |cons a b =>
   cases a;exact .cons _ _ (ih _ b)
theorem uv{l:OpenLaw}{n:Nat}(hn:l.most=some n){P:Params}{h:Heap}{args:List WData}{vals:List Value}
  (xk:l.row.toRowW.claim.pre args=true)(hwl:WellAll P h vals args) :
  ∃a vs ns,vals=[Value.ref a]/\args=[WData.list (ns.map WData.int)]/\h.get? a=some { cls:=.type "list",data:=.seq vs.toArray }/\IntsAre vs ns/\ns.length<=n:=by
 have hsh:WShape.hasAll [] args [.list .int]=true:=(pre_splitW xk).1;have hc:l.pre.holds [] { args:=args }=true:=(pre_splitW xk).2;obtain⟨d,r,rfl,h1,h2⟩:=hasAllW_cons hsh;obtain rfl:=hasAllW_nil h2;obtain⟨xs,rfl,h3⟩:=hasW_list h1;obtain⟨ns,rfl⟩:=items_int h3;have hlen:ns.length<=n:=by
  unfold OpenLaw.pre at hc;have h4:(WTm.not (.lt (.lit (.int (n:Int))) (.len (.arg 0)))).holds [] { args:=[.list (ns.map .int)] }=true:=by
   have h4:=(holds_andW hc).1;rw[hn]at h4;exact h4
  have h5:=condW_of h4 (w_not (w_lt w_lit (w_len_list (w_arg rfl))));rw[length_map]at h5;refine Nat.le_of_not_lt λq=>?_
  have q':(n:Int)<((ns.length:Nat):Int):=by lia
  first
   |(rw[decide_eq_true q']at h5;exact absurd h5 (by decide))
   |(simp at h5;lia)
 cases hwl with
 |cons w1 w2 =>
  cases w2;cases w1 with
  |list ho cI=>exact⟨_,_,ns,rfl,rfl,ho,lh ns _ cI,hlen⟩
theorem uw(l:OpenLaw)(args:List WData):l.row.toRowW.claim.post args (.bool true) args=true :=
 postW_of (r:=l.row.toRowW) (X:=(true == true))
  (show WShape.has [] (.bool true) .bool=true by first|rfl|decide|simp[WShape.has,WShape.arms,WShape.armsAll])
  (show(WTm.eq .res (.lit (.bool true))).value [] { args:=args,res:=some (.bool true),after:=args }=some (.bool (true == true))from w_eq_bool (w_res rfl) w_lit) rfl
theorem attach_call{l:OpenLaw}{n:Nat}{q:Program}{loose:List Str}{XP:(Str->Option Value)->Heap->Prop}{YP:World->Heap->Prop}{d:DefRec}
  (hn:l.most=some n)(hdf:d.params.defaults=[])
  (call:∀(w:World)(s₀ s₁:Shared)(mg mb:Str->Option Value)(fa:Addr)(o:Obj)(pm cd doc:Value)(a:Addr)(vs:List Value)(ns:List Int),
   Ground q loose [] XP w s₀ mg mb s₁.heap->YP w s₁.heap ->
   s₁.heap.get? fa=some o->o.data=.func (docDef d.name d.params d.body d.scope pm cd doc)->s₁.heap.CodeRec cd d.name->mg d.name=some (.ref fa) ->
   s₁.heap.get? a=some { cls:=.type "list",data:=.seq vs.toArray }->IntsAre vs ns->ns.length<=n->s₁.gens = #[] ->
   codeAny (model l.prog w) callerA (.call (.ref fa) ⟨[.ref a],[]⟩) (λr s'=>r=.ok (.ret (.bool true))/\OldK s₁.heap s'.heap/\s'.os=s₁.os/\AllBare s'.gens) s₁) :
  WalkO q loose XP YP l.row.toRowW d [] (λf vs=>PySem.call f vs):=by
 intro w s₀ s₁ mg mb G Y fa o pm cd doc dV kV ho hd hcd hD hmg hg args vals as xk EC hrd hwl hlo;obtain rfl:dV=.none:=Dflts.none hD hdf;obtain rfl:kV=.none:=Dflts.noKw hD;obtain⟨a,vs,ns,rfl,rfl,yZ,hints,hlen⟩:=uv hn xk hwl;refine enter_call (codeAny_mono (call w s₀ s₁ mg mb fa o pm cd doc a vs ns G Y ho (fd_plain hd) hcd hmg yZ hints hlen hg) λr s' hq=>?_);obtain⟨rfl,h2,h3,h4⟩:=hq;exact⟨.inl ⟨.bool true,.bool true,[],rfl,λ_=>rfl,.bool true,uw l _,λ_=>⟨List.Pairwise.nil,λ_ hm=>(nomatch hm)⟩⟩,h2,h3,h4⟩
section
variable{prog:Program}{w:World}{A:Around}{E:Value->Shared->Prop}{s:Shared}{K:Frag}
end
end Att
namespace L2
open PySem PySem.Spec PyProof.Rows
theorem nF:∀{vs:List Value}{ns:List Int},IntsAre vs ns->Vals (ns.map V.int) vs
 |_,_,.nil=>.nil
 |_,_,.cons n t h=>.cons ⟨t,U⟩ (nF h)
def y9(H:Hp):Prop:=∀b,H b=none\/∃o xs,H b=some (.frz o (.lst xs))
theorem vG{P:Program}{w:World}{K:W.Frag}{mg mb:Str->Option Value}{CX:CXT}{k:Nat}{fa a:Addr}{fd:FuncData}{x:Str}{sp:Sp}{s₁:Shared}{vs:List Value}{ns:List Int}
  (KX:K.In s₁.heap)(hns:s₁.heap.Ns mainGlobals mg)(hb:s₁.heap.Ns builtinsNs mb)(hbb:∀x:Str,x ≠ "__name__" -> mb x=bootBuiltins x) (B6:s₁.heap.NoLimit)(hg:s₁.gens = #[])
  (ha:s₁.heap.get? a=some { cls:=.type "list",data:=.seq vs.toArray }) (hi:IntsAre vs ns)(hl:ns.length<=sizeLine)(hr:cb k callerA)
  (F:∀base:Heap,K.In base->base.Ns mainGlobals mg->aN P w K mg base CX k fa fd [x] sp)(AL:∀(s:Shared)(u:Value),BindsTo s fd ⟨[u],[]⟩ [(x,u)])
  (hsp:∀H:Hp,y9 H->SqL K H a (ns.map V.int)->sp [.ref a] H (λv _=>v=.bl true) λ_ _ _=>False)
  (hCX:∀H e s',CX [] H s₁ (λ_ _ _=>False) e s'->False) :
  codeAny (model P w) callerA (.call (.ref fa) ⟨[.ref a],[]⟩) (λr s'=>r=.ok (.ret (.bool true))/\OldK s₁.heap s'.heap/\s'.os=s₁.os/\AllBare s'.gens) s₁:=by
 have rv:=nF hi;have B7:=hi.length
 have core:∀H:Hp,y9 H->SqL K H a (ns.map V.int)->HOk P w H s₁.heap->(∀b,H b≠none->b=a)->(H a≠none->K.lookup a=none) ->
   codeAny (model P w) callerA (.call (.ref fa) ⟨[.ref a],[]⟩) (λr s'=>r=.ok (.ret (.bool true))/\OldK s₁.heap s'.heap/\s'.os=s₁.os/\AllBare s'.gens) s₁:=by
  intro H hO hS hok hA hK;have tf:∀{b:Addr}{o:Obj},s₁.heap.get? b=some o->H b=none->(oz s₁.heap H).get? b=some o:=λe n=>vg e n
  have noA:∀{b:Addr}{o:Obj}{es:Array DictEntry}{ep:Nat},s₁.heap.get? b=some o->o.data=.dict es ep->H b=none:=λ{b o es ep} e d=>by
   cases q:H b with
   |none=>rfl
   |some u =>
    have e':b=a:=hA b (by rw[q];simp);subst e';rw[ha]at e;cases e;have d':Data.seq vs.toArray _=Data.dict es ep:=d;cases d'
  have nsK:∀{b:Addr}{m:Str->Option Value},s₁.heap.Ns b m->(oz s₁.heap H).Ns b m:=λ{b m} ⟨o,es,ep,e,d,r⟩=>⟨o,es,ep,tf e (noA e d),d,r⟩
  have hKb:K.In (oz s₁.heap H):=λb o e=>tf (KX b o e) (by
   cases q:H b with
   |none=>rfl
   |some u =>
    have e':b=a:=hA b (by rw[q];simp);subst e';rw[hK (by rw[q];simp)]at e;cases e)
  have hM:Mod K mg (oz s₁.heap H):=⟨hKb,nsK hns,⟨mb,nsK hb,hbb⟩,let ⟨mc,h1,h2⟩:=B6;⟨mc,nsK h1,h2⟩⟩;have e0:rg P w K mg (oz s₁.heap H) callerA [] s₁ H:=⟨U,hM,λb o e=>wZ e,Nat.le_of_eq (uk _ _),trivial,λb hb=>absurd (show b∈([]:List Addr)from hb) (by simp),hok,.of_eq hg⟩;refine codeAny_mono ((F _ hKb (nsK hns)).run callerA [] s₁ H ⟨[.ref a],[]⟩ [.ref a] [.ref a] _ _ hr e0 (AL s₁ (.ref a)) (.cons U .nil) (hsp H hO hS)) λr s' h=>?_
  cases r with
  |error e=>exact(hCX H e s' h).elim
  |ok fl =>
   cases fl with
   |next=>exact False.elim h
   |brk=>exact False.elim h
   |cont=>exact False.elim h
   |ret u =>
    obtain⟨v,H',os,bare,un,B8,r',q⟩:=h;have q':v=.bl true:=q;subst q';obtain rfl:u=Value.bool true:=r';refine⟨U,OldK.of_keep λb o e=>?_,os,bare⟩;cases q:H b with
    |none=>exact un.keep b o e q (by intro z;exact absurd (show b∈([]:List Addr)from z) (by simp)) (by simp)
    |some u =>
     rcases hO b with z|⟨ob,xs,z⟩
     ·rw[q]at z;cases z
     ·have z2:=un.frzs b ob _ z;obtain⟨e1,_⟩:=hok b _ z;obtain⟨e2,_⟩:=B8 b _ z2;rw[e]at e1;cases e1;exact e2
 cases hk:K.lookup a with
 |some o =>
  have e:=KX a o hk;rw[ha]at e;cases e;refine core (λ_=>none) (λ_=>.inl U) (.inr ⟨_,vs.toArray,_,hk,U,U,U,by rw[size_toArray,B7];exact hl,by simpa using rv⟩) (λb u z=>by have z':(none:Option HO)=some u:=z;cases z') (λb z=>absurd U z) λz=>absurd U z
 |none =>
  refine core (λb=>if b=a then some (.frz { cls:=.type "list",data:=.seq vs.toArray } (.lst (ns.map V.int)))else none) (λb=>?_) (.inl (.inr ⟨{ cls:=.type "list",data:=.seq vs.toArray },if_pos U⟩)) (λb u z=>?_) (λb z=>?_) λ_=>hk
  ·by_cases hb:b=a
   ·exact .inr ⟨_,_,if_pos hb⟩
   ·exact .inl (if_neg hb)
  ·by_cases hb:b=a
   ·have z':=(if_pos hb).symm.trans z;cases z';subst hb;exact⟨ha,by rw[length_map];exact hl,vs,_,rv,ha⟩
   ·have z':=(if_neg hb).symm.trans z;cases z'
  ·by_cases hb:b=a
   ·exact hb
   ·exact absurd (if_neg hb) z
theorem walk_of{l:W.OpenLaw}{n k:Nat}{q:Program}{loose:List Str}{XP:(Str->Option Value)->Heap->Prop}{YP:World->Heap->Prop}{d:DefRec}{K:Params->W.Frag}{CX:World->CXT}{sp:World->Sp}{x:Str}
  (hn:l.most=some n)(hn2:n<=sizeLine)(hdf:d.params.defaults=[])(hr:cb k callerA)
  (hY:∀(w:World)(h:Heap),YP w h->(K w.params).In h)
  (F:∀(w:World)(mg:Str->Option Value)(fa:Addr)(h:Heap),(K w.params).In h->h.Ns mainGlobals mg->mg d.name=some (.ref fa) ->
   ∃fd:FuncData,(∀(s:Shared)(u:Value),BindsTo s fd ⟨[u],[]⟩ [(x,u)]) /\
    ∀base:Heap,(K w.params).In base->base.Ns mainGlobals mg->aN l.prog w (K w.params) mg base (CX w) k fa fd [x] (sp w))
  (hsp:∀(w:World)(H:Hp)(a:Addr)(ns:List Int),ns.length<=n->y9 H->SqL (K w.params) H a (ns.map V.int)->sp w [.ref a] H (λv _=>v=.bl true) λ_ _ _=>False)
  (hCX:∀(w:World)(H:Hp)(s:Shared)(e:Value)(s':Shared),CX w [] H s (λ_ _ _=>False) e s'->False) :
  W.WalkO q loose XP YP l.row.toRowW d [] (λf vs=>PySem.call f vs):=by
 refine Att.attach_call hn hdf λw s₀ s₁ mg mb fa o pm cd doc a vs ns G Y ho hd hcd hmg yZ hints hlen hg=>?_
 have KX:=hY w _ Y;obtain⟨fd,hb,hF⟩:=F w mg fa _ KX G.T.g hmg;exact vG KX G.T.g G.T.b G.T.builtins G.T.nolimit hg yZ hints (le_trans hlen hn2) hr hF hb (λH hO hS=>hsp w H a ns hlen hO hS) λH e s'=>hCX w H s₁ e s'
def inClass(s:Stmt)(j:Nat):Stmt:=match s with
 | .ClassDef _ _ _ body _ _ _ _ _ _ _=>body.getD j (.Pass ⟨0,0,0,0⟩)
 |_=>.Pass ⟨0,0,0,0⟩
def lA(s:Stmt):Arguments:=match s with
 | .FunctionDef _ a _ _ _ _ _ _ _ _=>a
 |_=>{ posonlyargs:=[],args:=[],vararg:=none,kwonlyargs:=[],kw_defaults:=[],kwarg:=none,defaults:=[] }
def fq(s:Stmt):List Stmt:=match s with
 | .FunctionDef _ _ b _ _ _ _ _ _ _=>b
 |_=>[]
def aj(s:Stmt):Scope:=match s with
 | .FunctionDef _ _ _ _ _ _ sc _ _ _=>sc
 |_=>{ kind:=.function,names:=[],isGenerator:=false,isCoroutine:=false }
abbrev CX0:CXT:=λ_ _ _ _ _ _=>False
abbrev E0:XK:=λ_ _ _=>False
theorem bN{X:Cx}:Passes CX0 X E0:=λ_ _ _ _ _ _ _ h=>h.elim
structure Fun(K:W.Frag)(x qual:Str)(st:Stmt)(f:Addr)(fd:FuncData):Prop where
 ex:∃(oc:Value)(od:Option Addr)(kV doc pm:Value)(an:Option Addr)(cdv ct:Value)(osl:Array (Option Value)),
  fd=W.fnOf x qual (lA st) (fq st) (aj st) .none kV doc pm an cdv ct/\K.lookup f=some ⟨oc,od,.func fd,osl⟩/\W.codeIn K cdv qual=true
 kp:W.keepIn K (.ref f)=true
section
variable{P:Program}{w:World}{K:W.Frag}{mg:Str->Option Value}{base:Heap}
theorem Fun.ok{x qual:Str}{st:Stmt}{f:Addr}{fd:FuncData}{N ps:List Str}{k:Nat}{sp:Sp}(F:Fun K x qual st f fd)(S:aw N ps (aj st))(len:∀vs H Q E,sp vs H Q E->vs.length=ps.length)
  (jQ:∀(cdv:Value)(A:Around)(outer:List Env)(s:Shared)(H:Hp)(vs:List V)(Q:VK)(E:XK),cb k (A.deeper (envOfC qual (aj st) s.heap.objs.size f cdv))->sp vs H Q E ->
   ∃t,PSs (ji CX0 P w K mg base N qual (aj st) f cdv A outer s H E).nox (fq st) t/\t { nx:=λ_ H'=>Q .non H',rt:=Q } (start N vs) H):aN P w K mg base CX0 (k+1) f fd ps sp:=by
 obtain⟨oc,od,kV,doc,pm,an,cdv,ct,osl,rfl,lk,hcd⟩:=F.ex;refine yc lk hcd S len λA outer s H vs Q E hr hsp=>?_
 obtain⟨t,h,q⟩:=jQ cdv A outer s H vs Q E hr hsp;exact⟨t,h.nox,q⟩
theorem Fun.binds{x qual:Str}{st:Stmt}{f:Addr}{fd:FuncData}{ps:List Str}(F:Fun K x qual st f fd)
  (h:∀(kV doc pm:Value)(an:Option Addr)(cdv ct:Value)(us:List Value),us.length=ps.length->bindArgs (W.fnOf x qual (lA st) (fq st) (aj st) .none kV doc pm an cdv ct) ⟨us,[]⟩=pure (ps.zip us)):Binds K fd ps []:=by
 obtain⟨oc,od,kV,doc,pm,an,cdv,ct,osl,rfl,lk,hcd⟩:=F.ex;exact .all (h kV doc pm an cdv ct)
theorem fun_mk{x qual:Str}{st:Stmt}{f:Addr}{oc:Value}{od an:Option Addr}{osl:Array (Option Value)}{kV doc pm cdv ct:Value}(l:K.lookup f=some ⟨oc,od,.func (W.fnOf x qual (lA st) (fq st) (aj st) .none kV doc pm an cdv ct),osl⟩)
  (c:W.codeIn K cdv qual=true)(k:W.keepIn K (.ref f)=true):Fun K x qual st f (W.fnOf x qual (lA st) (fq st) (aj st) .none kV doc pm an cdv ct):=⟨⟨oc,od,kV,doc,pm,an,cdv,ct,osl,U,l,c⟩,k⟩
end
theorem aC{n:Nat}(h:n<=1000):n<sizeLine:=lt_of_le_of_lt h (by decide)
variable{X:Cx}
theorem pv(i:Nat){x:Str}{pos:Pos}(hN:X.N[i]?=some x:=by rfl)(hv:Vis X.env.scope x:=by first|exact Or.inl U|exact Or.inr (Or.inl U)|exact Or.inr (Or.inr U))(hd:(x == ("__debug__" : Str))=false:=by decide)
  (hcd:(x == ("__classdict__" : Str))=false:=by decide):PE X (.Name x pos) (yC i):=yD hN hv hd hcd
theorem bV{A B:Prop}(h:B):if false=true then A else B:=by
 rw[if_neg Bool.false_ne_true];exact h
theorem ee{A B:Prop}(h:A):if true=true then A else B:=by
 rw[if_pos U];exact h
theorem di{c A B:Prop} [Decidable c] (h1:c->A)(h2:¬ c->B):if c then A else B:=by
 by_cases h:c
 ·rw[if_pos h];exact h1 h
 ·rw[if_neg h];exact h2 h
theorem tj{c A B:Prop} [Decidable c] (hc:c)(h:B):if (!decide c)=true then A else B:=by
 rw[decide_eq_true hc];exact bV h
def ao(H H':Hp):Prop:=∀b o,H b=some o->H' b=some o
theorem ao.refl(H:Hp):ao H H:=λ_ _ h=>h
theorem ao.trans{H H1 H2:Hp}(a:ao H H1)(b:ao H1 H2):ao H H2:=λc o h=>b c o (a c o h)
theorem ao.free{H H':Hp}(e:ao H H'){l:Addr}(h:H' l=Option.none):H l=Option.none:=by
 cases q:H l with
 |none=>rfl
 |some o =>
  rw[e l o q]at h;cases h
theorem ao.seq{K:W.Frag}{H H':Hp}{a:Addr}{xs:List V}(e:ao H H')(h:SqL K H a xs):SqL K H' a xs:=by
 rcases h with(h|⟨o,h⟩)|h
 ·exact .inl (.inl (e _ _ h))
 ·exact .inl (.inr ⟨o,e _ _ h⟩)
 ·exact .inr h
set_option maxHeartbeats 4000000
abbrev Pr:=Int×Int
def inR(n:Int)(p:Pr):Bool:=decide (p.1<=n) && decide (n<=p.2)
def inP(ps:List Pr)(n:Int):Bool:=ps.any (inR n)
structure Apart(R:List Pr):Prop where
 le:∀p∈R,p.1<=p.2
 gap:R.Pairwise λp q=>p.2+2<=q.1
structure ED(R qs:List Pr):Prop where
 ap:Apart R
 mem:∀n,inP R n=inP qs n
 cov:∀p∈qs,p.1<=p.2->∃r∈R,r.1<=p.1/\p.2<=r.2
 low:∀r∈R,∃q∈qs,r.1=q.1
def Callee(P:Program)(w:World)(K:W.Frag)(mg:Str->Option Value)(base:Heap)(k:Nat)(x:Str)(ps:List Str)(sp:Sp):Prop :=
 ∃f fd,aN P w K mg base CX0 k f fd ps sp/\Binds K fd ps []/\W.keepIn K (.ref f)=true/\mg x=some (.ref f)
theorem Callee.mono{P:Program}{w:World}{K:W.Frag}{mg:Str->Option Value}{base:Heap}{j k:Nat}{x:Str}{ps:List Str}{sp:Sp}(C:Callee P w K mg base j x ps sp)(h:j<=k):Callee P w K mg base k x ps sp:=by
 obtain⟨f,fd,F,r⟩:=C;exact⟨f,fd,F.mono h,r⟩
variable{pos:Pos}
section
variable{k:Nat}{x:Str}{ps:List Str}{sp:Sp}{e:Expr}{es:List Expr}{t:TA}{p:Pos}
def tFn(sp:Sp)(t:TA):TE:=λσ H Q=>t σ H λvs H1=>sp vs H1 Q E0
theorem aR(C:Callee X.prog X.w X.K X.mg X.base k x ps sp)(hr:cb k X.A)(hg:Gl X x)(ha:PA X (e :: es) t)(hdb:(x == ("__debug__" : Str))=false:=by decide)
  (he:starEach (e :: es) X.env=(false,eval e X.env) :: starEach es X.env:=by rfl)(hpl:(backTo pos (starEach es X.env)).any (·.1)=false:=by rfl):PE X (.Call (.Name x p) (e :: es) [] pos) (tFn sp t):=by
 obtain⟨f,fd,F,b,kk,m⟩:=C;have h:=xf (E:=E0) (dvs:=[]) (ds:=[]) (p:=p) F hr hg m kk b .nil bN ha hdb he hpl;intro pins s σ H Q I q;refine h pins s σ H Q I ?_;have q':t σ H λvs H1=>sp vs H1 Q E0:=q
 have e1:(λ(vs:List V)(H1:Hp)=>sp (vs++[]) H1 Q E0)=λvs H1=>sp vs H1 Q E0:=by
  funext vs H1
  rw[append_nil]
 show t σ H λvs H1=>sp (vs++[]) H1 Q E0
 rw[e1];exact q'
end
def B9(t u:TS):TS:=λD σ H=>∃M:St->Hp->Prop,t { D with nx:=M } σ H/\∀σ' H',M σ' H'->u D σ' H'
theorem av{X:Cx}{st:Stmt}{rest:List Stmt}{t u:TS}(h1:PS X st t)(h2:PSs X rest u):PSs X (st :: rest) (B9 t u):=by
 intro pins s σ H D I ⟨M,a,b⟩;refine wpAny_execs_cons (thn (h1 pins s σ H { D with nx:=M } I a) λfl s1 q=>?_);cases fl with
 |next=>obtain⟨σ',H',I',q⟩:=q;exact h2 pins s1 σ' H' D I' (b σ' H' q)
 |ret v=>exact q
 |brk=>exact q
 |cont=>exact q
inductive EqI(K:W.Frag)(H:Hp):V->V->Bool->Prop where
 |flat {x y:V}(fx:bY x=true)(fy:bY y=true):EqI K H x y (eqV x y)
 |same (a:Addr):EqI K H (.ref a) (.ref a) true
 |tup {a b:Addr}{xs ys:List V}(ha:SqT K H a xs)(hb:SqT K H b ys)(fx:xs.all bY=true)(fy:ys.all bY=true):EqI K H (.ref a) (.ref b) (decide (xs.length=ys.length) && (List.zipWith eqV xs ys).all id)
theorem ia:∀{x:V},bY x=true->eqV x x=true
 | .non,_=>rfl
 | .bl b,_=>by simp[eqV]
 | .int i,_=>by simp[eqV]
 | .str z,_=>by simp[eqV]
theorem lP:∀{xs:List V},xs.all bY=true->(List.zipWith eqV xs xs).all id=true
 | [],_=>rfl
 |x :: xs,h=>by
  rw[all_cons,and_eq_true]at h;rw[List.zipWith_cons_cons,all_cons,lP h.2,Bool.and_true];exact ia h.1
theorem jb{f:Nat->Bool}:∀{xs ys:List V},(∀j x y,xs[j]?=some x->ys[j]?=some y->f j=eqV x y)->(List.range (min xs.length ys.length)).all f=(List.zipWith eqV xs ys).all id
 | [],ys,_=>by simp
 |x :: xs,[],_=>by simp
 |x :: xs,y :: ys,h=>by
  have ih:=jb (f:=λj=>f (j+1)) (xs:=xs) (ys:=ys) λj a b e1 e2=>h (j+1) a b (by simpa using e1) (by simpa using e2)
  have e0:=h 0 x y U U;have em:min (x :: xs).length (y :: ys).length=min xs.length ys.length+1:=by simp only[length_cons];lia
  rw[em,List.range_succ_eq_map,all_cons,List.zipWith_cons_cons,all_cons,List.all_map,e0];show(eqV x y && (List.range (min xs.length ys.length)).all (λj=>f (j+1)))=_;rw[ih];rfl
section
variable{pins:List (Addr×Obj)}{σ:St}{H:Hp}{s:Shared}
theorem EqI.at{A:Around}{x y:V}{u v:Value}{b:Bool}(e:EqI X.K H x y b)(I:Inv X pins σ H s)(hu:A.units+1<cLine)(rx:RelV x u)(ry:RelV y v):SeqAt.EqAt A s u v b:=by
 cases e with
 |flat fx fy=>exact oG rx ry fx fy
 |same a =>
  cases (show u=Value.ref a from rx);cases (show v=Value.ref a from ry);exact SeqAt.EqAt.same _
 | @tup a b xs ys ha hb fx fy =>
  cases (show u=Value.ref a from rx);cases (show v=Value.ref b from ry);by_cases z:a=b
  ·subst z;have e:=I.tuple_inj ha hb;subst e;rw[lP fx,decide_eq_true U];exact SeqAt.EqAt.same _
  ·obtain⟨its,r,p,_⟩:=I.tuple ha;obtain⟨its',r',p',_⟩:=I.tuple hb;have l1:=r.length;have l2:=r'.length;have h0:=SeqAt.RcAt.tuples (A:=A) (e:=λj=>match its[j]?,xs[j]?,ys[j]? with|_,some x,some y=>eqV x y|_,_,_=>false) (show s.heap.IsTuple a its.toArray from p) (show s.heap.IsTuple b its'.toArray from p') (by lia) (λj h1 h2=>by
    have j1:j<its.length:=by simpa using h1
    have j2:j<its'.length:=by simpa using h2
    have x1:xs[j]?=some xs[j]:=EV (by lia);have y1:ys[j]?=some ys[j]:=EV (by lia);obtain⟨u1,q1,r1⟩:=r.get x1;obtain⟨u2,q2,r2⟩:=r'.get y1;have eu:its.toArray[j]=u1:=by
     have:=EV j1;rw[this]at q1;simpa using Option.some.inj q1
    have ev:its'.toArray[j]=u2:=by
     have:=EV j2;rw[this]at q2;simpa using Option.some.inj q2
    rw[eu,ev];rw[x1,y1];have f1:bY xs[j]=true:=all_eq_true.mp fx _ (getElem_mem _);have f2:bY ys[j]=true:=all_eq_true.mp fy _ (getElem_mem _);exact oG r1 r2 f1 f2)
   have h1:=SeqAt.EqAt.of_refs z h0;have e1:((List.range (min its.toArray.size its'.toArray.size)).all λj=>match its[j]?,xs[j]?,ys[j]? with|_,some x,some y=>eqV x y|_,_,_=>false)=(List.zipWith eqV xs ys).all id:=by
    have es:min its.toArray.size its'.toArray.size=min xs.length ys.length:=by simp only[size_toArray];lia
    rw[es];exact jb λj x y q1 q2=>by rw[q1,q2]
   rw[e1]at h1;have e2:(its.toArray.size == its'.toArray.size)=decide (xs.length=ys.length):=by
    simp only[size_toArray,←l1,←l2];exact Bool.beq_eq_decide_eq _ _
   rw[e2,Bool.and_comm]at h1;exact h1
end
inductive vH(K:W.Frag)(neg:Bool)(x:V)(y:V)(H:Hp)(Q:VK):Prop
 |mk (a b xs ys:_)(_:x=.ref a)(_:y=.ref b)(_:SqL K H a xs)(_:SqL K H b ys)(_:((xs.length≠ys.length/\Q (.bl neg) H)\/(xs.length=ys.length/\∃f:Nat->Bool,(∀j x y,xs[j]?=some x->ys[j]?=some y->EqI K H x y (f j))/\Q (.bl (if neg then !(List.range xs.length).all f else(List.range xs.length).all f)) H))):vH K neg x y H Q
theorem rA{pins:List (Addr×Obj)}{σ:St}{H:Hp}{s:Shared}{A:Around}{xs ys:List V}{its its':List Value}{f:Nat->Bool}(I:Inv X pins σ H s)(hu:A.units+1<cLine)(r:Vals xs its)(r':Vals ys its')
  (hf:∀j x y,xs[j]?=some x->ys[j]?=some y->EqI X.K H x y (f j)):∀j (h1:j<its.toArray.size)(h2:j<its'.toArray.size),SeqAt.EqAt A s its.toArray[j] its'.toArray[j] (f j):=λj h1 h2=>by
 have j1:j<its.length:=by simpa using h1
 have j2:j<its'.length:=by simpa using h2
 have l1:=r.length;have l2:=r'.length;have x1:xs[j]?=some xs[j]:=EV (by lia);have y1:ys[j]?=some ys[j]:=EV (by lia);obtain⟨u1,q1,r1⟩:=r.get x1;obtain⟨u2,q2,r2⟩:=r'.get y1;have eu:its.toArray[j]=u1:=by
  have:=EV j1;rw[this]at q1;simpa using Option.some.inj q1
 have ev:its'.toArray[j]=u2:=by
  have:=EV j2;rw[this]at q2;simpa using Option.some.inj q2
 rw[eu,ev];exact(hf j _ _ x1 y1).at I hu r1 r2
theorem za{k:Nat}(hr:cb k X.A):OpR X (compareOp .Eq) (vH X.K false):=by
 intro pins s σ H x y v u Q I rx ry h;obtain⟨a,b,xs,ys,rfl,rfl,ha,hb,h⟩:=h;cases (show v=Value.ref a from rx);cases (show u=Value.ref b from ry);obtain⟨its,r,p,_⟩:=I.list ha;obtain⟨its',r',p',_⟩:=I.list hb;have l1:=r.length;have l2:=r'.length;have hu:=hr.units;rcases h with⟨hn,q⟩|⟨hl,f,hf,q⟩
 ·refine SeqAt.eq_list_lengthsAt p.isList p'.isList (by simp only[size_toArray,bne_iff_ne,ne_eq];lia) (by lia) ⟨.bl false,H,I,U,q⟩
 ·refine SeqAt.eq_listAt (e:=f) p.isList p'.isList (by simp only[size_toArray];lia) (by lia) (rA I (by show X.A.units+1+1<cLine;lia) r r' hf) ⟨.bl _,H,I,U,?_⟩;rw[show its.toArray.size=xs.length by simp only[size_toArray];lia];exact q
theorem zb{k:Nat}(hr:cb k X.A):OpR X (compareOp .NotEq) (vH X.K true):=by
 intro pins s σ H x y v u Q I rx ry h;obtain⟨a,b,xs,ys,rfl,rfl,ha,hb,h⟩:=h;cases (show v=Value.ref a from rx);cases (show u=Value.ref b from ry);obtain⟨its,r,p,_⟩:=I.list ha;obtain⟨its',r',p',_⟩:=I.list hb;have l1:=r.length;have l2:=r'.length;have hu:=hr.units;rcases h with⟨hn,q⟩|⟨hl,f,hf,q⟩
 ·refine SeqAt.RcNeAt.lists_lengths p.isList p'.isList (by simp only[size_toArray,bne_iff_ne,ne_eq];lia) (by lia) X.prog X.w X.xe _ ⟨.bl true,H,I,U,q⟩
 ·refine SeqAt.RcNeAt.lists (e:=f) p.isList p'.isList (by simp only[size_toArray];lia) (by lia) (rA I (by show X.A.units+1+1<cLine;lia) r r' hf) X.prog X.w X.xe _ ⟨.bl _,H,I,U,?_⟩;rw[show its.toArray.size=xs.length by simp only[size_toArray];lia];exact q
def jc(H H':Hp):Prop:=∀b xs,H b=some (.tup xs)->H' b=some (.tup xs)
theorem ao.tups{H H':Hp}(h:ao H H'):jc H H':=λb xs e=>h b _ e
theorem nG{H:Hp}{p:Addr}{o:HO}{ys:List V}(h:H p=some (.lst ys)):jc H (upd H p o):=λb xs e=>by rw[ar (cg e h (by intro z;cases z))];exact e
theorem ah{H:Hp}{p:Addr}(h:H p=none)(o:HO):ao H (upd H p o):=λb u q=>by rw[ar (bj q h)];exact q
theorem ao.upd{H H':Hp}{p:Addr}{o:HO}(s:ao H H')(h:H p=none):ao H (upd H' p o):=λb u q=>by rw[ar (bj q h)];exact s b u q
def PL(H:Hp):List V->List (Int×Int)->Prop:=Paired λx p=>∃r,x=.ref r/\H r=some (.tup [.int p.1,.int p.2])
theorem PL.mono{H H':Hp}{xs:List V}{ps:List (Int×Int)}(h:PL H xs ps)(s:jc H H'):PL H' xs ps:=Paired.mapP h λ_ _ ⟨r,e,z⟩=>⟨r,e,s r _ z⟩
theorem PL.get{H:Hp}:∀{xs:List V}{ps:List (Int×Int)}{i:Nat}{x:V},PL H xs ps->xs[i]?=some x->∃p r,ps[i]?=some p/\x=.ref r/\H r=some (.tup [.int p.1,.int p.2])
 |_,_,_,_,.nil,e=>by simp at e
 |_,_,0,_,.cons (b:=b) ⟨r,e1,z⟩ _,e=>by simp at e;subst e;exact⟨b,r,U,e1,z⟩
 |_,_,i+1,x,.cons _ t,e=>by
  obtain⟨p,r,q⟩:=PL.get (i:=i) (x:=x) t (by simpa using e);exact⟨p,r,by simpa using q.1,q.2⟩
theorem PL.length{H:Hp}{xs:List V}{ps:List (Int×Int)}(h:PL H xs ps):xs.length=ps.length:=Paired.length h
theorem PL.snoc{H:Hp}{xs:List V}{ps:List (Int×Int)}{r:Addr}{a b:Int}(h:PL H xs ps)(e:H r=some (.tup [.int a,.int b])):PL H (xs++[.ref r]) (ps++[(a,b)]):=Paired.snoc h ⟨r,U,e⟩
theorem d7{ps:List (Int×Int)}{i:Nat}{p:Int×Int}{f:Int×Int->Bool}(e:ps[i]?=some p)(h:(ps.take i).any f=false)(hf:f p=false):(ps.take (i+1)).any f=false:=by
 rw[take_add_one,e,List.any_append,h];simp[hf]
theorem lQ{ps:List (Int×Int)}{i:Nat}{p:Int×Int}{f:Int×Int->Bool}(e:ps[i]?=some p)(hf:f p=true):ps.any f=true:=any_eq_true.mpr ⟨p,EY e,hf⟩
theorem nH{p:Prop} [Decidable p] (h:decide p=true):p:=of_decide_eq_true h
theorem tm{p:Prop} [Decidable p] (h:¬ decide p=true):¬ p:=λe=>h (decide_eq_true e)
theorem cQ{X:Cx}{K:W.Frag}(h:X.K=K):IxR X (yV K):=h ▸ aL
theorem dM{X:Cx}{K:W.Frag}(h:X.K=K):IxR X (yW K):=h ▸ aW
def bL(X:Cx)(N:List Str)(scope:Scope)(cl:List (Str×Addr))(fp:List Addr)(C:Addr)(s2:Shared)(H2:Hp):Cx :=
 { prog:=X.prog,w:=X.w,K:=X.K,mg:=X.mg,base:=X.base,A:=X.A,N:=N,s₀:=s2,H₀:=H2,env:=compEnvC scope cl C X.env,outer:=X.stack,stack:=X.stack,ex:=fp,fn:=λ_=>false,calm:=X.calm,pn:=[],xe:=λ_ _=>False }
def PIf(X:Cx)(ifs:List Expr)(t:TT):Prop :=
 ∀(pins:List (Addr×Obj))(s:Shared)(σ:St)(H:Hp)(Q:Bool->Hp->Prop),Inv X pins σ H s->t σ H Q ->
  wpAny (model X.prog X.w) X.A (forIn ifs true λc r=>if r=true then do let ok ←isTrue c X.env (eval c X.env);pure (ForInStep.yield ok)else pure (ForInStep.yield r)) (TP X pins σ Q) X.xe s
def Ca:TT:=λ_ H Q=>Q true H
theorem aV{X:Cx}:PIf X [] Ca:=λ_ _ _ H _ I h=>wpAny_tests_nil ⟨H,I,h⟩
theorem fu{X:Cx}{c:Expr}{t:TT}(h:PT X c t):PIf X [c] t:=λpins s σ H Q I q=>wpAny_tests_one (h pins s σ H Q I q)
structure p7(X:Cx)(N:List Str)(fr:List Nat)(scope:Scope)(cl:List (Str×Addr))(x:Str):Prop where
 clos:closureFor scope X.env=pure cl
 kind:scope.kind=.function
 nocell:∀y∈scope.names,y.2≠.cell
 names:∀y∈scope.names,y.2=.local->scope.names.lookup y.1=some .local
 hx:scope.names.lookup x=some .local
 nd:N.Nodup
 n0:N[0]?=some x
 len:N.length=fr.length+1
 sub:∀(i:Nat)(y:Str),N[i+1]?=some y->∃j,fr[i]?=some j/\X.N[j]?=some y/\(X.env.kindOf y=some .cell\/X.env.kindOf y=some .free)/\((relabel scope X.env).names.lookup y=some .cell\/(relabel scope X.env).names.lookup y=some .free)
 cells:∀y c,cl.lookup y=some c->X.env.cells.lookup y=some c
 has:∀y,((relabel scope X.env).names.lookup y=some .cell\/(relabel scope X.env).names.lookup y=some .free)->∃c,cl.lookup y=some c
theorem bD{X:Cx}{scope:Scope}{x:Str}(kind:scope.kind=.function)(nofree:∀y∈scope.names,y.2≠.free)(nocell:∀y∈scope.names,y.2≠.cell)
  (names:∀y∈scope.names,y.2=.local->scope.names.lookup y.1=some .local)(hx:scope.names.lookup x=some .local):p7 X [x] [] scope [] x:=by
 have er:(relabel scope X.env).names=scope.names:=map_eq_self λy hy=>by
  have z:(y.2 == NameKind.free)=false:=by simpa using nofree y hy
  simp[z]
 have no:∀y,¬ ((relabel scope X.env).names.lookup y=some .cell\/(relabel scope X.env).names.lookup y=some .free):=λy h=>by
  rw[er]at h;rcases h with h|h
  ·exact nocell _ (mem_of_lookup h) U
  ·exact nofree _ (mem_of_lookup h) U
 exact⟨closureFor_none nofree,kind,nocell,names,hx,by simp,U,U,λi y e=>by simp at e,(λy c e=>by cases e),λy h=>absurd h (no y)⟩
theorem aU{X:Cx}{N:List Str}{fr:List Nat}{scope:Scope}{cl:List (Str×Addr)}{x:Str}(clos:closureFor scope X.env=pure cl)(kind:scope.kind=.function)(nocell:∀y∈scope.names,y.2≠.cell)
  (names:∀y∈scope.names,y.2=.local->scope.names.lookup y.1=some .local)(hx:scope.names.lookup x=some .local)(nd:N.Nodup)(n0:N[0]?=some x)(len:N.length=fr.length+1)
  (sub:((List.range fr.length).all λi=>match N[i+1]?,fr[i]? with|some y,some j=>(X.N[j]? == some y) && ((X.env.kindOf y == some .cell) && ((relabel scope X.env).names.lookup y == some .cell))|_,_=>false)=true)
  (cells:∀p∈cl,X.env.cells.lookup p.1=some p.2)(has:((relabel scope X.env).names.all λp=>(p.2 != .cell && p.2 != .free) || (cl.lookup p.1).isSome)=true):p7 X N fr scope cl x:=by
 refine⟨clos,kind,nocell,names,hx,nd,n0,len,λi y e=>?_,λy c e=>cells _ (mem_of_lookup e),λy h=>?_⟩
 ·have hi:i<fr.length:=by have:=(EW.mp e).1;lia
  have z:=all_eq_true.mp sub i (mem_range.mpr hi);rw[e,EV hi]at z;simp only[and_eq_true,beq_iff_eq]at z;exact⟨_,EV hi,z.1,.inl z.2.1,.inl z.2.2⟩
 ·have look:∀k,(relabel scope X.env).names.lookup y=some k->(k=.cell\/k=.free)->∃c,cl.lookup y=some c:=λk e hk=>by
   have z:=all_eq_true.mp has _ (mem_of_lookup e);rcases hk with rfl|rfl
   ·exact isSome_iff_exists.mp (by simpa using z)
   ·exact isSome_iff_exists.mp (by simpa using z)
  rcases h with h|h
  ·exact look _ h (.inl U)
  ·exact look _ h (.inr U)
def fW(σ:St)(fr:List Nat)(x:Option V):St:=x :: fr.map λj=>(σ[j]?).join
def oI(J:It)(fr:List Nat)(tt:TT)(te:TE)(σ:St)(Q:VK)(H1:Hp):Prop:=∀D,H1 D=none->∃W:Nat->Nat->Hp->Prop,(∃m,W 0 m (upd H1 D (.lst [])))/\∀i m H,W i m H ->
 (J.stop i H/\Q (.ref D) H)\/(J.go i H/\∀x H',J.yld i H x H'->tt (fW σ fr (some x)) H' λb H2=>if b=true then te (fW σ fr (some x)) H2 λy H3=>∃ys,H3 D=some (.lst ys)/\ys.length<sizeLine/\∃m',m'<m/\W (i+1) m' (upd H3 D (.lst (ys++[y])))
  else ∃m',m'<m/\W (i+1) m' H2)
def ye(wi:TI)(fr:List Nat)(tt:TT)(te:TE):TE:=λσ H Q=>wi σ H λJ H1=>oI J fr tt te σ Q H1
section
variable{prog:Program}{w:World}{A:Around}{R:Result->Shared->Prop}{s:Shared}
theorem lR{elt target iter:Expr}{ifs:List Expr}{scope:Scope}{pos:Pos}{it acc:Value}{env:Env}(J:Nat->Shared->Prop)
  (turn:∀n s,J n s->wpAny (model prog w) A (pyNext it) (λr s1=>match r with
   |none=>R (.ok .next) s1
   |some v=>wpAny (model prog w) A (letOwnedTupleGo target it v) (λ_ s2=>wpAny (model prog w) A (assign target env v) (λ_ s3 =>
     wpAny (model prog w) A (forIn ifs true λc r=>if r=true then do let ok ←isTrue c env (eval c env);pure (ForInStep.yield ok)else pure (ForInStep.yield r)) (λok s4 =>
      if ok=true then wpAny (model prog w) A (eval elt env) (λy s5=>wpAny (model prog w) A (call (.builtin "list.append") [acc,y]) (λ_ s6=>∃m,m<n/\J m s6) (λ_ _=>False) s5) (λ_ _=>False) s4
      else ∃m,m<n/\J m s4) (λ_ _=>False) s3) (λ_ _=>False) s2) (λ_ _=>False) s1) (λ_ _=>False) s)
  (n:Nat)(h:J n s):codeAny (model prog w) A (.compLoop (.ListComp elt [⟨target,iter,ifs,0⟩] scope pos) 0 it acc env) R s:=by
 refine codeAny_loop U J (λn s hJ=>?_) n h;show wpAny _ A ((compTurn (.ListComp elt [⟨target,iter,ifs,0⟩] scope pos) 0 it acc env).onRaise (λx=>do noteFrame x env;theTreesLotGoes x)) _ _ s;refine wpAny_noted ?_;rw[compTurn_list];refine wpAny_bind (wpAny_standAt (wpAny_bind (wpAny_mono (turn n s hJ) (λr s1 h1=>?_) λ_ _ z=>z.elim)));cases r with
 |none=>exact wpAny_pure h1
 |some v =>
  refine wpAny_bind (wpAny_mono h1 (λ_ s2 h2=>?_) λ_ _ z=>z.elim);refine wpAny_bind (wpAny_mono h2 (λ_ s3 h3=>wpAny_bind (wpAny_mono h3 (λok s4 h4=>?_) λ_ _ z=>z.elim)) λ_ _ z=>z.elim);cases ok with
  |false=>exact wpAny_pure ⟨U,h4⟩
  |true=>exact wpAny_bind (wpAny_bind (wpAny_mono h4 (λy s5 h5=>wpAny_bind (wpAny_mono h5 (λ_ s6 h6=>wpAny_pure (wpAny_pure ⟨U,h6⟩)) λ_ _ z=>z.elim)) λ_ _ z=>z.elim))
end
section
variable{elt iter:Expr}{ifs:List Expr}{x:Str}{px:Pos}{scope:Scope}{cl:List (Str×Addr)}{N:List Str}{fr:List Nat}{tt:TT}{te:TE}
theorem nI{pins:List (Addr×Obj)}{σ:St}{s2:Shared}{H2:Hp}{it:Addr}{fp:List Addr}{tn:Nat->Heap->Prop}{J:It}{Q:VK}{E:Value->Shared->Prop}{RR:Value->Addr->Result->Shared->Prop}
  (O:p7 X N fr scope cl x)(hc:X.calm=true)(I2:Inv X pins σ H2 s2)(T:Turn X.prog X.w X.K (.Name x px) J fp it tn)(st2:tn 0 s2.heap)(f2:∀b∈fp,kn X pins H2 b)
  (ht:∀fp C s H,PIf (bL X N scope cl fp C s H) ifs tt)(he:∀fp C s H,PE (bL X N scope cl fp C s H) elt te)
  (hW:oI J fr tt te σ Q H2)
  (fin:∀D C s' H',s2.heap.objs.size<=C->H' C=none->(∃m,s'.heap.Ns C m)->Inv X pins σ H' s'->Q (.ref D) H'->RR (.ref D) C (.ok .next) s') :
  wpAny (model X.prog X.w) X.A (newList []) (λacc s3=>wpAny (model X.prog X.w) X.A (newFunctionEnv scope X.env.globals cl [] X.env.qual none .none (some X.env)) (λvI s4 =>
   codeAny (model X.prog X.w) X.A (.compStart (.ListComp elt [⟨.Name x px,iter,ifs,0⟩] scope pos) 0 (.ref it) acc { vI with scope:=relabel scope X.env }) (RR acc vI.locals) s4) E s3) E s2:=by
 refine wpAny_newObj_type (wpAny_newFunctionEnv O.nocell (by intro y hy;simp at hy) (λh1 hns hsb=>?_) O.kind);dsimp only at hns hsb⊢;generalize hG:s2.heap.push { cls:=.type "list",dict:=none,data:=.seq ([]:List Value).toArray }=G at hns hsb⊢;have hC:G.objs.size=s2.heap.objs.size+1:=by rw[←hG,Heap.size_push]
 have old:∀b o,s2.heap.get? b=some o->h1.get? b=some o:=λb o e=>hsb.extBut b o (ne_of_lt (by rw[hC];exact lt_succ_of_lt (Heap.lt_size e))) (Heap.get?_push_of_some _ (hG ▸ Heap.get?_push_of_some _ e))
 have vJ:h1.get? s2.heap.objs.size=some { cls:=.type "list",data:=.seq ([]:List Value).toArray 0 }:=hsb.extBut _ _ (ne_of_lt (by rw[hC];exact lt_succ_self _)) (Heap.get?_push_of_some _ (hG ▸ Heap.get?_push_size _ U));have hD:H2 s2.heap.objs.size=none:=I2.fresh;have okX:(bL X N scope cl fp G.objs.size s2 H2).Ok:=by
  refine⟨I2.ok.mod,O.kind,I2.ok.glob,I2.ok.blt,by show s2.heap.objs.size<=G.objs.size;rw[hC];exact le_succ _,λy z c e1 e2=>I2.ok.inj y z c (O.cells y c e1) (O.cells z c e2),λy hy=>O.has y hy,λy c z=>absurd (show false=true from z) Bool.false_ne_true,I2.ok.hd,I2.ok.frames,.inl U,
   λb hb=>⟨?_,λy c e=>(f2 b hb).2.2.2.2.1 y c (O.cells y c e)⟩,I2.bs,le_trans I2.ok.bsz I2.sz,λb o e hb=>?_,λb hb z=>?_,I2.stack,I2.stkFree⟩
  ·obtain⟨o,e,_⟩:=T.obj _ _ st2 b hb;show b≠G.objs.size;exact ne_of_lt (by rw[hC];exact lt_succ_of_lt (Heap.lt_size e))
  ·rcases(f2 b hb).2.2.2.1 with z|z
   ·exact I2.ok.noex b o e z
   ·exact absurd (lt_of_lt_of_le (Heap.lt_size e) (le_trans I2.ok.bsz z)) (lt_irrefl _)
  ·rcases mem_cons.mp (I2.stkSub b z)with z|z
   ·exact(f2 b hb).2.1 z
   ·exact(f2 b hb).2.2.1 z
 have lS:∀{H':Hp},(∀b∈fp,H' b=none)->∀b∈fp,kn (bL X N scope cl fp G.objs.size s2 H2) [] H' b:=λhn b hb =>
  ⟨hn b hb,(okX.exf b hb).1,okX.exfs b hb,.inl hb,(okX.exf b hb).2,λp hp=>absurd (show p∈([]:List (Addr×Obj))from hp) (by simp)⟩
 have I':Inv (bL X N scope cl fp G.objs.size s2 H2) [] (fW σ fr none) (upd H2 s2.heap.objs.size (.lst [])) { s2 with heap:=h1,toks:=s2.toks+([]:List (Str×Value)).length }:=by
  refine⟨okX,U,I2.bare,Un.laid old (le_refl _) hD,⟨_,hns,λi y v e1 e2 e3=>?_⟩,λy c e=>?_,?_,λy c e=>?_,λp hp=>absurd (show p∈([]:List (Addr×Obj))from hp) (by simp),I2.hok.laid old (le_refl _) ⟨zero_le _,[],0,.nil,vJ⟩,?_⟩
  ·cases i with
   |zero=>cases e2
   |succ i =>
    obtain⟨j,q1,q2,q3,q4⟩:=O.sub i y e1;have e2':(σ[j]?).join=some v:=by
     have:(fr.map λj=>(σ[j]?).join)[i]?=some (some v):=e2;rw[getElem?_map,q1]at this;exact Option.some.inj this
    have e4:σ[j]?=some (some v):=by
     cases z:σ[j]? with
     |none=>rw[z]at e2';cases e2'
     |some t=>rw[z]at e2';exact congrArg some e2'
    obtain⟨m,_,hl⟩:=I2.loc;have vis:Vis X.env.scope y:=.inr q3;obtain⟨u,r,l⟩:=hl j y v q2 e4 vis;refine⟨u,r,.inr ⟨q4,?_⟩⟩;obtain⟨c',hc'⟩:=O.has y q4;rcases l with⟨k,_⟩|⟨_,c,ec,ic⟩
    ·rcases q3 with z|z
     ·rw[z]at k;cases k
     ·rw[z]at k;cases k
    ·have:=O.cells y c' hc';have e':c=c':=Option.some.inj (ec.symm.trans this);obtain⟨o,ho,hd⟩:=ic;rw[e']at ho;exact⟨c',hc',o,old c' o ho,hd⟩
  ·obtain⟨v,o,ho,hd⟩:=I2.cell y c (O.cells y c e);exact⟨v,o,old c o ho,hd⟩
  ·show upd H2 s2.heap.objs.size (.lst []) G.objs.size=none;rw[ar (ne_of_gt (by rw[hC];exact lt_succ_self _))];exact I2.hok.fresh (by rw[hC];exact le_succ _)
  ·obtain⟨v,o,ho,hd⟩:=I2.cell y c (O.cells y c e);rw[ar (ne_of_lt (Heap.lt_size ho))];exact I2.freeC y c (O.cells y c e)
  ·show(fW σ fr none).length=N.length;rw[O.len];simp[fW]
 have st1:tn 0 h1:=T.keep _ _ _ st2 λb hb o e=>old b o e
 have loop:∀s3:Shared,s3={ s2 with heap:=h1,toks:=s2.toks+([]:List (Str×Value)).length } ->
   codeAny (model X.prog X.w) X.A (.compLoop (.ListComp elt [⟨.Name x px,iter,ifs,0⟩] scope pos) 0 (.ref it) (.ref s2.heap.objs.size) (compEnvC scope cl G.objs.size X.env)) (RR (.ref s2.heap.objs.size) G.objs.size) s3:=by
  rintro s3 rfl;obtain⟨W,⟨m0,w0⟩,turn⟩:=hW _ hD
  refine lR (λn s'=>∃i t H',Inv (bL X N scope cl fp G.objs.size s2 H2) [] (fW σ fr t) H' s'/\tn i s'.heap/\(∀b∈fp,H' b=none)/\W i n H') ?_ m0
   ⟨0,none,_,I',st1,λb hb=>by
    rw[ar (by obtain⟨o,e,_⟩:=T.obj _ _ st2 b hb;exact ne_of_lt (Heap.lt_size e))];exact(f2 b hb).1,w0⟩
  rintro n s' ⟨i,t,H',I3,st3,fr3,w3⟩;rcases turn i n H' w3 with⟨stop,qn⟩|⟨go,step⟩
  ·refine thn (T.done (bL X N scope cl fp G.objs.size s2 H2) U U U hc i [] s' _ H' _ I3 (lS fr3) st3 stop) λr s4 ⟨hr,I4⟩=>?_
   subst hr;obtain⟨m,hm,_⟩:=I4.loc;refine fin _ _ s4 H' (by rw[hC];exact le_succ _) I4.free ⟨m,hm⟩ (I2.call' (ch:=fp) I4.os I4.base I4.hok I4.bare λb hb=>?_) qn;exact⟨(f2 b hb).2.2.2.1,(f2 b hb).2.1,(f2 b hb).2.2.2.2.1,(f2 b hb).2.2.2.2.2⟩
  ·refine thn (T.item (bL X N scope cl fp G.objs.size s2 H2) U U U hc i [] s' _ H' _ I3 (lS fr3) st3 go) λr s4 ⟨u,hr,h4⟩=>?_
   subst hr;refine thn h4 λ_ s5 ⟨y,H5,I5,r5,y5,st5,fr5⟩=>?_
   have I5':=I5.pinned (lS fr5) (T.obj _ _ st5);have lx:(bL X N scope cl fp G.objs.size s2 H2).env.scope.names.lookup x=some .local:=lookup_relabel_local O.hx;refine thn (aD (X:=bL X N scope cl fp G.objs.size s2 H2) (i:=0) O.nd O.n0 (.inl lx) (.inr lx) _ s5 _ H5 y u (λσ' H'=>σ'=fW σ fr (some y)/\H'=H5) I5' r5 ⟨U,U⟩) λ_ s6 ⟨σ6,H6,I6,e6,e6'⟩=>?_
   subst e6;subst e6'
   have again:∀{σ7:St}{H7:Hp}{s7:Shared}{m':Nat},σ7=fW σ fr (some y)->Inv (bL X N scope cl fp G.objs.size s2 H2) ([]++kq fp s5.heap) σ7 H7 s7->m'<n->W (i+1) m' H7 ->
     ∃m,m<n/\∃i t H',Inv (bL X N scope cl fp G.objs.size s2 H2) [] (fW σ fr t) H' s7/\tn i s7.heap/\(∀b∈fp,H' b=none)/\W i m H':=λ{σ7 H7 s7 m'} e7 I7 hm w7=>by
    subst e7;refine⟨m',hm,i+1,some y,H7,I7.unpinned,T.keep _ _ _ st5 λb hb o e=>(I7.pin (b,o) (mem_append_right _ (mem_append_right _ (dX hb e)))).1,λb hb=>?_,w7⟩;obtain⟨o,e,d⟩:=T.obj _ _ st5 b hb;exact(I7.pin (b,o) (mem_append_right _ (mem_append_right _ (dX hb e)))).2.1
   refine thn (ht fp G.objs.size s2 H2 _ s6 _ H6 _ I6 (step y H6 y5)) λok s7 ⟨H7,I7,q7⟩=>?_
   cases ok with
   |false =>
    rw[if_neg Bool.false_ne_true]at q7⊢;obtain⟨m',hm,w7⟩:=q7;exact again U I7 hm w7
   |true =>
    rw[if_pos U]at q7⊢;refine thn (he fp G.objs.size s2 H2 _ s7 _ H7 _ I7 q7) λu8 s8 ⟨v8,H8,I8,r8,ys,hys,hlen,m',hm,w8⟩=>?_
    refine thn (bS (X:=bL X N scope cl fp G.objs.size s2 H2) _ s8 _ H8 (.ref s2.heap.objs.size) [v8] _ [u8] (λ_ H9=>W (i+1) m' H9) I8 U (.cons r8 .nil) ⟨_,ys,v8,U,U,hys,hlen,w8⟩) λ_ s9 ⟨_,H9,I9,_,w9⟩=>?_
    exact again U I9 hm w9
 exact codeAny_compStart_list (loop _ U) (T.self _ 0 _ _ _ st1 (loop _ U))
theorem Inv.left{pins:List (Addr×Obj)}{σ σ2:St}{s2 s':Shared}{H2 H':Hp}{C:Addr}{h':Heap}(I2:Inv X pins σ2 H2 s2)(I':Inv X pins σ H' s')(hC:s2.heap.objs.size<=C)(hn:H' C=none)(hs:Heap.SameBut C s'.heap h'):Inv X pins σ H' { s' with heap:=h' }:=by
 refine I'.turned (t':=s'.toks) (it:=C) (λb o hb e=>(hs.2 b hb).trans e) hn (ne_of_gt (lt_of_lt_of_le I2.lt hC)) (.inr (le_trans I2.sz hC)) (λy c e=>?_) λp hp=>?_
 ·obtain⟨v,o,ho,_⟩:=I2.cell y c e;exact ne_of_lt (lt_of_lt_of_le (Heap.lt_size ho) hC)
 ·exact ne_of_lt (lt_of_lt_of_le (Heap.lt_size (I2.pin p hp).1) hC)
theorem bF{wi:TI}(hi:PI X (.Name x px) iter wi)(O:p7 X N fr scope cl x)(hc:X.calm=true)(ht:∀fp C s H,PIf (bL X N scope cl fp C s H) ifs tt)(he:∀fp C s H,PE (bL X N scope cl fp C s H) elt te)
  (hs:∀v,foldedSetIterable iter X.env v=pure v:=by intro _;rfl):PE X (.ListComp elt [⟨.Name x px,iter,ifs,0⟩] scope pos) (ye wi fr tt te):=by
 intro pins s σ H Q I h;rw[eval_ListComp];refine wpAny_comprehension_free (use:=none) U hs O.clos O.kind O.names (thn (hi pins s σ H _ I h) λv s1 h1=>thn h1 λitv s2 h2=>?_);obtain⟨it,fp,tn,J,H2,e,I2,T,st2,f2,hW⟩:=h2;subst e;refine nI (RR:=λacc C=>compPost (model X.prog X.w) X.A X.xe none (EP X pins σ Q) acc C) O hc I2 T st2 f2 ht he hW λD C s' H' hC hn ⟨m,hm⟩ I' q=>?_
 exact⟨m,hm,λh' hs'=>⟨.ref D,H',I2.left I' hC hn hs',U,q⟩⟩
theorem d8{wi:TI}{i:Nat}{y:Str}{py vK:Pos}(hN:X.N.Nodup)(hy:X.N[i]?=some y)(hl:Loc X.env.scope y)(hi:PI X (.Name x px) iter wi)(O:p7 X N fr scope cl x)(hc:X.calm=true)
  (ht:∀fp C s H,PIf (bL X N scope cl fp C s H) ifs tt)(he:∀fp C s H,PE (bL X N scope cl fp C s H) elt te)(hs:∀v,foldedSetIterable iter X.env v=pure v:=by intro _;rfl)
  (hsw:swapsWith (.ListComp elt [⟨.Name x px,iter,ifs,0⟩] scope pos) (some (.Name y py)) vK.line X.env=pure true:=by rfl)(hf:X.fn y=true\/X.env.scope.names.lookup y=some .local:=by first|exact .inl U|exact .inr U|assumption) :
  PS X (.Assign [.Name y py] (.ListComp elt [⟨.Name x px,iter,ifs,0⟩] scope pos) vK) (xa (ye wi fr tt te) (nr i)):=by
 intro pins s σ H D0 I h;rw[exec_Assign_Name_used _ _ _ _ hsw];refine wpAny_bind (wpAny_standAt (wpAny_bind ?_));show wpAny _ X.A (do let _ ←comprehension (.ListComp elt [⟨.Name x px,iter,ifs,0⟩] scope pos) scope X.env _ (newList []) false (eval iter X.env) (some (assign (.Name y py) X.env))) _ _ s;refine wpAny_bind (wpAny_mono (wpAny_comprehension_free (use:=some (assign (.Name y py) X.env)) (Q:=λ_ s'=>SP X pins D0 .next s') U hs O.clos O.kind O.names (thn (hi pins s σ H _ I h) λv s1 h1=>thn h1 λitv s2 h2=>?_)) (λ_ s' hq=>wpAny_pure (wpAny_pure hq)) λ_ _ z=>z);obtain⟨it,fp,tn,J,H2,e,I2,T,st2,f2,hW⟩:=h2;subst e;refine nI (Q:=λv H1=>nr i v σ H1 D0.nx) (RR:=λacc C=>compPost (model X.prog X.w) X.A X.xe (some (assign (.Name y py) X.env)) (λ_ s'=>SP X pins D0 .next s') acc C) O hc I2 T st2 f2 ht he hW λD C s' H' hC hn ⟨m,hm⟩ I' q=>?_
 show wpAny _ X.A (assign (.Name y py) X.env (.ref D)) _ _ s';refine wpAny_assign_Name (kl I' hN hy hl (v:=.ref D) U (λs3 I3 ⟨a,hsa,ha⟩=>?_) hf);have hCa:C≠a:=by
  rcases ha with z|z
  ·rw[z];exact ne_of_gt (lt_of_lt_of_le I2.lt hC)
  ·obtain⟨v,o,ho,_⟩:=I2.cell y a z;exact ne_of_gt (lt_of_lt_of_le (Heap.lt_size ho) hC)
 exact⟨m,hm.sameBut hsa hCa,λh' hs'=>⟨_,H',I2.left I3 hC hn hs',q⟩⟩
def eM(Pv:Addr->Nat->List V->Hp->Prop)(D:Addr)(i n:Nat)(H2:Hp):Prop:=∃m',m'<n-i/\m'=n-(i+1)/\i+1<=n/\∃zs,Pv D (i+1) zs H2
def bT(Pv:Addr->Nat->List V->Hp->Prop)(D:Addr)(i n:Nat):VK:=λy H3=>∃ys,H3 D=some (.lst ys)/\ys.length<sizeLine/\eM Pv D i n (upd H3 D (.lst (ys++[y])))
theorem eM.mk{Pv:Addr->Nat->List V->Hp->Prop}{D:Addr}{i n:Nat}{H2:Hp}{zs:List V}(hi:i<n)(h:Pv D (i+1) zs H2):eM Pv D i n H2:=⟨n-(i+1),by lia,U,hi,zs,h⟩
theorem bT.mk{Pv:Addr->Nat->List V->Hp->Prop}{D:Addr}{i n:Nat}{H3:Hp}{ys:List V}{y:V}(hi:i<n)(e:H3 D=some (.lst ys))(hl:ys.length<sizeLine)(h:Pv D (i+1) (ys++[y]) (upd H3 D (.lst (ys++[y])))):bT Pv D i n y H3:=⟨ys,e,hl,.mk hi h⟩
theorem bh{K:W.Frag}{a:Addr}{xs:List V}{σ:St}{H1:Hp}{Q:VK}(Pv:Addr->Nat->List V->Hp->Prop)(h0:∀D,H1 D=none->Pv D 0 [] (upd H1 D (.lst [])))
  (hk:∀D i ys H,H1 D=none->i<=xs.length->Pv D i ys H->SqL K H a xs)
  (hs:∀D i x ys H,H1 D=none->xs[i]?=some x->Pv D i ys H->tt (fW σ fr (some x)) H λb H2=>if b=true then te (fW σ fr (some x)) H2 (bT Pv D i xs.length)else eM Pv D i xs.length H2)
  (hd:∀D ys H,H1 D=none->Pv D xs.length ys H->Q (.ref D) H):oI (Itl K a) fr tt te σ Q H1:=by
 intro D hD;refine⟨λi m H=>m=xs.length-i/\i<=xs.length/\∃ys,Pv D i ys H,⟨_,U,zero_le _,[],h0 D hD⟩,?_⟩;rintro i m H ⟨rfl,hi,ys,p⟩;have q:=hk D i ys H hD hi p;by_cases hlt:i<xs.length
 ·refine .inr ⟨⟨xs,xs[i],q,by simp[hlt]⟩,λx H' y=>?_⟩;obtain⟨e,y⟩:=y;subst e;exact hs D i x ys _ hD (y xs q) p
 ·have e:i=xs.length:=by lia
  subst e;exact .inl ⟨⟨xs,q,le_refl _⟩,hd D ys H hD p⟩
theorem bH{lo:Int}{n:Nat}{σ:St}{H1:Hp}{Q:VK}(Pv:Addr->Nat->List V->Hp->Prop)(h0:∀D,H1 D=none->Pv D 0 [] (upd H1 D (.lst [])))
  (hs:∀D i ys H,H1 D=none->i<n->Pv D i ys H->tt (fW σ fr (some (.int (lo+i)))) H λb H2=>if b=true then te (fW σ fr (some (.int (lo+i)))) H2 (bT Pv D i n)else eM Pv D i n H2)
  (hd:∀D ys H,H1 D=none->Pv D n ys H->Q (.ref D) H):oI (Itr lo n) fr tt te σ Q H1:=by
 intro D hD;refine⟨λi m H=>m=n-i/\i<=n/\∃ys,Pv D i ys H,⟨_,U,zero_le _,[],h0 D hD⟩,?_⟩;rintro i m H ⟨rfl,hi,ys,p⟩;by_cases hlt:i<n
 ·refine .inr ⟨hlt,λx H' y=>?_⟩;obtain⟨e,y⟩:=y;subst e;subst y;exact hs D i ys _ hD hlt p
 ·have e:i=n:=by lia
  subst e;exact .inl ⟨le_refl _,hd D ys H hD p⟩
end
structure lT(X:Cx)(N:List Str)(k:Nat)(fr:List Nat)(scope:Scope)(cl:List (Str×Addr)):Prop where
 clos:closureFor scope X.env=pure cl
 kind:scope.kind=.function
 nocell:∀y∈scope.names,y.2≠.cell
 names:∀y∈scope.names,y.2=.local->scope.names.lookup y.1=some .local
 len:N.length=k+fr.length
 sub:∀(i:Nat)(y:Str),N[k+i]?=some y->∃j,fr[i]?=some j/\X.N[j]?=some y/\(X.env.kindOf y=some .cell\/X.env.kindOf y=some .free)/\((relabel scope X.env).names.lookup y=some .cell\/(relabel scope X.env).names.lookup y=some .free)
 cells:∀y c,cl.lookup y=some c->X.env.cells.lookup y=some c
 has:∀y,((relabel scope X.env).names.lookup y=some .cell\/(relabel scope X.env).names.lookup y=some .free)->∃c,cl.lookup y=some c
theorem cZ{X:Cx}{N:List Str}{k:Nat}{scope:Scope}(len:N.length=k)(kind:scope.kind=.function)(nofree:∀y∈scope.names,y.2≠.free)(nocell:∀y∈scope.names,y.2≠.cell)
  (names:∀y∈scope.names,y.2=.local->scope.names.lookup y.1=some .local):lT X N k [] scope []:=by
 have er:(relabel scope X.env).names=scope.names:=map_eq_self λy hy=>by
  have z:(y.2 == NameKind.free)=false:=by simpa using nofree y hy
  simp[z]
 have no:∀y,¬ ((relabel scope X.env).names.lookup y=some .cell\/(relabel scope X.env).names.lookup y=some .free):=λy h=>by
  rw[er]at h;rcases h with h|h
  ·exact nocell _ (mem_of_lookup h) U
  ·exact nofree _ (mem_of_lookup h) U
 refine⟨closureFor_none nofree,kind,nocell,names,by rw[len];rfl,λi y e=>?_,(λy c e=>by cases e),λy h=>absurd h (no y)⟩;have:=(EW.mp e).1;lia
def dN(σ:St)(fr:List Nat)(ts:St):St:=ts++fr.map λj=>(σ[j]?).join
def jT(J:It)(gt:TG)(k:Nat)(fr:List Nat)(tt:TT)(te:TE)(σ:St)(Q:VK)(H1:Hp):Prop:=∀D,H1 D=none->∃W:Nat->Nat->Hp->Prop,(∃m,W 0 m (upd H1 D (.lst [])))/\∀i m H,W i m H ->
 (J.stop i H/\Q (.ref D) H)\/(J.go i H/\∀x H',J.yld i H x H'->∀ts:St,ts.length=k->gt x (dN σ fr ts) H' λσ2 H2=>(∃ts2:St,ts2.length=k/\σ2=dN σ fr ts2)/\tt σ2 H2 λb H3=>if b=true then te σ2 H3 λy H4=>∃ys,H4 D=some (.lst ys)/\ys.length<sizeLine/\∃m',m'<m/\W (i+1) m' (upd H4 D (.lst (ys++[y])))
  else ∃m',m'<m/\W (i+1) m' H3)
def vL(wi:TI)(gt:TG)(k:Nat)(fr:List Nat)(tt:TT)(te:TE):TE:=λσ H Q=>wi σ H λJ H1=>jT J gt k fr tt te σ Q H1
section
variable{elt iter tg:Expr}{ifs:List Expr}{scope:Scope}{cl:List (Str×Addr)}{N:List Str}{k:Nat}{fr:List Nat}{gt:TG}{tt:TT}{te:TE}
theorem lU{pins:List (Addr×Obj)}{σ:St}{s2:Shared}{H2:Hp}{it:Addr}{fp:List Addr}{tn:Nat->Heap->Prop}{J:It}{Q:VK}{E:Value->Shared->Prop}{RR:Value->Addr->Result->Shared->Prop}
  (O:lT X N k fr scope cl)(hc:X.calm=true)(I2:Inv X pins σ H2 s2)(T:Turn X.prog X.w X.K tg J fp it tn)(st2:tn 0 s2.heap)(f2:∀b∈fp,kn X pins H2 b)
  (ht:∀fp C s H,PIf (bL X N scope cl fp C s H) ifs tt)(he:∀fp C s H,PE (bL X N scope cl fp C s H) elt te)
  (hg:∀fp C s H,PG (bL X N scope cl fp C s H) tg gt)(hW:jT J gt k fr tt te σ Q H2)
  (fin:∀D C s' H',s2.heap.objs.size<=C->H' C=none->(∃m,s'.heap.Ns C m)->Inv X pins σ H' s'->Q (.ref D) H'->RR (.ref D) C (.ok .next) s') :
  wpAny (model X.prog X.w) X.A (newList []) (λacc s3=>wpAny (model X.prog X.w) X.A (newFunctionEnv scope X.env.globals cl [] X.env.qual none .none (some X.env)) (λvI s4 =>
   codeAny (model X.prog X.w) X.A (.compStart (.ListComp elt [⟨tg,iter,ifs,0⟩] scope pos) 0 (.ref it) acc { vI with scope:=relabel scope X.env }) (RR acc vI.locals) s4) E s3) E s2:=by
 refine wpAny_newObj_type (wpAny_newFunctionEnv O.nocell (by intro y hy;simp at hy) (λh1 hns hsb=>?_) O.kind);dsimp only at hns hsb⊢;generalize hG:s2.heap.push { cls:=.type "list",dict:=none,data:=.seq ([]:List Value).toArray }=G at hns hsb⊢;have hC:G.objs.size=s2.heap.objs.size+1:=by rw[←hG,Heap.size_push]
 have old:∀b o,s2.heap.get? b=some o->h1.get? b=some o:=λb o e=>hsb.extBut b o (ne_of_lt (by rw[hC];exact lt_succ_of_lt (Heap.lt_size e))) (Heap.get?_push_of_some _ (hG ▸ Heap.get?_push_of_some _ e))
 have vJ:h1.get? s2.heap.objs.size=some { cls:=.type "list",data:=.seq ([]:List Value).toArray 0 }:=hsb.extBut _ _ (ne_of_lt (by rw[hC];exact lt_succ_self _)) (Heap.get?_push_of_some _ (hG ▸ Heap.get?_push_size _ U));have hD:H2 s2.heap.objs.size=none:=I2.fresh;have okX:(bL X N scope cl fp G.objs.size s2 H2).Ok:=by
  refine⟨I2.ok.mod,O.kind,I2.ok.glob,I2.ok.blt,by show s2.heap.objs.size<=G.objs.size;rw[hC];exact le_succ _,λy z c e1 e2=>I2.ok.inj y z c (O.cells y c e1) (O.cells z c e2),λy hy=>O.has y hy,λy c z=>absurd (show false=true from z) Bool.false_ne_true,I2.ok.hd,I2.ok.frames,.inl U,
   λb hb=>⟨?_,λy c e=>(f2 b hb).2.2.2.2.1 y c (O.cells y c e)⟩,I2.bs,le_trans I2.ok.bsz I2.sz,λb o e hb=>?_,λb hb z=>?_,I2.stack,I2.stkFree⟩
  ·obtain⟨o,e,_⟩:=T.obj _ _ st2 b hb;show b≠G.objs.size;exact ne_of_lt (by rw[hC];exact lt_succ_of_lt (Heap.lt_size e))
  ·rcases(f2 b hb).2.2.2.1 with z|z
   ·exact I2.ok.noex b o e z
   ·exact absurd (lt_of_lt_of_le (Heap.lt_size e) (le_trans I2.ok.bsz z)) (lt_irrefl _)
  ·rcases mem_cons.mp (I2.stkSub b z)with z|z
   ·exact(f2 b hb).2.1 z
   ·exact(f2 b hb).2.2.1 z
 have lS:∀{H':Hp},(∀b∈fp,H' b=none)->∀b∈fp,kn (bL X N scope cl fp G.objs.size s2 H2) [] H' b:=λhn b hb =>
  ⟨hn b hb,(okX.exf b hb).1,okX.exfs b hb,.inl hb,(okX.exf b hb).2,λp hp=>absurd (show p∈([]:List (Addr×Obj))from hp) (by simp)⟩
 have I':Inv (bL X N scope cl fp G.objs.size s2 H2) [] (dN σ fr (List.replicate k none)) (upd H2 s2.heap.objs.size (.lst [])) { s2 with heap:=h1,toks:=s2.toks+([]:List (Str×Value)).length }:=by
  refine⟨okX,U,I2.bare,Un.laid old (le_refl _) hD,⟨_,hns,λi y v e1 e2 e3=>?_⟩,λy c e=>?_,?_,λy c e=>?_,λp hp=>absurd (show p∈([]:List (Addr×Obj))from hp) (by simp),I2.hok.laid old (le_refl _) ⟨zero_le _,[],0,.nil,vJ⟩,?_⟩
  ·by_cases hik:i<k
   ·have e2':(List.replicate k none++fr.map λj=>(σ[j]?).join)[i]?=some (some v):=e2;rw[getElem?_append_left (by rw[length_replicate];exact hik),List.getElem?_replicate,if_pos hik]at e2';cases e2'
   ·obtain⟨j,q1,q2,q3,q4⟩:=O.sub (i-k) y (by rw[show k+(i-k)=i by lia];exact e1);have e2':(σ[j]?).join=some v:=by
     have:(List.replicate k none++fr.map λj=>(σ[j]?).join)[i]?=some (some v):=e2;rw[getElem?_append_right (by rw[length_replicate];lia),length_replicate,getElem?_map,q1]at this;exact Option.some.inj this
    have e4:σ[j]?=some (some v):=by
     cases z:σ[j]? with
     |none=>rw[z]at e2';cases e2'
     |some t=>rw[z]at e2';exact congrArg some e2'
    obtain⟨m,_,hl⟩:=I2.loc;have vis:Vis X.env.scope y:=.inr q3;obtain⟨u,r,l⟩:=hl j y v q2 e4 vis;refine⟨u,r,.inr ⟨q4,?_⟩⟩;obtain⟨c',hc'⟩:=O.has y q4;rcases l with⟨k,_⟩|⟨_,c,ec,ic⟩
    ·rcases q3 with z|z
     ·rw[z]at k;cases k
     ·rw[z]at k;cases k
    ·have:=O.cells y c' hc';have e':c=c':=Option.some.inj (ec.symm.trans this);obtain⟨o,ho,hd⟩:=ic;rw[e']at ho;exact⟨c',hc',o,old c' o ho,hd⟩
  ·obtain⟨v,o,ho,hd⟩:=I2.cell y c (O.cells y c e);exact⟨v,o,old c o ho,hd⟩
  ·show upd H2 s2.heap.objs.size (.lst []) G.objs.size=none;rw[ar (ne_of_gt (by rw[hC];exact lt_succ_self _))];exact I2.hok.fresh (by rw[hC];exact le_succ _)
  ·obtain⟨v,o,ho,hd⟩:=I2.cell y c (O.cells y c e);rw[ar (ne_of_lt (Heap.lt_size ho))];exact I2.freeC y c (O.cells y c e)
  ·show(dN σ fr (List.replicate k none)).length=N.length;rw[O.len];simp[dN]
 have st1:tn 0 h1:=T.keep _ _ _ st2 λb hb o e=>old b o e
 have loop:∀s3:Shared,s3={ s2 with heap:=h1,toks:=s2.toks+([]:List (Str×Value)).length } ->
   codeAny (model X.prog X.w) X.A (.compLoop (.ListComp elt [⟨tg,iter,ifs,0⟩] scope pos) 0 (.ref it) (.ref s2.heap.objs.size) (compEnvC scope cl G.objs.size X.env)) (RR (.ref s2.heap.objs.size) G.objs.size) s3:=by
  rintro s3 rfl;obtain⟨W,⟨m0,w0⟩,turn⟩:=hW _ hD
  refine lR (λn s'=>∃i ts H',ts.length=k/\Inv (bL X N scope cl fp G.objs.size s2 H2) [] (dN σ fr ts) H' s'/\tn i s'.heap/\(∀b∈fp,H' b=none)/\W i n H') ?_ m0
   ⟨0,List.replicate k none,_,length_replicate,I',st1,λb hb=>by
    rw[ar (by obtain⟨o,e,_⟩:=T.obj _ _ st2 b hb;exact ne_of_lt (Heap.lt_size e))];exact(f2 b hb).1,w0⟩
  rintro n s' ⟨i,ts,H',hts,I3,st3,fr3,w3⟩;rcases turn i n H' w3 with⟨stop,qn⟩|⟨go,step⟩
  ·refine thn (T.done (bL X N scope cl fp G.objs.size s2 H2) U U U hc i [] s' _ H' _ I3 (lS fr3) st3 stop) λr s4 ⟨hr,I4⟩=>?_
   subst hr;obtain⟨m,hm,_⟩:=I4.loc;refine fin _ _ s4 H' (by rw[hC];exact le_succ _) I4.free ⟨m,hm⟩ (I2.call' (ch:=fp) I4.os I4.base I4.hok I4.bare λb hb=>?_) qn;exact⟨(f2 b hb).2.2.2.1,(f2 b hb).2.1,(f2 b hb).2.2.2.2.1,(f2 b hb).2.2.2.2.2⟩
  ·refine thn (T.item (bL X N scope cl fp G.objs.size s2 H2) U U U hc i [] s' _ H' _ I3 (lS fr3) st3 go) λr s4 ⟨u,hr,h4⟩=>?_
   subst hr;refine thn h4 λ_ s5 ⟨y,H5,I5,r5,y5,st5,fr5⟩=>?_
   have I5':=I5.pinned (lS fr5) (T.obj _ _ st5);refine thn (hg fp G.objs.size s2 H2 _ s5 _ H5 y u _ I5' r5 (step y H5 y5 ts hts)) λ_ s6 ⟨σ6,H6,I6,⟨ts6,Cb,e6⟩,q6⟩=>?_
   subst e6
   have again:∀{σ7:St}{H7:Hp}{s7:Shared}{m':Nat},σ7=dN σ fr ts6->Inv (bL X N scope cl fp G.objs.size s2 H2) ([]++kq fp s5.heap) σ7 H7 s7->m'<n->W (i+1) m' H7 ->
     ∃m,m<n/\∃i ts H',ts.length=k/\Inv (bL X N scope cl fp G.objs.size s2 H2) [] (dN σ fr ts) H' s7/\tn i s7.heap/\(∀b∈fp,H' b=none)/\W i m H':=λ{σ7 H7 s7 m'} e7 I7 hm w7=>by
    subst e7;refine⟨m',hm,i+1,ts6,H7,Cb,I7.unpinned,T.keep _ _ _ st5 λb hb o e=>(I7.pin (b,o) (mem_append_right _ (mem_append_right _ (dX hb e)))).1,λb hb=>?_,w7⟩;obtain⟨o,e,d⟩:=T.obj _ _ st5 b hb;exact(I7.pin (b,o) (mem_append_right _ (mem_append_right _ (dX hb e)))).2.1
   refine thn (ht fp G.objs.size s2 H2 _ s6 _ H6 _ I6 q6) λok s7 ⟨H7,I7,q7⟩=>?_
   cases ok with
   |false =>
    rw[if_neg Bool.false_ne_true]at q7⊢;obtain⟨m',hm,w7⟩:=q7;exact again U I7 hm w7
   |true =>
    rw[if_pos U]at q7⊢;refine thn (he fp G.objs.size s2 H2 _ s7 _ H7 _ I7 q7) λu8 s8 ⟨v8,H8,I8,r8,ys,hys,hlen,m',hm,w8⟩=>?_
    refine thn (bS (X:=bL X N scope cl fp G.objs.size s2 H2) _ s8 _ H8 (.ref s2.heap.objs.size) [v8] _ [u8] (λ_ H9=>W (i+1) m' H9) I8 U (.cons r8 .nil) ⟨_,ys,v8,U,U,hys,hlen,w8⟩) λ_ s9 ⟨_,H9,I9,_,w9⟩=>?_
    exact again U I9 hm w9
 exact codeAny_compStart_list (loop _ U) (T.self _ 0 _ _ _ st1 (loop _ U))
theorem fX{wi:TI}(hi:PI X tg iter wi)(O:lT X N k fr scope cl)(hc:X.calm=true)(hg:∀fp C s H,PG (bL X N scope cl fp C s H) tg gt)(ht:∀fp C s H,PIf (bL X N scope cl fp C s H) ifs tt)(he:∀fp C s H,PE (bL X N scope cl fp C s H) elt te)
  (hs:∀v,foldedSetIterable iter X.env v=pure v:=by intro _;rfl):PE X (.ListComp elt [⟨tg,iter,ifs,0⟩] scope pos) (vL wi gt k fr tt te):=by
 intro pins s σ H Q I h;rw[eval_ListComp];refine wpAny_comprehension_free (use:=none) U hs O.clos O.kind O.names (thn (hi pins s σ H _ I h) λv s1 h1=>thn h1 λitv s2 h2=>?_);obtain⟨it,fp,tn,J,H2,e,I2,T,st2,f2,hW⟩:=h2;subst e;refine lU (RR:=λacc C=>compPost (model X.prog X.w) X.A X.xe none (EP X pins σ Q) acc C) O hc I2 T st2 f2 ht he hg hW λD C s' H' hC hn ⟨m,hm⟩ I' q=>?_
 exact⟨m,hm,λh' hs'=>⟨.ref D,H',I2.left I' hC hn hs',U,q⟩⟩
theorem dY{K:W.Frag}{a:Addr}{xs:List V}{σ:St}{H1:Hp}{Q:VK}(Pv:Addr->Nat->List V->Hp->Prop)(h0:∀D,H1 D=none->Pv D 0 [] (upd H1 D (.lst [])))
  (hk:∀D i ys H,H1 D=none->i<=xs.length->Pv D i ys H->SqL K H a xs)
  (hs:∀D i x ys H,H1 D=none->xs[i]?=some x->Pv D i ys H->∀ts:St,ts.length=k->gt x (dN σ fr ts) H λσ2 H2=>(∃ts2:St,ts2.length=k/\σ2=dN σ fr ts2)/\tt σ2 H2 λb H3=>if b=true then te σ2 H3 (bT Pv D i xs.length)else eM Pv D i xs.length H3)
  (hd:∀D ys H,H1 D=none->Pv D xs.length ys H->Q (.ref D) H):jT (Itl K a) gt k fr tt te σ Q H1:=by
 intro D hD;refine⟨λi m H=>m=xs.length-i/\i<=xs.length/\∃ys,Pv D i ys H,⟨_,U,zero_le _,[],h0 D hD⟩,?_⟩;rintro i m H ⟨rfl,hi,ys,p⟩;have q:=hk D i ys H hD hi p;by_cases hlt:i<xs.length
 ·refine .inr ⟨⟨xs,xs[i],q,by simp[hlt]⟩,λx H' y=>?_⟩;obtain⟨e,y⟩:=y;subst e;exact hs D i x ys _ hD (y xs q) p
 ·have e:i=xs.length:=by lia
  subst e;exact .inl ⟨⟨xs,q,le_refl _⟩,hd D ys H hD p⟩
end
theorem nJ{X:Cx}{K:W.Frag}{es:List Expr}{k:Nat}{t:TGs}{n:Nat}{pos:Pos}(hK:X.K=K)(hc:X.calm=true)(h:PGs X es t)(hn:(assignEach es X.env).length=n:=by rfl)(hst:(assignEach es X.env).findIdx? (·.1)=none:=by rfl):PG X (.Tuple es k pos) (As K n t):=hK ▸ dh hc h hn hst
end L2
namespace Srt
open PySem PySem.W PyProof.Rows
def Ok(n:Nat)(lt:Nat->Nat->Bool){α:Type}:KasT α->(α->Prop)->Prop
 | .ret a,Q=>Q a
 | .ask i j k,Q=>i<n/\j<n/\Ok n lt (k (lt i j)) Q
section
variable{n:Nat}{lt:Nat->Nat->Bool}
abbrev g(p:Array Nat)(i:Nat):Nat:=p.getD i 0
structure Ord(lt:Nat->Nat->Bool):Prop where
 tr:∀a b c,lt b a=false->lt c b=false->lt c a=false
 as:∀a b,lt a b=true->lt b a=false
end
end Srt
namespace L2
open PySem PySem.Spec PySem.W PyProof.Rows
variable{prog:Program}{w:World}{A:Around}{E:Value->Shared->Prop}{s:Shared}
variable{X:Cx}
structure Eu(S A B A0 B0:List Pr):Prop where
 ap:Apart S
 aA:Apart A
 aB:Apart B
 mem:∀n,(inP A0 n && inP B0 n)=(inP S n || (inP A n && inP B n))
 gap:∀s∈S,(∀p∈A,s.2+2<=p.1)\/(∀p∈B,s.2+2<=p.1)
structure EE(F T:List Pr)(lo hi st:Int):Prop where
 ap:Apart F
 lt:∀s∈F,s.2+2<=st
 rng:∀s∈F,lo<=s.1/\s.2<=hi
 tk:∀p∈T,p.2<st
 fr:st=lo\/∃p∈T,st=p.2+1
 ge:lo<=st
 mem:∀n,lo<=n->n<=hi->n<st->inP F n = !inP T n
structure Walk(ts:List (Int×Int×Int)):Prop where
 le:∀t∈ts,t.1<=t.2.1
 nx:∀(i:Nat) a b,ts[i]?=some a->ts[i+1]?=some b->b.1=a.2.1+1
def pcs(msk:Int->Bool)(ts:List (Int×Int×Int))(n:Int):Bool:=ts.any λt=>inR n (t.1,t.2.1) && msk t.2.2
structure EF(R:List Pr)(ts:List (Int×Int×Int))(msk:Int->Bool)(i:Nat)(at_:Int):Prop where
 ap:Apart R
 mem:∀n,inP R n=pcs msk (ts.take i) n
 lt:∀r∈R,r.2<at_
 few:2*R.length<=i\/(2*R.length<=i+1/\∃R' l,R=R'++[l]/\l.2=at_-1)
section
variable{R:List Pr}{ts:List (Int×Int×Int)}{msk:Int->Bool}{i:Nat}{at_:Int}{t:Int×Int×Int}
end
def ends(R:List Pr):List Int:=R.flatMap λp=>[p.1,p.2+1]
theorem kX(ns:List Int):∀k,k<=ns.length->preSum (λi=>ns.getD i 0) k=(ns.take k).sum
 |0,_=>rfl
 |k+1,h=>by
  have ih:=kX ns k (by lia);show preSum (λi=>ns.getD i 0) k+ns.getD k 0=_;have e:ns[k]?=some ns[k]:=EV (by lia);rw[ih,take_add_one,e,sum_append,getD_eq_getElem?_getD,e];simp
theorem fF(hc:X.calm=true):cw X (.builtin "sum") (λus H Q=>∃(a:Addr)(ns:List Int),us=[.ref a]/\SqL X.K H a (ns.map V.int)/\Q (.int ns.sum) H):=by
 intro pins s σ H us vs Q I r h;obtain⟨a,ns,rfl,hq,q⟩:=h;obtain⟨u,rfl,rx⟩:=r.one;cases (show u=Value.ref a from rx);obtain⟨its,rv,pl,hz⟩:=I.list hq;have l1:=rv.length;rw[length_map]at l1;obtain⟨oa,ea,_⟩:=id pl.isList;have hax:a<s.heap.objs.size:=Heap.lt_size ea;refine call_sum_walkG (wpAny_pyIter_list pl.isList ?_);refine⟨s.heap.objs.size,[s.heap.objs.size,a],[s.heap.objs.size],_,_,_,λi=>ns.getD i 0,U,Walks.list (A:=X.A.in1) (I.ok.hd hc) _ a (ne_of_lt hax) its.toArray,⟨⟨_,Heap.get?_push_size _ U,U,U⟩,pl.isList.at λo e=>Heap.get?_push_of_some _ e⟩,λb hb=>?_,λi v e=>?_,λh' tk t' hk=>?_⟩
 ·show b<(s.heap.push _).objs.size;rw[Heap.size_push];rcases mem_cons.mp hb with z|z
  ·rw[z];exact lt_succ_self _
  ·have z2:b=a:=by simpa using z
   rw[z2];exact lt_succ_of_lt hax
 ·have e':its[i]?=some v:=by simpa using e
  have hi:i<ns.length:=by rw[l1];exact(EW.mp e').1
  have ex:(ns.map V.int)[i]?=some (.int ns[i]):=by rw[getElem?_map,EV hi];rfl
  obtain⟨u,q1,ru⟩:=rv.get ex;rw[e']at q1;cases q1;obtain⟨t,rfl⟩:=ru;exact⟨t,by show Value.int ns[i] t=Value.int (ns.getD i 0) t;rw[getD_eq_getElem?_getD,EV hi];rfl⟩
 ·refine⟨.int ns.sum,H,I.kept (t':=tk) λb o e=>hk b o (λz=>?_) (Heap.get?_push_of_some _ e),⟨t',?_⟩,q⟩
  ·have z2:b=s.heap.objs.size:=by simpa using z
   exact absurd (Heap.lt_size e) (by rw[z2];exact lt_irrefl _)
  ·rw[size_toArray,←l1,kX ns _ (le_refl _),take_length]
def Its(z:Str):It:=⟨λi _=>i<z.cps.size,λi H x H'=>H'=H/\∃c,z.cps[i]?=some c/\x=.str ⟨#[c]⟩,λi _=>z.cps.size<=i⟩
theorem rB{P:Program}{w:World}{K:W.Frag}{tg:Expr}(z:Str)(t:Tok)(it:Addr):Turn P w K tg (Its z) [it] it (λi h=>h.IsStrIter it "str_ascii_iterator" z t i) where
 mem:=by simp
 obj:=λi h st b hb=>by
  obtain⟨o,e,c,d⟩:=st;rw[show b=it by simpa using hb];exact⟨o,e,λv q=>by rw[d]at q;cases q⟩
 keep:=λi h h' ⟨o,e,r⟩ k=>⟨o,k it (by simp) o e,r⟩
 item:=by
  intro X hP hw hK hc i pins s σ H E I hf st hg;subst hP hw hK;have hlt:i<z.cps.size:=hg;have hi:z.cps[i]?=some z.cps[i]:=getElem?_eq_getElem hlt;obtain⟨f0,f1,f2,f3,f4,f5⟩:=hf it (by simp);refine wpAny_pyNext_ascii_item st hi λh' st' sb=>?_
  have I1:Inv X pins σ H { s with heap:=h',toks:=s.toks+1 }:=I.turned (t':=s.toks+1) (λb o hb e=>(sb.2 b hb).trans e) f0 f1 f3 f4 f5;obtain⟨o,e,c,d⟩:=id st';exact⟨_,U,sQ (s:={ s with heap:=h',toks:=s.toks+1 }) e c d (by decide) ⟨.str ⟨#[z.cps[i]]⟩,H,I1,⟨_,U⟩,⟨U,_,hi,U⟩,st',λb hb=>(hf b hb).1⟩⟩
 done:=by
  intro X hP hw hK hc i pins s σ H E I hf st hg;subst hP hw hK;obtain⟨f0,f1,f2,f3,f4,f5⟩:=hf it (by simp);exact wpAny_pyNext_ascii_end (I.ok.hd hc) st (by simpa using(show z.cps.size<=i from hg)) λh' eb=>⟨U,I.turned (t':=s.toks) (λb o hb e=>eb b o hb e) f0 f1 f3 f4 f5⟩
 self:=λ_ _ _ _ _ st h=>wpAny_pyIter_striter_ascii st h
theorem ux{P:Program}{w:World}{K:W.Frag}{tg:Expr}(z:Str)(t:Tok)(it:Addr):Turn P w K tg (Its z) [it] it (λi h=>h.IsStrIter it "str_iterator" z t i) where
 mem:=by simp
 obj:=λi h st b hb=>by
  obtain⟨o,e,c,d⟩:=st;rw[show b=it by simpa using hb];exact⟨o,e,λv q=>by rw[d]at q;cases q⟩
 keep:=λi h h' ⟨o,e,r⟩ k=>⟨o,k it (by simp) o e,r⟩
 item:=by
  intro X hP hw hK hc i pins s σ H E I hf st hg;subst hP hw hK;have hlt:i<z.cps.size:=hg;have hi:z.cps[i]?=some z.cps[i]:=getElem?_eq_getElem hlt;obtain⟨f0,f1,f2,f3,f4,f5⟩:=hf it (by simp);refine wpAny_pyNext_wide_item st hi λh' st' sb=>?_
  have I1:Inv X pins σ H { s with heap:=h',toks:=s.toks+1 }:=I.turned (t':=s.toks+1) (λb o hb e=>(sb.2 b hb).trans e) f0 f1 f3 f4 f5;obtain⟨o,e,c,d⟩:=id st';exact⟨_,U,sQ (s:={ s with heap:=h',toks:=s.toks+1 }) e c d (by decide) ⟨.str ⟨#[z.cps[i]]⟩,H,I1,⟨_,U⟩,⟨U,_,hi,U⟩,st',λb hb=>(hf b hb).1⟩⟩
 done:=by
  intro X hP hw hK hc i pins s σ H E I hf st hg;subst hP hw hK;obtain⟨f0,f1,f2,f3,f4,f5⟩:=hf it (by simp);exact wpAny_pyNext_wide_end (I.ok.hd hc) st (by simpa using(show z.cps.size<=i from hg)) λh' eb=>⟨U,I.turned (t':=s.toks) (λb o hb e=>eb b o hb e) f0 f1 f3 f4 f5⟩
 self:=λ_ _ _ _ _ st h=>wpAny_pyIter_striter_wide st h
variable{tg:Expr}
inductive yf  (R:(It->Hp->Prop))(x:V)(H1:Hp):Prop
 |mk (z:_)(_:x=.str z)(_:R (Its z) H1):yf R x H1
def Cc(tl:TE):W.Frag->St->Hp->(It->Hp->Prop)->Prop:=λ_ σ H R=>tl σ H λx H1=>yf R x H1
theorem zc{l:Expr}{tl:TE}(hl:PE X l tl):PI X tg l (Cc tl X.K):=by
 intro pins s σ H R I h;refine thn (hl pins s σ H _ I h) λv s1 ⟨x,H1,I1,r1,q1⟩=>?_
 obtain⟨z,e,q⟩:=q1;subst e;obtain⟨t,rfl⟩:=r1;have fpo:∀b∈[s1.heap.objs.size],kn X pins H1 b:=λb hb=>by
  rw[show b=s1.heap.objs.size by simpa using hb];exact I1.fpOk (le_refl _) (I1.hok.fresh (le_refl _))
 cases ha:z.cps.all (· < 128) with
 |true=>exact wpAny_pyIter_ascii ha ⟨s1.heap.objs.size,[s1.heap.objs.size],_,_,H1,U,I1.kept (t':=s1.toks) λb o e=>Heap.get?_push_of_some _ e,rB z t _,⟨_,Heap.get?_push_size _ U,U,U⟩,fpo,q⟩
 |false=>exact wpAny_pyIter_wide ha ⟨s1.heap.objs.size,[s1.heap.objs.size],_,_,H1,U,I1.kept (t':=s1.toks) λb o e=>Heap.get?_push_of_some _ e,ux z t _,⟨_,Heap.get?_push_size _ U,U,U⟩,fpo,q⟩
theorem xl{z:Str}{g:TG}{tb:TS}{D:Ends}{σ:St}{H:Hp}(Pv:Nat->St->Hp->Prop)(h0:Pv 0 σ H)
  (hs:∀i c σ H,z.cps.toList[i]?=some c->Pv i σ H->g (.str ⟨#[c]⟩) σ H λσ2 H2=>tb { D with nx:=Pv (i+1),ct:=Pv (i+1),bk:=D.nx } σ2 H2)(hd:∀σ H,Pv z.cps.size σ H->D.nx σ H) :
  ∃W:Nat->Nat->St->Hp->Prop,(∃m,W 0 m σ H)/\∀i m σ H,W i m σ H ->
   ((Its z).stop i H/\D.nx σ H)\/((Its z).go i H/\∃N:St->Hp->Prop,(∀σ' H',N σ' H'->∃m',m'<m/\W (i+1) m' σ' H')/\∀x H',(Its z).yld i H x H'->g x σ H' λσ2 H2=>tb { D with nx:=N,ct:=N,bk:=D.nx } σ2 H2):=by
 refine⟨λi m σ H=>m=z.cps.size-i/\i<=z.cps.size/\Pv i σ H,⟨_,U,zero_le _,h0⟩,?_⟩;rintro i m σ H ⟨rfl,hi,p⟩;by_cases hlt:i<z.cps.size
 ·refine .inr ⟨hlt,Pv (i+1),λσ' H' p'=>⟨z.cps.size-(i+1),by lia,U,hlt,p'⟩,λx H' y=>?_⟩;obtain⟨e,c,y1,y2⟩:=y;subst e;subst y2;exact hs i c σ _ (by simpa using y1) p
 ·have e:i=z.cps.size:=by lia
  subst e;exact .inl ⟨le_refl _,hd σ H p⟩
theorem p8:∀{ys:List Str}{us:List Value},Vals (ys.map V.str) us->StrsAre us ys
 | [],_,.nil=>.nil
 |y :: ys,_,.cons r t=>by
  obtain⟨t0,rfl⟩:=r;exact .cons y t0 (p8 t)
inductive rJoin(K:W.Frag)(x:V)(vs:List V)(H:Hp)(Q:VK):Prop
 |mk (z:Str)(a:Addr)(ys:List Str)(_:x=.str z)(_:vs=[.ref a])(_:SqL K H a (ys.map V.str))(_:z.length<=64)(_:(ys.map (·.length)).sum+ys.length*64<=16777216)(_:Q (.str (Txt.join z ys)) H):rJoin K x vs H Q
theorem tq:MtM X "str.join" (rJoin X.K):=by
 intro pins s σ H x vs v us Q I rx rv h;obtain⟨z,a,ys,rfl,rfl,hq,h1,h2,q⟩:=h;obtain⟨t,rfl⟩:=rx;obtain⟨u,rfl,ru⟩:=rv.one;cases (show u=Value.ref a from ru);obtain⟨its,r,pl,hz⟩:=I.list hq;exact join_listC pl.isList (by simpa using p8 r) h1 h2 λt' k=>⟨.str (Txt.join z ys),H,I.tok k,⟨_,U⟩,q⟩
theorem lV{x:Str}{v:V}{pos:Pos}(hg:Gl X x)(h:∃u,X.mg x=some u/\RelV v u)(hd:(x == ("__debug__" : Str))=false:=by decide):PE X (.Name x pos) (tC v):=by
 obtain⟨_,m,r⟩:=h;exact cM hg m r hd
def sg(g:Str)(c:Nat):Bool:=!(Builtin.Str.occurrences g ⟨#[c]⟩ 0 g.length 1).isEmpty
def lW(z g:Str):Bool:=z.cps.toList.all (sg g)
open PySem.NumText
structure EG(cs:List Nat):Prop where
 all:AllDigits cs
 one:cs.length=1\/∃c r,cs=c :: r/\49<=c
def AM(h:Heap)(e T:Addr)(cls a0:Value):Prop :=
 ∃oe vs oT ts,h.get? e=some oe/\(oe.cls=cls/\vs[0]?=some a0)/\oe.data=.fields vs/\vs[1]?=some (.ref T)/\T≠e/\h.get? T=some oT/\oT.data=.fields ts/\ts[3]?=some .none
structure Stp(F X:List Addr)(h h':Heap):Prop where
 keep:∀b o,b ∉ F->b ∉ X->h.get? b=some o->h'.get? b=some o
 slot:∀b o,b∈F->h.get? b=some o->∃sl,h'.get? b=some { o with slots:=sl }
variable{base:Heap}{outer:List Env}{T:Addr}{oe:Obj}
section
variable{M:Model}{env:Env}{L e:Addr}{vs:Array Value}{a0 cls:Value}{Q:Unit->Shared->Prop}
theorem lX{base h:Heap}{l:List Env}(xs:List Addr)(ff:h.FunFrames base l):h.FunFrames (W.hideAll h (xs++frs l)) l :=
 W.funFrames_hide ff λv hv a ha=>mem_append_right _ (mem_filterMap.mpr ⟨v,hv,ha⟩)
theorem p9{base h h':Heap}{l:List Env}{xs:List Addr}(ff:h.FunFrames base l)(hT:(W.hideAll h (xs++frs l)).get? T=none)(sl:∀b o,b∈frs l->h.get? b=some o->∃sl,h'.get? b=some { o with slots:=sl })
  {oT:Obj}{ts:Array Value}(h1:h'.get? T=some oT)(h2:oT.data=.fields ts):h.get? T=none\/T∈xs:=by
 cases q:h.get? T with
 |none=>exact .inl U
 |some o =>
  by_cases hx:T∈xs
  ·exact .inr hx
  ·by_cases hF:T∈frs l
   ·obtain⟨_,o2,q2,nf⟩:=ff.mem hF;obtain⟨sl',q3⟩:=sl T o2 hF q2;rw[h1]at q3;have q4:=Option.some.inj q3;exact absurd (by rw[q4]at h2;exact h2) (nf ts)
   ·have z:=W.hideAll_get (xs++frs l) q (by simp[hx,hF]);rw[hT]at z;cases z
end
variable{P:Program}{H H':Hp}{h h':Heap}{a:Addr}
section
variable{o:HO}{F Y fs:List Addr}
theorem bQ.there(x:bQ P w H h a o):∃ob,h.get? a=some ob:=by
 cases o with
 |lst xs=>obtain⟨_,_,_,_,e⟩:=x;exact⟨_,e⟩
 |tup xs=>obtain⟨_,_,_,ob,e,_⟩:=x;exact⟨_,e⟩
 |dK kvs=>obtain⟨_,_,_,_,o,_,_,e,_⟩:=x;exact⟨_,e⟩
 |dT kvs=>obtain⟨_,_,_,_,o,_,_,e,_⟩:=x;exact⟨_,e⟩
 |set S n=>obtain⟨o,_,_,_,e,_⟩:=x;exact⟨_,e⟩
 |ins C dx fs=>obtain⟨_,_,_,e,_⟩:=x;exact⟨_,e⟩
 |own y=>obtain⟨_,e⟩:=x;exact⟨_,e⟩
 |xd fs=>obtain⟨_,⟨_,_,_,e,_⟩,_⟩:=x;exact⟨_,e⟩
 |rng lo hi=>obtain⟨_,_,_,e⟩:=x;exact⟨_,e⟩
 |frz ob u=>obtain⟨e,_⟩:=x;exact⟨_,e⟩
 |tbl ps=>exact⟨_,(show h.get? a=some _ from x)⟩
 |met f y=>exact⟨_,(show h.get? a=some _ from x)⟩
 |ext φ=>obtain⟨_,⟨_,e⟩,_⟩:=x;exact⟨_,e⟩
theorem HOk.none_of(x:HOk P w H h)(e:h.get? a=none):H a=none:=by
 cases q:H a with
 |none=>rfl
 |some u =>
  obtain⟨ob,z⟩:=(x a u q).there;rw[e]at z;cases z
theorem HOk.stp(x:HOk P w H h)(st:Stp F Y h h')(hF:∀b∈F,H b=none)(hY:∀b∈Y,H b=none):HOk P w H h':=λa o e =>
 (x a o e).stay (λb u hb q=>by
  have hn:H b≠none:=by
   rcases hb with rfl|hb
   ·rw[e];simp
   ·rw[hb];simp
  exact st.keep b u (λz=>hn (hF b z)) (λz=>hn (hY b z)) q) (λ_ q=>q) λ_ _ q=>q
theorem Un.stp{H0:Hp}{h0:Heap}(u:Un fs [] H0 H h0 h)(st:Stp F Y h h')(h1:∀b o,h0.get? b=some o->b∈F->b∈fs)(h2:∀b∈fs,b∈F)(hY:∀b∈Y,h0.get? b=none):Un fs [] H0 H h0 h':=by
 have nY:∀b o,h0.get? b=some o->b ∉ Y:=λb o q z=>by rw[hY b z]at q;cases q
 refine⟨λb o q n hb hx=>st.keep b o (λz=>hb (h1 b o q z)) (nY b o q) (u.keep b o q n hb hx),λb o q n hb hx=>?_,u.free,λb o q hx=>?_,u.tups,u.frzs,u.tbls⟩
 ·obtain⟨sl,q1⟩:=u.slot b o q n hb hx;obtain⟨sl2,q2⟩:=st.slot b _ (h2 b hb) q1;exact⟨sl2,q2⟩
 ·obtain⟨o1,q1⟩:=u.there b o q hx;by_cases hF:b∈F
  ·obtain⟨sl2,q2⟩:=st.slot b _ hF q1;exact⟨_,q2⟩
  ·exact⟨_,st.keep b o1 hF (nY b o q) q1⟩
end
def CX1(P:Program)(w:World):CXT:=λouter H s E ev s'=>∃(e T C:Addr)(a0:Value)(H':Hp),ev=.ref e/\s'.os=s.os/\AllBare s'.gens/\Un (frs outer) [] H H' s.heap s'.heap/\HOk P w H' s'.heap /\
 AM s'.heap e T (.ref C) a0/\s.heap.get? e=none/\s.heap.get? T=none/\H' e=none/\H' T=none/\E (.ref C) none H'
structure jU(X:Cx)(pins:List (Addr×Obj))(H:Hp)(b:Addr):Prop where
 ent:X.s₀.heap.get? b=none
 unt:H b=none
 loc:b≠X.env.locals
 cel:∀x c,X.env.cells.lookup x=some c->c≠b
 pin:∀p∈X.pn++pins,p.1≠b
variable{pins:List (Addr×Obj)}{σ:St}
section
variable{e:Addr}
theorem Inv.newAt(I:Inv X pins σ H s)(hx:X.ex=[]){b:Addr}(hb:s.heap.get? b=none):jU X pins H b:=by
 refine⟨?_,I.hok.none_of hb,?_,?_,?_⟩
 ·cases q:X.s₀.heap.get? b with
  |none=>rfl
  |some o =>
   obtain⟨o',q'⟩:=I.base.there b o q (by rw[hx];simp);rw[hb]at q';cases q'
 ·rintro rfl;obtain⟨m,⟨o,_,_,q,_⟩,_⟩:=I.loc;rw[hb]at q;cases q
 ·rintro x c hc rfl;obtain⟨v,o,q,_⟩:=I.cell x c hc;rw[hb]at q;cases q
 ·rintro p hp rfl;obtain⟨q,_⟩:=I.pin p hp;rw[hb]at q;cases q
end
structure ExcCls(K:W.Frag)(C:Addr):Prop where
 ex:∃(bmB bmN:List Value)(newId B Bn nid vM inN:String),W.excIn K C bmB newId=true/\ExcBaseFacts Bn newId inN bmN/\bmB.contains (Value.type Bn)=true/\ExcBaseFacts B nid vM bmB
theorem ExcCls.value{K:W.Frag}{C:Addr}(h:W.excIn K C [.type "ValueError",.type "Exception",.type "BaseException",.type "object"] "ValueError.__new__" = true):ExcCls K C :=
 ⟨_,_,_,_,_,_,_,_,h,PySem.F.excBase_ValueError,by decide,PySem.F.excBase_ValueError⟩
theorem ExcCls.obj{K:W.Frag}{C:Addr}{h:Heap}{bmB:List Value}{newId:String}(KI:K.In h)(e:W.excIn K C bmB newId=true):∃bm N nm q bs hdct sn sub ab col dd k0 k1 k2 k3 k5 mN,
   h.get? C=some (excClassObj nm q C N bs bm hdct sn sub ab col dd k0 k1 k2 k3 k5 newId)/\h.Ns N mN/\mN "__init__" = none/\OwnTail h bmB bm:=by
 unfold W.excIn at e;split at e
 ·rename_i dd cd sl lk
  split at e
  ·rename_i C' bm k0 k1 k2 k3 n k5 em es
   simp only[and_eq_true,beq_iff_eq,Bool.not_eq_true']at e;obtain⟨⟨⟨⟨⟨rfl,rfl⟩,hd⟩,ht⟩,hn⟩,hi⟩:=e;obtain⟨nm,bs,mro,ns,q,hdct,sn,sub,ab,col,EH⟩:=cd;dsimp only at em hd ht hn hi;subst em hd;have hsl:sl = #[k0,k1,k2,k3,some (Value.builtin n),k5]:=by
    apply Array.toList_inj.mp
    rw[es]
   subst hsl;exact⟨bm,ns,nm,q,bs,hdct,sn,sub,ab,col,dd,k0,k1,k2,k3,k5,_,KI _ _ lk,Heap.Ns.of_isNs (W.isNs_of_in KI hn),W.nsMap_none_of_in KI hn hi,W.tail_of_in KI ht⟩
  ·cases e
 ·cases e
variable{K:W.Frag}{mg:Str->Option Value}{N:List Str}{scope:Scope}{f:Addr}
section
variable{qual:Str}{cd:Value}{s0:Shared}{H0:Hp}{E:XK}
def zd(C:Addr)(E:XK)(t:TA):TS:=λ_ σ H=>t σ H λvs H1=>vs.length<=sizeLine/\E (.ref C) none H1
end
def XP(X:Cx)(pins:List (Addr×Obj))(σ:St)(EX:Addr->Hp->Prop)(ev:Value)(s':Shared):Prop :=
 ∃(e T C:Addr)(a0:Value)(H':Hp),ev=.ref e/\Inv X pins σ H' s'/\AM s'.heap e T (.ref C) a0/\jU X pins H' e/\jU X pins H' T/\EX C H'
def bK(P:Program)(w:World)(K:W.Frag)(mg:Str->Option Value)(base:Heap)(k:Nat)(x:Str)(ps:List Str)(sp:Sp):Prop :=
 ∃f fd,aN P w K mg base (CX1 P w) k f fd ps sp/\Binds K fd ps []/\W.keepIn K (.ref f)=true/\mg x=some (.ref f)
theorem bK.mono{P:Program}{w:World}{K:W.Frag}{mg:Str->Option Value}{base:Heap}{j k:Nat}{x:Str}{ps:List Str}{sp:Sp}(C:bK P w K mg base j x ps sp)(h:j<=k):bK P w K mg base k x ps sp:=by
 obtain⟨f,fd,F,r⟩:=C;exact⟨f,fd,F.mono h,r⟩
variable{s':Shared}
theorem Inv.afterX{E:XK}{EX:Addr->Hp->Prop}{ev:Value}(I:Inv X pins σ H s)(hx:X.ex=[])(hE:∀C H',E (.ref C) none H'->EX C H')(h:CX1 X.prog X.w X.stack H s E ev s'):XP X pins σ EX ev s':=by
 obtain⟨e,T,C,a0,H',rfl,os,bare,un,hok,x,ne,nT,he,hT,q⟩:=h;have I':Inv X pins σ H' s':=I.call' (ch:=[]) os un hok bare λb z=>absurd z (by simp)
 have a:=I.newAt hx ne;have b:=I.newAt hx nT;exact⟨e,T,C,a0,H',U,I',x,⟨a.ent,he,a.loc,a.cel,a.pin⟩,⟨b.ent,hT,b.loc,b.cel,b.pin⟩,hE _ _ q⟩
variable{e:Expr}{x:Str}{ps:List Str}{sp:Sp}{es:List Expr}{t:TA}{p pos:Pos}
section
variable{k:Nat}
abbrev TSX:=Ends->St->Hp->(Addr->Hp->Prop)->Prop
end
section
variable{e:Addr}
end
variable{st:Stmt}{np:Pos}
section
variable{b₀:Stmt}{su:List Stmt}{tb:TSX}{ts:Addr->Addr->TS}{Tn n:Str}{B:Addr}{i:Nat}{ze:Pos}
end
structure xm(K:W.Frag)(C:Addr):Prop where
 ga:W.findIn K (.ref C) "__getattribute__" = some (some (.builtin "BaseException.__getattribute__"))
 hk:W.findIn K (.ref C) "__getattr__" = some none
 cl:W.findIn K (.ref C) "__class__" = some (some (.builtin "object.__class__"))
 gt:W.specialIn K (.builtin "object.__class__") "__get__" = some (some (.builtin "getset_descriptor.__get__"))
 tk:W.takesIn K (.builtin "object.__class__")=some true
 ob:W.mroIn K C (.type "object")=some true
 be:W.mroIn K C (.type "BaseException")=some true
 me:W.kitCls K (.ref C) (.ref C)=some true
variable{C:Addr}
section
variable{e:Addr}
end
section
variable{e:Addr}
end
inductive AN(c:Str)(Q:VK)(x:V)(H1:Hp):Prop
 |mk (z:Str)(_:x=.str z)(_:z.length<=1000)(_:(∀n∈z.cps.toList,n<16^8))(_:c.length<=1000)(_:∀z2:Str,Q (.str z2) H1):AN c Q x H1
def tFr(c:Str)(ta:TE):TE:=λσ H Q=>ta σ H λx H1=>AN c Q x H1
theorem len_app(x y:Str):(x++y).length=x.length+y.length:=by
 show(Str.append x y).cps.size=x.cps.size+y.cps.size;unfold Str.append;simp
theorem qc{P:Program}{w:World}{X:Cx}:Passes (CX1 P w) X E0:=λ_ _ _ _ _ _ _ h=>by
 obtain⟨_,_,_,_,_,_,_,_,_,_,_,_,_,_,_,q⟩:=h;exact q.elim
def aX(CX:CXT)(P:Program)(w:World)(K:W.Frag)(mg:Str->Option Value)(base:Heap)(k:Nat)(C:Addr)(m:Str)(ps:List Str)(sp:Sp):Prop :=
 ∃f fd,Meth K C m f/\aN P w K mg base CX k f fd ps sp/\Binds K fd ps []
def bA(CX:CXT)(P:Program)(w:World)(K:W.Frag)(mg:Str->Option Value)(base:Heap)(k:Nat)(x:Str)(C:Addr)(ps:List Str)(sp:Sp):Prop :=
 ∃f fd,Mk K C f/\aN P w K mg base CX k f fd ps sp/\Binds K fd ps []/\mg x=some (.ref C)
structure AO(K:W.Frag)(B:Addr)(m:Str)(f:Addr):Prop where
 sp:W.specialIn K (.ref B) "__getattribute__" = some (some (.builtin "type.__getattribute__"))
 rd:W.readsIn K B (.type "type")=true
 at_:W.findCls K (.ref B) (.type "type") m=some (.val (.ref f))
 kp:W.keepIn K (.ref f)=true
def cc(CX:CXT)(P:Program)(w:World)(K:W.Frag)(mg:Str->Option Value)(base:Heap)(k:Nat)(x:Str)(m:Str)(ps:List Str)(sp:Sp):Prop :=
 ∃f fd B,AO K B m f/\aN P w K mg base CX k f fd ps sp/\Binds K fd ps []/\mg x=some (.ref B)
variable{CX:CXT}{m:Str}
section
variable{j k:Nat}
theorem aX.mono(c:aX CX P w K mg base j C m ps sp)(h:j<=k):aX CX P w K mg base k C m ps sp:=by
 obtain⟨f,fd,M,F,b⟩:=c;exact⟨f,fd,M,F.mono h,b⟩
theorem bA.mono(c:bA CX P w K mg base j x C ps sp)(h:j<=k):bA CX P w K mg base k x C ps sp:=by
 obtain⟨f,fd,M,F,b⟩:=c;exact⟨f,fd,M,F.mono h,b⟩
theorem cc.mono(c:cc CX P w K mg base j x m ps sp)(h:j<=k):cc CX P w K mg base k x m ps sp:=by
 obtain⟨f,fd,B,M,F,b⟩:=c;exact⟨f,fd,B,M,F.mono h,b⟩
end
inductive AQ(C:Addr)(m:Str)(sp:Sp)(t:TA)(σ:St)(Q:VK)(x:V)(H1:Hp):Prop
 |mk (a dx fs:_)(_:x=.ref a)(_:H1 a=some (.ins C dx fs))(_:fs.lookup m=none)(_:t σ H1 λvs H2=>sp (x :: vs) H2 Q E0):AQ C m sp t σ Q x H1
def tMt(C:Addr)(m:Str)(sp:Sp)(ta:TE)(t:TA):TE:=λσ H Q=>ta σ H λx H1=>AQ C m sp t σ Q x H1
def tMk(C:Addr)(sp:Sp)(t:TA):TE:=λσ H Q=>t σ H λvs H1=>∀x dx,H1 x=none->H1 dx=none->dx≠x ->
 sp (.ref x :: vs) (upd (upd H1 dx (.own x)) x (.ins C dx [])) (λv H2=>v=.non/\Q (.ref x) H2) E0
variable{o:Expr}{fd:FuncData}{apos:Pos}{ta:TE}
section
variable{k:Nat}
theorem xn{pins:List (Addr×Obj)}{σ:St}{H:Hp}{s:Shared}{Q:VK}{us:List Value}{vs:List V}{E:XK}(F:aN X.prog X.w X.K X.mg X.base CX k f fd ps sp)(hr:cb k X.A)(hb:Binds X.K fd ps [])(hx:Passes CX X E)
  (I:Inv X pins σ H s)(r:Vals vs us)(h:sp vs H Q E):wpAny (model X.prog X.w) X.A (call (.ref f) us) (EP X pins σ Q) X.xe s :=
 vA (dvs:=[]) (ds:=[]) F hr hb .nil hx I r (by rw[append_nil];exact h)
theorem ib{pl:Sem Bool}(M:aX CX X.prog X.w X.K X.mg X.base k C m ps sp)(hx:Passes CX X E0)(c:Cls X.K C)(hr:cb k X.A)(he:PE X o ta)(ha:PA X (e :: es) t)
  (hst:starEach (e :: es) X.env=(false,eval e X.env) :: starEach es X.env:=by rfl)(hpl:(backTo pos (starEach es X.env)).any (·.1)=false:=by rfl)
  (ht:eval (.Call (.Attribute o m apos) (e :: es) [] pos) X.env=(do
   let ov ←eval o X.env
   standAt apos.atName
   let (f,first) ←holding [ov] (getMethod ov m pl)
   callWith pos f first (backTo pos (starEach (e :: es) X.env)) (backToKw pos (keywordEach [] X.env))):=by rfl) :
  PE X (.Call (.Attribute o m apos) (e :: es) [] pos) (tMt C m sp ta t):=by
 obtain⟨f,fd,hm,F,hb⟩:=M;intro pins s σ H Q I h;refine W.methodCall_KW (pl:=pl) (thn (he pins s σ H _ I h) λu s1 ⟨x,H1,I1,rx,a,dx,fs,ex,ea,l,q⟩=>?_) ht;subst ex;obtain rfl:u=Value.ref a:=rx;refine lO I1 ea c hm l ?_;refine W.callWith_K (first:=[.ref a]) (h₀:=X.base) I.ok.mod.kin hm.kp (thn (ha pos pins s1 σ H1 _ I1 q) λus s2 ⟨vs,H2,I2,r,q2⟩=>⟨I2.kIn,?_⟩) hst hpl;exact xn (us:=.ref a :: us) (vs:=.ref a :: vs) F hr hb hx I2 (.cons U r) q2
theorem fw{pl:Sem Bool}(M:cc CX X.prog X.w X.K X.mg X.base k x m ps sp)(hx:Passes CX X E0)(hr:cb k X.A)(hg:Gl X x)(ha:PA X (e :: es) t)(hdb:(x == ("__debug__" : Str))=false:=by decide)
  (hst:starEach (e :: es) X.env=(false,eval e X.env) :: starEach es X.env:=by rfl)(hpl:(backTo pos (starEach es X.env)).any (·.1)=false:=by rfl)
  (ht:eval (.Call (.Attribute (.Name x np) m apos) (e :: es) [] pos) X.env=(do
   let ov ←eval (.Name x np) X.env
   standAt apos.atName
   let (f,first) ←holding [ov] (getMethod ov m pl)
   callWith pos f first (backTo pos (starEach (e :: es) X.env)) (backToKw pos (keywordEach [] X.env))):=by rfl) :
  PE X (.Call (.Attribute (.Name x np) m apos) (e :: es) [] pos) (tFn sp t):=by
 obtain⟨f,fd,B,hB,F,hb,hm⟩:=M;intro pins s σ H Q I h;refine W.methodCall_KW (pl:=pl) (gj I hg hm ?_ hdb) ht;refine W.method_cls I.kIn hB.sp (W.cls_value (mc:=.type "type") I.kIn hB.rd hB.at_ (nt (v:=.ref f) U) ?_);refine W.callWith_K (first:=[]) (h₀:=X.base) I.ok.mod.kin hB.kp (thn (ha pos pins _ σ H _ (I.tok _) h) λus s2 ⟨vs,H2,I2,r,q2⟩=>⟨I2.kIn,?_⟩) hst hpl;exact xn (us:=us) (vs:=vs) F hr hb hx I2 r q2
theorem tu(M:bA CX X.prog X.w X.K X.mg X.base k x C ps sp)(hx:Passes CX X E0)(hr:cb (k+1) X.A)(hg:Gl X x)(ha:PA X (e :: es) t)(hdb:(x == ("__debug__" : Str))=false:=by decide)
  (he:starEach (e :: es) X.env=(false,eval e X.env) :: starEach es X.env:=by rfl)(hpl:(backTo pos (starEach es X.env)).any (·.1)=false:=by rfl) :
  PE X (.Call (.Name x p) (e :: es) [] pos) (tMk C sp t):=by
 obtain⟨f,fd,M,F,hb,hm⟩:=M;have h:=xg (E:=E0) (dvs:=[]) (ds:=[]) (p:=p) M F hr hg hm hb .nil hx ha hdb he hpl;intro pins s σ H Q I q;refine h pins s σ H Q I ?_;have q':t σ H λvs H1=>∀x dx,H1 x=none->H1 dx=none->dx≠x->sp (.ref x :: vs) (upd (upd H1 dx (.own x)) x (.ins C dx [])) (λv H2=>v=.non/\Q (.ref x) H2) E0:=q
 show t σ H λvs H1=>∀x dx,H1 x=none->H1 dx=none->dx≠x->sp (.ref x :: (vs++[])) (upd (upd H1 dx (.own x)) x (.ins C dx [])) (λv H2=>v=.non/\Q (.ref x) H2) E0
 have e1:(λ(vs:List V)(H1:Hp)=>∀x dx,H1 x=none->H1 dx=none->dx≠x->sp (.ref x :: (vs++[])) (upd (upd H1 dx (.own x)) x (.ins C dx [])) (λv H2=>v=.non/\Q (.ref x) H2) E0)=λvs H1=>∀x dx,H1 x=none->H1 dx=none->dx≠x->sp (.ref x :: vs) (upd (upd H1 dx (.own x)) x (.ins C dx [])) (λv H2=>v=.non/\Q (.ref x) H2) E0:=by
  funext vs H1
  rw[append_nil]
 rw[e1];exact q'
end
inductive zf(K:W.Frag)(neg:Bool)(x:V)(y:V)(H:Hp)(Q:VK):Prop
 |mk (a b xs ys:_)(_:x=.ref a)(_:y=.ref b)(_:SqT K H a xs)(_:SqT K H b ys)(f:Nat->Bool)(_:(∀j x y,xs[j]?=some x->ys[j]?=some y->EqI K H x y (f j)))(_:Q (.bl (if neg then !((List.range (min xs.length ys.length)).all f && xs.length == ys.length) else(List.range (min xs.length ys.length)).all f && xs.length == ys.length)) H):zf K neg x y H Q
theorem rC{k:Nat}(hr:cb k X.A):OpR X (compareOp .NotEq) (zf X.K true):=by
 intro pins s σ H x y v u Q I rx ry h;obtain⟨a,b,xs,ys,rfl,rfl,ha,hb,f,hf,q⟩:=h;cases (show v=Value.ref a from rx);cases (show u=Value.ref b from ry);obtain⟨its,r,p,_⟩:=I.tuple ha;obtain⟨its',r',p',_⟩:=I.tuple hb;have l1:=r.length;have l2:=r'.length;have hu:=hr.units;refine SeqAt.RcNeAt.tuples (e:=f) (show s.heap.IsTuple a its.toArray from p) (show s.heap.IsTuple b its'.toArray from p') (by lia) (rA I (by show X.A.units+1+1<cLine;lia) r r' hf) X.prog X.w X.xe _ ⟨.bl _,H,I,U,?_⟩;simp only[size_toArray];rw[←l1,←l2];exact q
theorem aN.no{P:Program}{w:World}{K:W.Frag}{mg:Str->Option Value}{base:Heap}{CX:CXT}{k:Nat}{f:Addr}{fd:FuncData}{ps:List Str}{sp:Sp}(h:∀vs H Q E,¬ sp vs H Q E):aN P w K mg base CX k f fd ps sp :=
 ⟨λvs H Q E q=>(h vs H Q E q).elim,λ_ _ _ H _ _ vs Q E _ _ _ _ q=>(h vs H Q E q).elim⟩
theorem jV{X:Cx}{K:W.Frag}{e:Expr}{f:Str}{pos:Pos}{ta:TE}(h:X.K=K)(he:PE X e ta)(hb:attributeBase e f X.env (eval e X.env)=eval e X.env):PE X (.Attribute e f pos) (Az K ta f):=h ▸ aY he hb
set_option maxRecDepth 100000
section
variable{κ:Type} [DecidableEq κ]
def cntK(ks:List κ):Nat->Nat
 |0=>0
 |i+1=>match ks[i]? with
  |some k=>if k∈ks.take i then cntK ks i else cntK ks i+1
  |none=>cntK ks i
theorem jW(ks:List κ):∀i,cntK ks i<=i
 |0=>le_refl _
 |i+1=>by
  have ih:=jW ks i;unfold cntK;split
  ·split <;> lia
  ·lia
theorem iL(ks:List κ):∀i,i<=ks.length->(cntK ks i=i↔(ks.take i).Nodup)
 |0,_=>by simp[cntK]
 |i+1,h=>by
  have ih:=iL ks i (by lia);have le:=jW ks i;have e:ks[i]?=some ks[i]:=EV (by lia);have et:ks.take (i+1)=ks.take i++[ks[i]]:=by rw[take_add_one,e];rfl
  unfold cntK;rw[e,et,nodup_append];dsimp only;by_cases m:ks[i]∈ks.take i
  ·rw[if_pos m];exact⟨λz=>absurd z (by lia),λz=>absurd U (z.2.2 _ m _ (by simp))⟩
  ·rw[if_neg m];refine⟨λz=>⟨ih.mp (by lia),by simp,λa ha b hb=>?_⟩,λz=>by rw[ih.mpr z.1]⟩;rw[show b=ks[i] by simpa using hb];exact λq=>m (q ▸ ha)
variable{knd:KeyKind prog w κ}
theorem gq{h h':Heap}{a:Addr}{S:κ->Bool}{n:Nat}(x:h.SetOf knd a S n)(k:∀o,h.get? a=some o->h'.get? a=some o):h'.SetOf knd a S n:=by
 obtain⟨o,es,ep,t,ho,r⟩:=x;exact⟨o,es,ep,t,k o ho,r⟩
theorem lY{h:Heap}{a:Addr}{S S':κ->Bool}{n n':Nat}(x:h.SetOf knd a S n)(e1:S=S')(e2:n=n'):h.SetOf knd a S' n':=e1 ▸ e2 ▸ x
theorem uy{R:Result->Shared->Prop}{I:Addr}{fp wr:List Addr}{G:Array GenState->Array GenState->Prop}{n:Nat}{P:Nat->Value->Prop}{St:Nat->Shared->Prop}(W:WalksS prog w A.in1 I fp wr G n P St){a:Addr}(ha:a ∉ fp){ks:List κ}
  (hv:∀i v,P i v->∃k,ks[i]?=some k/\knd.is k v=true/\v.scannable=true)(hb:n+1<scanBound):∀(d i:Nat)(s:Shared),n=i+d->St i s->s.heap.SetOf knd a (λk=>decide (k∈ks.take i)) (cntK ks i) ->
   (∀s',Moved (a :: wr) G s s'->s'.heap.SetOf knd a (λk=>decide (k∈ks.take n)) (cntK ks n)->R (.ok (.ret .none)) s')->codeAny (model prog w) A (.builtin "set.update.loop" ⟨[.ref a,.ref I],[]⟩) R s:=by
 have hw:a ∉ wr:=λz=>ha (W.sub a z)
 intro d;induction d with
 |zero =>
  intro i s e st x fin;rw[show n=i by lia]at W fin;refine codeAny_builtin (R:=R) (A:=A) F.entry_set_update_loop ?_;rw[Around.under_plainId (A:=A) F.plain_set_update_loop _];show wpAny (model prog w) A.in1 (pyNext (.ref I) >>= _) _ _ s;exact wpAny_bind (W.done s _ _ st λs' m=>wpAny_pure (fin s' (m.mono λb hb=>mem_cons_of_mem a hb) (gq x λo q=>m.heap a o hw q)))
 |succ d ih =>
  intro i s e st x fin;refine codeAny_builtin (R:=R) (A:=A) F.entry_set_update_loop ?_;rw[Around.under_plainId (A:=A) F.plain_set_update_loop _];show wpAny (model prog w) A.in1 (pyNext (.ref I) >>= _) _ _ s;refine wpAny_bind (W.item i s _ _ (by lia) st λv s1 p st1 m=>?_);obtain⟨k,ek,ik,sc⟩:=hv i v p;have x1:=gq x λo q=>m.heap a o hw q
  show wpAny (model prog w) A.in1 (holding [v] (setAdd a v) >>= _) _ _ s1;refine wpAny_bind (wpAny_holding (show wpAny (model prog w) A.in1 (setAdd a v) _ _ s1 from ?_));unfold setAdd;refine wpAny_holding (wpAny_bind (knd.pyHash ik ?_));have le:=jW ks i;refine wpAny_setAddHashed_of (knd:=knd) (s:={ s1 with toks:=s1.toks+1 }) ik sc x1 (by lia) λh' sb x2=>?_
  have et:ks.take (i+1)=ks.take i++[k]:=by rw[take_add_one,ek];rfl
  have x3:h'.SetOf knd a (λq=>decide (q∈ks.take (i+1))) (cntK ks (i+1)):=by
   refine lY x2 (funext λq=>?_) ?_
   ·rw[et];by_cases z:q∈ks.take i <;> by_cases y:q=k <;> simp[z,y]
   ·show(if decide (k∈ks.take i)=true then cntK ks i else cntK ks i+1)=match ks[i]? with|some k=>if k∈ks.take i then cntK ks i else cntK ks i+1|none=>cntK ks i
    rw[ek];by_cases z:k∈ks.take i <;> simp[z]
  refine wpAny_pure ⟨plainId_quiet F.plain_set_update_loop _,ih (i+1) { s1 with heap:=h',toks:=s1.toks+1 } (by lia) (W.frame (i+1) s1 h' (s1.toks+1) st1 (le_succ _) λb hbf o q=>(sb.2 b λz=>ha (z ▸ hbf)).trans q) x3 λs2 m2 x4=>?_⟩;refine fin s2 (Moved.trans W.gtrans ((m.mono λb hb=>mem_cons_of_mem a hb).then_heap (le_succ _) λb o hbn q=>?_) m2) x4;exact(sb.2 b λz=>hbn (z ▸ mem_cons_self)).trans q
abbrev dE(led:Bool):Obj:={ cls:=.type "set",dict:=none,data:=.set #[] 0 (.fresh 0 0 led) }
def Filled(knd:KeyKind prog w κ)(s:Shared)(ks:List κ)(h':Heap):Prop :=
 h'.SetOf knd s.heap.objs.size (λk=>decide (k∈ks)) (cntK ks ks.length)/\∀b o,b<s.heap.objs.size->s.heap.get? b=some o->h'.get? b=some o
theorem vO{l:Addr}{items:Array Value}{ks:List κ}{led:Bool}(hh:A.handled=none)(hl:s.heap.IsList l items)(hk:∀(i:Nat)(v:Value),items[i]?=some v->∃k,ks[i]?=some k/\knd.is k v=true/\v.scannable=true)(hn:ks.length=items.size)(hb:items.size+1<scanBound) :
  codeAny (model prog w) A (.call (.builtin "set.__init__") ⟨[.ref s.heap.objs.size,.ref l],[]⟩) (wants (λr s2=>r=.none/\∃h' tk,s2={ s with heap:=h',toks:=tk }/\Filled knd s ks h') E) { s with heap:=s.heap.push (dE led) }:=by
 have g0:(s.heap.push (dE led)).get? s.heap.objs.size=some (dE led):=Heap.get?_push_size s.heap U;have ty:Shared.TypeIs { s with heap:=s.heap.push (dE led) } (.ref s.heap.objs.size) "set" := ⟨dE led,g0,U⟩;refine codeAny_call_builtin F.called_set.init.plain F.entry_set_init (check_set_init_1 ty ?_);obtain⟨⟨c1,c2,c3,c4⟩,ho,hc,m,hd⟩:=hl;dsimp only at hc hd;subst hc hd;have g1:(s.heap.push (dE led)).get? l=some { cls:=.type "list",dict:=c2,data:=.seq items m,slots:=c4 }:=Heap.get?_push_of_some _ ho;have y1:=F.sub_list_set;have y2:=F.sub_list_frozenset;have y3:(Value.type "list" == Value.type "dict")=false:=by decide
 have l1:(s.heap.push (dE led)).IsList l items:=⟨_,g1,U,m,U⟩;have lt:l<s.heap.objs.size:=Heap.lt_size ho;unfold Builtin.«set.__init__» Builtin.Frozenset.updateFrom noKeywords;generalize hI:pyIter=it
 wp_walk
 subst hI;refine wpAny_pyIter_list l1 (wpAny_bind (wpAny_runValue ?_));have nl:l≠(s.heap.push (dE led)).objs.size:=by rw[Heap.size_push];exact ne_of_lt (lt_succ_of_lt lt)
 have nf:s.heap.objs.size ∉ [(s.heap.push (dE led)).objs.size,l]:=by
  rw[Heap.size_push];intro z;rcases mem_cons.mp z with z|z
  ·exact absurd z (ne_of_lt (lt_succ_self _))
  ·exact absurd (by simpa using z) (ne_of_gt lt)
 refine uy (knd:=knd) ((Walks.list (by simp[hh]) _ l nl items).toS) nf (ks:=ks) hk hb items.size 0 _ (Nat.zero_add _).symm ⟨⟨_,Heap.get?_push_size _ U,U,U⟩,l1.push _⟩ (lY ((setObjOf_fresh (knd:=knd) led).setOf (Heap.get?_push_of_some _ g0) (by unfold scanBound;lia)) (funext λk=>by simp) U) λs' mv x=>?_
 obtain⟨h',g',d',t',o'⟩:=s';obtain rfl:g'=s.gens:=mv.gens;obtain rfl:d'=s.drawn:=mv.drawn;obtain rfl:o'=s.os:=mv.os;refine wpAny_pure (show wpAny (model prog w) _ (ret Value.none) _ _ _ from wpAny_pure ⟨U,h',t',U,?_,λb o hb' q=>?_⟩)
 ·rw[←hn]at x;exact lY x (funext λk=>by rw[take_length]) U
 ·refine mv.heap b o (λz=>?_) (Heap.get?_push_of_some _ (Heap.get?_push_of_some _ q));rcases mem_cons.mp z with z|z
  ·exact absurd z (ne_of_lt hb')
  ·have z2:b=(s.heap.push (dE led)).objs.size:=by simpa using z
   rw[Heap.size_push]at z2;exact absurd z2 (ne_of_lt (lt_succ_of_lt hb'))
set_option maxRecDepth 100000 in
theorem nK{l:Addr}{items:Array Value}{ks:List κ}{Q:Value->Shared->Prop}(hh:A.handled=none)(hl:s.heap.IsList l items)(hk:∀(i:Nat)(v:Value),items[i]?=some v->∃k,ks[i]?=some k/\knd.is k v=true/\v.scannable=true)(hn:ks.length=items.size)(hb:items.size+1<scanBound)
  (h:∀h' tk,Filled knd s ks h'->Q (.ref s.heap.objs.size) { s with heap:=h',toks:=tk }):wpAny (model prog w) A (call (.type "set") [.ref l]) Q E s:=by
 obtain⟨c,tl,mro⟩:=F.called_set.mro;have a1:=F.called_set.made;have a2:=F.called_set.sub;have a3:=F.called_set.notType;have a4:=F.called_set.canCreate;have a5:=F.typeCall_set_1 (.ref l);refine wpAny_call (codeAny_of_tree (show wpAny (model prog w) _ (callAny (.type "set") _) _ _ _ from wpAny_pure ⟨Code.quiet_builtin _ (by decide+kernel),codeAny_builtin F.entry_type_call ?_⟩));rw[Around.under_plain (A:=A) (weight_type_call_type "set" [.ref l] []) U]
 repeat (any_goals (first|assumption|wp_step))
 refine codeAny_mono (code_set_new_1 (.ref l) (E:=E) (Q₁:=λob s1=>∃led,ob=.ref s.heap.objs.size/\s1={ s with heap:=s.heap.push (dE led) }) λled=>⟨led,U,U⟩) λr s1 hr=>?_
 cases r with
 |error e=>exact hr
 |ok fl =>
  cases fl with
  |ret ob =>
   obtain⟨led,rfl,rfl⟩:=hr;have g0:(s.heap.push (dE led)).get? s.heap.objs.size=some (dE led):=Heap.get?_push_size s.heap U;have ty:Shared.TypeIs { s with heap:=s.heap.push (dE led) } (.ref s.heap.objs.size) "set" := ⟨dE led,g0,U⟩;have b1:=F.called_set.init.lookup;have b2:=F.called_set.init.bind (.ref s.heap.objs.size)
   repeat (any_goals (first|assumption|wp_step))
   refine codeAny_mono (vO (E:=E) (knd:=knd) (by simp[hh]) hl hk hn hb) λr2 s2 hr2=>?_
   cases r2 with
   |error e=>exact hr2
   |ok f2 =>
    cases f2 with
    |ret r =>
     obtain⟨rfl,h',tk,rfl,x⟩:=hr2
     repeat (any_goals (first|assumption|wp_step))
     exact h h' tk x
    |_=>exact hr2.elim
  |_=>exact hr.elim
end
def lj(P:Program)(w:World)(a:Addr)(zs:List Str):HO:=.ext λh=>h.SetOf (strKind P w) a (λz=>decide (z∈zs)) (cntK zs zs.length)
theorem nM:∀{zs:List Str}{us:List Value},Vals (zs.map V.str) us->∀(i:Nat)(v:Value),us[i]?=some v->∃z t,zs[i]?=some z/\v=.str z t
 | [],_,.nil,i,v,h=>by simp at h
 |z :: zs,_,.cons ⟨t,e⟩ r,0,v,h=>by simp at h;exact⟨z,t,U,by rw[←h,e]⟩
 |z :: zs,_,.cons _ r,i+1,v,h=>by
  obtain⟨z',t,e1,e2⟩:=nM r i v (by simpa using h);exact⟨z',t,by simpa using e1,e2⟩
theorem fG(hc:X.calm=true):cw X (.type "set") (λxs H Q=>∃(p:Addr)(zs:List Str),xs=[.ref p]/\SqL X.K H p (zs.map V.str)/\zs.length<=1000/\∀l,H l=none->Q (.ref l) (upd H l (lj X.prog X.w l zs))):=by
 intro pins s σ H xs us Q I r h;obtain⟨p,zs,rfl,hS,hz,q⟩:=h;obtain⟨u,rfl,ru⟩:=r.one;obtain rfl:u=Value.ref p:=ru;obtain⟨its,rv,pl,_⟩:=I.list hS;have hl:=rv.length;rw[length_map]at hl;refine nK (knd:=strKind X.prog X.w) (ks:=zs) (I.ok.hd hc) pl.isList (λi v e=>?_) (by simpa using hl) (by unfold scanBound;simp;lia) λh' tk x=>?_
 ·obtain⟨z,t,e1,rfl⟩:=nM rv i v (by simpa using e);exact⟨z,e1,by show Value.isStrOf z (.str z t)=true;simp[Value.isStrOf],U⟩
 ·obtain⟨x1,x2⟩:=x;refine⟨.ref s.heap.objs.size,_,I.laid (a:=s.heap.objs.size) (o:=lj X.prog X.w s.heap.objs.size zs) (h':=h') (t':=tk) (λb o q=>x2 b o (Heap.lt_size q) q) (le_refl _) ?_,U,q _ I.fresh⟩;refine⟨x1,?_,λh1 h2 y k=>gq y k⟩;obtain⟨o,_,_,_,g,_⟩:=x1;exact⟨o,g⟩
def Asc(xs:Array Nat):Prop:=xs.toList.Pairwise (· < ·)
theorem Asc.lt{xs:Array Nat}(h:Asc xs){i j:Nat}(hij:i<j)(hj:j<xs.size):xs[i]<xs[j]:=by
 have:=List.pairwise_iff_getElem.mp h i j (by simp;lia) (by simpa using hj) hij;simpa using this
theorem vP{xs:Array Nat}(h:Asc xs)(j:Nat):∀(fuel lo hi:Nat),lo<=hi->hi<=xs.size->hi-lo<=fuel ->
  (∀(i:Nat)(hi':i<xs.size),i<lo->xs[i]<j)->(∀(i:Nat)(hi':i<xs.size),hi<=i->j<=xs[i]) ->
  SetTable.below.go xs j fuel lo hi<=xs.size/\(∀(i:Nat)(hi':i<xs.size),i<SetTable.below.go xs j fuel lo hi->xs[i]<j)/\(∀(i:Nat)(hi':i<xs.size),SetTable.below.go xs j fuel lo hi<=i->j<=xs[i]):=by
 intro fuel;induction fuel with
 |zero =>
  intro lo hi h1 h2 h3 h4 h5;have e:lo=hi:=by lia
  subst e;exact⟨by unfold SetTable.below.go;exact h2,by unfold SetTable.below.go;exact h4,by unfold SetTable.below.go;exact h5⟩
 |succ fuel ih =>
  intro lo hi h1 h2 h3 h4 h5;unfold SetTable.below.go;by_cases c:lo<hi
  ·rw[if_pos c];have hm:(lo+hi) / 2<xs.size:=by lia
   have eg:xs.getD ((lo+hi) / 2) j=xs[(lo+hi) / 2]:=by simp[Array.getD,hm]
   dsimp only;rw[eg];by_cases c2:xs[(lo+hi) / 2]<j
   ·rw[if_pos c2];refine ih _ _ (by lia) h2 (by lia) (λi hi' hlt=>?_) h5;by_cases e:i=(lo+hi) / 2
    ·subst e;exact c2
    ·exact lt_trans (h.lt (by lia) hm) c2
   ·rw[if_neg c2];refine ih _ _ (by lia) (by lia) (by lia) h4 λi hi' hle=>?_
    by_cases e:i=(lo+hi) / 2
    ·subst e;lia
    ·exact le_trans (Nat.le_of_not_lt c2) (le_of_lt (h.lt (by lia) hi'))
  ·rw[if_neg c];have e:lo=hi:=by lia
   subst e;exact⟨h2,h4,h5⟩
theorem jk{xs:Array Nat}(h:Asc xs)(j:Nat):SetTable.below xs j<=xs.size/\(∀(i:Nat)(hi:i<xs.size),i<SetTable.below xs j->xs[i]<j)/\(∀(i:Nat)(hi:i<xs.size),SetTable.below xs j<=i->j<=xs[i]) :=
 vP h j xs.size 0 xs.size (zero_le _) (le_refl _) (by lia) (λ_ _ z=>absurd z (by lia)) (λi hi z=>absurd z (by lia))
theorem rD{xs:Array Nat}(h:Asc xs){i:Nat}(hi:i<xs.size):SetTable.below xs (xs[i]+1)=i+1:=by
 obtain⟨b1,b2,b3⟩:=jk h (xs[i]+1);have c1:¬ SetTable.below xs (xs[i]+1)<=i:=λz=>absurd (b3 i hi z) (by lia)
 have c2:¬ i+1<SetTable.below xs (xs[i]+1):=λz=>by
  have:=b2 (i+1) (by lia) z;have:=h.lt (show i<i+1 by lia) (show i+1<xs.size by lia);lia
 lia
theorem qd{xs:Array Nat}(h:Asc xs):SetTable.below xs 0=0:=by
 obtain⟨b1,b2,b3⟩:=jk h 0;by_cases z:SetTable.below xs 0=0
 ·exact z
 ·exact absurd (b2 0 (by lia) (by lia)) (by lia)
theorem rE{xs:Array Nat}(h:Asc xs){j:Nat}(hn:xs[SetTable.below xs j]?≠some j):Asc (SetTable.insertAt xs (SetTable.below xs j) j):=by
 obtain⟨b1,b2,b3⟩:=jk h j;unfold Asc;rw[SetTable.toList_insertAt,List.pairwise_append];refine⟨h.sublist (take_sublist _ _),pairwise_cons.mpr ⟨λb hb=>?_,h.sublist (List.drop_sublist _ _)⟩,λa ha b hb=>?_⟩
 ·obtain⟨k,hk,rfl⟩:=List.mem_iff_getElem.mp hb;have hk':SetTable.below xs j+k<xs.size:=by simp at hk;lia
  have z:=b3 _ hk' (by lia);have e:(xs.toList.drop (SetTable.below xs j))[k]=xs[SetTable.below xs j+k]:=by simp
  rw[e];by_cases q:j=xs[SetTable.below xs j+k]
  ·exfalso;by_cases k0:k=0
   ·subst k0;refine hn ?_;rw[getElem?_eq_getElem (by lia)];simpa using q.symm
   ·have l1:=b3 _ (show SetTable.below xs j<xs.size by lia) (le_refl _);have l2:=h.lt (show SetTable.below xs j<SetTable.below xs j+k by lia) hk';lia
  ·lia
 ·have la:a<j:=by
   obtain⟨k,hk,rfl⟩:=List.mem_iff_getElem.mp ha;have hk':k<SetTable.below xs j/\k<xs.size:=by simp at hk;lia
   have:=b2 k hk'.2 hk'.1;simpa using this
  rcases mem_cons.mp hb with rfl|hb
  ·exact la
  ·obtain⟨k,hk,rfl⟩:=List.mem_iff_getElem.mp hb;have hk':SetTable.below xs j+k<xs.size:=by simp at hk;lia
   have z:=b3 _ hk' (by lia);have e:(xs.toList.drop (SetTable.below xs j))[k]=xs[SetTable.below xs j+k]:=by simp
   rw[e];lia
def qe(t:SetTable)(j:Nat):Prop:=t.place[SetTable.below t.place j]?≠some j
theorem lZ{t:SetTable}{j:Nat}(h:t.slot j=.empty\/t.slot j=.dummy):qe t j:=by
 intro e;have:t.slot j=.live (SetTable.below t.place j):=by
  unfold SetTable.slot;simp[e]
 rw[this]at h;rcases h with h|h <;> cases h
theorem rF(t:SetTable)(f:Nat->Int)(h:Int):∀(fuel:Nat)(p:SetTable.Probe),(∀d,p.dummy=some d->qe t d)->∀j dm,SetTable.probe.go t f h fuel p=some (.empty j dm)->qe t j/\∀d,dm=some d->qe t d:=by
 intro fuel;induction fuel with
 |zero=>intro p _ j dm e;unfold SetTable.probe.go at e;cases e
 |succ fuel ih =>
  intro p hp j dm e;unfold SetTable.probe.go at e;have adv:∀q:SetTable.Probe,(t.advance q).dummy=q.dummy:=λq=>by
   unfold SetTable.advance;split <;> rfl
  split at e
  ·rename_i he
   injection e with e;injection e with e1 e2;subst e1 e2;exact⟨lZ (.inl he),hp⟩
  ·rename_i he
   refine ih _ (λd hd=>?_) j dm e;rw[adv]at hd;injection hd with hd;subst hd;exact lZ (.inr he)
  ·split at e
   ·injection e with e;cases e
   ·refine ih _ (λd hd=>hp d ?_) j dm e;rw[adv]at hd;exact hd
theorem mY{t:SetTable}{h:Int}{j:Nat}{b:Bool}(e:t.freeSlot h=some (j,b)):qe t j:=by
 unfold SetTable.freeSlot at e;split at e
 ·rename_i j' dm he
  obtain⟨a1,a2⟩:=rF t _ h _ _ (λd hd=>by simp[SetTable.probeStart]at hd) _ _ he;injection e with e;injection e with e1 e2;subst e1;cases dm with
  |none=>exact a1
  |some d=>exact a2 d U
 ·cases e
theorem uz(n:Nat):Asc (Array.range n):=by
 unfold Asc;rw[Array.toList_range];exact List.pairwise_lt_range
theorem fz(t:SetTable)(n:Nat):Asc (t.standIn n).place:=uz n
theorem rG{t:SetTable}(ha:Asc t.place)(es:Array (Int×Value))(h:Int)(x:Value):Asc (layNew t es h x).2.1.place/\(layNew t es h x).2.1.led=t.led:=by
 unfold layNew;split
 ·rename_i slot wd e
  have hp:Asc (t.put slot).1.place:=rE ha (mY e);dsimp only;unfold SetTable.orStandIn;split
  ·exact⟨hp,U⟩
  ·exact⟨fz _ _,U⟩
 ·exact⟨fz _ _,U⟩
theorem qf(f:Nat->Option Nat):∀l:List Nat,((l.filterMap λj=>(f j).map (j,·)).map (·.1)).Sublist l
 | []=>by simp
 |j :: l=>by
  have ih:=qf f l;rw[filterMap_cons];cases e:f j with
  |none=>exact ih.trans (List.sublist_cons_self _ _)
  |some v=>exact ih.cons_cons j
theorem rH{t t':SetTable}{hs:Array Int}{n:Nat}{o:Array Nat}(e:t.relaid hs n=some (t',o)):Asc t'.place/\t'.led=t.led:=by
 unfold SetTable.relaid SetTable.laid at e;cases hc:SetTable.layClean (SetTable.sizeAbove n-1) hs with
 |none=>rw[hc]at e;cases e
 |some owner =>
  rw[hc]at e;injection e with e;injection e with e1 e2;subst e1;exact⟨List.pairwise_lt_range.sublist (qf _ _),U⟩
theorem oJ{t:SetTable}(ha:Asc t.place)(es:Array (Int×Value))(n:Nat):Asc (relayAll t es n).2.1.place/\(relayAll t es n).2.1.led=t.led:=by
 unfold relayAll;split
 ·rename_i t' o e
  dsimp only;split
  ·exact rH e
  ·exact⟨fz _ _,U⟩
 ·exact⟨fz _ _,U⟩
theorem fH{α:Type}:∀{l:List α}{i:Nat}{x:α},l[i]?=some x->(x :: l.eraseIdx i).Perm l
 | [],i,x,h=>by simp at h
 |a :: l,0,x,h=>by simp at h;subst h;exact .refl _
 |a :: l,i+1,x,h=>by
  have ih:=fH (l:=l) (i:=i) (x:=x) (by simpa using h);rw[List.eraseIdx_cons_succ];exact(List.Perm.swap _ _ _).trans (ih.cons a)
theorem xo{α:Type}(next:Nat->Nat):∀(fuel k:Nat)(left:List α)(out:Array α),fuel=left.length->∃l:List α,l.Perm left/\(pickOrder.go next fuel k left out).toList=out.toList++l:=by
 intro fuel;induction fuel with
 |zero =>
  intro k left out e;exact⟨left,.refl _,by unfold pickOrder.go;rw[length_eq_zero_iff.mp e.symm];simp⟩
 |succ fuel ih =>
  intro k left out e;have hlt:next k%left.length<left.length:=Nat.mod_lt _ (by lia);have eg:left[next k%left.length]?=some left[next k%left.length]:=EV hlt;unfold pickOrder.go;rw[eg];dsimp only;obtain⟨l,p,el⟩:=ih (k+1) (left.eraseIdx (next k%left.length)) (out.push left[next k%left.length]) (by rw[List.length_eraseIdx_of_lt hlt];lia);exact⟨left[next k%left.length] :: l,(p.cons _).trans (fH eg),by rw[el];simp⟩
theorem uB{α:Type}(next:Nat->Nat)(xs:Array α):(pickOrder next xs).toList.Perm xs.toList:=by
 obtain⟨l,p,e⟩:=xo next xs.size 0 xs.toList #[] (by simp);have:(pickOrder next xs).toList=l:=by unfold pickOrder;rw[e];simp
 rw[this];exact p
def dZ(w:World):Bool:=w.params.followText "set-order"
def kz:Value->Int
 | .int k _=>k
 |_=>0
structure ie(es:Array (Int×Value))(ks:List Int):Prop where
 ent:∀e∈es.toList,e.1=hashInt (kz e.2)/\∃u,e.2=.int (kz e.2) u
 nd:(es.toList.map λe=>kz e.2).Nodup
 mem:∀k,k∈ks↔k∈es.toList.map λe=>kz e.2
theorem ie.perm{es es':Array (Int×Value)}{ks:List Int}(h:ie es ks)(p:es'.toList.Perm es.toList):ie es' ks :=
 ⟨λe he=>h.ent e (p.mem_iff.mp he),(p.map _).nodup_iff.mpr h.nd,λk=>(h.mem k).trans (p.map _).mem_iff.symm⟩
theorem ie.push{es:Array (Int×Value)}{ks:List Int}{k:Int}{u:Tok}(h:ie es ks)(hk:k ∉ ks):ie (es.push (hashInt k,.int k u)) (ks++[k]):=by
 refine⟨λe he=>?_,?_,λq=>?_⟩
 ·rw[toList_push]at he;rcases mem_append.mp he with he|he
  ·exact h.ent e he
  ·rw[mem_singleton]at he;subst he;exact⟨U,u,U⟩
 ·rw[toList_push,map_append,nodup_append];refine⟨h.nd,by simp,λa ha b hb=>?_⟩;have eb:b=k:=by simpa[kz]using hb
  subst eb;exact λe=>hk ((h.mem b).mpr (e ▸ ha))
 ·rw[toList_push,map_append,mem_append,mem_append,h.mem q];simp[kz]
theorem ie.again{es:Array (Int×Value)}{ks:List Int}{k:Int}(h:ie es ks)(hk:k∈ks):ie es (ks++[k]) :=
 ⟨h.ent,h.nd,λq=>by
  rw[←h.mem q,mem_append,mem_singleton];exact⟨λz=>z.elim id λz=>z ▸ hk,.inl⟩⟩
theorem ie.elems{es:Array (Int×Value)}{ks:List Int}(h:ie es ks):ElemsOf (intKind prog w) es.toList:=λe he=>by
 obtain⟨h1,u,h2⟩:=h.ent e he;refine⟨⟨kz e.2,?_,h1⟩,?_⟩
 ·rw[h2];exact intKind_is _ _ _ _
 ·rw[h2];rfl
theorem ie.found{es:Array (Int×Value)}{ks:List Int}(h:ie es ks){k:Int}{e:Int×Value}(he:e∈es.toList)(hk:(intKind prog w).is k e.2=true):k∈ks:=by
 obtain⟨_,u,h2⟩:=h.ent e he;refine(h.mem k).mpr (mem_map.mpr ⟨e,he,?_⟩);exact(intKind prog w).inj e.2 _ _ (by rw[h2];exact intKind_is _ _ _ _) hk
def dW(h:Heap)(a:Addr)(led:Bool)(ks:List Int)(n:Nat):Prop :=
 ∃o es ep t,h.get? a=some o/\o.ExactSet/\o.data=.set es ep t/\ie es ks/\es.size<scanBound/\t.fits es.size=true/\Asc t.place/\t.led=led/\es.size=n
theorem dW.stay{h h':Heap}{a:Addr}{led:Bool}{ks:List Int}{n:Nat}(x:dW h a led ks n)(k:∀o,h.get? a=some o->h'.get? a=some o):dW h' a led ks n:=by
 obtain⟨o,es,ep,t,ho,r⟩:=x;exact⟨o,es,ep,t,k o ho,r⟩
theorem dW.store{h:Heap}{a:Addr}{o:Obj}{es:Array (Int×Value)}{ep:Nat}{t:SetTable}(ho:h.get? a=some o)(hex:o.ExactSet)(hd:o.data=.set es ep t)
  {es':Array (Int×Value)}{t':SetTable}{ks:List Int}(he:ie es' ks)(hb:es'.size<scanBound)(hf:t'.fits es'.size=true)(ha:Asc t'.place) :
  (h.update a (Obj.putSet es' t')).get? a=some { o with data:=.set es' (ep+1) t' }/\dW (h.update a (Obj.putSet es' t')) a t'.led ks es'.size:=by
 have hg:(h.update a (Obj.putSet es' t')).get? a=some { o with data:=.set es' (ep+1) t' }:=by
  have:=Heap.get?_update_self (Obj.putSet es' t') ho (by rw[putSet_of es' t' hd];rfl);rw[putSet_of es' t' hd]at this;exact this
 exact⟨hg,_,es',ep+1,t',hg,hex,U,he,hb,hf,ha,U,U⟩
theorem qg{g:Bool->Sem Unit}(hg:∀(b:Bool)(s₁:Shared)(Q':Unit->Shared->Prop),Q' () s₁->wpAny (model prog w) A (g b) Q' E s₁)
  {a:Addr}{o:Obj}{es:Array (Int×Value)}{ep:Nat}{t:SetTable}(ho:s.heap.get? a=some o)(hex:o.ExactSet)(hd:o.data=.set es ep t)
  {es1:Array (Int×Value)}{t2:SetTable}{ks:List Int}{led:Bool}(he1:ie es1 ks)
  (hb1:es1.size<scanBound)(hf2:t2.fits es1.size=true)(ha2:Asc t2.place)(hl2:t2.led=led){qh:Bool}{R:Option Bool->Shared->Prop}
  (h:∀h',Heap.SameBut a s.heap h'->dW h' a led ks es1.size->R (some true) { s with heap:=h' }) :
  wpAny (model prog w) A (do
    storeSet a es1 t2
    if (!qh && t2.tooFull)=true then do
      g (relayAll t2 es1 (SetTable.grown es1.size)).2.2
      storeSet a (relayAll t2 es1 (SetTable.grown es1.size)).1 (relayAll t2 es1 (SetTable.grown es1.size)).2.1
      pure (some true)
     else pure (some true)) R E s:=by
 refine wpAny_bind (wpAny_storeSet_of ho hd ?_ (fits_of_scanBound hb1));obtain⟨ho1,hS1⟩:=dW.store ho hex hd he1 hb1 hf2 ha2;rw[hl2]at hS1;have AR:=Heap.SameBut.update s.heap a (Obj.putSet es1 t2);split
 ·have hp:=relayAll_perm t2 es1 (SetTable.grown es1.size);have hfr:=relayAll_fits t2 es1 (SetTable.grown es1.size);obtain⟨har,hlr⟩:=oJ ha2 es1 (SetTable.grown es1.size);generalize hRl:relayAll t2 es1 (SetTable.grown es1.size)=Rl at hp hfr har hlr⊢;obtain⟨es2,t3,Ew⟩:=Rl;dsimp only at hp hfr har hlr⊢;have hsz:es2.size=es1.size:=by rw[←length_toList,hp.length_eq,length_toList]
  have hb2:es2.size<scanBound:=by rw[hsz];exact hb1
  refine wpAny_bind (hg _ _ _ ?_);refine wpAny_bind (wpAny_storeSet_of ho1 U ?_ (fits_of_scanBound hb2));obtain⟨_,hS2⟩:=dW.store ho1 hex U (he1.perm hp) hb2 hfr har;rw[hsz,hlr,hl2]at hS2;exact wpAny_pure (h _ (AR.trans (Heap.SameBut.update _ a _)) hS2)
 ·exact wpAny_pure (h _ AR hS1)
theorem addW{a:Addr}{led:Bool}{ks:List Int}{n:Nat}{k:Int}{u:Tok}{Q:Bool->Shared->Prop}(hS:dW s.heap a led ks n)(yg:n+1<scanBound)
  (h:∀h' n' b,Heap.SameBut a s.heap h'->n'<=n+1->dW h' a led (ks++[k]) n'->Q b { s with heap:=h' }) :
  wpAny (model prog w) A (setAddHashed a (.int k u) ((intKind prog w).hash k)) Q E s:=by
 obtain⟨o,es,ep,t,ho,hex,hd,hE,hb,hf,hA,xp,hn⟩:=hS;have vx:(intKind prog w).is k (.int k u)=true:=intKind_is _ _ _ _;have hsc:(Value.int k u).scannable=true:=rfl;have hel:=hE.elems (prog:=prog) (w:=w);have hb1:es.size+1<scanBound:=by rw[hn];exact yg
 unfold setAddHashed setAddHashedIn;refine wpAny_holding (wpAny_bind (wpAny_setState_of ho hd hf ?_));dsimp only;rw[byScan_of hsc hb hel];simp only[↓reduceIte];unfold setAddByScan;refine wpAny_bind ?_;refine wpAny_bind (wpAny_rule ?_);refine wpAny_bind (wpAny_setScan_of vx ho hd hf hel ?_);cases hr:List.findIdx? (λe=>(intKind prog w).is k e.2) es.toList with
 |some j =>
  dsimp only;obtain⟨hj,hpj,_⟩:=List.findIdx?_eq_some_iff_getElem.mp hr;have hk:k∈ks:=hE.found (getElem_mem hj) hpj;refine wpAny_pure (wpAny_pure ?_);have e:s={ s with heap:=s.heap }:=by cases s;rfl
  rw[e];exact h s.heap n false (Heap.SameBut.refl a s.heap) (le_succ _) ⟨o,es,ep,t,ho,hex,hd,hE.again hk,hb,hf,hA,xp,hn⟩
 |none =>
  dsimp only;have hk:k ∉ ks:=λz=>by
   obtain⟨e,he,q⟩:=mem_map.mp ((hE.mem k).mp z);have:=List.findIdx?_eq_none_iff.mp hr e he;obtain⟨_,v,h2⟩:=hE.ent e he;rw[h2]at this;rw[←q]at this;rw[intKind_is]at this;exact Bool.noConfusion this
  have hgw:∀(b:Bool){s₁:Shared}{Q':Unit->Shared->Prop},Q' () s₁->wpAny (model prog w) A (match b with|true=>rule "set.scan.the-table-gave-way" | false=>pure ()) Q' E s₁ :=
   λb s₁ Q' hq=>by cases b <;> first|exact wpAny_pure hq|exact wpAny_rule hq
  have nN:=layNew_perm t es ((intKind prog w).hash k) (.int k u);have qi:=layNew_fits t es ((intKind prog w).hash k) (.int k u);obtain⟨hA1,hl1⟩:=rG hA es ((intKind prog w).hash k) (.int k u);generalize hL:layNew t es ((intKind prog w).hash k) (.int k u)=L at nN qi hA1 hl1⊢;obtain⟨es1,t1,qh,EI⟩:=L;dsimp only at nN qi hA1 hl1⊢;have hE1:ie es1 (ks++[k]):=(hE.push (u:=u) hk).perm nN;have Cd:es1.size=n+1:=by rw[←length_toList,nN.length_eq,length_toList,Array.size_push,hn]
  have AS:es1.size<scanBound:=by rw[Cd];exact yg
  refine wpAny_bind (hgw _ ?_);have oK:∀h',Heap.SameBut a s.heap h'->dW h' a led (ks++[k]) es1.size->Q true { s with heap:=h' }:=λh' hsb hS'=>h h' _ true hsb (by lia) hS'
  split
  ·refine wpAny_bind ?_;rw[hashByValue_scannable 8 hsc];refine wpAny_pure ?_;refine qg ?_ ho hex hd hE1 AS ?_ ?_ (led:=led) ?_ ?_
   ·intro b s₁ Q' hq;cases b <;> first|exact wpAny_pure hq|exact wpAny_rule hq
   ·split
    ·exact qi
    ·exact SetTable.fits_plain_off qi
   ·split
    ·exact hA1
    ·exact hA1
   ·split
    ·exact hl1.trans xp
    ·exact hl1.trans xp
   ·intro h' hsb hS';dsimp only;exact wpAny_pure (oK h' hsb hS')
  ·refine wpAny_bind (wpAny_pure ?_);simp only[↓reduceIte];refine qg ?_ ho hex hd hE1 AS qi hA1 (hl1.trans xp) ?_
   ·intro b s₁ Q' hq;cases b <;> first|exact wpAny_pure hq|exact wpAny_rule hq
   ·intro h' hsb hS';dsimp only;exact wpAny_pure (oK h' hsb hS')
theorem rJ(a:Value){Q₁:Value->Shared->Prop}
  (h:Q₁ (.ref s.heap.objs.size) { s with heap:=s.heap.push { cls:=.type "set",dict:=none,data:=.set #[] 0 (.fresh 0 0 (!dZ w)) } }) :
  codeAny (model prog w) A (.call (.builtin "set.__new__") ⟨[.type "set",a],[]⟩) (wants Q₁ E) s:=by
 refine codeAny_of_tree ?_;show wpAny _ A.in1 (do checkBuiltinCall "set.__new__" ⟨[.type "set",a],[]⟩;again (.builtin "set.__new__" ⟨[.type "set",a],[]⟩)) _ _ s;refine wpAny_bind (wpAny_of_eq (F.newCall_set_1 a) (wpAny_pure ⟨plainId_quiet F.plain_set_new _,codeAny_builtin F.entry_set_new ?_⟩));rw[Around.under_plainId F.plain_set_new _];unfold Builtin.«set.__new__» Builtin.Frozenset.newClass;have uC:=sub_set_self;obtain⟨hp,g,d,tk,os⟩:=s;dsimp only
 wp_walk
 refine wpAny_askSetting (wpAny_pure ?_);dsimp only;simp only[newObj];refine wpAny_bind (wpAny_alloc (wpAny_pure ?_));exact wpAny_pure h
theorem zg{R:Result->Shared->Prop}{I:Addr}{fp wr:List Addr}{G:Array GenState->Array GenState->Prop}{n:Nat}{P:Nat->Value->Prop}{St:Nat->Shared->Prop}(W:WalksS prog w A.in1 I fp wr G n P St){a:Addr}(ha:a ∉ fp){ks:List Int}{led:Bool}
  (hv:∀i v,P i v->∃k u,ks[i]?=some k/\v=.int k u)(hb:n+1<scanBound):∀(d i:Nat)(s:Shared)(m:Nat),n=i+d->m<=i->St i s->dW s.heap a led (ks.take i) m ->
   (∀s' m',Moved (a :: wr) G s s'->dW s'.heap a led (ks.take n) m'->m'<=n->R (.ok (.ret .none)) s')->codeAny (model prog w) A (.builtin "set.update.loop" ⟨[.ref a,.ref I],[]⟩) R s:=by
 have hw:a ∉ wr:=λz=>ha (W.sub a z)
 intro d;induction d with
 |zero =>
  intro i s m e hm st x fin;rw[show n=i by lia]at W fin;refine codeAny_builtin (R:=R) (A:=A) F.entry_set_update_loop ?_;rw[Around.under_plainId (A:=A) F.plain_set_update_loop _];show wpAny (model prog w) A.in1 (pyNext (.ref I) >>= _) _ _ s;exact wpAny_bind (W.done s _ _ st λs' mv=>wpAny_pure (fin s' m (mv.mono λb hb=>mem_cons_of_mem a hb) (x.stay λo q=>mv.heap a o hw q) hm))
 |succ d ih =>
  intro i s m e hm st x fin;refine codeAny_builtin (R:=R) (A:=A) F.entry_set_update_loop ?_;rw[Around.under_plainId (A:=A) F.plain_set_update_loop _];show wpAny (model prog w) A.in1 (pyNext (.ref I) >>= _) _ _ s;refine wpAny_bind (W.item i s _ _ (by lia) st λv s1 p st1 mv=>?_);obtain⟨k,u,ek,rfl⟩:=hv i v p;have x1:=x.stay λo q=>mv.heap a o hw q
  show wpAny (model prog w) A.in1 (holding [.int k u] (setAdd a (.int k u)) >>= _) _ _ s1;refine wpAny_bind (wpAny_holding (show wpAny (model prog w) A.in1 (setAdd a (.int k u)) _ _ s1 from ?_));unfold setAdd;refine wpAny_holding (wpAny_bind ((intKind prog w).pyHash (k:=k) (intKind_is _ _ _ _) ?_));refine addW (s:={ s1 with toks:=s1.toks+1 }) x1 (by lia) λh' n' _ sb hn' x2=>?_
  have et:ks.take (i+1)=ks.take i++[k]:=by rw[take_add_one,ek];rfl
  rw[←et]at x2;refine wpAny_pure ⟨plainId_quiet F.plain_set_update_loop _,ih (i+1) { s1 with heap:=h',toks:=s1.toks+1 } n' (by lia) (by lia) (W.frame (i+1) s1 h' (s1.toks+1) st1 (le_succ _) λb hbf o q=>(sb.2 b λz=>ha (z ▸ hbf)).trans q) x2 λs2 m2 mv2 x4 hm2=>?_⟩;refine fin s2 m2 (Moved.trans W.gtrans ((mv.mono λb hb=>mem_cons_of_mem a hb).then_heap (le_succ _) λb o hbn q=>?_) mv2) x4 hm2;exact(sb.2 b λz=>hbn (z ▸ mem_cons_self)).trans q
theorem zh{l:Addr}{items:Array Value}{ks:List Int}(hh:A.handled=none)(hl:s.heap.IsList l items)(hk:∀(i:Nat)(v:Value),items[i]?=some v->∃k u,ks[i]?=some k/\v=.int k u)(hn:ks.length=items.size)(hb:items.size+1<scanBound) :
  codeAny (model prog w) A (.call (.builtin "set.__init__") ⟨[.ref s.heap.objs.size,.ref l],[]⟩) (wants (λr s2=>r=.none/\∃h' tk m,s2={ s with heap:=h',toks:=tk }/\dW h' s.heap.objs.size (!dZ w) ks m/\m<=ks.length/\∀b o,b<s.heap.objs.size->s.heap.get? b=some o->h'.get? b=some o) E) { s with heap:=s.heap.push (dE (!dZ w)) }:=by
 have g0:(s.heap.push (dE (!dZ w))).get? s.heap.objs.size=some (dE (!dZ w)):=Heap.get?_push_size s.heap U;have ty:Shared.TypeIs { s with heap:=s.heap.push (dE (!dZ w)) } (.ref s.heap.objs.size) "set" := ⟨dE (!dZ w),g0,U⟩;refine codeAny_call_builtin F.called_set.init.plain F.entry_set_init (check_set_init_1 ty ?_);obtain⟨⟨c1,c2,c3,c4⟩,ho,hc,m,hd⟩:=hl;dsimp only at hc hd;subst hc hd;have g1:(s.heap.push (dE (!dZ w))).get? l=some { cls:=.type "list",dict:=c2,data:=.seq items m,slots:=c4 }:=Heap.get?_push_of_some _ ho;have y1:=F.sub_list_set;have y2:=F.sub_list_frozenset;have y3:(Value.type "list" == Value.type "dict")=false:=by decide
 have l1:(s.heap.push (dE (!dZ w))).IsList l items:=⟨_,g1,U,m,U⟩;have lt:l<s.heap.objs.size:=Heap.lt_size ho;have s0:dW (s.heap.push (dE (!dZ w))) s.heap.objs.size (!dZ w) [] 0:=⟨_,#[],0,_,g0,⟨U,U,U⟩,U,⟨by simp,by simp,by simp⟩,by unfold scanBound;decide,U,List.Pairwise.nil,U,U⟩;unfold Builtin.«set.__init__» Builtin.Frozenset.updateFrom noKeywords;generalize hI:pyIter=it;generalize hB:dZ w=bt at *
 wp_walk
 subst hI;refine wpAny_pyIter_list l1 (wpAny_bind (wpAny_runValue ?_));have nl:l≠(s.heap.push (dE (!bt))).objs.size:=by rw[Heap.size_push];exact ne_of_lt (lt_succ_of_lt lt)
 have nf:s.heap.objs.size ∉ [(s.heap.push (dE (!bt))).objs.size,l]:=by
  rw[Heap.size_push];intro z;rcases mem_cons.mp z with z|z
  ·exact absurd z (ne_of_lt (lt_succ_self _))
  ·exact absurd (by simpa using z) (ne_of_gt lt)
 refine zg ((Walks.list (by simp[hh]) _ l nl items).toS) nf (ks:=ks) (led:=!bt) hk hb items.size 0 _ 0 (Nat.zero_add _).symm (le_refl _) ⟨⟨_,Heap.get?_push_size _ U,U,U⟩,l1.push _⟩ (s0.stay λo q=>Heap.get?_push_of_some _ q) λs' m' mv x hm'=>?_
 obtain⟨h',g',d',t',o'⟩:=s';obtain rfl:g'=s.gens:=mv.gens;obtain rfl:d'=s.drawn:=mv.drawn;obtain rfl:o'=s.os:=mv.os;refine wpAny_pure (show wpAny (model prog w) _ (ret Value.none) _ _ _ from wpAny_pure ⟨U,h',t',m',U,?_,by lia,λb o hb' q=>?_⟩)
 ·rw[←hn,take_length]at x;exact x
 ·refine mv.heap b o (λz=>?_) (Heap.get?_push_of_some _ (Heap.get?_push_of_some _ q));rcases mem_cons.mp z with z|z
  ·exact absurd z (ne_of_lt hb')
  ·have z2:b=(s.heap.push (dE (!bt))).objs.size:=by simpa using z
   rw[Heap.size_push]at z2;exact absurd z2 (ne_of_lt (lt_succ_of_lt hb'))
set_option maxRecDepth 100000 in
theorem uD{l:Addr}{items:Array Value}{ks:List Int}{Q:Value->Shared->Prop}(hh:A.handled=none)(hl:s.heap.IsList l items)(hk:∀(i:Nat)(v:Value),items[i]?=some v->∃k u,ks[i]?=some k/\v=.int k u)(hn:ks.length=items.size)(hb:items.size+1<scanBound)
  (h:∀h' tk m,dW h' s.heap.objs.size (!dZ w) ks m->m<=ks.length->(∀b o,b<s.heap.objs.size->s.heap.get? b=some o->h'.get? b=some o)->Q (.ref s.heap.objs.size) { s with heap:=h',toks:=tk }):wpAny (model prog w) A (call (.type "set") [.ref l]) Q E s:=by
 obtain⟨c,tl,mro⟩:=F.called_set.mro;have a1:=F.called_set.made;have a2:=F.called_set.sub;have a3:=F.called_set.notType;have a4:=F.called_set.canCreate;have a5:=F.typeCall_set_1 (.ref l);refine wpAny_call (codeAny_of_tree (show wpAny (model prog w) _ (callAny (.type "set") _) _ _ _ from wpAny_pure ⟨Code.quiet_builtin _ (by decide+kernel),codeAny_builtin F.entry_type_call ?_⟩));rw[Around.under_plain (A:=A) (weight_type_call_type "set" [.ref l] []) U]
 repeat (any_goals (first|assumption|wp_step))
 refine codeAny_mono (rJ (.ref l) (E:=E) (Q₁:=λob s1=>ob=.ref s.heap.objs.size/\s1={ s with heap:=s.heap.push (dE (!dZ w)) }) ⟨U,U⟩) λr s1 hr=>?_
 cases r with
 |error e=>exact hr
 |ok fl =>
  cases fl with
  |ret ob =>
   obtain⟨rfl,rfl⟩:=hr;have g0:(s.heap.push (dE (!dZ w))).get? s.heap.objs.size=some (dE (!dZ w)):=Heap.get?_push_size s.heap U;have ty:Shared.TypeIs { s with heap:=s.heap.push (dE (!dZ w)) } (.ref s.heap.objs.size) "set" := ⟨dE (!dZ w),g0,U⟩;have b1:=F.called_set.init.lookup;have b2:=F.called_set.init.bind (.ref s.heap.objs.size)
   repeat (any_goals (first|assumption|wp_step))
   refine codeAny_mono (zh (E:=E) (by simp[hh]) hl hk hn hb) λr2 s2 hr2=>?_
   cases r2 with
   |error e=>exact hr2
   |ok f2 =>
    cases f2 with
    |ret r =>
     obtain⟨rfl,h',tk,m,rfl,x,hm,kp⟩:=hr2
     repeat (any_goals (first|assumption|wp_step))
     exact h h' tk m x hm kp
    |_=>exact hr2.elim
  |_=>exact hr.elim
set_option maxRecDepth 100000
theorem ba:Slot "set_iterator" "__next__" "set_iterator.__next__" :=
 .of (owner := "set_iterator") (n := "__next__") (by rw[typeLookup_type,builtinLookup_eq_fast];kernel_rfl) (by decide+kernel) (by decide+kernel) (by decide+kernel)
  (by first|exact .inl (by decide+kernel)|exact .inr (by decide+kernel)) (by rw[isSubtype_type];kernel_rfl)
theorem gN:Slot "set_iterator" "__iter__" "set_iterator.__iter__" :=
 .of (owner := "set_iterator") (n := "__iter__") (by rw[typeLookup_type,builtinLookup_eq_fast];kernel_rfl) (by decide+kernel) (by decide+kernel) (by decide+kernel)
  (by first|exact .inl (by decide+kernel)|exact .inr (by decide+kernel)) (by rw[isSubtype_type];kernel_rfl)
theorem dc:entryFor table "set_iterator.__next__" = some Builtin.«set_iterator.__next__»:=entryFor_of_fast (by kernel_rfl)
theorem kA:entryFor table "set_iterator.__iter__" = some Builtin.«dict_keyiterator.__iter__» :=
 entryFor_alias (id' := "dict_keyiterator.__iter__") (by kernel_rfl) U (by decide+kernel) (by kernel_rfl)
theorem l5:entryFor table "set.__iter__" = some Builtin.«frozenset.__iter__» :=
 entryFor_alias (id' := "frozenset.__iter__") (by kernel_rfl) U (by decide+kernel) (by kernel_rfl)
theorem dC(a:Value):argsOk "set_iterator.__next__" ⟨[a],[]⟩:=by unfold argsOk;kernel_rfl
theorem ll(a:Value):argsOk "set_iterator.__iter__" ⟨[a],[]⟩:=by unfold argsOk;kernel_rfl
abbrev eR(first:Value)(i:Int)(s:Value)(n ep:Nat):Obj:={ cls:=.type "set_iterator",data:=.fields #[first,.int i 0,s,.int n 0,.int ep 0] }
theorem oM{src:Source}{n:Nat}{Q:Nat->Shared->Prop}(hn:n≠0)(h:Q (w.draws src (s.drawn.get src)%n) { s with drawn:=s.drawn.bump src }) :
  wpAny (model prog w) A (choose src n) Q E s:=λ_ _ _=>⟨hn,h⟩
theorem l6{α:Type}:∀(n:Nat)(xs:List α)(s:Shared){Q:List α->Shared->Prop},n=xs.length->(∀ys d,ys.Perm xs->Q ys { s with drawn:=d })->wpAny (model prog w) A (drawOrder n xs) Q E s:=by
 intro n;induction n with
 |zero =>
  intro xs s Q e h;have:xs=[]:=length_eq_zero_iff.mp e.symm;subst this;unfold drawOrder;exact wpAny_pure (h [] s.drawn (.refl _))
 |succ n ih =>
  intro xs s Q e h;cases xs with
  |nil=>simp at e
  |cons x r =>
   unfold drawOrder;refine wpAny_bind (oM (by simp) ?_);generalize hi:w.draws Source.order (s.drawn.get Source.order)%(x :: r).length=i;have hlt:i<(x :: r).length:=by rw[←hi];exact Nat.mod_lt _ (by simp)
   have eg:(x :: r)[i]?=some (x :: r)[i]:=EV hlt;rw[eg]
   try dsimp only
   refine wpAny_bind (ih _ _ (by rw[List.length_eraseIdx_of_lt hlt];lia) λys d p=>wpAny_pure ?_);exact h _ d ((p.cons _).trans (fH eg))
theorem uE{I a:Addr}{slot i:Nat}{o:Obj}{es:Array (Int×Value)}{ep:Nat}{t:SetTable}{Q:Option Value->Shared->Prop}
  (hI:s.heap.get? I=some (eR (.int slot 0) i (.ref a) es.size ep))(ho:s.heap.get? a=some o)(hd:o.data=.set es ep t)(hf:t.fits es.size=true)
  {x:Value}{nx:Nat}(hN:∀(Q':Option (Value×Nat)->Shared->Prop) E',Q' (some (x,nx)) s->wpAny (model prog w) A.in1 (setNext a slot i ep) Q' E' s)
  (hQ:∀h',h'.get? I=some (eR (.int nx 0) ((i+1:Nat):Int) (.ref a) es.size ep)->Heap.SameBut I s.heap h'->Q (some x) { s with heap:=h' }) :
  wpAny (model prog w) A (pyNext (.ref I)) Q E s:=by
 have hT:s.TypeIs (.ref I) "set_iterator" := ⟨_,hI,U⟩;unfold pyNext;refine wpAny_bind (wpAny_attempt (wpAny_callSpecial?_slot (name:=Str.ofString "__next__") hT ba (wpAny_call_entry ba hT dc ?_ (dC _))));unfold Builtin.«set_iterator.__next__»;refine wpAny_bind (m:=slotArgs "__next__" 0 _) (wpAny_pure ?_);refine wpAny_bind (wpAny_fieldsOf hI U ?_)
 try dsimp only
 refine wpAny_bind (wpAny_setEntries_of ho hd hf ?_);rw[if_neg (by simp)]
 try dsimp only
 simp only[toNat_natCast];refine wpAny_bind (hN _ _ ?_)
 try dsimp only
 refine wpAny_bind (wpAny_setField_rec hI (by simp) λh1 g1 sb1=>?_);refine wpAny_bind (wpAny_setField_rec (s:={ s with heap:=h1 }) g1 (by simp) λh2 g2 sb2=>?_);refine wpAny_pure ⟨x,U,wpAny_pure (hQ h2 ?_ (sb1.trans sb2))⟩;rw[g2];simp[eR,rawInt]
theorem uF{I a:Addr}{slot i:Nat}{o:Obj}{es:Array (Int×Value)}{ep:Nat}{t:SetTable}{Q:Option Value->Shared->Prop}(hh:A.handled=none)
  (hI:s.heap.get? I=some (eR (.int slot 0) i (.ref a) es.size ep))(ho:s.heap.get? a=some o)(hd:o.data=.set es ep t)(hf:t.fits es.size=true)
  (hN:∀(Q':Option (Value×Nat)->Shared->Prop) E',Q' none s->wpAny (model prog w) A.in1 (setNext a slot i ep) Q' E' s)
  (hQ:∀h',Heap.ExtBut I s.heap h'->Q none { s with heap:=h' }) :
  wpAny (model prog w) A (pyNext (.ref I)) Q E s:=by
 have hT:s.TypeIs (.ref I) "set_iterator" := ⟨_,hI,U⟩;unfold pyNext;refine wpAny_bind (wpAny_attempt (wpAny_callSpecial?_slot (name:=Str.ofString "__next__") hT ba (wpAny_call_entry ba hT dc ?_ (dC _))));unfold Builtin.«set_iterator.__next__»;refine wpAny_bind (m:=slotArgs "__next__" 0 _) (wpAny_pure ?_);refine wpAny_bind (wpAny_fieldsOf hI U ?_)
 try dsimp only
 refine wpAny_bind (wpAny_setEntries_of ho hd hf ?_);rw[if_neg (by simp)]
 try dsimp only
 simp only[toNat_natCast];refine wpAny_bind (hN _ _ ?_)
 try dsimp only
 refine wpAny_bind (wpAny_setField hI U (by simp) ?_);show wpAny _ _ (newExc (.type "StopIteration") [] >>= _) _ _ _;refine wpAny_bind ?_;simp only[newExc,newTuple];refine wpAny_bind (wpAny_newObj_type ?_ (by size_fits));refine wpAny_bind (m:=firstArgMember _ _) (wpAny_of_eq (a:=Value.none) (by first|rfl|(simp only[firstArgMember];rfl)) ?_);refine wpAny_newObj_type ?_ (by size_fits);simp only[raiseNew];refine wpAny_bind (wpAny_handled ?_);rw[show A.in1.handled=none from hh];refine wpAny_bind (wpAny_pure (wpAny_throw ?_));refine wpAny_bind (wpAny_isInstance (T := "StopIteration") (b:=true) ⟨_,Heap.get?_push_size _ U,U⟩ isSubtype_stop ?_);exact wpAny_pure (hQ _ (((Heap.SameBut.update ..).extBut.push _).push _))
theorem rK{I a tp:Addr}{i:Nat}{o:Obj}{es:Array (Int×Value)}{ep:Nat}{t:SetTable}{places:List Nat}{m:Nat}{to:Obj}{Q:Option Value->Shared->Prop}
  (hI:s.heap.get? I=some (eR (.ref tp) i (.ref a) es.size ep))(ht:s.heap.get? tp=some to)(htd:to.data=.seq (places.map λ(p:Nat)=>rawInt p).toArray m)(ho:s.heap.get? a=some o)(hd:o.data=.set es ep t)(hf:t.fits es.size=true)
  {p:Nat}(hp:places[i]?=some p){e:Int×Value}(he:es[p]?=some e)
  (hQ:∀h',h'.get? I=some (eR (.ref tp) ((i+1:Nat):Int) (.ref a) es.size ep)->Heap.SameBut I s.heap h'->Q (some e.2) { s with heap:=h' }) :
  wpAny (model prog w) A (pyNext (.ref I)) Q E s:=by
 have hT:s.TypeIs (.ref I) "set_iterator" := ⟨_,hI,U⟩;unfold pyNext;refine wpAny_bind (wpAny_attempt (wpAny_callSpecial?_slot (name:=Str.ofString "__next__") hT ba (wpAny_call_entry ba hT dc ?_ (dC _))));unfold Builtin.«set_iterator.__next__»;refine wpAny_bind (m:=slotArgs "__next__" 0 _) (wpAny_pure ?_);refine wpAny_bind (wpAny_fieldsOf hI U ?_)
 try dsimp only
 refine wpAny_bind (wpAny_setEntries_of ho hd hf ?_);rw[if_neg (by simp)]
 try dsimp only
 refine wpAny_bind (wpAny_seqItems ht htd ?_)
 try dsimp only
 have eg:(places.map λ(p:Nat)=>rawInt p).toArray[(i:Int).toNat]?=some (.int p 0):=by simp[hp,rawInt]
 rw[eg]
 try dsimp only
 unfold setNextDrawn;refine wpAny_bind (wpAny_bind (wpAny_setState_of ho hd hf ?_))
 try dsimp only
 rw[if_neg (by simp)];refine wpAny_bind (wpAny_pure ?_);simp only[toNat_natCast,he];refine wpAny_pure ?_;refine wpAny_bind (wpAny_setField_rec hI (by simp) λh1 g1 sb1=>?_);refine wpAny_pure ⟨e.2,U,wpAny_pure (hQ h1 ?_ sb1)⟩;rw[g1];simp[eR,rawInt]
theorem l7{I a tp:Addr}{i:Nat}{o:Obj}{es:Array (Int×Value)}{ep:Nat}{t:SetTable}{places:List Nat}{m:Nat}{to:Obj}{Q:Option Value->Shared->Prop}(hh:A.handled=none)
  (hI:s.heap.get? I=some (eR (.ref tp) i (.ref a) es.size ep))(ht:s.heap.get? tp=some to)(htd:to.data=.seq (places.map λ(p:Nat)=>rawInt p).toArray m)(ho:s.heap.get? a=some o)(hd:o.data=.set es ep t)(hf:t.fits es.size=true)
  (hp:places[i]?=none)(hQ:∀h',Heap.ExtBut I s.heap h'->Q none { s with heap:=h' }) :
  wpAny (model prog w) A (pyNext (.ref I)) Q E s:=by
 have hT:s.TypeIs (.ref I) "set_iterator" := ⟨_,hI,U⟩;unfold pyNext;refine wpAny_bind (wpAny_attempt (wpAny_callSpecial?_slot (name:=Str.ofString "__next__") hT ba (wpAny_call_entry ba hT dc ?_ (dC _))));unfold Builtin.«set_iterator.__next__»;refine wpAny_bind (m:=slotArgs "__next__" 0 _) (wpAny_pure ?_);refine wpAny_bind (wpAny_fieldsOf hI U ?_)
 try dsimp only
 refine wpAny_bind (wpAny_setEntries_of ho hd hf ?_);rw[if_neg (by simp)]
 try dsimp only
 refine wpAny_bind (wpAny_seqItems ht htd ?_)
 try dsimp only
 have eg:(places.map λ(p:Nat)=>rawInt p).toArray[(i:Int).toNat]?=none:=by simp at hp⊢;exact hp
 rw[eg]
 try dsimp only
 refine wpAny_bind (wpAny_setField_rec hI (by simp) λh1 g1 sb1=>?_);refine wpAny_bind (wpAny_setField (s:={ s with heap:=h1 }) g1 U (by simp) ?_);show wpAny _ _ (newExc (.type "StopIteration") [] >>= _) _ _ _;refine wpAny_bind ?_;simp only[newExc,newTuple];refine wpAny_bind (wpAny_newObj_type ?_ (by size_fits));refine wpAny_bind (m:=firstArgMember _ _) (wpAny_of_eq (a:=Value.none) (by first|rfl|(simp only[firstArgMember];rfl)) ?_);refine wpAny_newObj_type ?_ (by size_fits);simp only[raiseNew];refine wpAny_bind (wpAny_handled ?_);rw[show A.in1.handled=none from hh];refine wpAny_bind (wpAny_pure (wpAny_throw ?_));refine wpAny_bind (wpAny_isInstance (T := "StopIteration") (b:=true) ⟨_,Heap.get?_push_size _ U,U⟩ isSubtype_stop ?_);exact wpAny_pure (hQ _ (((sb1.trans (Heap.SameBut.update ..)).extBut.push _).push _))
theorem l8{I:Addr}{first:Value}{i:Int}{v:Value}{n ep:Nat}{Q:Value->Shared->Prop}(hI:s.heap.get? I=some (eR first i v n ep))(h:Q (.ref I) s):wpAny (model prog w) A (pyIter (.ref I)) Q E s:=by
 have hT:s.TypeIs (.ref I) "set_iterator" := ⟨_,hI,U⟩;refine wpAny_pyIter_slot hT gN (wpAny_call_entry gN hT kA ?_ (ll _));show wpAny _ _ (ret (.ref I)) _ _ s;exact wpAny_pure ⟨_,U,"set_iterator",_,hT,ba.lookup,h⟩
theorem jX{a:Addr}{o:Obj}{es:Array (Int×Value)}{ep:Nat}{t:SetTable}{slot i:Nat}(hb:dZ w=true)(ho:s.heap.get? a=some o)(hd:o.data=.set es ep t)(hf:t.fits es.size=true)
  {Q:Option (Value×Nat)->Shared->Prop}(h:Q (((pickOrder (w.params.setOrder a ep) es)[i]?).map λe=>(e.2,slot)) s):wpAny (model prog w) A (setNext a slot i ep) Q E s:=by
 have hb':((Setting.mk prog w.params).params.followText "set-order")=true:=hb;unfold setNext;refine wpAny_bind (wpAny_setState_of ho hd hf ?_)
 try dsimp only
 unfold setsByText;refine wpAny_bind (wpAny_bind (wpAny_askSetting (wpAny_pure ?_)));show wpAny _ _ (if (Setting.mk prog w.params).params.followText "set-order" = true then _ else _) _ _ _;rw[if_pos hb',if_neg (by simp)];unfold setWalk;refine wpAny_bind (wpAny_bind (wpAny_setState_of ho hd hf ?_))
 try dsimp only
 unfold setsByText;refine wpAny_bind (wpAny_bind (wpAny_askSetting (wpAny_pure ?_)));show wpAny _ _ (if (Setting.mk prog w.params).params.followText "set-order" = true then _ else _) _ _ _;rw[if_pos hb'];refine wpAny_bind (wpAny_askSetting (wpAny_pure (wpAny_pure h)))
theorem jd{a:Addr}{o:Obj}{es:Array (Int×Value)}{ep:Nat}{t:SetTable}{slot i:Nat}(hb:dZ w=false)(ho:s.heap.get? a=some o)(hd:o.data=.set es ep t)(hf:t.fits es.size=true)(hl:t.led=true)(hp:(!t.plain && decide (es.size>1))=false)
  {Q:Option (Value×Nat)->Shared->Prop}(h:Q (match es[SetTable.below t.place slot]?,t.place[SetTable.below t.place slot]? with|some (_,x),some j=>some (x,j+1)|_,_=>none) s):wpAny (model prog w) A (setNext a slot i ep) Q E s:=by
 have hb':((Setting.mk prog w.params).params.followText "set-order")=false:=hb;unfold setNext;refine wpAny_bind (wpAny_setState_of ho hd hf ?_)
 try dsimp only
 unfold setsByText;refine wpAny_bind (wpAny_bind (wpAny_askSetting (wpAny_pure ?_)));show wpAny _ _ (if (Setting.mk prog w.params).params.followText "set-order" = true then _ else _) _ _ _;rw[if_neg (by rw[hb'];exact Bool.false_ne_true)];show wpAny _ _ (if (!t.plain && decide (es.size>1))=true then _ else _) _ _ _;rw[if_neg (by rw[hp];exact Bool.false_ne_true)];show wpAny _ _ ((if (!t.led && !es.isEmpty)=true then unsupported "set:maker-not-led" else pure ()) >>= _) _ _ _;rw[hl,if_neg (by simp)];exact wpAny_bind (wpAny_pure (wpAny_pure h))
set_option maxRecDepth 100000
abbrev qj:Array GenState->Array GenState->Prop:=λg g'=>g'=g
theorem nO{I:Addr}{h':Heap}(sb:Heap.SameBut I s.heap h'):Moved [I] qj s { s with heap:=h' } :=
 ⟨λb o hb e=>(sb.2 b λz=>hb (z ▸ mem_cons_self)).trans e,U,U,U,le_refl _⟩
theorem nP{I:Addr}{h':Heap}(sb:Heap.ExtBut I s.heap h'):Moved [I] qj s { s with heap:=h' } :=
 ⟨λb o hb e=>sb b o (λz=>hb (z ▸ mem_cons_self)) e,U,U,U,le_refl _⟩
theorem l9(hh:A.handled=none){I a:Addr}(hne:a≠I){o:Obj}{es:Array (Int×Value)}{ep:Nat}{t:SetTable}(hd:o.data=.set es ep t)(hf:t.fits es.size=true){ord:List Value}(hlen:ord.length=es.size)(sl:Nat->Nat)
  (hN:∀(i:Nat)(x:Value)(s:Shared)(Q':Option (Value×Nat)->Shared->Prop) E',s.heap.get? a=some o->ord[i]?=some x->Q' (some (x,sl (i+1))) s->wpAny (model prog w) A.in1 (setNext a (sl i) i ep) Q' E' s)
  (hE:∀(s:Shared)(Q':Option (Value×Nat)->Shared->Prop) E',s.heap.get? a=some o->Q' none s->wpAny (model prog w) A.in1 (setNext a (sl es.size) es.size ep) Q' E' s) :
  WalksS prog w A I [I,a] [I] qj es.size (λi v=>ord[i]?=some v) (λi s=>s.heap.get? I=some (eR (.int (sl i) 0) i (.ref a) es.size ep)/\s.heap.get? a=some o) where
 sub:=λb hb=>by simp at hb;simp[hb]
 grefl:=λ_=>U
 gtrans:=λ_ _ _ h1 h2=>h2.trans h1
 frame:=λi s h' tk st _ k=>⟨k I (by simp) _ st.1,k a (by simp) _ st.2⟩
 item:=λi s Q E hi st hQ=>by
  have ex:ord[i]?=some ord[i]:=EV (by lia);refine uE st.1 st.2 hd hf (x:=ord[i]) (nx:=sl (i+1)) (λQ' E' q=>hN i _ s Q' E' st.2 ex q) λh' g sb=>?_
  exact hQ _ _ ex ⟨g,(sb.2 a hne).trans st.2⟩ (nO sb)
 done:=λs Q E st hQ=>uF hh st.1 st.2 hd hf (λQ' E' q=>hE s Q' E' st.2 q) λh' eb=>hQ _ (nP eb)
 self:=λi s Q E st hQ=>l8 st.1 hQ
theorem qk(hh:A.handled=none){I a tp:Addr}(hne:a≠I)(hnt:tp≠I){o to:Obj}{es:Array (Int×Value)}{ep m:Nat}{t:SetTable}(hd:o.data=.set es ep t)(hf:t.fits es.size=true){places:List Nat}(htd:to.data=.seq (places.map λ(p:Nat)=>rawInt p).toArray m)
  (hpl:places.length=es.size){ord:List Value}(Ce:∀(i:Nat),i<es.size->∃p e,places[i]?=some p/\es[p]?=some e/\ord[i]?=some e.2) :
  WalksS prog w A I [I,a,tp] [I] qj es.size (λi v=>ord[i]?=some v) (λi s=>s.heap.get? I=some (eR (.ref tp) i (.ref a) es.size ep)/\s.heap.get? a=some o/\s.heap.get? tp=some to) where
 sub:=λb hb=>by simp at hb;simp[hb]
 grefl:=λ_=>U
 gtrans:=λ_ _ _ h1 h2=>h2.trans h1
 frame:=λi s h' tk st _ k=>⟨k I (by simp) _ st.1,k a (by simp) _ st.2.1,k tp (by simp) _ st.2.2⟩
 item:=λi s Q E hi st hQ=>by
  obtain⟨p,e,h1,h2,h3⟩:=Ce i hi;refine rK st.1 st.2.2 htd st.2.1 hd hf h1 h2 λh' g sb=>?_
  exact hQ _ _ h3 ⟨g,(sb.2 a hne).trans st.2.1,(sb.2 tp hnt).trans st.2.2⟩ (nO sb)
 done:=λs Q E st hQ=>l7 hh st.1 st.2.2 htd st.2.1 hd hf (getElem?_eq_none (by lia)) λh' eb=>hQ _ (nP eb)
 self:=λi s Q E st hQ=>l8 st.1 hQ
theorem vQ{a:Addr}{o:Obj}{es:Array (Int×Value)}{ep:Nat}{t:SetTable}{Q:Value->Shared->Prop}(ho:s.heap.get? a=some o)(hex:o.ExactSet)(hd:o.data=.set es ep t)(hb:es.size<scanBound)(hf:t.fits es.size=true)(ha:Asc t.place)(hl:t.led = !dZ w)
  (h:∀(I:Addr)(h':Heap)(d:Drawn)(ord:List Value)(fp:List Addr)(St:Nat->Shared->Prop),(∀b u,s.heap.get? b=some u->h'.get? b=some u)->ord.Perm (es.toList.map (·.2)) ->
   (∀A':Around,A'.handled=none->WalksS prog w A' I fp [I] qj es.size (λi v=>ord[i]?=some v) St)->St 0 { s with heap:=h',drawn:=d }->s.heap.objs.size<=I->(∀b∈fp,b=a\/s.heap.objs.size<=b)->Q (.ref I) { s with heap:=h',drawn:=d }) :
  wpAny (model prog w) A (pyIter (.ref a)) Q E s:=by
 have hT:s.TypeIs (.ref a) "set" := ⟨o,ho,hex.1⟩;have la:a<s.heap.objs.size:=Heap.lt_size ho;refine wpAny_pyIter_slot hT F.slot_set_iter (wpAny_call_entry F.slot_set_iter hT l5 ?_ (F.args_set_iter_1 _));unfold Builtin.«frozenset.__iter__» Builtin.Frozenset.slot0;refine wpAny_bind (wpAny_bind (m:=slotArgs "__iter__" 0 _) (wpAny_pure ?_));unfold Builtin.Frozenset.addrOf;refine wpAny_pure ?_;unfold Builtin.Frozenset.sizeOf;refine wpAny_bind (wpAny_bind (wpAny_setEntries_of ho hd hf (wpAny_pure ?_)));unfold setDrawn;refine wpAny_bind (wpAny_bind (wpAny_setState_of ho hd hf ?_))
 try dsimp only
 unfold setsByText;refine wpAny_bind (wpAny_bind (wpAny_askSetting (wpAny_pure ?_)));refine wpAny_pure ?_;show wpAny _ _ (if (!dZ w && (!t.plain && decide (es.size>1)))=true then _ else _) _ _ _;have hsz:es.toList.length=es.size:=length_toList;by_cases c:(!dZ w && (!t.plain && decide (es.size>1)))=true
 ·rw[if_pos c];refine wpAny_bind (l6 es.size (List.range es.size) s (by simp) λys d p=>?_);refine wpAny_bind (wpAny_newTuple ?_ ?_)
  rotate_left
  ·rw[length_map,p.length_eq,length_range];unfold scanBound at hb;unfold sizeLine;lia
  generalize hto:({ cls:=.type "tuple",data:=.seq (ys.map λ(i:Nat)=>rawInt i).toArray }:Obj)=to;have gt:(s.heap.push to).get? s.heap.objs.size=some to:=by rw[←hto];exact Heap.get?_push_size _ U
  have ga:(s.heap.push to).get? a=some o:=Heap.get?_push_of_some _ ho;refine wpAny_bind (m:=setEpoch a) (wpAny_setEpoch_of (s:={ s with heap:=s.heap.push to,drawn:=d }) ga hd hf ?_);refine wpAny_bind (wpAny_newObj_type ?_ (by size_fits));have hI:((s.heap.push to).push (eR (.ref s.heap.objs.size) (0:Nat) (.ref a) es.size ep)).get? (s.heap.push to).objs.size=some (eR (.ref s.heap.objs.size) (0:Nat) (.ref a) es.size ep):=Heap.get?_push_size _ U;refine wpAny_pure ⟨_,U,"set_iterator",_,⟨_,hI,U⟩,ba.lookup,?_⟩;have hp:∀i,i<es.size->∃p e,ys[i]?=some p/\es[p]?=some e/\(ys.map λp=>(es[p]?.map (·.2)).getD .none)[i]?=some e.2:=λi hi=>by
   have hi':i<ys.length:=by rw[p.length_eq,length_range];exact hi
   have e1:ys[i]?=some ys[i]:=EV hi';have lt:ys[i]<es.size:=mem_range.mp (p.mem_iff.mp (getElem_mem hi'));have e2:es[ys[i]]?=some es[ys[i]]:=getElem?_eq_getElem lt;exact⟨ys[i],es[ys[i]],e1,e2,by rw[getElem?_map,e1];simp[e2]⟩
  have nN:(ys.map λp=>(es[p]?.map (·.2)).getD Value.none).Perm (es.toList.map (·.2)):=by
   refine(p.map _).trans (List.Perm.of_eq ?_);apply List.ext_getElem
   ·simp
   ·intro i h1 h2;simp at h1;simp[h1]
  refine h _ _ d _ [(s.heap.push to).objs.size,a,s.heap.objs.size] _ (λb u e=>Heap.get?_push_of_some _ (Heap.get?_push_of_some _ e)) nN
   (λA' hA=>qk hA (places:=ys) (to:=to) (m:=0) (by rw[Heap.size_push];exact ne_of_lt (lt_succ_of_lt la)) (by rw[Heap.size_push];exact ne_of_lt (lt_succ_self _)) hd hf (by rw[←hto]) (by rw[p.length_eq,length_range]) hp)
   ⟨hI,Heap.get?_push_of_some _ ga,Heap.get?_push_of_some _ gt⟩ (by rw[Heap.size_push];exact le_succ _) λb hb=>?_
  rcases mem_cons.mp hb with rfl|hb
  ·exact .inr (by rw[Heap.size_push];exact le_succ _)
  ·rcases mem_cons.mp hb with rfl|hb
   ·exact .inl U
   ·have:b=s.heap.objs.size:=by simpa using hb
    exact .inr (by rw[this];exact le_refl _)
 ·rw[if_neg c];refine wpAny_bind (wpAny_pure ?_);refine wpAny_bind (m:=setEpoch a) (wpAny_setEpoch_of ho hd hf ?_);refine wpAny_bind (wpAny_newObj_type ?_ (by size_fits));have hI:(s.heap.push (eR (.int (0:Nat) 0) (0:Nat) (.ref a) es.size ep)).get? s.heap.objs.size=some (eR (.int (0:Nat) 0) (0:Nat) (.ref a) es.size ep):=Heap.get?_push_size _ U;refine wpAny_pure ⟨_,U,"set_iterator",_,⟨_,hI,U⟩,ba.lookup,?_⟩;have ne:a≠s.heap.objs.size:=ne_of_lt la;have fpa:∀b∈[s.heap.objs.size,a],b=a\/s.heap.objs.size<=b:=λb hb=>by
   rcases mem_cons.mp hb with rfl|hb
   ·exact .inr (le_refl _)
   ·exact .inl (by simpa using hb)
  cases hbt:dZ w with
  |true =>
   have pp:=uB (w.params.setOrder a ep) es;have hlen:((pickOrder (w.params.setOrder a ep) es).toList.map (·.2)).length=es.size:=by rw[length_map,pp.length_eq,hsz]
   refine h _ _ s.drawn ((pickOrder (w.params.setOrder a ep) es).toList.map (·.2)) [s.heap.objs.size,a] _ (λb u e=>Heap.get?_push_of_some _ e) (pp.map _)
    (λA' hA=>l9 hA ne hd hf hlen (λ_=>0) (λi x s' Q' E' g ex q=>jX hbt g hd hf ?_) λs' Q' E' g q=>jX hbt g hd hf ?_) ⟨hI,Heap.get?_push_of_some _ ho⟩ (le_refl _) fpa
   ·rw[getElem?_map,Array.getElem?_toList]at ex;cases e:(pickOrder (w.params.setOrder a ep) es)[i]? with
    |none=>rw[e]at ex;cases ex
    |some z=>rw[e]at ex;injection ex with ex;subst ex;exact q
   ·have e:(pickOrder (w.params.setOrder a ep) es)[es.size]?=none:=by
     rw[←Array.getElem?_toList];exact getElem?_eq_none (by rw[length_map]at hlen;lia)
    rw[e];exact q
  |false =>
   have hl':t.led=true:=by rw[hl,hbt];rfl
   have hp:(!t.plain && decide (es.size>1))=false:=by
    rw[hbt]at c;simpa using c
   have hps:t.place.size=es.size:=by
    have:=hf;simp only[SetTable.fits,and_eq_true,beq_iff_eq]at this;exact this.1
   have bel:∀i,i<=es.size->SetTable.below t.place (match i with|0=>0|k+1=>t.place.getD k 0+1)=i:=λi hi=>by
    cases i with
    |zero=>exact qd ha
    |succ k =>
     have hk:k<t.place.size:=by lia
     have eg:t.place.getD k 0=t.place[k]:=by simp[Array.getD,hk]
     show SetTable.below t.place (t.place.getD k 0+1)=k+1;rw[eg];exact rD ha hk
   refine h _ _ s.drawn (es.toList.map (·.2)) [s.heap.objs.size,a] _ (λb u e=>Heap.get?_push_of_some _ e) (.refl _)
    (λA' hA=>l9 hA ne hd hf (by rw[length_map,hsz]) (λi=>match i with|0=>0|k+1=>t.place.getD k 0+1) (λi x s' Q' E' g ex q=>jd hbt g hd hf hl' hp ?_) λs' Q' E' g q=>jd hbt g hd hf hl' hp ?_) ⟨hI,Heap.get?_push_of_some _ ho⟩ (le_refl _) fpa
   ·have hi:i<es.size:=by
     obtain⟨z,_⟩:=EW.mp ex;rw[length_map,hsz]at z;exact z
    rw[bel i (le_of_lt hi)];have e1:es[i]?=some es[i]:=getElem?_eq_getElem hi;have e2:t.place[i]?=some t.place[i]:=getElem?_eq_getElem (by lia);have e3:x=es[i].2:=by
     rw[getElem?_map,Array.getElem?_toList,e1]at ex;injection ex with ex;exact ex.symm
    rw[e1,e2];have e4:t.place.getD i 0=t.place[i]:=by simp[Array.getD,show i<t.place.size by lia]
    subst e3;have q2:Q' (some (es[i].2,t.place.getD i 0+1)) s':=q;rw[e4]at q2;exact q2
   ·rw[bel es.size (le_refl _)];have e1:es[es.size]?=none:=Array.getElem?_eq_none (le_refl _);rw[e1];exact q
set_option maxRecDepth 100000
theorem uG{ord:List Value}{acc:Array Value}{n:Nat}(h:ItemsOf (λi v=>ord[i]?=some v) acc n)(hn:ord.length=n):acc.toList=ord:=by
 apply List.ext_getElem
 ·rw[length_toList,h.1,hn]
 ·intro i h1 h2;have e:ord[i]?=some acc[i]:=h.2 i acc[i] (getElem?_eq_getElem (by simpa using h1));rw[EV h2]at e;injection e with e;simpa using e.symm
theorem ql{a:Addr}{o:Obj}{es:Array (Int×Value)}{ep:Nat}{t:SetTable}{Q:List Value->Shared->Prop}(hh:A.handled=none)(ho:s.heap.get? a=some o)(hex:o.ExactSet)(hd:o.data=.set es ep t)(hb:es.size<scanBound)(hf:t.fits es.size=true)(ha:Asc t.place)(hl:t.led = !dZ w)
  (h:∀(ord:List Value)(s':Shared),ord.Perm (es.toList.map (·.2))->(∀b u,s.heap.get? b=some u->s'.heap.get? b=some u)->s'.gens=s.gens->s'.os=s.os->s.heap.objs.size<s'.heap.objs.size->Q ord s') :
  wpAny (model prog w) A (collect (.ref a)) Q E s:=by
 have la:a<s.heap.objs.size:=Heap.lt_size ho;unfold collect;refine wpAny_bind (wpAny_runValue (codeAny_builtin F.entry_proto_collect ?_));rw[Around.under_plainId F.plain_proto_collect _];show wpAny _ A.in1 (newList [] >>= λl=>again (.builtin "list.__iadd__" ⟨[l,.ref a],[]⟩)) _ _ s;refine wpAny_bind (wpAny_newObj_type ?_);refine wpAny_pure ⟨plainId_quiet F.plain_list_iadd _,codeAny_builtin F.entry_list_iadd ?_⟩;rw[Around.under_plainId F.plain_list_iadd _];generalize hlo:({ cls:=.type "list",data:=.seq ([]:List Value).toArray }:Obj)=lo;have g1:(s.heap.push lo).get? a=some o:=Heap.get?_push_of_some _ ho;have gS:(s.heap.push lo).get? s.heap.objs.size=some lo:=by rw[←hlo];exact Heap.get?_push_size _ U
 have hT1:Shared.TypeIs { s with heap:=s.heap.push lo } (.ref a) "set" := ⟨o,g1,hex.1⟩;show wpAny _ A.in1 (Builtin.List.listExtendWith (.ref s.heap.objs.size) (.ref a) (.ref s.heap.objs.size)) _ _ _;unfold Builtin.List.listExtendWith;refine wpAny_bind (wpAny_typeOf hT1 ?_);have h1:Builtin.List.listSameRef (.ref s.heap.objs.size) (.ref a)=false:=by simp[Builtin.List.listSameRef];exact ne_of_gt la
 have h2:(Value.type "set" == Value.type "list")=false:=by decide
 have h3:(Value.type "set" == Value.type "tuple")=false:=by decide
 simp only[h1,h2,h3,Bool.or_false,false_eq_true,if_false];refine wpAny_bind (vQ (s:={ s with heap:=s.heap.push lo }) g1 hex hd hb hf ha hl λI h' d ord fp St kp pm W st hI hfp=>?_);have g2:h'.get? a=some o:=kp a o g1;have hT2:Shared.TypeIs { s with heap:=h',drawn:=d } (.ref a) "set" := ⟨o,g2,hex.1⟩;refine wpAny_bind (wpAny_holding ?_);unfold Builtin.List.listLengthHint;refine wpAny_bind (wpAny_specialOf hT2 F.slot_set_len.lookup ?_)
 (generalize hid:("set.__len__" : String)=id0;(fail_if_success (clear hid id0));wp_delta;rw[show splitId id0=some ("set","__len__")from by subst hid;decide+kernel];subst hid)
 refine wpAny_bind (wpAny_isInstance (b:=true) hT2 sub_set_self ?_);refine wpAny_bind (wpAny_typeOf hT2 ?_);refine wpAny_pure ?_;show wpAny _ A.in1 (rule "list.extend.makes-room" >>= λ_=>Builtin.List.listTouch (.ref s.heap.objs.size) >>= λ_ =>
  again (.builtin "list.extend.loop" ⟨[.ref s.heap.objs.size,.ref I,.ref s.heap.objs.size],[]⟩)) _ _ _
 refine wpAny_bind (wpAny_rule ?_);have hS₁:h'.get? s.heap.objs.size=some lo:=kp _ _ gS;rw[←hlo]at hS₁;refine wpAny_bind ?_;show wpAny _ A.in1 (updateSeq s.heap.objs.size (·.push .none) >>= λ_=>updateSeq s.heap.objs.size (·.pop)) _ _ _;refine wpAny_bind (wpAny_updateSeq hS₁ U ?_);have hS₂:=Heap.get?_update_self (Obj.mapSeq (·.push Value.none)) hS₁ U;refine wpAny_updateSeq hS₂ U ?_;have hS₃:=Heap.get?_update_self (Obj.mapSeq (·.pop)) hS₂ U
 have oth:∀b u,b≠s.heap.objs.size->h'.get? b=some u ->
   ((h'.update s.heap.objs.size (Obj.mapSeq (·.push Value.none))).update s.heap.objs.size (Obj.mapSeq (·.pop))).get? b=some u :=
  λb u hb e=>(Heap.get?_update_other _ _ (Ne.symm hb)).trans ((Heap.get?_update_other _ _ (Ne.symm hb)).trans e)
 have sz1:(s.heap.push lo).objs.size=s.heap.objs.size+1:=Heap.size_push ..;have hSf:s.heap.objs.size ∉ fp:=λhm=>by
  rcases hfp _ hm with z|z
  ·exact ne_of_gt la z
  ·have z':(s.heap.push lo).objs.size<=s.heap.objs.size:=z;rw[sz1]at z';exact Nat.not_succ_le_self _ z'
 have hW:=W A.in1 (by simp[hh]);have hlen:ord.length=es.size:=by rw[pm.length_eq,length_map,length_toList]
 have st':=hW.frame 0 ({ s with heap:=h',drawn:=d }:Shared) ((h'.update s.heap.objs.size (Obj.mapSeq (·.push Value.none))).update s.heap.objs.size (Obj.mapSeq (·.pop))) s.toks st (le_refl _) λb hb' o' e=>oth b o' (λz=>hSf (z ▸ hb')) e
 refine wpAny_pure ⟨plainId_quiet F.plain_extend_loop _,codeAny_extend_loopS hW (by unfold scanBound at hb;unfold sizeLine;lia) _ hSf _ es.size 0 _ _ _ U (zero_le _)
  st' hS₃ (ItemsOf.nil _) λs' EJ c' hm hS' vJ=>?_⟩
 show wpAny _ A (load s.heap.objs.size >>= _) _ _ s';refine wpAny_bind (wpAny_load hS' ?_);refine wpAny_pure ?_;rw[uG vJ hlen];refine h ord s' pm (λb u e=>?_) hm.gens hm.os (Heap.lt_size hS');have hb':b<s.heap.objs.size:=Heap.lt_size e;refine hm.heap b u (λz=>?_) (oth b u (ne_of_lt hb') (kp b u (Heap.get?_push_of_some _ e)));rcases mem_cons.mp z with z|z
 ·exact ne_of_lt hb' z
 ·have z2:b=I:=by simpa using z
  have z3:(s.heap.push lo).objs.size<=I:=hI;rw[sz1,←z2]at z3;exact lt_irrefl _ (lt_of_lt_of_le hb' (Nat.le_of_succ_le z3))
def vR(h:Heap)(e T:Addr)(cls a0 fl:Value):Prop :=
 ∃oe vs oT ts,h.get? e=some oe/\(oe.cls=cls/\vs[0]?=some a0)/\oe.data=.fields vs/\vs[1]?=some (.ref T)/\T≠e/\h.get? T=some oT/\oT.data=.fields ts/\ts[3]?=some fl
inductive vS(h:Heap)(L e:Addr)(cls a0:Value):List Addr->Prop where
 |fresh {oe:Obj}{vs:Array Value}(he:h.get? e=some oe)(hc:oe.cls=cls)(hd:oe.data=.fields vs)(h1:vs[1]?=some Value.none)(h0:vs[0]?=some a0):vS h L e cls a0 []
 |fly {T:Addr}(x:vR h e T cls a0 .none):vS h L e cls a0 [T]
 |held {T:Addr}(x:vR h e T cls a0 (rawInt L)):vS h L e cls a0 [T]
section
variable{M:Model}{env:Env}{L e:Addr}{a0 cls fl:Value}{Q:Unit->Shared->Prop}{Ts:List Addr}
theorem Stp.refl(F Y:List Addr)(h:Heap):Stp F Y h h:=⟨λ_ _ _ _ q=>q,λ_ o _ q=>⟨o.slots,q⟩⟩
theorem note(hf:A.frames=some (env :: outer))(ff:s.heap.FunFrames base (env :: outer))(hL:env.frame=some L)(x:vS s.heap L e cls a0 Ts)
  (h:∀h' T',Stp (frs (env :: outer)) (e :: Ts) s.heap h'->vR h' e T' cls a0 (rawInt L)->(s.heap.get? T'=none\/T'∈Ts)->Q () { s with heap:=h' }):wpAny M A (noteFrame (.ref e) env) Q E s:=by
 cases x with
 | @fresh oe vs he hc hd h1 h0 =>
  unfold noteFrame;simp only[hL];refine wpAny_bind (wpAny_field he hd h1 ?_);rw[if_neg (by decide)];refine wpAny_entryW (base:=W.hideAll s.heap ([e]++frs (env :: outer))) hf (lX _ ff) hL he (λb o q=>W.of_hideAll _ q) (W.hideAll_none _ (by simp)) hd (Array.getElem?_eq_some_iff.mp h1).1 h0 λh' lw=>?_
  obtain⟨st,_,⟨oe',vs',T,oT,ts,t1,t2,t3,t4,t5,t6,t7,t8,t9⟩,up⟩:=lw;have qm:∀b o,b∈frs (env :: outer)->s.heap.get? b=some o->∃sl,h'.get? b=some { o with slots:=sl }:=λb o hb q=>by
   obtain⟨_,o2,q2,nf⟩:=ff.mem hb;rw[q]at q2;cases q2;exact up b o q nf
  refine h h' T ⟨λb o hb hx q=>st b o (W.hideAll_get _ q (by simp only[mem_append];exact λz=>z.elim hx hb)),qm⟩ ⟨oe',vs',oT,ts,t1,⟨t2.1.trans hc,t2.2⟩,t3,t4,t6,t7,t8,t9⟩ ?_;rcases p9 ff t5 qm t7 t8 with z|z
  ·exact .inl z
  ·exact absurd (by simpa using z) t6
 | @fly T x =>
  obtain⟨oe,vs,oT,ts,x1,x2,x3,x4,x5,x6,x7,x8⟩:=x;refine wpAny_noteFrame_onW (base:=W.hideAll s.heap ([e,T]++frs (env :: outer))) hf (lX _ ff) hL ⟨oe,vs,T,oT,ts,x1,x2,x3,x4,W.hideAll_none _ (by simp),x5,x6,x7,x8⟩ (λb o q=>W.of_hideAll _ q) (W.hideAll_none _ (by simp)) λh' lw=>?_
  obtain⟨st,_,⟨oe',vs',T',oT',ts',t1,t2,t3,t4,t5,t6,t7,t8,t9⟩,up⟩:=lw;have qm:∀b o,b∈frs (env :: outer)->s.heap.get? b=some o->∃sl,h'.get? b=some { o with slots:=sl }:=λb o hb q=>by
   obtain⟨_,o2,q2,nf⟩:=ff.mem hb;rw[q]at q2;cases q2;exact up b o q nf
  refine h h' T' ⟨λb o hb hx q=>st b o (W.hideAll_get _ q (by simp only[mem_append];exact λz=>z.elim hx hb)),qm⟩ ⟨oe',vs',oT',ts',t1,t2,t3,t4,t6,t7,t8,t9⟩ ?_;rcases p9 ff t5 qm t7 t8 with z|z
  ·exact .inl z
  ·rcases mem_cons.mp z with z|z
   ·exact absurd z t6
   ·exact .inr z
 | @held T x =>
  obtain⟨oe,vs,oT,ts,x1,x2,x3,x4,x5,x6,x7,x8⟩:=id x;exact wpAny_noteFrame_againW (base:=W.hideAll s.heap [T]) hL ⟨oe,vs,T,oT,ts,x1,x2,x3,x4,W.hideAll_none _ (by simp),x5,x6,x7,x8⟩ (h s.heap T (Stp.refl _ _ _) x (.inr (by simp)))
theorem yh{fr:Option Addr}{l:List Env}(ff:s.heap.FunFrames base l)(x:vR s.heap e T cls a0 fl)(h:∀h',Stp (frs l) [e,T] s.heap h'->vR h' e T cls a0 (fr.elim Value.none λf=>rawInt f)->Q () { s with heap:=h' }):wpAny M A (setFlight (.ref e) fr) Q E s:=by
 obtain⟨oe,vs,oT,ts,x1,x2,x3,x4,x5,x6,x7,x8⟩:=x;have sz:3<ts.size:=(Array.getElem?_eq_some_iff.mp x8).1;have oth:∀b,b≠T->(s.heap.update T (Obj.mapFields (·.setIfInBounds 3 (fr.elim Value.none λf=>rawInt f)))).get? b=s.heap.get? b:=λb hb=>Heap.get?_update_other _ _ (Ne.symm hb)
 unfold setFlight;refine wpAny_bind (wpAny_field x1 x3 x4 ?_);rw[if_pos (show(Value.ref T != Value.none)=true by simp)];refine wpAny_setField x6 x7 sz (h _ ⟨λb o hb hx q=>(oth b λz=>hx (by simp[z])).trans q,λb o hb q=>?_⟩ ⟨oe,vs,_,_,(oth e (Ne.symm x5)).trans x1,x2,x3,x4,x5,Heap.get?_update_self _ x6 (Obj.isFreed_of_fields (Obj.data_mapFields x7 _)),Obj.data_mapFields x7 _,by simp[sz]⟩);obtain⟨_,o2,q2,nf⟩:=ff.mem hb;rw[q]at q2;cases q2;exact⟨o.slots,(oth b λz=>nf ts (by rw[z,x6]at q;cases q;exact x7)).trans q⟩
end
section
variable{Y:List Addr}
theorem Inv.excStepY(I:Inv X pins σ H s)(st:Stp (frs X.stack) Y s.heap h')(nY:∀b∈Y,jU X pins H b):Inv X pins σ H { s with heap:=h' }:=by
 have uC:∀b,b≠X.env.locals->b ∉ X.fs->b ∉ frs X.stack:=λb h1 h2 z=>(mem_cons.mp (I.stkSub b z)).elim h1 h2
 have zi:∀b o,X.s₀.heap.get? b=some o->b ∉ Y:=λb o q z=>by rw[(nY b z).ent]at q;cases q
 have neL:∀b o,X.s₀.heap.get? b=some o->b≠X.env.locals:=λb o q=>ne_of_lt (lt_of_lt_of_le (Heap.lt_size q) I.ok.above)
 have any:∀b o,b ∉ Y->s.heap.get? b=some o->∃sl,h'.get? b=some { o with slots:=sl }:=λb o hy q=>by
  by_cases hF:b∈frs X.stack
  ·exact st.slot b o hF q
  ·exact⟨o.slots,st.keep b o hF hy q⟩
 have cellK:∀x c,X.env.cells.lookup x=some c->∀v,s.heap.IsCell c v->h'.IsCell c v:=λx c ec v ⟨o,ho,hd⟩=>by
  obtain⟨sl,q⟩:=any c o (λz=>(nY c z).cel x c ec U) ho;exact⟨_,q,hd⟩
 refine⟨I.ok,I.os,I.bare,⟨λb o q n hb hxx=>?_,λb o q n hb hxx=>?_,I.base.free,λb o q hxx=>?_,I.base.tups,I.base.frzs,I.base.tbls⟩,?_,λx c ec=>?_,I.free,I.freeC,λp hp=>?_,I.hok.stp st I.stkFree (λb hb=>(nY b hb).unt),I.len⟩
 ·exact st.keep b o (uC b (neL b o q) hb) (zi b o q) (I.base.keep b o q n hb hxx)
 ·obtain⟨sl,q1⟩:=I.base.slot b o q n hb hxx;obtain⟨sl2,q2⟩:=any b _ (zi b o q) q1;exact⟨sl2,q2⟩
 ·obtain⟨o1,q1⟩:=I.base.there b o q hxx;obtain⟨sl2,q2⟩:=any b _ (zi b o q) q1;exact⟨_,q2⟩
 ·obtain⟨m,⟨oL,es,ep,hoL,r⟩,hl⟩:=I.loc;obtain⟨sl,q⟩:=any X.env.locals oL (λz=>(nY _ z).loc U) hoL;refine⟨m,⟨_,es,ep,q,r⟩,λi x v e1 e2 e3=>?_⟩;obtain⟨u,ru,l⟩:=hl i x v e1 e2 e3;refine⟨u,ru,?_⟩;rcases l with l|⟨k,c,ec,z⟩
  ·exact .inl l
  ·exact .inr ⟨k,c,ec,cellK x c ec _ z⟩
 ·obtain⟨v,z⟩:=I.cell x c ec;exact⟨v,cellK x c ec v z⟩
 ·obtain⟨q,n,nL,nf,d⟩:=I.pin p hp;exact⟨st.keep p.1 p.2 (uC p.1 nL nf) (λz=>(nY _ z).pin p hp U) q,n,nL,nf,d⟩
end
def zj(X:Cx)(L:Addr)(E:XK):Value->Shared->Prop:=λev s'=>∃(e C:Addr)(a0:Value)(Ts:List Addr)(pins:List (Addr×Obj))(σ:St)(H':Hp),ev=.ref e/\Inv X pins σ H' s'/\vS s'.heap L e (.ref C) a0 Ts/\(∀b∈e :: Ts,jU X pins H' b)/\E (.ref C) none H'
theorem kB{X:Cx}{L:Addr}{E:XK}(hst:X.stack=X.env :: X.outer)(hfr:X.env.frame=some L)(hx:X.ex=[]):PassesOwn (model X.prog X.w) X.A X.env (zj X L E):=by
 rintro ev s1 ⟨e,C,a0,Ts,pins,σ,H,rfl,I,x,ny,q⟩;have fr1:X.A.frames=some (X.env :: X.outer):=by rw[←hst];exact I.ok.frames
 have ff1:s1.heap.FunFrames X.base (X.env :: X.outer):=by rw[←hst];exact I.stack
 refine note fr1 ff1 hfr x λh2 T st x2 hT=>?_
 rw[←hst]at st;have I2:=I.excStepY st ny;have nT:jU X pins H T:=by
  rcases hT with z|z
  ·exact I.newAt hx z
  ·exact ny T (mem_cons_of_mem e z)
 have n2:∀b∈[e,T],jU X pins H b:=λb hb=>by
  rcases mem_cons.mp hb with z|z
  ·rw[z];exact ny e mem_cons_self
  ·rw[show b=T by simpa using z];exact nT
 show wpAny (model X.prog X.w) X.A (do
  if (←field (.ref e) 1) == .none then unsupported "frame.own-activation:exception-without-traceback"
  setFlight (.ref e) X.env.frame) _ _ { s1 with heap:=h2 }
 obtain⟨oe,vs,oT,ts,y1,y2,y3,y4,y5,y6,y7,y8⟩:=id x2;refine wpAny_bind (wpAny_field (s:={ s1 with heap:=h2 }) y1 y3 y4 ?_);rw[if_neg (show ¬ (Value.ref T == Value.none)=true by simp)];show wpAny (model X.prog X.w) X.A (setFlight (.ref e) X.env.frame) _ _ _;rw[hfr];refine yh (s:={ s1 with heap:=h2 }) (l:=X.stack) I2.stack x2 λh3 st3 x3=>?_
 exact⟨e,C,a0,[T],pins,σ,H,U,I2.excStepY st3 n2,.held x3,n2,q⟩
section
variable{qual:Str}{cd:Value}{s0:Shared}{H0:Hp}{E:XK}
abbrev cxE(P:Program)(w:World)(K:W.Frag)(mg:Str->Option Value)(base:Heap)(N:List Str)(qual:Str)(scope:Scope)(f:Addr)(cd:Value)(A:Around)(outer:List Env)(s0:Shared)(H0:Hp)(E:XK):Cx :=
 (ji (CX1 P w) P w K mg base N qual scope f cd A outer s0 H0 E).wish (zj (ji (CX1 P w) P w K mg base N qual scope f cd A outer s0 H0 E) s0.heap.objs.size E)
theorem uH{ev:Value}{s:Shared}(h:zj (ji (CX1 P w) P w K mg base N qual scope f cd A outer s0 H0 E) s0.heap.objs.size E ev s):(ji (CX1 P w) P w K mg base N qual scope f cd A outer s0 H0 E).xe ev s:=by
 obtain⟨e,C,a0,Ts,pins,σ,H,rfl,I,x,ny,q⟩:=h;have fr1:(ji (CX1 P w) P w K mg base N qual scope f cd A outer s0 H0 E).A.frames=some (envOfC qual scope s0.heap.objs.size f cd :: outer):=I.ok.frames;have hL:(envOfC qual scope s0.heap.objs.size f cd).frame=some s0.heap.objs.size:=rfl;show wpAny (model P w) _ (leaving (envOfC qual scope s0.heap.objs.size f cd) (.ref e)) _ _ s;unfold leaving;refine wpAny_bind (note fr1 I.stack hL x λh2 T st x2 hT=>?_);have I2:=I.excStepY st ny;have nT:jU (ji (CX1 P w) P w K mg base N qual scope f cd A outer s0 H0 E) pins H T:=by
  rcases hT with z|z
  ·exact I.newAt U z
  ·exact ny T (mem_cons_of_mem e z)
 have ne:=ny e mem_cons_self;have n2:∀b∈[e,T],jU (ji (CX1 P w) P w K mg base N qual scope f cd A outer s0 H0 E) pins H b:=λb hb=>by
  rcases mem_cons.mp hb with z|z
  ·rw[z];exact ne
  ·rw[show b=T by simpa using z];exact nT
 refine yh (s:={ s with heap:=h2 }) (l:=envOfC qual scope s0.heap.objs.size f cd :: outer) I2.stack x2 λh3 st3 x3=>?_
 refine⟨e,T,C,a0,H,U,I2.os,I2.bare,I2.base.stp st3 (λb o q hb=>?_) (λb hb=>?_) (λb hb=>(n2 b hb).ent),I2.hok.stp st3 I2.stkFree (λb hb=>(n2 b hb).unt),x3,ne.ent,nT.ent,ne.unt,nT.unt,q⟩
 ·rcases mem_cons.mp (I2.stkSub b hb)with z|z
  ·exact absurd (lt_of_lt_of_le (Heap.lt_size q) I2.ok.above) (by rw[z];exact lt_irrefl _)
  ·exact z
 ·show b∈frs (envOfC qual scope s0.heap.objs.size f cd :: outer);unfold frs;rw[filterMap_cons];exact mem_cons_of_mem _ hb
theorem PSs.leaves{st:List Stmt}{t:TS}(h:PSs (cxE P w K mg base N qual scope f cd A outer s0 H0 E) st t):PSs (ji (CX1 P w) P w K mg base N qual scope f cd A outer s0 H0 E) st t:=λpins s σ H D I hw =>
 wpAny_mono (h pins s σ H D (I.wish _) hw) (λ_ _ q=>q.unwish) λ_ _ z=>uH z
theorem Fun.okE{x:Str}{st:Stmt}{fd:FuncData}{ps:List Str}{k:Nat}{sp:Sp}(F:Fun K x qual st f fd)(S:aw N ps (aj st))(len:∀vs H Q E,sp vs H Q E->vs.length=ps.length)
  (jQ:∀(cdv:Value)(A:Around)(outer:List Env)(s:Shared)(H:Hp)(vs:List V)(Q:VK)(E:XK),cb k (A.deeper (envOfC qual (aj st) s.heap.objs.size f cdv))->sp vs H Q E ->
   ∃t,PSs (cxE P w K mg base N qual (aj st) f cdv A outer s H E) (fq st) t/\t { nx:=λ_ H'=>Q .non H',rt:=Q } (start N vs) H):aN P w K mg base (CX1 P w) (k+1) f fd ps sp:=by
 obtain⟨oc,od,kV,doc,pm,an,cdv,ct,osl,rfl,lk,hcd⟩:=F.ex;refine yc lk hcd S len λA outer s H vs Q E hr hsp=>?_
 obtain⟨t,h,q⟩:=jQ cdv A outer s H vs Q E hr hsp;exact⟨t,h.leaves,q⟩
theorem uI{x:Str}{C:Addr}{np dD pos:Pos}{e₀:Expr}{es:List Expr}{t:TA}(X:ExcCls K C)(hd:A.handled=none)(hg:Gl (cxE P w K mg base N qual scope f cd A outer s0 H0 E) x)(hm:mg x=some (.ref C))
  (ha:PA (cxE P w K mg base N qual scope f cd A outer s0 H0 E) (e₀ :: es) t)(hdb:(x == ("__debug__" : Str))=false:=by decide)
  (he:starEach (e₀ :: es) (envOfC qual scope s0.heap.objs.size f cd)=(false,eval e₀ (envOfC qual scope s0.heap.objs.size f cd)) :: starEach es (envOfC qual scope s0.heap.objs.size f cd):=by rfl)
  (hpl:(backTo dD (starEach es (envOfC qual scope s0.heap.objs.size f cd))).any (·.1)=false:=by rfl) :
  PS (cxE P w K mg base N qual scope f cd A outer s0 H0 E) (.Raise (some (.Call (.Name x np) (e₀ :: es) [] dD)) none pos) (zd C E t):=by
 intro pins s σ H D I h;obtain⟨bmB,bmN,newId,B,Bn,nid,vM,inN,hx,F1,F2,F3⟩:=X.ex;obtain⟨bm,N',nm,q,bs,hdct,sn,sub,ab,col,dd,k0,k1,k2,k3,k5,mN,o1,o2,o3,o4⟩:=ExcCls.obj I.ok.mod.kin hx;refine wpAny_Raise_call_subU (C:=C) (nm:=nm) (q:=q) (N:=N') (bs:=bs) (bm:=bm) (hdct:=hdct) (sn:=sn) (sub:=sub) (ab:=ab) (col:=col) (dd:=dd) (k0:=k0) (k1:=k1) (k2:=k2) (k3:=k3) (k5:=k5) F1 F2 F3 (OwnTail.hasType o4 F3.hasBase) hd (by
  show(backTo dD (starEach (e₀ :: es) (envOfC qual scope s0.heap.objs.size f cd))).any (·.1)=false;rw[he];show(false || (backTo dD (starEach es (envOfC qual scope s0.heap.objs.size f cd))).any (·.1))=false;rw[hpl];rfl) (mN:=mN) o3 (gj I hg hm ⟨U,?_⟩ hdb)
 show wpAny _ _ (evalArgs (.ref C) true (backTo dD (starEach (e₀ :: es) (envOfC qual scope s0.heap.objs.size f cd))) []) _ _ s;rw[he];refine Calls.evalArgs_plain ?_;have z:wpAny (model P w) (cxE P w K mg base N qual scope f cd A outer s0 H0 E).A (spliced (backTo dD (starEach (e₀ :: es) (envOfC qual scope s0.heap.objs.size f cd)))) _ _ s:=ha dD pins s σ H _ I h;rw[he]at z;refine thn z λus s2 ⟨vs,H2,I2,r,hl,q2⟩=>⟨U,by rw[←r.length];exact hl,?_⟩
 refine⟨I2.bk C _ o1,?_,o4.keeps I2.bk,λh' e m=>?_⟩
 ·obtain⟨o,es',ep,g1,g2⟩:=o2;exact⟨o,es',ep,I2.bk _ _ g1,g2⟩
 ·have J:=I2.unwish;obtain⟨t',he',_,_⟩:=m.there;refine⟨e,C,.ref t',[],pins,σ,H2,U,J.kept (t':=s2.toks) m.keeps,.fresh he' U U U U,λb hb=>?_,q2⟩;rw[show b=e by simpa using hb];exact J.newAt U m.new
theorem nQ:Passes (CX1 P w) (cxE P w K mg base N qual scope f cd A outer s0 H0 E) E:=λpins σ H s ev s' I h=>by
 obtain⟨e,T,C,a0,H',rfl,J,x,ne,nT,q⟩:=(I.unwish).afterX (EX:=λC H'=>E (.ref C) none H') U (λ_ _ z=>z) h;refine⟨e,C,a0,[T],pins,σ,H',U,J,.fly x,λb hb=>?_,q⟩;rcases mem_cons.mp hb with z|z
 ·rw[z];exact ne
 ·rw[show b=T by simpa using z];exact nT
end
inductive vT(K:W.Frag)(x:V)(vs:List V)(H:Hp)(Q:VK):Prop
 |mk (p:Addr)(xs:List V)(y z:V)(j:Nat)(_:x=.ref p)(_:vs=[y])(_:SqL K H p xs)(_:bY y=true)(_:xs.all bY=true)(_:xs[j]?=some z)(_:eqV z y=true)(_:(∀(m:Nat)(u:V),m<j->xs[m]?=some u->eqV u y=false))(_:Q (.int j) H):vT K x vs H Q
theorem vU:MtM X "list.index" (vT X.K):=by
 intro pins s σ H x vs v us Q I rx rv h;obtain⟨p,xs,y,z,j,rfl,rfl,hS,fy,fs,ez,hz,hno,q⟩:=h;obtain rfl:v=Value.ref p:=rx;obtain⟨u,rfl,ru⟩:=rv.one;obtain⟨its,r,pl,hsz⟩:=I.list hS;have hl:=r.length;have hj:j<xs.length:=(EW.mp ez).1;have hle:xs.length<2^62:=lt_of_le_of_lt hsz (by decide);obtain⟨⟨c1,c2,c3,c4⟩,ho,hc,n,hd⟩:=pl.isList;dsimp only at hc hd;subst hc hd;have at_:∀(m:Nat)(hm:m<its.toArray.size)(w:V),xs[m]?=some w->bY w=true->eqU y its.toArray[m]=eqV w y:=λm hm w e f=>by
  obtain⟨t,e1,e2⟩:=r.get e;have:its.toArray[m]=t:=by
   have h2:its[m]?=some its.toArray[m]:=by
    have:m<its.length:=by simpa using hm
    simp
   rw[h2]at e1;exact Option.some.inj e1
  rw[this];exact rm e2 f
 have fl:∀(m:Nat)(w:V),xs[m]?=some w->bY w=true:=λm w e=>all_eq_true.mp fs w (EY e)
 refine call_meets PySem.F.slot_list_index ⟨_,ho,U⟩ PySem.F.entry_list_index (PySem.F.args_list_index_2 _ _) (SeqAt.list_indexAt p its.toArray n c2 c4 u (eqU y) j (by simpa[←hl]using hj) (by lia) ?_ λm hm hlt=>?_) ⟨ho,λt ht=>fV ru fy r fs t (by simpa using ht),⟨.int j,H,I.tok _,⟨_,U⟩,q⟩⟩
 ·rw[at_ j _ z ez (fl j z ez)];exact hz
 ·have e:xs[m]?=some xs[m]:=EV (by lia);rw[at_ m hm _ e (fl m _ e)];exact hno m _ hlt e
theorem fI:cw X (.builtin "len") (λxs H Q=>∃(l:Addr)(zs:List Str),xs=[.ref l]/\H l=some (lj X.prog X.w l zs)/\zs.length<=1000/\Q (.int ((cntK zs zs.length:Nat):Int)) H):=by
 intro pins s σ H xs us Q I r h;obtain⟨l,zs,rfl,e,hz,q⟩:=h;obtain⟨u,rfl,ru⟩:=r.one;obtain rfl:u=Value.ref l:=ru;obtain⟨⟨o,es,ep,t,g1,g2,g3,_,_,_,g4,g5⟩,_,_⟩:=I.hok l _ e;have le:=jW zs zs.length;refine call_len_set g1 g2 g3 g4 (by rw[g5];lia) ⟨.int _,H,I.tok _,⟨_,U⟩,?_⟩;rw[g5];exact q
def Cf(sp:Sp)(E:XK)(t:TA):TE:=λσ H Q=>t σ H λvs H1=>sp vs H1 Q E
section
variable{k:Nat}{E:XK}
theorem eU(M:bK X.prog X.w X.K X.mg X.base k x ps sp)(hx:Passes (CX1 X.prog X.w) X E)(hr:cb k X.A)(hg:Gl X x)(ha:PA X (e :: es) t)(hdb:(x == ("__debug__" : Str))=false:=by decide)
  (he:starEach (e :: es) X.env=(false,eval e X.env) :: starEach es X.env:=by rfl)(hpl:(backTo pos (starEach es X.env)).any (·.1)=false:=by rfl):PE X (.Call (.Name x p) (e :: es) [] pos) (Cf sp E t):=by
 obtain⟨f,fd,F,b,kk,hm⟩:=M;intro pins s σ H Q I h;refine wpAny_Call_Name_kw (gj I hg hm ?_ hdb);refine W.callWith_K (h₀:=X.base) I.ok.mod.kin kk (thn (ha pos pins s σ H _ I h) λus s1 ⟨vs,H1,I1,r,q⟩=>⟨I1.kIn,xn F hr b hx I1 r q⟩) he hpl
end
theorem jl:∀{ns:List Int}{us:List Value},Vals (ns.map V.int) us->∃xs:List (Int×Tok),us.toArray=intItems xs.toArray/\ns=xs.map (·.1)
 | [],_,.nil=>⟨[],by simp[intItems],U⟩
 |n :: ns,_,.cons ⟨t,e⟩ r=>by
  obtain⟨xs,e1,e2⟩:=jl r;refine⟨(n,t) :: xs,?_,by rw[e2];rfl⟩;subst e;have e1':=congrArg Array.toList e1;simp[intItems]at e1'⊢;exact e1'
theorem nR{xs:Array (Int×Tok)}{i:Nat}(h:i<xs.size):numAt xs i∈xs.toList.map (·.1):=by
 rw[numAt_eq];exact getD_mem (by rw[length_map,length_toList];lia)
theorem fJ(hc:X.calm=true):cw X (.builtin "min") (λus H Q=>∃(a:Addr)(ns:List Int),us=[.ref a]/\SqL X.K H a (ns.map V.int)/\0<ns.length/\∀m,m∈ns->(∀b∈ns,m<=b)->Q (.int m) H):=by
 intro pins s σ H us vs Q I r h;obtain⟨a,ns,rfl,hq,hne,q⟩:=h;obtain⟨u,rfl,rx⟩:=r.one;cases (show u=Value.ref a from rx);obtain⟨its,rv,pl,hz⟩:=I.list hq;obtain⟨xs,e1,e2⟩:=jl rv;have hl:=pl.isList;rw[e1]at hl;have hsz:0<xs.toArray.size:=by
  rw[e2,length_map]at hne;simpa using hne
 refine min_intList (I.ok.hd hc) hl hsz λv h' tk hv hk=>?_
 obtain⟨t,rfl⟩:=intItems_at hv;obtain⟨h1,h2⟩:=argBest_lt (numAt xs.toArray) (xs.toArray.size-1);refine⟨.int _,H,I.kept (t':=tk) λb o e=>hk b o e,⟨t,U⟩,q _ ?_ λb hb=>?_⟩
 ·rw[e2];exact nR (xs:=xs.toArray) (by lia)
 ·rw[e2]at hb;obtain⟨j,hj,rfl⟩:=mem_getD hb;rw[length_map]at hj;have z:=h2 j (by simp;lia);rw[numAt_eq]at z⊢;rw[numAt_eq]at z;simpa using z
theorem fK(hc:X.calm=true):cw X (.builtin "max") (λus H Q=>∃(a:Addr)(ns:List Int),us=[.ref a]/\SqL X.K H a (ns.map V.int)/\0<ns.length/\∀m,m∈ns->(∀b∈ns,b<=m)->Q (.int m) H):=by
 intro pins s σ H us vs Q I r h;obtain⟨a,ns,rfl,hq,hne,q⟩:=h;obtain⟨u,rfl,rx⟩:=r.one;cases (show u=Value.ref a from rx);obtain⟨its,rv,pl,hz⟩:=I.list hq;obtain⟨xs,e1,e2⟩:=jl rv;have hl:=pl.isList;rw[e1]at hl;have hsz:0<xs.toArray.size:=by
  rw[e2,length_map]at hne;simpa using hne
 refine max_intList (I.ok.hd hc) hl hsz λv h' tk hv hk=>?_
 obtain⟨t,rfl⟩:=intItems_at hv;obtain⟨h1,h2⟩:=argBest_gt (numAt xs.toArray) (xs.toArray.size-1);refine⟨.int _,H,I.kept (t':=tk) λb o e=>hk b o e,⟨t,U⟩,q _ ?_ λb hb=>?_⟩
 ·rw[e2];exact nR (xs:=xs.toArray) (by lia)
 ·rw[e2]at hb;obtain⟨j,hj,rfl⟩:=mem_getD hb;rw[length_map]at hj;have z:=h2 j (by simp;lia);rw[numAt_eq]at z⊢;rw[numAt_eq]at z;simpa using z
def xq(P:Program)(w:World)(a:Addr)(ns:List Int):HO:=.ext λh=>h.SetOf (intKind P w) a (λz=>decide (z∈ns)) (cntK ns ns.length)
theorem md:∀{zs:List Int}{us:List Value},Vals (zs.map V.int) us->∀(i:Nat)(v:Value),us[i]?=some v->∃z t,zs[i]?=some z/\v=.int z t
 | [],_,.nil,i,v,h=>by simp at h
 |z :: zs,_,.cons ⟨t,e⟩ r,0,v,h=>by simp at h;exact⟨z,t,U,by rw[←h,e]⟩
 |z :: zs,_,.cons _ r,i+1,v,h=>by
  obtain⟨z',t,e1,e2⟩:=md r i v (by simpa using h);exact⟨z',t,by simpa using e1,e2⟩
theorem mZ(hc:X.calm=true):cw X (.type "set") (λxs H Q=>∃(p:Addr)(zs:List Int),xs=[.ref p]/\SqL X.K H p (zs.map V.int)/\zs.length<=1000/\∀l,H l=none->Q (.ref l) (upd H l (xq X.prog X.w l zs))):=by
 intro pins s σ H xs us Q I r h;obtain⟨p,zs,rfl,hS,hz,q⟩:=h;obtain⟨u,rfl,ru⟩:=r.one;obtain rfl:u=Value.ref p:=ru;obtain⟨its,rv,pl,_⟩:=I.list hS;have hl:=rv.length;rw[length_map]at hl;refine nK (knd:=intKind X.prog X.w) (ks:=zs) (I.ok.hd hc) pl.isList (λi v e=>?_) (by simpa using hl) (by unfold scanBound;simp;lia) λh' tk x=>?_
 ·obtain⟨z,t,e1,rfl⟩:=md rv i v (by simpa using e);exact⟨z,e1,by show Value.isInt z (.int z t)=true;simp[Value.isInt],U⟩
 ·obtain⟨x1,x2⟩:=x;refine⟨.ref s.heap.objs.size,_,I.laid (a:=s.heap.objs.size) (o:=xq X.prog X.w s.heap.objs.size zs) (h':=h') (t':=tk) (λb o q=>x2 b o (Heap.lt_size q) q) (le_refl _) ?_,U,q _ I.fresh⟩;refine⟨x1,?_,λh1 h2 y k=>gq y k⟩;obtain⟨o,_,_,_,g,_⟩:=x1;exact⟨o,g⟩
theorem m4:cw X (.builtin "len") (λxs H Q=>∃(l:Addr)(zs:List Int),xs=[.ref l]/\H l=some (xq X.prog X.w l zs)/\zs.length<=1000/\Q (.int ((cntK zs zs.length:Nat):Int)) H):=by
 intro pins s σ H xs us Q I r h;obtain⟨l,zs,rfl,e,hz,q⟩:=h;obtain⟨u,rfl,ru⟩:=r.one;obtain rfl:u=Value.ref l:=ru;obtain⟨⟨o,es,ep,t,g1,g2,g3,_,_,_,g4,g5⟩,_,_⟩:=I.hok l _ e;have le:=jW zs zs.length;refine call_len_set g1 g2 g3 g4 (by rw[g5];lia) ⟨.int _,H,I.tok _,⟨_,U⟩,?_⟩;rw[g5];exact q
theorem qo{κ:Type} [DecidableEq κ] {k:κ}{ks:List κ}:∀i,i<=ks.length->1<=cntK (k :: ks) (i+1)/\(cntK (k :: ks) (i+1)=1↔∀x∈ks.take i,x=k)
 |0,_=>by simp[cntK]
 |i+1,h=>by
  obtain⟨h1,h2⟩:=qo (k:=k) (ks:=ks) i (by lia);have e:(k :: ks)[i+1]?=some ks[i]:=by simp
  have e':ks[i]?=some ks[i]:=EV (by lia);have et:ks.take (i+1)=ks.take i++[ks[i]]:=by rw[take_add_one,e'];rfl
  have e2:(k :: ks).take (i+1)=k :: ks.take i:=rfl;rw[show cntK (k :: ks) (i+1+1)=match (k :: ks)[i+1]? with
   |some x=>if x∈(k :: ks).take (i+1)then cntK (k :: ks) (i+1)else cntK (k :: ks) (i+1)+1
   |none=>cntK (k :: ks) (i+1)from U,e,et,e2]
  dsimp only;by_cases m:ks[i]∈k :: ks.take i
  ·rw[if_pos m];refine⟨h1,h2.trans ⟨λz x hx=>?_,λz x hx=>z x (mem_append_left _ hx)⟩⟩;rcases mem_append.mp hx with hx|hx
   ·exact z x hx
   ·have:x=ks[i]:=by simpa using hx
    rw[this];rcases mem_cons.mp m with m|m
    ·exact m
    ·exact z _ m
  ·rw[if_neg m];refine⟨by lia,⟨λz=>absurd z (by lia),λz=>?_⟩⟩;exact absurd (z ks[i] (mem_append_right _ (by simp))) λq=>m (by rw[q];exact mem_cons_self)
theorem nS{κ:Type} [DecidableEq κ] {k:κ}{ks:List κ}:cntK (k :: ks) (k :: ks).length=1↔∀x∈ks,x=k:=by
 have:=(qo (k:=k) (ks:=ks) ks.length (le_refl _)).2;rw[take_length]at this;exact this
def TyG(K:W.Frag)(H:Hp)(x:V)(t:Value):Prop:=ku K H x t\/∃a ys,x=.ref a/\SqT K H a ys/\t=.type "tuple"
inductive ClV:V->Value->Prop where
 |ty (T:String):ClV (.ty T) (.type T)
 |ref (C:Addr):ClV (.ref C) (.ref C)
theorem dH:cw X (.builtin "isinstance") (λxs H Q=>∃x c cv t b,xs=[x,c]/\ClV c cv/\TyG X.K H x t/\W.kitOne X.K t cv=some b/\Q (.bl b) H):=by
 intro pins s σ H xs us Q I r h;obtain⟨x,c,cv,t,b,rfl,rc,ty,e,q⟩:=h;cases r with
 |cons rx r2 =>
  cases r2 with
  | @cons _ cu _ _ ry r3 =>
   cases r3;have ec:cu=cv:=by cases rc <;> exact ry
   subst ec;rcases ty with ty|⟨a,ys,rfl,hS,rfl⟩
   ·exact ur I rx ty e λtk=>⟨.bl b,H,I.tok tk,U,q⟩
   ·cases (show _=Value.ref a from rx);obtain⟨its,r,⟨o,h1,h2,_⟩,_⟩:=I.tuple hS;exact W.kia_one W.kitx_tuple I.kIn ⟨o,h1,h2⟩ e (λz=>nomatch z) λtk=>⟨.bl b,H,I.tok tk,U,q⟩
structure lq(K:W.Frag)(C:Addr):Prop where
 cl:Cls K C
 ha:W.findIn K (.ref C) "__class__" = some (some (.builtin "object.__class__"))
 hn:W.specialIn K (.builtin "object.__class__") "__get__" = some (some (.builtin "getset_descriptor.__get__"))
 tk:W.takesIn K (.builtin "object.__class__")=some true
 hm:W.mroIn K C (.type "object")=some true
theorem lq.ty{K:W.Frag}{C:Addr}(h:lq K C){H:Hp}{a dx:Addr}{fs:List (Str×V)}(e:H a=some (.ins C dx fs)):TyG K H (.ref a) (.ref C):=.inl (.ins e h.cl h.ha h.hn h.tk h.hm)
def xr(CX:CXT)(P:Program)(w:World)(K:W.Frag)(mg:Str->Option Value)(base:Heap)(k:Nat)(m:Str)(ps:List Str)(cs:List (Addr×Sp)):Prop :=
 ∀p∈cs,aX CX P w K mg base k p.1 m ps p.2/\Cls K p.1
section
variable{k:Nat}{cs:List (Addr×Sp)}
theorem zk:xr CX P w K mg base k m ps []:=λ_ h=>nomatch h
theorem m5(M:aX CX P w K mg base k C m ps sp)(c:Cls K C)(r:xr CX P w K mg base k m ps cs):xr CX P w K mg base k m ps ((C,sp) :: cs):=λp h=>by
 rcases mem_cons.mp h with rfl|h
 ·exact⟨M,c⟩
 ·exact r p h
end
inductive yi(cs:List (Addr×Sp))(m:Str)(t:TA)(σ:St)(Q:VK)(x:V)(H1:Hp):Prop
 |mk (a p dx fs:_)(_:x=.ref a)(_:p∈cs)(_:H1 a=some (.ins p.1 dx fs))(_:fs.lookup m=none)(_:t σ H1 λvs H2=>p.2 (x :: vs) H2 Q E0):yi cs m t σ Q x H1
def Cg(cs:List (Addr×Sp))(m:Str)(ta:TE)(t:TA):TE:=λσ H Q=>ta σ H λx H1=>yi cs m t σ Q x H1
section
variable{k:Nat}{cs:List (Addr×Sp)}
theorem rL{pl:Sem Bool}(M:xr CX X.prog X.w X.K X.mg X.base k m ps cs)(hx:Passes CX X E0)(hr:cb k X.A)(he:PE X o ta)(ha:PA X (e :: es) t)
  (hst:starEach (e :: es) X.env=(false,eval e X.env) :: starEach es X.env:=by rfl)(hpl:(backTo pos (starEach es X.env)).any (·.1)=false:=by rfl)
  (ht:eval (.Call (.Attribute o m apos) (e :: es) [] pos) X.env=(do
   let ov ←eval o X.env
   standAt apos.atName
   let (f,first) ←holding [ov] (getMethod ov m pl)
   callWith pos f first (backTo pos (starEach (e :: es) X.env)) (backToKw pos (keywordEach [] X.env))):=by rfl) :
  PE X (.Call (.Attribute o m apos) (e :: es) [] pos) (Cg cs m ta t):=by
 intro pins s σ H Q I h;refine W.methodCall_KW (pl:=pl) (thn (he pins s σ H _ I h) λu s1 ⟨x,H1,I1,rx,a,p,dx,fs,ex,hp,ea,l,q⟩=>?_) ht;obtain⟨⟨f,fd,hm,F,hb⟩,c⟩:=M p hp;subst ex;obtain rfl:u=Value.ref a:=rx;refine lO I1 ea c hm l ?_;refine W.callWith_K (first:=[.ref a]) (h₀:=X.base) I.ok.mod.kin hm.kp (thn (ha pos pins s1 σ H1 _ I1 q) λus s2 ⟨vs,H2,I2,r,q2⟩=>⟨I2.kIn,?_⟩) hst hpl;exact xn (us:=.ref a :: us) (vs:=.ref a :: vs) F hr hb hx I2 (.cons U r) q2
theorem kC(M:bA CX X.prog X.w X.K X.mg X.base k x C ps sp)(hx:Passes CX X E0)(hr:cb (k+1) X.A)(hg:Gl X x)(hdb:(x == ("__debug__" : Str))=false:=by decide) :
  PE X (.Call (.Name x p) [] [] pos) (tMk C sp yU):=by
 obtain⟨f,fd,M,F,hb,hm⟩:=M;have h:=vB (E:=E0) (dvs:=[]) (ds:=[]) (p:=p) (pos:=pos) M F hr hg hm hb .nil hx hdb;intro pins s σ H Q I q;exact h pins s σ H Q I q
end
def ModT(K:W.Frag)(a:Addr)(xs:List V):Prop:=∃(o:Obj)(its:Array Value)(n:Nat),K.lookup a=some o/\o.cls=.type "tuple" /\ o.data=.seq its n/\its.size<=sizeLine/\Vals xs its.toList
theorem ModT.sq{K:W.Frag}{a:Addr}{xs:List V}(h:ModT K a xs)(H:Hp):SqT K H a xs:=.inr h
theorem ModT.mk{K:W.Frag}{a:Addr}{xs:List V}{od:Option Addr}{its:Array Value}{n:Nat}{sl:Array (Option Value)}(h:K.lookup a=some ⟨.type "tuple",od,.seq its n,sl⟩) (hs:its.size<=sizeLine)(hv:Vals xs its.toList):ModT K a xs :=
 ⟨_,its,n,h,U,U,hs,hv⟩
theorem ao.seqT{K:W.Frag}{H H':Hp}{a:Addr}{xs:List V}(e:ao H H')(h:SqT K H a xs):SqT K H' a xs:=by
 rcases h with(h|⟨o,h⟩)|h
 ·exact .inl (.inl (e _ _ h))
 ·exact .inl (.inr ⟨o,e _ _ h⟩)
 ·exact .inr h
theorem uJ{K:W.Frag}{H:Hp}{Q:VK}{a b:Addr}{xs:List V}(ha:SqL K H a xs)(hb:SqL K H b xs)(fl:∀x∈xs,bY x=true\/∃r,x=.ref r)(q:Q (.bl true) H):vH K false (.ref a) (.ref b) H Q:=by
 refine⟨a,b,xs,xs,U,U,ha,hb,.inr ⟨U,λ_=>true,λj x y e1 e2=>?_,?_⟩⟩
 ·rw[e1]at e2;cases e2;rcases fl x (EY e1)with z|⟨r,rfl⟩
  ·have:=EqI.flat (K:=K) (H:=H) z z;rw[ia z]at this;exact this
  ·exact .same r
 ·have:(List.range xs.length).all (λ_=>true)=true:=by simp
  rw[this];exact q
theorem eA{c A B:Prop} [Decidable c] (hc:c)(h:A):if decide c=true then A else B:=by rw[if_pos (decide_eq_true hc)];exact h
theorem bR{c A B:Prop} [Decidable c] (hc:¬ c)(h:B):if decide c=true then A else B:=by rw[if_neg (by rw[decide_eq_false hc];decide)];exact h
theorem ls0{P:List Value->Prop}(h:P []):∀us:List Value,us.length=0->P us:=λus e=>by
 cases us
 ·exact h
 ·cases e
theorem lsS{P:List Value->Prop}{n:Nat}(h:∀a us,us.length=n->P (a :: us)):∀us:List Value,us.length=n+1->P us:=λus e=>by
 cases us
 ·cases e
 ·exact h _ _ (Nat.succ.inj e)
theorem ls1{P:List Value->Prop}(h:∀a,P [a]):∀us:List Value,us.length=1->P us:=lsS λa=>ls0 (P:=λv=>P (a :: v)) (h a)
theorem ls2{P:List Value->Prop}(h:∀a b,P [a,b]):∀us:List Value,us.length=2->P us:=lsS λa=>ls1 (P:=λv=>P (a :: v)) (h a)
theorem ls3{P:List Value->Prop}(h:∀a b c,P [a,b,c]):∀us:List Value,us.length=3->P us:=lsS λa=>ls2 (P:=λv=>P (a :: v)) (h a)
theorem ls4{P:List Value->Prop}(h:∀a b c d,P [a,b,c,d]):∀us:List Value,us.length=4->P us:=lsS λa=>ls3 (P:=λv=>P (a :: v)) (h a)
theorem ls5{P:List Value->Prop}(h:∀a b c d e,P [a,b,c,d,e]):∀us:List Value,us.length=5->P us:=lsS λa=>ls4 (P:=λv=>P (a :: v)) (h a)
theorem ls6{P:List Value->Prop}(h:∀a b c d e f,P [a,b,c,d,e,f]):∀us:List Value,us.length=6->P us:=lsS λa=>ls5 (P:=λv=>P (a :: v)) (h a)
theorem ls7{P:List Value->Prop}(h:∀a b c d e f g,P [a,b,c,d,e,f,g]):∀us:List Value,us.length=7->P us:=lsS λa=>ls6 (P:=λv=>P (a :: v)) (h a)
theorem lb1{fd:FuncData}{ps:List Str}(h:∀a,bindArgs fd ⟨[a],[]⟩=pure (ps.zip [a])):∀us:List Value,us.length=1->bindArgs fd ⟨us,[]⟩=pure (ps.zip us):=ls1 (P:=λus=>bindArgs fd ⟨us,[]⟩=pure (ps.zip us)) h
theorem lb2{fd:FuncData}{ps:List Str}(h:∀a b,bindArgs fd ⟨[a,b],[]⟩=pure (ps.zip [a,b])):∀us:List Value,us.length=2->bindArgs fd ⟨us,[]⟩=pure (ps.zip us):=ls2 (P:=λus=>bindArgs fd ⟨us,[]⟩=pure (ps.zip us)) h
theorem lb3{fd:FuncData}{ps:List Str}(h:∀a b c,bindArgs fd ⟨[a,b,c],[]⟩=pure (ps.zip [a,b,c])):∀us:List Value,us.length=3->bindArgs fd ⟨us,[]⟩=pure (ps.zip us):=ls3 (P:=λus=>bindArgs fd ⟨us,[]⟩=pure (ps.zip us)) h
theorem lb4{fd:FuncData}{ps:List Str}(h:∀a b c d,bindArgs fd ⟨[a,b,c,d],[]⟩=pure (ps.zip [a,b,c,d])):∀us:List Value,us.length=4->bindArgs fd ⟨us,[]⟩=pure (ps.zip us):=ls4 (P:=λus=>bindArgs fd ⟨us,[]⟩=pure (ps.zip us)) h
theorem lb5{fd:FuncData}{ps:List Str}(h:∀a b c d e,bindArgs fd ⟨[a,b,c,d,e],[]⟩=pure (ps.zip [a,b,c,d,e])):∀us:List Value,us.length=5->bindArgs fd ⟨us,[]⟩=pure (ps.zip us):=ls5 (P:=λus=>bindArgs fd ⟨us,[]⟩=pure (ps.zip us)) h
theorem lb7{fd:FuncData}{ps:List Str}(h:∀a b c d e f g,bindArgs fd ⟨[a,b,c,d,e,f,g],[]⟩=pure (ps.zip [a,b,c,d,e,f,g])):∀us:List Value,us.length=7->bindArgs fd ⟨us,[]⟩=pure (ps.zip us):=ls7 (P:=λus=>bindArgs fd ⟨us,[]⟩=pure (ps.zip us)) h
section
variable{j k:Nat}{q:Str}
theorem fsc{P:List Str}{sc:Scope}(a:sc.kind=.function:=by rfl)(b:sc.isCoroutine=false:=by rfl)(c:sc.isGenerator=false:=by rfl)(d:N.Nodup:=by decide+kernel)(e:N.take P.length=P:=by rfl)(g:∀x∈P,sc.names.lookup x=some .local\/sc.names.lookup x=some .cell:=by decide+kernel)(h:∀y∈sc.names,y.2≠.free:=by decide+kernel):aw N P sc:=⟨a,b,c,d,e,g,h⟩
theorem Fun.okA(F:Fun K x q st f fd)(S:aw N ps (aj st))(jQ:∀(cdv:Value)(A:Around)(outer:List Env)(s:Shared)(H:Hp)(vs:List V)(Q:VK)(E:XK),cb k (A.deeper (envOfC q (aj st) s.heap.objs.size f cdv))->sp vs H Q E->∃t,PSs (ji CX0 P w K mg base N q (aj st) f cdv A outer s H E).nox (fq st) t/\t { nx:=λ_ H'=>Q .non H',rt:=Q } (start N vs) H)(len:∀vs H Q E,sp vs H Q E->vs.length=ps.length:=by intro vs H Q E h;cases h;subst_vars;rfl):aN P w K mg base CX0 (k+1) f fd ps sp:=F.ok S len jQ
theorem Fun.okEA(F:Fun K x q st f fd)(S:aw N ps (aj st))(jQ:∀(cdv:Value)(A:Around)(outer:List Env)(s:Shared)(H:Hp)(vs:List V)(Q:VK)(E:XK),cb k (A.deeper (envOfC q (aj st) s.heap.objs.size f cdv))->sp vs H Q E->∃t,PSs (cxE P w K mg base N q (aj st) f cdv A outer s H E) (fq st) t/\t { nx:=λ_ H'=>Q .non H',rt:=Q } (start N vs) H)(len:∀vs H Q E,sp vs H Q E->vs.length=ps.length:=by intro vs H Q E h;cases h;subst_vars;rfl):aN P w K mg base (CX1 P w) (k+1) f fd ps sp:=F.okE S len jQ
theorem Callee.up(c:Callee P w K mg base j x ps sp)(h:j<=k:=by decide):Callee P w K mg base k x ps sp:=c.mono h
theorem bK.up(c:bK P w K mg base j x ps sp)(h:j<=k:=by decide):bK P w K mg base k x ps sp:=c.mono h
theorem aX.up(c:aX CX P w K mg base j C m ps sp)(h:j<=k:=by decide):aX CX P w K mg base k C m ps sp:=c.mono h
theorem bA.up(c:bA CX P w K mg base j x C ps sp)(h:j<=k:=by decide):bA CX P w K mg base k x C ps sp:=c.mono h
theorem cc.up(c:cc CX P w K mg base j x m ps sp)(h:j<=k:=by decide):cc CX P w K mg base k x m ps sp:=c.mono h
inductive GF(K:W.Frag)(x q:Str)(st:Stmt):Prop
 |mk {f:Addr}{fd:FuncData}(a:W.nsIn K mainGlobals x=some (some (.ref f)))(F:Fun K q q st f fd):GF K x q st
inductive MF(K:W.Frag)(C:Addr)(x q:Str)(st:Stmt):Prop
 |mk {f:Addr}{fd:FuncData}(a:W.findIn K (.ref C) x=some (some (.ref f)))(i:W.isFn K (.ref f)=true)(F:Fun K x q st f fd):MF K C x q st
inductive KF(K:W.Frag)(C:Addr)(x q:Str)(st:Stmt):Prop
 |mk {f:Addr}{fd:FuncData}(a:W.findIn K (.ref C) "__init__" = some (some (.ref f))) (i:W.isFn K (.ref f)=true)(m:W.makesIn K C=true)(k:W.keepIn K (.ref C)=true)(n:W.nsIn K mainGlobals x=some (some (.ref C)))(F:Fun K "__init__" q st f fd):KF K C x q st
inductive BF(K:W.Frag)(C:Addr)(x m q:Str)(st:Stmt):Prop
 |mk {f:Addr}{fd:FuncData}(s:W.specialIn K (.ref C) "__getattribute__" = some (some (.builtin "type.__getattribute__"))) (r:W.readsIn K C (.type "type")=true) (a:W.findCls K (.ref C) (.type "type") m=some (.val (.ref f))) (n:W.nsIn K mainGlobals x=some (some (.ref C)))(F:Fun K m q st f fd):BF K C x m q st
inductive Zb(P:Program)(w:World)(K:W.Frag)(mg:Str->Option Value)(base:Heap):Prop
 |mk {h:Heap}(X:K.In h)(G:h.Ns mainGlobals mg):Zb P w K mg base
theorem Zb.g(Z:Zb P w K mg base){v:Value}(e:W.nsIn K mainGlobals x=some (some v)):mg x=some v:=by cases Z with|mk X G=>exact W.mg_of X G e
theorem mkC(Z:Zb P w K mg base)(h:GF K x q st)(O:∀{f:Addr}{fd:FuncData},Fun K q q st f fd->aN P w K mg base CX0 k f fd ps sp)(b:∀{f:Addr}{fd:FuncData},Fun K q q st f fd->Binds K fd ps []:=by exact λF=>F.binds λ_ _ _ _ _ _=>by first|exact L2.lb0 rfl|exact L2.lb1 λ_=>U|exact L2.lb2 λ_ _=>U|exact L2.lb3 λ_ _ _=>U|exact L2.lb4 λ_ _ _ _=>U|exact L2.lb5 λ_ _ _ _ _=>U|exact L2.lb6 λ_ _ _ _ _ _=>U|exact L2.lb7 λ_ _ _ _ _ _ _=>U|exact L2.lb8 λ_ _ _ _ _ _ _ _=>U|exact L2.lb9 λ_ _ _ _ _ _ _ _ _=>U):Callee P w K mg base k x ps sp:=by
 cases h with|mk a F=>exact⟨_,_,O F,b F,F.kp,Z.g a⟩
theorem mkX(Z:Zb P w K mg base)(h:GF K x q st)(O:∀{f:Addr}{fd:FuncData},Fun K q q st f fd->aN P w K mg base (CX1 P w) k f fd ps sp)(b:∀{f:Addr}{fd:FuncData},Fun K q q st f fd->Binds K fd ps []:=by exact λF=>F.binds λ_ _ _ _ _ _=>by first|exact L2.lb0 rfl|exact L2.lb1 λ_=>U|exact L2.lb2 λ_ _=>U|exact L2.lb3 λ_ _ _=>U|exact L2.lb4 λ_ _ _ _=>U|exact L2.lb5 λ_ _ _ _ _=>U|exact L2.lb6 λ_ _ _ _ _ _=>U|exact L2.lb7 λ_ _ _ _ _ _ _=>U|exact L2.lb8 λ_ _ _ _ _ _ _ _=>U|exact L2.lb9 λ_ _ _ _ _ _ _ _ _=>U):bK P w K mg base k x ps sp:=by
 cases h with|mk a F=>exact⟨_,_,O F,b F,F.kp,Z.g a⟩
theorem mkM(_:Zb P w K mg base)(h:MF K C m q st)(O:∀{f:Addr}{fd:FuncData},Fun K m q st f fd->aN P w K mg base CX k f fd ps sp)(b:∀{f:Addr}{fd:FuncData},Fun K m q st f fd->Binds K fd ps []:=by exact λF=>F.binds λ_ _ _ _ _ _=>by first|exact L2.lb0 rfl|exact L2.lb1 λ_=>U|exact L2.lb2 λ_ _=>U|exact L2.lb3 λ_ _ _=>U|exact L2.lb4 λ_ _ _ _=>U|exact L2.lb5 λ_ _ _ _ _=>U|exact L2.lb6 λ_ _ _ _ _ _=>U|exact L2.lb7 λ_ _ _ _ _ _ _=>U|exact L2.lb8 λ_ _ _ _ _ _ _ _=>U|exact L2.lb9 λ_ _ _ _ _ _ _ _ _=>U):aX CX P w K mg base k C m ps sp:=by
 cases h with|mk a i F=>exact⟨_,_,⟨a,i,F.kp⟩,O F,b F⟩
theorem mkK(Z:Zb P w K mg base)(h:KF K C x q st)(O:∀{f:Addr}{fd:FuncData},Fun K "__init__" q st f fd->aN P w K mg base CX k f fd ps sp) (b:∀{f:Addr}{fd:FuncData},Fun K "__init__" q st f fd->Binds K fd ps []:=by exact λF=>F.binds λ_ _ _ _ _ _=>by first|exact L2.lb0 rfl|exact L2.lb1 λ_=>U|exact L2.lb2 λ_ _=>U|exact L2.lb3 λ_ _ _=>U|exact L2.lb4 λ_ _ _ _=>U|exact L2.lb5 λ_ _ _ _ _=>U|exact L2.lb6 λ_ _ _ _ _ _=>U|exact L2.lb7 λ_ _ _ _ _ _ _=>U|exact L2.lb8 λ_ _ _ _ _ _ _ _=>U|exact L2.lb9 λ_ _ _ _ _ _ _ _ _=>U):bA CX P w K mg base k x C ps sp:=by
 cases h with|mk a i m k n F=>exact⟨_,_,⟨m,a,i,k⟩,O F,b F,Z.g n⟩
theorem mkB(Z:Zb P w K mg base)(h:BF K C x m q st)(O:∀{f:Addr}{fd:FuncData},Fun K m q st f fd->aN P w K mg base CX k f fd ps sp)(b:∀{f:Addr}{fd:FuncData},Fun K m q st f fd->Binds K fd ps []:=by exact λF=>F.binds λ_ _ _ _ _ _=>by first|exact L2.lb0 rfl|exact L2.lb1 λ_=>U|exact L2.lb2 λ_ _=>U|exact L2.lb3 λ_ _ _=>U|exact L2.lb4 λ_ _ _ _=>U|exact L2.lb5 λ_ _ _ _ _=>U|exact L2.lb6 λ_ _ _ _ _ _=>U|exact L2.lb7 λ_ _ _ _ _ _ _=>U|exact L2.lb8 λ_ _ _ _ _ _ _ _=>U|exact L2.lb9 λ_ _ _ _ _ _ _ _ _=>U):cc CX P w K mg base k x m ps sp:=by
 cases h with|mk s r a n F=>exact⟨_,_,_,⟨s,r,a,F.kp⟩,O F,b F,Z.g n⟩
theorem mkR{sp:Nat->Sp}(Z:Zb P w K mg base)(h:GF K x q st)(k n:Nat)(z:∀{vs:List V}{H:Hp}{Q:VK}{E:XK},¬ sp 0 vs H Q E)(O:∀{f:Addr}{fd:FuncData}(n:Nat),Fun K q q st f fd->Callee P w K mg base (k+n) x ps (sp n)->aN P w K mg base CX0 (k+n+1) f fd ps (sp (n+1)))(b:∀{f:Addr}{fd:FuncData},Fun K q q st f fd->Binds K fd ps []:=by exact λF=>F.binds λ_ _ _ _ _ _=>by first|exact L2.lb0 rfl|exact L2.lb1 λ_=>U|exact L2.lb2 λ_ _=>U|exact L2.lb3 λ_ _ _=>U|exact L2.lb4 λ_ _ _ _=>U|exact L2.lb5 λ_ _ _ _ _=>U|exact L2.lb6 λ_ _ _ _ _ _=>U|exact L2.lb7 λ_ _ _ _ _ _ _=>U|exact L2.lb8 λ_ _ _ _ _ _ _ _=>U|exact L2.lb9 λ_ _ _ _ _ _ _ _ _=>U):Callee P w K mg base (k+n) x ps (sp n):=by
 cases h with|mk a F =>
 refine⟨_,_,?_,b F,F.kp,Z.g a⟩;induction n with
 |zero=>exact aN.no λ_ _ _ _ h=>z h
 |succ n ih=>exact O n F ⟨_,_,ih,b F,F.kp,Z.g a⟩
theorem Ci{sp:Nat->Sp}(Z:Zb P w K mg base)(h:GF K x q st)(k n:Nat)(z:∀{vs:List V}{H:Hp}{Q:VK}{E:XK},¬ sp 0 vs H Q E)(O:∀{f:Addr}{fd:FuncData}(n:Nat),Fun K q q st f fd->bK P w K mg base (k+n) x ps (sp n)->aN P w K mg base (CX1 P w) (k+n+1) f fd ps (sp (n+1)))(b:∀{f:Addr}{fd:FuncData},Fun K q q st f fd->Binds K fd ps []:=by exact λF=>F.binds λ_ _ _ _ _ _=>by first|exact L2.lb0 rfl|exact L2.lb1 λ_=>U|exact L2.lb2 λ_ _=>U|exact L2.lb3 λ_ _ _=>U|exact L2.lb4 λ_ _ _ _=>U|exact L2.lb5 λ_ _ _ _ _=>U|exact L2.lb6 λ_ _ _ _ _ _=>U|exact L2.lb7 λ_ _ _ _ _ _ _=>U|exact L2.lb8 λ_ _ _ _ _ _ _ _=>U|exact L2.lb9 λ_ _ _ _ _ _ _ _ _=>U):bK P w K mg base (k+n) x ps (sp n):=by
 cases h with|mk a F =>
 refine⟨_,_,?_,b F,F.kp,Z.g a⟩;induction n with
 |zero=>exact aN.no λ_ _ _ _ h=>z h
 |succ n ih=>exact O n F ⟨_,_,ih,b F,F.kp,Z.g a⟩
theorem gv_mk{v:V}{u:Value}(a:W.nsIn K mainGlobals x=some (some u))(r:RelV v u):∃u,W.nsIn K mainGlobals x=some (some u)/\RelV v u:=⟨u,a,r⟩
end
theorem Inv.turnedPair{ch:List Addr}{T:Addr}{x y:V}{u v:Value}(I:Inv X pins σ H s)(hf:∀b∈ch,kn X pins H b)(k:∀b o,b ∉ ch->s.heap.get? b=some o->h'.get? b=some o)
  (nT:s.heap.get? T=none)(hT:H T=none)(gT:IsPair h' T u v)(rx:RelV x u)(ry:RelV y v):Inv X pins σ (upd H T (.tup [x,y])) { s with heap:=h' }:=by
 have out:∀b u,H b=some u->b ∉ ch:=λb u e z=>by
  have f:=(hf b z).1;rw[f]at e;cases e
 have neT:∀{b o},s.heap.get? b=some o->b≠T:=λe z=>by rw[z,nT]at e;cases e
 have neH:∀{b u},H b=some u->b≠T:=λe z=>by rw[z,hT]at e;cases e
 have J:=Inv.step (H':=upd H T (.tup [x,y])) (h':=h') (g':=s.gens) (d':=s.drawn) (t':=s.toks) (ch:=ch) I
  (λb hb=>by obtain⟨_,f1,_,f3,f4,f5⟩:=hf b hb;exact⟨f3,f1,f4,f5⟩)
  (λb o _ _ hc e _=>k b o hc e)
  (λb o _ _ hc e _=>⟨o.slots,k b o hc e⟩)
  (λb o _ e n=>by rw[ar (neT e)];exact n)
  (λb o hc e=>⟨o,k b o hc e⟩)
  (λb xs e=>by rw[ar (neH e)];exact e)
  (λb o w e=>by rw[ar (neH e)];exact e)
  (λb ps e=>⟨#[],by rw[ar (neH e),e];simp⟩)
  (λm hm=>by
   obtain⟨o,es,ep,ho,r⟩:=hm;refine⟨o,es,ep,k _ o (λz=>?_) ho,r⟩;obtain⟨_,f1,_⟩:=hf _ z;exact f1 U)
  (λb w e=>by
   by_cases hb:b=T
   ·subst hb;rw[ae]at e;cases e;exact⟨by show 2<=sizeLine;decide,[u,v],.cons rx (.cons ry .nil),_,gT,U,_,U⟩
   ·rw[ar hb]at e;refine(I.hok b w e).stay (λc z hc q=>k c z ?_ q) (λc q=>?_) λc xs q=>?_
    ·rcases hc with z|z
     ·rw[z];exact out b w e
     ·exact out c _ z
    ·rw[ar (neH q)];exact q
    ·rw[ar (neH q)];exact q)
  I.bare
 exact J
theorem Inv.turnedL{ch:List Addr}(I:Inv X pins σ H s)(hf:∀b∈ch,kn X pins H b)(k:∀b o,b ∉ ch->s.heap.get? b=some o->h'.get? b=some o):Inv X pins σ H { s with heap:=h' }:=by
 have out:∀b u,H b=some u->b ∉ ch:=λb u e z=>by
  have f:=(hf b z).1;rw[f]at e;cases e
 have J:=Inv.step (H':=H) (h':=h') (g':=s.gens) (d':=s.drawn) (t':=s.toks) (ch:=ch) I
  (λb hb=>by obtain⟨_,f1,_,f3,f4,f5⟩:=hf b hb;exact⟨f3,f1,f4,f5⟩)
  (λb o _ _ hc e _=>k b o hc e)
  (λb o _ _ hc e _=>⟨o.slots,k b o hc e⟩)
  (λb o _ _ n=>n)
  (λb o hc e=>⟨o,k b o hc e⟩)
  (λb xs e=>e) (λb o w e=>e) (λb ps e=>⟨#[],by rw[e];simp⟩)
  (λm hm=>by
   obtain⟨o,es,ep,ho,r⟩:=hm;refine⟨o,es,ep,k _ o (λz=>?_) ho,r⟩;obtain⟨_,f1,_⟩:=hf _ z;exact f1 U)
  (λb w e=>by
   refine(I.hok b w e).stay (λc z hc q=>k c z ?_ q) (λc q=>q) λc xs q=>q
   rcases hc with z|z
   ·rw[z];exact out b w e
   ·exact out c _ z)
  I.bare
 exact J
def Itz(K:W.Frag)(a b:Addr):It :=
 ⟨λi H=>∃xs ys x y,SqL K H a xs/\SqL K H b ys/\xs[i]?=some x/\ys[i]?=some y,
 λi H v H'=>∃T,H T=none/\v=.ref T/\∀xs ys x y,SqL K H a xs->SqL K H b ys->xs[i]?=some x->ys[i]?=some y->H'=upd H T (.tup [x,y]),
 λi H=>∃xs ys,SqL K H a xs/\SqL K H b ys/\(xs.length<=i\/ys.length<=i)⟩
def yj(z TI TO i1 i2 a b:Addr)(i:Nat)(h:Heap):Prop:=IsZip h z TI TO .none/\IsPair h TI (.ref i1) (.ref i2)/\(∃p q,IsPair h TO p q)/\h.IsListIter i1 a i/\h.IsListIter i2 b i
theorem vV{P:Program}{w:World}{K:W.Frag}{elts:List Expr} {x1} {tp:Pos}{z TI TO i1 i2 a b:Addr}(D:ZipApart z TI TO i1 i2 a b) :
  Turn P w K (.Tuple elts x1 tp) (Itz K a b) [z,TI,TO,i1,i2] z (yj z TI TO i1 i2 a b) where
 mem:=by simp
 obj:=λi h st c hc=>by
  obtain⟨g1,g2,⟨p,q,g3⟩,⟨o4,g4,_,d4⟩,⟨o5,g5,_,d5⟩⟩:=st;simp only[mem_cons,not_mem_nil,or_false]at hc;rcases hc with rfl|rfl|rfl|rfl|rfl
  ·exact⟨_,g1,λv q=>nomatch q⟩
  ·exact⟨_,g2,λv q=>nomatch q⟩
  ·exact⟨_,g3,λv q=>nomatch q⟩
  ·exact⟨_,g4,λv q=>by rw[d4]at q;cases q⟩
  ·exact⟨_,g5,λv q=>by rw[d5]at q;cases q⟩
 keep:=λi h h' st k=>by
  obtain⟨g1,g2,⟨p,q,g3⟩,g4,g5⟩:=st;exact⟨k z (by simp) _ g1,k TI (by simp) _ g2,⟨p,q,k TO (by simp) _ g3⟩,g4.at λo e=>k i1 (by simp) o e,g5.at λo e=>k i2 (by simp) o e⟩
 item:=by
  intro X hP hw hK hc i pins s σ H E I hf st hg;subst hP hw hK;obtain⟨xs,ys,x,y,qa,qb,ex,ey⟩:=hg;obtain⟨g1,g2,⟨p,q,g3⟩,g4,g5⟩:=st;obtain⟨us,ru,pu,_⟩:=I.list qa;obtain⟨vs,rv,pv,_⟩:=I.list qb;obtain⟨u,eu,r1⟩:=ru.get ex;obtain⟨v,ev,r2⟩:=rv.get ey;refine wpAny_pyNext_zip_item D g1 g2 g3 g4 g5 pu.isList pv.isList (x:=u) (y:=v) (by simpa using eu) (by simpa using ev) λh1 a1 a2 a3 a4 a5 a6 a7=>?_
  refine⟨_,U,wpAny_letOwnedTupleGo_zip (s:={ s with heap:=h1 }) a1 λh2 b1 b2=>?_⟩;have nT:s.heap.get? s.heap.objs.size=none:=by
   cases q:s.heap.get? s.heap.objs.size with
   |none=>rfl
   |some o=>exact absurd (Heap.lt_size q) (lt_irrefl _)
  have hT:H s.heap.objs.size=none:=I.hok.fresh (le_refl _);have nz:s.heap.objs.size≠z:=ne_of_gt (Heap.lt_size g1);have kk:∀c o,c ∉ [z,TO,i1,i2]->s.heap.get? c=some o->h2.get? c=some o:=λc o hc e=>by
   simp only[mem_cons,not_mem_nil,or_false,not_or]at hc;exact b2.extBut _ _ hc.1 (a7 c o hc.1 hc.2.1 hc.2.2.1 hc.2.2.2 e)
  have J:=I.turnedPair (h':=h2) (ch:=[z,TO,i1,i2]) (T:=s.heap.objs.size) (x:=x) (y:=y) (u:=u) (v:=v) (λc hc=>hf c (by simp at hc⊢;rcases hc with e|e|e|e <;> simp[e])) kk nT hT (b2.extBut _ _ nz a5) r1 r2;refine⟨.ref s.heap.objs.size,upd H s.heap.objs.size (.tup [x,y]),J,U,⟨_,hT,U,λxs' ys' x' y' q1 q2 e1 e2=>?_⟩,⟨b1,b2.extBut _ _ D.TIz (a7 TI _ D.TIz D.TITO D.TIi1 D.TIi2 g2),⟨_,_,b2.extBut _ _ D.TOz a2⟩,a3.extBut b2.extBut D.i1z,a4.extBut b2.extBut D.i2z⟩,λc hc=>?_⟩
  ·rw[I.list_inj q1 qa]at e1;rw[I.list_inj q2 qb]at e2;rw[ex]at e1;rw[ey]at e2;cases e1;cases e2;rfl
  ·have h0:=(hf c hc).1;have:c≠s.heap.objs.size:=by
    obtain⟨o4,g4',_⟩:=g4;obtain⟨o5,g5',_⟩:=g5;simp only[mem_cons,not_mem_nil,or_false]at hc;rcases hc with rfl|rfl|rfl|rfl|rfl
    ·exact nz.symm
    ·exact ne_of_lt (Heap.lt_size g2)
    ·exact ne_of_lt (Heap.lt_size g3)
    ·exact ne_of_lt (Heap.lt_size g4')
    ·exact ne_of_lt (Heap.lt_size g5')
   rw[ar this];exact h0
 done:=by
  intro X hP hw hK hc i pins s σ H E I hf st hg;subst hP hw hK;obtain⟨xs,ys,qa,qb,hl⟩:=hg;obtain⟨g1,g2,⟨p,q,g3⟩,g4,g5⟩:=st;obtain⟨us,ru,pu,_⟩:=I.list qa;obtain⟨vs,rv,pv,_⟩:=I.list qb;have l1:=ru.length;have l2:=rv.length;refine wpAny_pyNext_zip_end (I.ok.hd hc) D g1 g2 g3 g4 g5 pu.isList pv.isList ?_ λh2 k=>⟨U,I.turnedL (ch:=[z,TO,i1,i2]) (λc hc=>hf c (by simp at hc⊢;rcases hc with e|e|e|e <;> simp[e])) λc o hc e=>?_⟩
  ·rcases hl with hl|hl
   ·exact .inl (by simp;lia)
   ·exact .inr (by simp;lia)
  ·simp only[mem_cons,not_mem_nil,or_false,not_or]at hc;exact k c o hc.1 hc.2.1 hc.2.2.1 hc.2.2.2 e
 self:=λ_ _ _ _ _ st h=>wpAny_pyIter_zip st.1 h
inductive yk(K:W.Frag)(R:It->Hp->Prop)(vs:List V)(H1:Hp):Prop
 |mk (a b:_)(_:vs=[.ref a,.ref b])(_:(∃xs,SqL K H1 a xs))(_:(∃ys,SqL K H1 b ys))(_:R (Itz K a b) H1):yk K R vs H1
def Cj(K:W.Frag)(ta:TA):TI:=λσ H R=>ta σ H λvs H1=>yk K R vs H1
theorem rM{e1 e2:Expr}{ta:TA}{p pos:Pos}{elts:List Expr} {x1} {tp:Pos}(hg:Gl X "zip") (hm:X.mg "zip" = none) (ha:PA X [e1,e2] ta)
  (hs:starEach [e1,e2] X.env=[(false,eval e1 X.env),(false,eval e2 X.env)]:=by rfl)(hs2:starEach [e2] X.env=[(false,eval e2 X.env)]:=by rfl) :
  PI X (.Tuple elts x1 tp) (.Call (.Name "zip" p) [e1,e2] [] pos) (Cj X.K ta):=by
 intro pins s σ H R I h;refine Call_ (gm I hg hm PyProof.Rows.boot_zip (PyProof.Rows.callWith_type1 (thn (ha pos pins s σ H _ I h) λus s1 ⟨vs,H1,I1,r1,q1⟩=>?_) (by rw[hs,hs2]) (by rw[hs2];rfl)));obtain⟨a,b,rfl,⟨xs,qa⟩,⟨ys,qb⟩,q⟩:=q1;obtain⟨u,v,rfl,ru,rv⟩:=r1.two;cases (show u=Value.ref a from ru);cases (show v=Value.ref b from rv);obtain⟨us,_,pu,_⟩:=I1.list qa;obtain⟨vs,_,pv,_⟩:=I1.list qb;obtain⟨oa,ea,_⟩:=id pu.isList;obtain⟨ob,eb,_⟩:=id pv.isList;have la:a<s1.heap.objs.size:=Heap.lt_size ea;have lb:b<s1.heap.objs.size:=Heap.lt_size eb;refine call_zip_2 pu.isList pv.isList λh' z1 z2 z3 z4 z5 z6 z7=>?_
 refine wpAny_pyIter_zip (s:={ s1 with heap:=h' }) z1 ?_;refine⟨s1.heap.objs.size+4,[s1.heap.objs.size+4,s1.heap.objs.size+2,s1.heap.objs.size+3,s1.heap.objs.size,s1.heap.objs.size+1],yj (s1.heap.objs.size+4) (s1.heap.objs.size+2) (s1.heap.objs.size+3) s1.heap.objs.size (s1.heap.objs.size+1) a b,Itz X.K a b,H1,U,I1.kept (t':=s1.toks) z7,vV ?_,⟨z1,z2,⟨_,_,z3⟩,z4,z5⟩,λc hc=>?_,q⟩
 ·refine⟨?_,?_,?_,?_,?_,?_,?_,?_,?_,?_,?_,?_,?_,?_,?_,?_,?_,?_⟩ <;> first|exact ne_of_lt (by lia)|exact ne_of_gt (by lia)|exact ne_of_lt la|exact ne_of_lt lb|exact ne_of_lt (lt_of_lt_of_le la (le_add_right _ _))|exact ne_of_lt (lt_of_lt_of_le lb (le_add_right _ _))
 ·have hc':s1.heap.objs.size<=c:=by
   simp only[mem_cons,not_mem_nil,or_false]at hc;rcases hc with rfl|rfl|rfl|rfl|rfl <;> lia
  exact I1.fpOk hc' (I1.hok.fresh hc')
theorem oN{K:W.Frag}{a b:Addr}{xs ys:List V}{g:TG}{tb:TS}{D:Ends}{σ:St}{H:Hp}(Pv:Nat->St->Hp->Prop)(h0:Pv 0 σ H)(hl:∀i σ H,Pv i σ H->SqL K H a xs/\SqL K H b ys)
  (hs:∀i x y σ H T,xs[i]?=some x->ys[i]?=some y->Pv i σ H->H T=none->g (.ref T) σ (upd H T (.tup [x,y])) λσ2 H2=>tb { D with nx:=Pv (i+1),ct:=Pv (i+1),bk:=D.nx } σ2 H2)
  (hd:∀σ H,Pv (min xs.length ys.length) σ H->D.nx σ H) :
  ∃W:Nat->Nat->St->Hp->Prop,(∃m,W 0 m σ H)/\∀i m σ H,W i m σ H ->
   ((Itz K a b).stop i H/\D.nx σ H)\/((Itz K a b).go i H/\∃N:St->Hp->Prop,(∀σ' H',N σ' H'->∃m',m'<m/\W (i+1) m' σ' H')/\∀x H',(Itz K a b).yld i H x H'->g x σ H' λσ2 H2=>tb { D with nx:=N,ct:=N,bk:=D.nx } σ2 H2):=by
 refine⟨λi m σ H=>m=min xs.length ys.length-i/\i<=min xs.length ys.length/\Pv i σ H,⟨min xs.length ys.length,by simp,zero_le _,h0⟩,?_⟩;rintro i m σ H ⟨rfl,hi,p⟩;obtain⟨q1,q2⟩:=hl i σ H p;by_cases lt:i<min xs.length ys.length
 ·have e1:xs[i]?=some xs[i]:=EV (by lia);have e2:ys[i]?=some ys[i]:=EV (by lia);refine .inr ⟨⟨xs,ys,_,_,q1,q2,e1,e2⟩,Pv (i+1),λσ' H' p'=>⟨_,?_,U,lt,p'⟩,λv H' yl=>?_⟩
  ·lia
  ·obtain⟨T,hT,rfl,e⟩:=yl;rw[e xs ys _ _ q1 q2 e1 e2];exact hs i _ _ σ H T e1 e2 p hT
 ·have e:i=min xs.length ys.length:=by lia
  subst e;exact .inl ⟨⟨xs,ys,q1,q2,by lia⟩,hd σ H p⟩
theorem je{X:Cx}{K:W.Frag}(h:X.K=K):cw X (.type "list") (λxs H Q=>∃p ys,xs=[.ref p]/\(SqL K H p ys\/SqT K H p ys)/\∀l,H l=none->Q (.ref l) (upd H l (.lst ys))):=h ▸ cA
set_option maxRecDepth 100000
abbrev jm(h:Heap)(z TI TO T0:Addr)(b:Bool):Prop :=
 h.get? z=some { cls:=.type "zip",dict:=none,data:=.fields #[rawInt T0,.bool b,.bool false,.ref TI,.ref TO],slots:=#[] }
theorem jY{a:Addr}{Q:Option Obj->Shared->Prop}(h:Q (s.heap.get? a) s):wpAny (model prog w) A (loadIfAlive a) Q E s:=λ_ _ _=>h
theorem nU{z TI TO T0:Addr}{b:Bool}{o:Obj}{Q:Bool->Shared->Prop}(hz:jm s.heap z TI TO T0 b)(hT:s.heap.get? T0=some o)
  (h:∀h',jm h' z TI TO T0 true->Heap.SameBut z s.heap h'->Q false { s with heap:=h' }):wpAny (model prog w) A (Builtin.SmallTypes.ownedTupleIsFree (.ref z)) Q E s:=by
 unfold Builtin.SmallTypes.ownedTupleIsFree;refine wpAny_bind (wpAny_field hz U (x:=rawInt T0) U ?_);show wpAny _ _ (loadIfAlive ((T0:Int).toNat) >>= _) _ _ _;refine wpAny_bind (jY ?_);rw[toNat_natCast,hT];simp only[Option.isNone_some,false_eq_true,if_false];refine wpAny_bind (wpAny_field hz U (x:=.bool b) U ?_);cases b with
 |true =>
  rw[if_neg (by simp)];refine wpAny_pure ?_;have e:s={ s with heap:=s.heap }:=by cases s;rfl
  rw[e];exact h s.heap hz (Heap.SameBut.refl z s.heap)
 |false =>
  rw[if_pos (by decide)];refine wpAny_bind (wpAny_setField_rec hz (by simp) λh1 g1 sb1=>?_);exact wpAny_pure (h h1 g1 sb1)
theorem uK{z TI TO T0 i1 i2 l1 l2:Addr}{bb:Bool}{k1 k2:Nat}{xs ys:Array Value}{x y a b:Value}{o:Obj}{Q:Option Value->Shared->Prop}(D:ZipApart z TI TO i1 i2 l1 l2)
  (hz:jm s.heap z TI TO T0 bb)(hT0:s.heap.get? T0=some o)(hTI:IsPair s.heap TI (.ref i1) (.ref i2))(hTO:IsPair s.heap TO a b)
  (h1:s.heap.IsListIter i1 l1 k1)(h2:s.heap.IsListIter i2 l2 k2)(hl1:s.heap.IsList l1 xs)(hl2:s.heap.IsList l2 ys)(hx:xs[k1]?=some x)(hy:ys[k2]?=some y)
  (hQ:∀h',jm h' z TI TO T0 true->h'.IsListIter i1 l1 (k1+1)->h'.IsListIter i2 l2 (k2+1)->IsPair h' s.heap.objs.size x y->h'.objs.size=s.heap.objs.size+1 ->
   (∀c o,c≠z->c≠i1->c≠i2->s.heap.get? c=some o->h'.get? c=some o)->Q (some (.ref s.heap.objs.size)) { s with heap:=h' }) :
  wpAny (model prog w) A (pyNext (.ref z)) Q E s:=by
 have hT:s.TypeIs (.ref z) "zip" := ⟨_,hz,U⟩;unfold pyNext;refine wpAny_bind (wpAny_attempt (wpAny_callSpecial?_slot (name:=Str.ofString "__next__") hT F.slot_zip_next (wpAny_call_entry F.slot_zip_next hT F.entry_zip_next ?_ (F.args_zip_next_1 _))));show wpAny _ _ (field (.ref z) 2 >>= _) _ _ _;refine wpAny_bind (wpAny_field hz U (x:=.bool false) U ?_);show wpAny _ _ (field (.ref z) 3 >>= _) _ _ _;refine wpAny_bind (wpAny_field hz U (x:=.ref TI) U ?_);refine wpAny_bind (wpAny_seqItems hTI U ?_);show wpAny _ _ (Builtin.SmallTypes.ownedTupleIsFree (.ref z) >>= _) _ _ _;refine wpAny_bind (nU hz hT0 λh₁ hz₁ hs₁=>?_);simp only[false_eq_true,if_false];refine wpAny_bind ?_;rw[←Array.forIn_toList];simp only[List.forIn_cons,List.forIn_nil];refine wpAny_bind (wpAny_bind (wpAny_holding ?_));show wpAny _ _ (Builtin.SmallTypes.nextOf (.ref i1) >>= _) _ _ _;refine wpAny_bind (wpAny_nextOf_list_item (h1.extBut hs₁.extBut D.i1z) (hl1.extBut hs₁.extBut D.l1z) hx λh₂ h1₂ hs₂=>wpAny_pure ?_);refine wpAny_pure ?_;dsimp only;refine wpAny_bind (wpAny_bind (wpAny_holding ?_));show wpAny _ _ (Builtin.SmallTypes.nextOf (.ref i2) >>= _) _ _ _;refine wpAny_bind (wpAny_nextOf_list_item ((h2.extBut hs₁.extBut D.i2z).extBut hs₂.extBut D.i12.symm) ((hl2.extBut hs₁.extBut D.l2z).extBut hs₂.extBut D.l2i1) hy λh₃ h2₃ hs₃=>wpAny_pure ?_);refine wpAny_pure ?_;dsimp only;refine wpAny_pure ?_;refine wpAny_bind (wpAny_newTuple ?_ (by show 2<=sizeLine;decide));have hsz:h₃.objs.size=s.heap.objs.size:=by rw[hs₃.1,hs₂.1,hs₁.1]
 refine wpAny_pure ⟨_,U,wpAny_pure ?_⟩;show Q (some (.ref h₃.objs.size)) _;have hz₃:jm h₃ z TI TO T0 true:=hs₃.extBut _ _ D.i2z.symm (hs₂.extBut _ _ D.i1z.symm hz₁);have h1₃:h₃.IsListIter i1 l1 (k1+1):=h1₂.extBut hs₃.extBut D.i12;have gp:(h₃.push { cls:=.type "tuple",data:=.seq #[x,y] }).get? h₃.objs.size=some { cls:=.type "tuple",data:=.seq #[x,y] }:=Heap.get?_push_size _ U;have zz:(h₃.push { cls:=.type "tuple",data:=.seq #[x,y] }).objs.size=s.heap.objs.size+1:=by rw[Heap.size_push,hsz]
 rw[hsz]at gp⊢;exact hQ _ (Heap.get?_push_of_some _ hz₃) (h1₃.at λo e=>Heap.get?_push_of_some _ e) (h2₃.at λo e=>Heap.get?_push_of_some _ e) gp zz λc o c1 c2 c3 e=>Heap.get?_push_of_some _ (hs₃.extBut _ _ c3 (hs₂.extBut _ _ c2 (hs₁.extBut _ _ c1 e)))
theorem vW{z TI TO T0 i1 i2 l1 l2:Addr}{bb:Bool}{k1 k2:Nat}{xs ys:Array Value}{a b:Value}{o:Obj}{Q:Option Value->Shared->Prop}(hh:A.handled=none)(D:ZipApart z TI TO i1 i2 l1 l2)
  (hz:jm s.heap z TI TO T0 bb)(hT0:s.heap.get? T0=some o)(hTI:IsPair s.heap TI (.ref i1) (.ref i2))(hTO:IsPair s.heap TO a b)
  (h1:s.heap.IsListIter i1 l1 k1)(h2:s.heap.IsListIter i2 l2 k2)(hl1:s.heap.IsList l1 xs)(hl2:s.heap.IsList l2 ys)(oK:xs[k1]?=none\/ys[k2]?=none)
  (hQ:∀h',(∀c o,c≠z->c≠i1->c≠i2->s.heap.get? c=some o->h'.get? c=some o)->Q none { s with heap:=h' }) :
  wpAny (model prog w) A (pyNext (.ref z)) Q E s:=by
 have hT:s.TypeIs (.ref z) "zip" := ⟨_,hz,U⟩;unfold pyNext;refine wpAny_bind (wpAny_attempt (wpAny_callSpecial?_slot (name:=Str.ofString "__next__") hT F.slot_zip_next (wpAny_call_entry F.slot_zip_next hT F.entry_zip_next ?_ (F.args_zip_next_1 _))));show wpAny _ _ (field (.ref z) 2 >>= _) _ _ _;refine wpAny_bind (wpAny_field hz U (x:=.bool false) U ?_);show wpAny _ _ (field (.ref z) 3 >>= _) _ _ _;refine wpAny_bind (wpAny_field hz U (x:=.ref TI) U ?_);refine wpAny_bind (wpAny_seqItems hTI U ?_);show wpAny _ _ (Builtin.SmallTypes.ownedTupleIsFree (.ref z) >>= _) _ _ _;refine wpAny_bind (nU hz hT0 λh₁ hz₁ hs₁=>?_);simp only[false_eq_true,if_false];refine wpAny_bind ?_;rw[←Array.forIn_toList];simp only[List.forIn_cons,List.forIn_nil];refine wpAny_bind (wpAny_bind (wpAny_holding ?_));show wpAny _ _ (Builtin.SmallTypes.nextOf (.ref i1) >>= _) _ _ _
 have fin:∀h' e,(∀c o,c≠z->c≠i1->c≠i2->s.heap.get? c=some o->h'.get? c=some o)->(∃o,h'.get? e=some o/\o.cls=.type "StopIteration") ->
   wpAny (model prog w) A (do if ←isInstance (.ref e) (.type "StopIteration")then pure none else throw (.ref e)) Q E { s with heap:=h' }:=λh' e k ⟨oe,hoe,hce⟩=>by
  refine wpAny_bind (wpAny_isInstance (T := "StopIteration") (b:=true) ⟨oe,hoe,hce⟩ isSubtype_stop ?_);exact wpAny_pure (hQ _ k)
 cases hx:xs[k1]? with
 |none =>
  refine wpAny_bind (wpAny_nextOf_list_end hh (h1.extBut hs₁.extBut D.i1z) (hl1.extBut hs₁.extBut D.l1z) hx λh₂ e hs₂ he=>?_);exact fin _ _ (λc o c1 c2 c3 q=>hs₂ _ _ c2 (hs₁.extBut _ _ c1 q)) he
 |some x =>
  have hy:ys[k2]?=none:=by rcases oK with h|h;rw[hx]at h;cases h;exact h
  refine wpAny_bind (wpAny_nextOf_list_item (h1.extBut hs₁.extBut D.i1z) (hl1.extBut hs₁.extBut D.l1z) hx λh₂ h1₂ hs₂=>wpAny_pure ?_);refine wpAny_pure ?_;dsimp only;refine wpAny_bind (wpAny_bind (wpAny_holding ?_));show wpAny _ _ (Builtin.SmallTypes.nextOf (.ref i2) >>= _) _ _ _;refine wpAny_bind (wpAny_nextOf_list_end hh ((h2.extBut hs₁.extBut D.i2z).extBut hs₂.extBut D.i12.symm) ((hl2.extBut hs₁.extBut D.l2z).extBut hs₂.extBut D.l2i1) hy λh₄ e hs₄ he=>?_);exact fin _ _ (λc o c1 c2 c3 q=>hs₄ _ _ c3 (hs₂.extBut _ _ c2 (hs₁.extBut _ _ c1 q))) he
section
variable{R:Result->Shared->Prop}
theorem neA{a T:Addr}{N:Nat}(h:a<N)(h':N<=T):T≠a:=ne_of_gt (lt_of_lt_of_le h h')
def tw(h:Heap)(z TI TO:Addr)(N:Nat)(i:Nat):Prop:=(i=0/\IsZip h z TI TO .none)\/∃T0 bb o,N<=T0/\T0≠z/\jm h z TI TO T0 bb/\h.get? T0=some o/\o.cls=.type "tuple"
end
set_option maxRecDepth 100000
set_option maxRecDepth 100000
theorem jf:∀{l L:List Int},l.Nodup->(∀x∈l,x∈L)->l.length<=L.length
 | [],_,_,_=>zero_le _
 |x :: l,L,hn,hs=>by
  obtain⟨h1,h2⟩:=nodup_cons.mp hn;have hx:=hs x mem_cons_self;have ih:=jf (L:=L.erase x) h2 λy hy=>(List.mem_erase_of_ne (λ(e:y=x)=>h1 (e ▸ hy))).mpr (hs y (mem_cons_of_mem _ hy))
  rw[List.length_erase_of_mem hx]at ih;have:0<L.length:=List.length_pos_of_mem hx;rw[length_cons];lia
theorem tD:∀{vs:List Value},(∀v∈vs,∃u,v=.int (kz v) u)->IntsAre vs (vs.map kz)
 | [],_=>.nil
 |v :: vs,h=>by
  obtain⟨u,e⟩:=h v mem_cons_self;rw[e];exact .cons _ u (tD λx hx=>h x (mem_cons_of_mem _ hx))
theorem nV:∀{vs:List Value}{ns:List Int},IntsAre vs ns->Vals (ns.map V.int) vs
 |_,_,.nil=>.nil
 |_,_,.cons n t r=>.cons ⟨t,U⟩ (nV r)
theorem ig:∀{ns:List Int},ns.Pairwise (· <= ·)->ns.Nodup->ns.Pairwise (· < ·)
 | [],_,_=>.nil
 |n :: ns,h1,h2=>by
  obtain⟨a1,a2⟩:=pairwise_cons.mp h1;obtain⟨b1,b2⟩:=nodup_cons.mp h2;refine .cons (λm hm=>?_) (ig a2 b2);have:=a1 m hm;have:n≠m:=λe=>b1 (e ▸ hm)
  lia
theorem rN{a:Addr}{ks:List Int}{m:Nat}{Q:Value->Shared->Prop}(hh:A.handled=none)(hW:dW s.heap a (!dZ w) ks m)(hm:m<64)
  (h:∀(ns:List Int)(vs:List Value)(s':Shared)(D:Addr)(c:Nat),Vals (ns.map V.int) vs->ns.Pairwise (· < ·)->(∀k,k∈ns↔k∈ks)->s.heap.objs.size<=D->(∀b u,s.heap.get? b=some u->s'.heap.get? b=some u)->s'.heap.get? D=some (seqObj "list" vs.toArray c)->s'.gens=s.gens->s'.os=s.os->ns.length=m->Q (.ref D) s') :
  wpAny (model prog w) A (call (.builtin "sorted") [.ref a]) Q E s:=by
 obtain⟨o,es,ep,t,ho,hex,hd,hE,hb,hf,ha,hl,hn⟩:=hW;refine Calls.call_function_entry kind_sorted plain_sorted entry_sorted (args_sorted1 _) ?_;unfold Builtin.«sorted»;refine wpAny_bind (m:=checkCount "sorted" 1 1 _) (wpAny_pure ?_);refine wpAny_bind (ql (by simp[hh]) ho hex hd hb hf ha hl λord s1 pm kp hg hos hss=>?_);have hlen:ord.length=m:=by rw[pm.length_eq,length_map,length_toList,hn]
 have hint:∀v∈ord,∃u,v=.int (kz v) u:=λv hv=>by
  obtain⟨e,he,rfl⟩:=mem_map.mp (pm.mem_iff.mp hv);exact(hE.ent e he).2
 have hI:=tD hint;have pk:(ord.map kz).Perm (es.toList.map λe=>kz e.2):=by
  have:=pm.map kz;rw[map_map]at this;exact this
 refine wpAny_bind (wpAny_newList ?_ (by rw[sizeLine_eq];lia));have hoL:(s1.heap.push (seqObj "list" ord.toArray 0)).get? s1.heap.objs.size=some (seqObj "list" ord.toArray 0):=Heap.get?_push_size _ U;have keep:∀b u,s.heap.get? b=some u->(s1.heap.push (seqObj "list" ord.toArray 0)).get? b=some u:=λb u q=>Heap.get?_push_of_some _ (kp b u q)
 show wpAny _ _ _ _ _ { s1 with heap:=s1.heap.push (seqObj "list" ord.toArray 0) };refine wpAny_bind (wpAny_holding (wpAny_call_entry slot_list_sort ⟨_,hoL,U⟩ entry_list_sort ?body (args_list_sort _)))
 case body =>
  refine list_sort_tree (s:={ s1 with heap:=s1.heap.push (seqObj "list" ord.toArray 0) }) hoL hI (by lia) λout ns' a1 a2 a3=>⟨_,U,wpAny_pure ⟨_,U,?_⟩⟩
  have nd:ns'.Nodup:=a2.nodup_iff.mpr (pk.nodup_iff.mpr hE.nd);have hlt:s1.heap.objs.size<(s1.heap.push (seqObj "list" ord.toArray 0)).objs.size:=Heap.lt_size hoL;obtain⟨e1,ho1⟩:∃e1,((s1.heap.push (seqObj "list" ord.toArray 0)).update s1.heap.objs.size (Obj.mapSeq λ_=>#[])).get? s1.heap.objs.size=some (seqObj "list" #[] e1):=⟨_,get?_update_seq hoL (λ_=>#[])⟩;have h3:∀b,b<(s1.heap.push (seqObj "list" ord.toArray 0)).objs.size->((((s1.heap.push (seqObj "list" ord.toArray 0)).update s1.heap.objs.size (Obj.mapSeq λ_=>#[])).push (seqObj "tuple" ord.toArray 0)).push (seqObj "list" #[] 0)).get? b=((s1.heap.push (seqObj "list" ord.toArray 0)).update s1.heap.objs.size (Obj.mapSeq λ_=>#[])).get? b:=λb hb=>by
   rw[Heap.get?_push_ne _ _ _ (by rw[size_push',Heap.size_update];exact ne_of_lt (lt_succ_of_lt hb)),Heap.get?_push_ne _ _ _ (by rw[Heap.size_update];exact ne_of_lt hb)]
  have e6:((((s1.heap.push (seqObj "list" ord.toArray 0)).update s1.heap.objs.size (Obj.mapSeq λ_=>#[])).push (seqObj "tuple" ord.toArray 0)).push (seqObj "list" #[] 0)).get? s1.heap.objs.size=some (seqObj "list" #[] e1):=by rw[h3 _ hlt];exact ho1
  have sz:s.heap.objs.size<=s1.heap.objs.size:=le_of_lt hss;refine h ns' out.toList { s1 with heap:=sortedHeap (s1.heap.push (seqObj "list" ord.toArray 0)) s1.heap.objs.size ord out } s1.heap.objs.size _ (nV a1) (ig a3 nd) (λk=>(a2.mem_iff).trans ((pk.mem_iff).trans (hE.mem k).symm)) sz (λb u q=>?_) (get?_update_seq e6 (λ_=>out)) hg hos ?_
  ·have hb1:b<s1.heap.objs.size:=Heap.lt_size (kp b u q);show(Heap.update _ _ _).get? b=some u;rw[Heap.get?_update_ne _ _ _ _ (ne_of_lt hb1),h3 _ (lt_trans hb1 hlt),Heap.get?_update_ne _ _ _ _ (ne_of_lt hb1)];exact keep b u q
  ·rw[a2.length_eq,length_map,hlen]
theorem Inv.grow{s':Shared}(I:Inv X pins σ H s)(k:∀b o,s.heap.get? b=some o->s'.heap.get? b=some o)(hg:s'.gens=s.gens)(hos:s'.os=s.os)(hold:∀b,b<s.heap.objs.size->H' b=H b)
  (jZ:∀b u,s.heap.objs.size<=b->H' b=some u->bQ X.prog X.w H' s'.heap b u):Inv X pins σ H' s':=by
 obtain⟨h',g',d',t',o'⟩:=s';obtain rfl:g'=s.gens:=hg;obtain rfl:o'=s.os:=hos;have lt:∀{b u},H b=some u->b<s.heap.objs.size:=λ{b u} e=>by
  rcases lt_or_ge b s.heap.objs.size with z|z
  ·exact z
  ·rw[I.hok.fresh z]at e;cases e
 have same:∀{b u},H b=some u->H' b=some u:=λe=>by rw[hold _ (lt e)];exact e
 exact I.step (h':=h') (g':=s.gens) (d':=d') (t':=t') (ch:=[]) (λ_ z=>nomatch z) (λb o _ _ _ e _=>k b o e) (λb o _ _ _ e _=>⟨o.slots,k b o e⟩)
  (λb o _ e n=>by rw[hold _ (Heap.lt_size e)];exact n) (λb o _ e=>⟨o,k b o e⟩) (λb xs e=>same e) (λb o u e=>same e) (λb ps e=>⟨#[],by rw[same e];simp⟩)
  (λm hm=>by
   obtain⟨o,es,ep,ho,r⟩:=hm;exact⟨o,es,ep,k _ o ho,r⟩)
  (λb u e=>by
   rcases lt_or_ge b s.heap.objs.size with z|z
   ·rw[hold _ z]at e;exact(I.hok b u e).stay (λc u' _ q=>k c u' q) (λc q=>same q) λc xs q=>same q
   ·exact jZ b u z e)
  I.bare
def xt(w:World)(a:Addr)(zs:List Int):HO:=.ext λh=>∃m,dW h a (!dZ w) zs m
theorem mf:∀{zs:List Int}{us:List Value},Vals (zs.map V.int) us->∀(i:Nat)(v:Value),us[i]?=some v->∃z t,zs[i]?=some z/\v=.int z t
 | [],_,.nil,i,v,h=>by simp at h
 |z :: zs,_,.cons ⟨t,e⟩ r,0,v,h=>by simp at h;exact⟨z,t,U,by rw[←h,e]⟩
 |z :: zs,_,.cons _ r,i+1,v,h=>by
  obtain⟨z',t,e1,e2⟩:=mf r i v (by simpa using h);exact⟨z',t,by simpa using e1,e2⟩
theorem uL{w:World}(hw:X.w=w)(hc:X.calm=true):cw X (.type "set") (λxs H Q=>∃(p:Addr)(zs:List Int),xs=[.ref p]/\SqL X.K H p (zs.map V.int)/\zs.length<=1000/\∀l,H l=none->Q (.ref l) (upd H l (xt w l zs))):=by
 subst hw;intro pins s σ H xs us Q I r h;obtain⟨p,zs,rfl,hS,hz,q⟩:=h;obtain⟨u,rfl,ru⟩:=r.one;obtain rfl:u=Value.ref p:=ru;obtain⟨its,rv,pl,_⟩:=I.list hS;have hl:=rv.length;rw[length_map]at hl;refine uD (ks:=zs) (I.ok.hd hc) pl.isList (λi v e=>?_) (by simpa using hl) (by unfold scanBound;simp;lia) λh' tk m x hm kp=>?_
 ·exact mf rv i v (by simpa using e)
 ·refine⟨.ref s.heap.objs.size,_,I.laid (a:=s.heap.objs.size) (o:=xt X.w s.heap.objs.size zs) (h':=h') (t':=tk) (λb o q=>kp b o (Heap.lt_size q) q) (le_refl _) ?_,U,q _ I.fresh⟩;refine⟨⟨m,x⟩,?_,λh1 h2 ⟨m',y⟩ k=>⟨m',y.stay k⟩⟩;obtain⟨o,_,_,_,g,_⟩:=x;exact⟨o,g⟩
theorem kD{w:World}(hw:X.w=w)(hc:X.calm=true):cw X (.builtin "sorted") (λus H Q=>∃(a:Addr)(zs L:List Int),us=[.ref a]/\H a=some (xt w a zs)/\L.length<64/\(∀k∈zs,k∈L) /\
  ∀(D:Addr)(ns:List Int),H D=none->ns.Pairwise (· < ·)->(∀k,k∈ns↔k∈zs)->Q (.ref D) (upd H D (.lst (ns.map V.int)))):=by
 subst hw;intro pins s σ H us vs Q I r h;obtain⟨a,zs,L,rfl,e,hL,hs,q⟩:=h;obtain⟨u,rfl,ru⟩:=r.one;obtain rfl:u=Value.ref a:=ru;obtain⟨⟨m,x⟩,_,_⟩:=I.hok a _ e;have hm:m<64:=by
  obtain⟨o,es,ep,t,_,_,_,hE,_,_,_,_,hn⟩:=id x;have:=jf (L:=L) hE.nd λk hk=>hs k ((hE.mem k).mpr hk)
  rw[length_map,length_toList,hn]at this;lia
 refine rN (I.ok.hd hc) x hm λns us s' D c a1 a2 a3 a4 a5 a6 a7 a8 a9=>?_
 have hD:H D=none:=I.hok.fresh a4;refine⟨.ref D,upd H D (.lst (ns.map V.int)),I.grow a5 a7 a8 (λb hb=>by rw[ar (ne_of_lt (lt_of_lt_of_le hb a4))]) (λb u hb eu=>?_),U,q D ns hD a2 a3⟩;by_cases z:b=D
 ·subst z;rw[ae]at eu;cases eu;exact⟨by rw[length_map,sizeLine_eq];lia,us,c,a1,a6⟩
 ·rw[ar z,I.hok.fresh hb]at eu;cases eu
theorem ltA{c n:Nat}(h:c<n)(k:Nat):c≠n+k:=ne_of_lt (lt_of_lt_of_le h (le_add_right _ _))
def Ite(K:W.Frag)(a:Addr):It :=
 ⟨λi H=>∃xs x,SqL K H a xs/\xs[i]?=some x,
 λi H v H'=>∃T,H T=none/\v=.ref T/\∀xs x,SqL K H a xs->xs[i]?=some x->H'=upd H T (.tup [.int i,x]),
 λi H=>∃xs,SqL K H a xs/\xs.length<=i⟩
def vX(e it a:Addr)(i:Nat)(h:Heap):Prop:=(∃old,IsEnum h e it i old)/\h.IsListIter it a i
theorem uM{P:Program}{w:World}{K:W.Frag}{elts:List Expr} {x1} {tp:Pos}{e it a:Addr}(hne:e≠it) :
  Turn P w K (.Tuple elts x1 tp) (Ite K a) [e,it] e (vX e it a) where
 mem:=by simp
 obj:=λi h st c hc=>by
  obtain⟨⟨old,g1⟩,⟨o2,g2,_,d2⟩⟩:=st;simp only[mem_cons,not_mem_nil,or_false]at hc;rcases hc with rfl|rfl
  ·exact⟨_,g1,λv q=>nomatch q⟩
  ·exact⟨_,g2,λv q=>by rw[d2]at q;cases q⟩
 keep:=λi h h' st k=>by
  obtain⟨⟨old,g1⟩,g2⟩:=st;exact⟨⟨old,k e (by simp) _ g1⟩,g2.at λo q=>k it (by simp) o q⟩
 item:=by
  intro X hP hw hK hc i pins s σ H E I hf st hg;subst hP hw hK;obtain⟨xs,x,qa,ex⟩:=hg;obtain⟨⟨old,g1⟩,g2⟩:=st;obtain⟨us,ru,pu,_⟩:=I.list qa;obtain⟨u,eu,r1⟩:=ru.get ex;refine wpAny_pyNext_enum_item g1 g2 pu.isList (x:=u) (by simpa using eu) hne λh1 a1 a2 a3 a4 a5=>?_
  refine⟨_,U,wpAny_letOwnedTupleGo_enum (s:={ s with heap:=h1,toks:=s.toks+1 }) a1 λh2 b1 b2=>?_⟩;have nT:s.heap.get? s.heap.objs.size=none:=by
   cases q:s.heap.get? s.heap.objs.size with
   |none=>rfl
   |some o=>exact absurd (Heap.lt_size q) (lt_irrefl _)
  have hT:H s.heap.objs.size=none:=I.hok.fresh (le_refl _);have nz:s.heap.objs.size≠e:=ne_of_gt (Heap.lt_size g1);have kk:∀c o,c ∉ [e,it]->s.heap.get? c=some o->h2.get? c=some o:=λc o hc q=>by
   simp only[mem_cons,not_mem_nil,or_false,not_or]at hc;exact b2.extBut _ _ hc.1 (a5 c o hc.1 hc.2 q)
  have J:=I.turnedPair (h':=h2) (ch:=[e,it]) (T:=s.heap.objs.size) (x:=.int i) (y:=x) (u:=.int i s.toks) (v:=u) (λc hc=>hf c (by simp at hc⊢;rcases hc with q|q <;> simp[q])) kk nT hT (b2.extBut _ _ nz a3) ⟨_,U⟩ r1;refine⟨.ref s.heap.objs.size,upd H s.heap.objs.size (.tup [.int i,x]),J.tok _,U,⟨_,hT,U,λxs' x' q1 e1=>?_⟩,⟨⟨_,b1⟩,a2.extBut b2.extBut hne.symm⟩,λc hc=>?_⟩
  ·rw[I.list_inj q1 qa,ex]at e1;cases e1;rfl
  ·have h0:=(hf c hc).1;have:c≠s.heap.objs.size:=by
    obtain⟨o2,g2',_⟩:=g2;simp only[mem_cons,not_mem_nil,or_false]at hc;rcases hc with rfl|rfl
    ·exact nz.symm
    ·exact ne_of_lt (Heap.lt_size g2')
   rw[ar this];exact h0
 done:=by
  intro X hP hw hK hc i pins s σ H E I hf st hg;subst hP hw hK;obtain⟨xs,qa,hl⟩:=hg;obtain⟨⟨old,g1⟩,g2⟩:=st;obtain⟨us,ru,pu,_⟩:=I.list qa;have l1:=ru.length;refine wpAny_pyNext_enum_end (I.ok.hd hc) g1 g2 pu.isList (by simp;lia) λh2 k=>⟨U,I.turnedL (ch:=[e,it]) (λc hc=>hf c (by simp at hc⊢;rcases hc with q|q <;> simp[q])) λc o hc q=>?_⟩
  simp only[mem_cons,not_mem_nil,or_false,not_or]at hc;exact k c o hc.2 q
 self:=λ_ _ _ _ _ st h=>let ⟨⟨_,g⟩,_⟩:=st;wpAny_pyIter_enum g h
inductive vY(K:W.Frag)(R:It->Hp->Prop)(vs:List V)(H1:Hp):Prop
 |mk (a:_)(_:vs=[.ref a])(_:(∃xs,SqL K H1 a xs))(_:R (Ite K a) H1):vY K R vs H1
def AU(K:W.Frag)(ta:TA):TI:=λσ H R=>ta σ H λvs H1=>vY K R vs H1
theorem xu{e1:Expr}{ta:TA}{p pos:Pos}{elts:List Expr} {x1} {tp:Pos}(hg:Gl X "enumerate") (hm:X.mg "enumerate" = none) (ha:PA X [e1] ta)
  (hs:starEach [e1] X.env=[(false,eval e1 X.env)]:=by rfl) :
  PI X (.Tuple elts x1 tp) (.Call (.Name "enumerate" p) [e1] [] pos) (AU X.K ta):=by
 intro pins s σ H R I h;refine Call_ (gm I hg hm PyProof.Rows.boot_enumerate (PyProof.Rows.callWith_type1 (thn (ha pos pins s σ H _ I h) λus s1 ⟨vs,H1,I1,r1,q1⟩=>?_) (by rw[hs];rfl) U));obtain⟨a,rfl,⟨xs,qa⟩,q⟩:=q1;obtain⟨u,rfl,ru⟩:=r1.one;cases (show u=Value.ref a from ru);obtain⟨us,_,pu,_⟩:=I1.list qa;refine call_enumerate_list pu.isList λh' z1 z2 z3 z4=>?_
 refine wpAny_pyIter_enum (s:={ s1 with heap:=h' }) z1 ?_;refine⟨s1.heap.objs.size+1,[s1.heap.objs.size+1,s1.heap.objs.size],vX (s1.heap.objs.size+1) s1.heap.objs.size a,Ite X.K a,H1,U,I1.kept (t':=s1.toks) z4,uM (ne_of_gt (lt_succ_self _)),⟨⟨_,z1⟩,z2⟩,λc hc=>?_,q⟩;have hc':s1.heap.objs.size<=c:=by
  simp only[mem_cons,not_mem_nil,or_false]at hc;rcases hc with rfl|rfl
  ·exact le_succ _
  ·exact le_refl _
 exact I1.fpOk hc' (I1.hok.fresh hc')
variable{gt:TG}{fr:List Nat}{tt:TT}{te:TE}
section
variable{k:Nat}
theorem rO{K:W.Frag}{a:Addr}{xs:List V}{σ:St}{H1:Hp}{Q:VK}(Pv:Addr->Nat->List V->Hp->Prop)(h0:∀D,H1 D=none->Pv D 0 [] (upd H1 D (.lst [])))
  (hk:∀D i ys H,H1 D=none->i<=xs.length->Pv D i ys H->SqL K H a xs)
  (hs:∀D i x ys H T,H1 D=none->xs[i]?=some x->Pv D i ys H->H T=none->∀ts:St,ts.length=k->gt (.ref T) (dN σ fr ts) (upd H T (.tup [.int i,x])) λσ2 H2=>(∃ts2:St,ts2.length=k/\σ2=dN σ fr ts2)/\tt σ2 H2 λb H3=>if b=true then te σ2 H3 (bT Pv D i xs.length)else eM Pv D i xs.length H3)
  (hd:∀D ys H,H1 D=none->Pv D xs.length ys H->Q (.ref D) H):jT (Ite K a) gt k fr tt te σ Q H1:=by
 intro D hD;refine⟨λi m H=>m=xs.length-i/\i<=xs.length/\∃ys,Pv D i ys H,⟨_,U,zero_le _,[],h0 D hD⟩,?_⟩;rintro i m H ⟨rfl,hi,ys,p⟩;have q:=hk D i ys H hD hi p;by_cases hlt:i<xs.length
 ·have ex:xs[i]?=some xs[i]:=EV hlt;refine .inr ⟨⟨xs,xs[i],q,ex⟩,λx H' y=>?_⟩;obtain⟨T,hT,rfl,e⟩:=y;rw[e xs _ q ex];exact hs D i _ ys _ T hD ex p hT
 ·have e:i=xs.length:=by lia
  subst e;exact .inl ⟨⟨xs,q,le_refl _⟩,hd D ys H hD p⟩
end
theorem kY{X:Cx}{N:List Str}{k:Nat}{fr:List Nat}{scope:Scope}{cl:List (Str×Addr)}(clos:closureFor scope X.env=pure cl)(kind:scope.kind=.function)(nocell:∀y∈scope.names,y.2≠.cell)
  (names:∀y∈scope.names,y.2=.local->scope.names.lookup y.1=some .local)(len:N.length=k+fr.length)
  (sub:((List.range fr.length).all λi=>match N[k+i]?,fr[i]? with|some y,some j=>(X.N[j]? == some y) && ((X.env.kindOf y == some .cell) && ((relabel scope X.env).names.lookup y == some .cell))|_,_=>false)=true)
  (cells:∀p∈cl,X.env.cells.lookup p.1=some p.2)(has:((relabel scope X.env).names.all λp=>(p.2 != .cell && p.2 != .free) || (cl.lookup p.1).isSome)=true):lT X N k fr scope cl:=by
 refine⟨clos,kind,nocell,names,len,λi y e=>?_,λy c e=>cells _ (mem_of_lookup e),λy h=>?_⟩
 ·have hi:i<fr.length:=by have:=(EW.mp e).1;lia
  have z:=all_eq_true.mp sub i (mem_range.mpr hi);rw[e,EV hi]at z;simp only[and_eq_true,beq_iff_eq]at z;exact⟨_,EV hi,z.1,.inl z.2.1,.inl z.2.2⟩
 ·have look:∀k,(relabel scope X.env).names.lookup y=some k->(k=.cell\/k=.free)->∃c,cl.lookup y=some c:=λk e hk=>by
   have z:=all_eq_true.mp has _ (mem_of_lookup e);rcases hk with rfl|rfl
   ·exact isSome_iff_exists.mp (by simpa using z)
   ·exact isSome_iff_exists.mp (by simpa using z)
  rcases h with h|h
  ·exact look _ h (.inl U)
  ·exact look _ h (.inr U)
theorem nW{K:W.Frag}(hK:X.K=K){a:Expr}{ta:TE}(ha:PE X a ta)(he:∀whole,isTrue a X.env whole=(do let v ←whole;standAt a.pos;holding [v] (truthy v)):=by intro _;rfl) :
  PT X a (λσ H Q=>ta σ H λx H'=>∃k,yR K x H' k/\Q k H'):=hK ▸ dJ ha he
section
variable{elt iter:Expr}{ifs:List Expr}{cl:List (Str×Addr)}{k:Nat}
theorem qp{wi:TI}{i:Nat}{y:Str}{py vK:Pos}(hN:X.N.Nodup)(hy:X.N[i]?=some y)(hl:Loc X.env.scope y)(hi:PI X tg iter wi)(O:lT X N k fr scope cl)(hc:X.calm=true)(hg:∀fp C s H,PG (bL X N scope cl fp C s H) tg gt)
  (ht:∀fp C s H,PIf (bL X N scope cl fp C s H) ifs tt)(he:∀fp C s H,PE (bL X N scope cl fp C s H) elt te)(hs:∀v,foldedSetIterable iter X.env v=pure v:=by intro _;rfl)
  (hsw:swapsWith (.ListComp elt [⟨tg,iter,ifs,0⟩] scope pos) (some (.Name y py)) vK.line X.env=pure true:=by rfl)(hf:X.fn y=true\/X.env.scope.names.lookup y=some .local:=by first|exact .inl U|exact .inr U|assumption) :
  PS X (.Assign [.Name y py] (.ListComp elt [⟨tg,iter,ifs,0⟩] scope pos) vK) (xa (vL wi gt k fr tt te) (nr i)):=by
 intro pins s σ H D0 I h;rw[exec_Assign_Name_used _ _ _ _ hsw];refine wpAny_bind (wpAny_standAt (wpAny_bind ?_));show wpAny _ X.A (do let _ ←comprehension (.ListComp elt [⟨tg,iter,ifs,0⟩] scope pos) scope X.env _ (newList []) false (eval iter X.env) (some (assign (.Name y py) X.env))) _ _ s;refine wpAny_bind (wpAny_mono (wpAny_comprehension_free (use:=some (assign (.Name y py) X.env)) (Q:=λ_ s'=>SP X pins D0 .next s') U hs O.clos O.kind O.names (thn (hi pins s σ H _ I h) λv s1 h1=>thn h1 λitv s2 h2=>?_)) (λ_ s' hq=>wpAny_pure (wpAny_pure hq)) λ_ _ z=>z);obtain⟨it,fp,tn,J,H2,e,I2,T,st2,f2,hW⟩:=h2;subst e;refine lU (Q:=λv H1=>nr i v σ H1 D0.nx) (RR:=λacc C=>compPost (model X.prog X.w) X.A X.xe (some (assign (.Name y py) X.env)) (λ_ s'=>SP X pins D0 .next s') acc C) O hc I2 T st2 f2 ht he hg hW λD C s' H' hC hn ⟨m,hm⟩ I' q=>?_
 show wpAny _ X.A (assign (.Name y py) X.env (.ref D)) _ _ s';refine wpAny_assign_Name (kl I' hN hy hl (v:=.ref D) U (λs3 I3 ⟨a,hsa,ha⟩=>?_) hf);have hCa:C≠a:=by
  rcases ha with z|z
  ·rw[z];exact ne_of_gt (lt_of_lt_of_le I2.lt hC)
  ·obtain⟨v,o,ho,_⟩:=I2.cell y a z;exact ne_of_gt (lt_of_lt_of_le (Heap.lt_size ho) hC)
 exact⟨m,hm.sameBut hsa hCa,λh' hs'=>⟨_,H',I2.left I3 hC hn hs',q⟩⟩
end
set_option maxRecDepth 100000
theorem oO:typeLookup (.type "list") "keys" = pure none:=by rw[typeLookup_type,builtinLookup_eq_fast];kernel_rfl
theorem uN{a:Addr}{items:Array Value}{Q:Option Value->Shared->Prop}(hl:s.heap.IsList a items)(hdn:∀o,s.heap.get? a=some o->o.dict=none)(hA:A.handled=none)
  (h:∀h' tk,(∀b o,s.heap.get? b=some o->h'.get? b=some o)->Q none { s with heap:=h',toks:=tk }) :
  wpAny (model prog w) A (getAttr? (.ref a) "keys") Q E s:=by
 obtain⟨o,hx,hc,k,AV⟩:=hl;have hd:=hdn o hx;obtain⟨c,dct,dat,sl⟩:=o;simp only at hc AV hd;subst hc AV hd;obtain⟨hp,g,d,tk,os⟩:=s;have hT:∀tk',(⟨hp,g,d,tk',os⟩:Shared).TypeIs (.ref a) "list" := λ_=>⟨_,hx,U⟩
 have f1:=sub_AttributeError;have f3:=F.slot_list_getattribute.lookup;have f4:=F.slot_list_getattribute.bind (.ref a);have f5:=am_list_getattr_none;unfold getAttr? getAttrBy? getAttrBy
 repeat (any_goals (first|assumption|exact hT _|((with_reducible show wpAny _ _ (call (Value.builtin "list.__getattribute__") _ _) _ _ _);refine call_meets F.slot_list_getattribute (hT _) am_entry_list_getattribute (F.args_list_getattribute_2 _ _) (meets_getattribute_miss_list a _ k sl "keys" _ oO (by decide) (by decide)) ⟨hx,hA,λh' tk' e hx'=>?_⟩)|wp_step))
 obtain⟨t',u',he⟩:=hx'.there;show wpAny _ _ (getattributeRaised _ _ _ _ _ _ _) _ _ _;unfold getattributeRaised
 repeat (any_goals (first|assumption|wp_step))
 exact h _ _ hx'.of.keeps
theorem bq:plainId "dict.update.loop" = true:=by decide+kernel
theorem cO:entryFor table "dict.update.loop" = some Builtin.«dict.update.loop»:=entryFor_of_fast (by kernel_rfl)
theorem kE{κ:Type} [DecidableEq κ] {knd:KeyKind prog w κ}{d I ax:Addr}{items:Array Value}{ps:List (κ×Value)}{res:Value}(hh:A.handled=none)(hI:I≠ax)(hdI:d≠I)(hdx:d≠ax)(hps:ps.length=items.size) :
  ∀(k i:Nat)(s:Shared)(kvs:List (κ×Value))(t0:Tok)(R:Result->Shared->Prop),items.size-i=k->i<=items.size->s.heap.IsListIter I ax i->s.heap.IsList ax items->s.heap.DictOf knd d kvs ->
   (∀(j:Nat)(p:κ×Value),ps[j]?=some p->∃(t:Addr)(o:Obj)(n:Nat)(key:Value),items[j]?=some (.ref t)/\s.heap.get? t=some o/\o.cls=.type "tuple" /\ o.data=.seq #[key,p.2] n/\knd.is p.1 key=true/\t≠I/\t≠d) ->
   kvs.length+k<=sizeLine ->
   (∀h' tk,h'.DictOf knd d (merged kvs (ps.drop i))->(∀b o,b≠I->b≠d->s.heap.get? b=some o->h'.get? b=some o)->R (.ok (.ret res)) { s with heap:=h',toks:=tk }) ->
   codeAny (model prog w) A (.builtin "dict.update.loop" ⟨[.ref d,.ref I,.int (i:Int) t0,res],[]⟩) R s:=by
 intro k;induction k with
 |zero =>
  intro i s kvs t0 R hk hi hit hl hd hT hsz hR;have hin:i=items.size:=by lia
  refine codeAny_builtin cO ?_;rw[Around.under_plainId bq _];unfold Builtin.«dict.update.loop»;show wpAny _ A.in1 (pyNext (.ref I) >>= _) _ _ s;refine wpAny_bind (wpAny_pyNext_list_end (by simp[hh]) hit hl (by simp[hin]) λh' he'=>?_);show wpAny _ A.in1 (Builtin.Dict.addKeywords d [] >>= _) _ _ _;refine wpAny_bind (wpAny_pure (wpAny_pure ?_));have e:ps.drop i=[]:=List.drop_of_length_le (by lia);refine hR h' _ ?_ λb o hb _ e=>he' b o hb e
  rw[e];exact hd.extBut he' hdI
 |succ k ih =>
  intro i s kvs t0 R hk hi hit hl hd hT hsz hR;have hlt:i<items.size:=by lia
  have ep:=EV (l:=ps) (i:=i) (by lia);obtain⟨t,o,n,key,e1,e2,e3,e4,e5,e6,e7⟩:=hT i _ ep;refine codeAny_builtin cO ?_;rw[Around.under_plainId bq _];unfold Builtin.«dict.update.loop»;show wpAny _ A.in1 (pyNext (.ref I) >>= _) _ _ s;refine wpAny_bind (wpAny_pyNext_list_item hit hl e1 λh' Ck hs'=>?_);have et':h'.get? t=some o:=(hs'.2 t e6).trans e2;refine wpAny_bind (wpAny_holding ?_);refine wpAny_bind (wpAny_tryCatch ?_);unfold Builtin.Dict.pairItems;refine wpAny_bind (wpAny_typeOf (T := "tuple") ⟨o,et',e3⟩ ?_);rw[if_pos (by decide)];refine wpAny_bind (wpAny_seqItems et' e4 (wpAny_pure ?_));show wpAny _ _ (holding [key,(ps[i]).2] (dictSet d key (ps[i]).2)) _ _ _;refine wpAny_holding ?_;have hd':h'.DictOf knd d kvs:=hd.extBut hs'.extBut hdI;refine wpAny_dictSet_pairs e5 hd' (λh2 hd2 hs2=>?_) (by lia);have kp:∀b ob,b≠I->b≠d->s.heap.get? b=some ob->h2.get? b=some ob:=λb ob n1 n2 e=>(hs2.2 b n2).trans ((hs'.2 b n1).trans e)
  have hsl:(stored kvs (ps[i]).1 (ps[i]).2).length<=kvs.length+1:=by
   unfold stored;split
   ·rw[length_map];lia
   ·rw[length_append];simp
  have edr:ps.drop i=ps[i] :: ps.drop (i+1):=List.drop_eq_getElem_cons (by lia);refine wpAny_pure ⟨plainId_quiet bq _,?_⟩;have go:=ih (i+1) { s with heap:=h2,toks:=s.toks+1 } (stored kvs (ps[i]).1 (ps[i]).2) 0 R (by lia) (by lia) (Ck.at λob e=>(hs2.2 I hdI.symm).trans e) (hl.at λob e=>kp ax ob hI.symm hdx.symm e) hd2 (λj p ej=>?_) (by lia) (λh3 tk hd3 kp3=>?_)
  ·exact go
  ·obtain⟨t',o',n',Cm,f1,f2,f3,f4,f5,f6,f7⟩:=hT j p ej;exact⟨t',o',n',Cm,f1,kp t' o' f6 f7 f2,f3,f4,f5,f6,f7⟩
  ·refine hR h3 tk ?_ λb ob n1 n2 e=>kp3 b ob n1 n2 (kp b ob n1 n2 e)
   rw[edr];exact hd3
theorem lr{κ:Type} [DecidableEq κ] {knd:KeyKind prog w κ}{ax:Addr}{items:Array Value}{ps:List (κ×Value)}{Q:Value->Shared->Prop}(hh:A.handled=none)(hl:s.heap.IsList ax items)(hdn:∀o,s.heap.get? ax=some o->o.dict=none)(hps:ps.length=items.size)(hsz:items.size<=sizeLine)(hnd:(ps.map (·.1)).Nodup)
  (hT:∀(j:Nat)(p:κ×Value),ps[j]?=some p->∃(t:Addr)(o:Obj)(n:Nat)(key:Value),items[j]?=some (.ref t)/\s.heap.get? t=some o/\o.cls=.type "tuple" /\ o.data=.seq #[key,p.2] n/\knd.is p.1 key=true)
  (hQ:∀h' tk,h'.DictOf knd s.heap.objs.size ps->(∀b o,s.heap.get? b=some o->h'.get? b=some o)->Q (.ref s.heap.objs.size) { s with heap:=h',toks:=tk }) :
  wpAny (model prog w) A (call (.type "dict") [.ref ax]) Q E s:=by
 refine callType_codes (Q₁:=λobj s₁=>obj=.ref s.heap.objs.size/\s₁={ s with heap:=s.heap.push { cls:=.type "dict",data:=.dict #[] } }) F.kt_called_dict (F.kt_typeCall_dict_1 _) F.entry_dict_init (kt_code_dict_new _ ⟨U,U⟩) ?_;rintro obj s₁ ⟨rfl,rfl⟩;have jZ:(s.heap.push { cls:=.type "dict",data:=.dict #[] }).DictOf knd s.heap.objs.size []:=Heap.DictOf.new s.heap;have k0:∀b o,s.heap.get? b=some o->(s.heap.push { cls:=.type "dict",data:=.dict #[] }).get? b=some o:=λb o e=>Heap.get?_push_of_some _ e
 have hl0:=hl.at λo e=>k0 ax o e
 refine⟨jZ.typeIs,F.args_dict_init_2 _ _,?_⟩;unfold Builtin.«dict.__init__»;refine wpAny_bind ?_;unfold Builtin.Dict.selfAndRest;refine wpAny_bind (wpAny_notOrdered_dict jZ.typeIs ?_);show wpAny _ _ (pure (s.heap.objs.size,[Value.ref ax])) _ _ _;refine wpAny_pure ?_;show wpAny _ _ (Builtin.Dict.updateFrom "dict.__init__" s.heap.objs.size (.ref ax) [] .none) _ _ _;unfold Builtin.Dict.updateFrom;refine wpAny_bind (wpAny_typeOf hl0.typeIs ?_);rw[if_pos (by decide)];have lax:ax<s.heap.objs.size:=by obtain⟨o,e,_⟩:=id hl;exact Heap.lt_size e
 have Cn:∀o,(s.heap.push { cls:=.type "dict",data:=.dict #[] }).get? ax=some o->o.dict=none:=λo e=>by
  obtain⟨o',e',_⟩:=id hl;have e2:=k0 ax o' e';rw[e2]at e;have e3:=Option.some.inj e;rw[←e3];exact hdn o' e'
 refine wpAny_bind (uN (s:={ s with heap:=s.heap.push { cls:=.type "dict",data:=.dict #[] } }) hl0 Cn (by simp[hh]) λh1 tk1 k1=>?_);rw[if_pos (by rfl)];refine wpAny_bind (wpAny_rule ?_);have k01:∀b o,s.heap.get? b=some o->h1.get? b=some o:=λb o e=>k1 b o (k0 b o e)
 have hl1:h1.IsList ax items:=hl.at λo e=>k01 ax o e
 refine wpAny_bind (wpAny_pyIter_list (s:={ s with heap:=h1,toks:=tk1 }) hl1 ?_);have k2:∀b o,h1.get? b=some o->(h1.push { cls:=.type "list_iterator",data:=.fields #[.ref ax,.int 0 0] }).get? b=some o:=λb o e=>Heap.get?_push_of_some _ e
 have eI:(h1.push { cls:=.type "list_iterator",data:=.fields #[.ref ax,.int 0 0] }).get? h1.objs.size=some { cls:=.type "list_iterator",data:=.fields #[.ref ax,.int 0 0] }:=Heap.get?_push_size _ U;have hd1:h1.DictOf knd s.heap.objs.size []:=by
  obtain⟨o,es,ep,ho,r⟩:=jZ;exact⟨o,es,ep,k1 _ _ ho,r⟩
 have hd2:(h1.push { cls:=.type "list_iterator",data:=.fields #[.ref ax,.int 0 0] }).DictOf knd s.heap.objs.size []:=hd1.push _;have ld:s.heap.objs.size<h1.objs.size:=by obtain⟨o,es,ep,ho,_⟩:=hd1;exact Heap.lt_size ho
 have lx1:ax<h1.objs.size:=lt_trans lax ld;refine wpAny_pure ⟨plainId_quiet bq _,?_⟩;refine kE (prog:=prog) (w:=w) (knd:=knd) (d:=s.heap.objs.size) (I:=h1.objs.size) (ax:=ax) (items:=items) (ps:=ps) (res:=.none) (by simp[hh]) (ne_of_gt lx1) (ne_of_lt ld) (ne_of_gt lax) hps items.size 0 { s with heap:=h1.push { cls:=.type "list_iterator",data:=.fields #[.ref ax,.int 0 0] },toks:=tk1 } [] 0 _ (by lia) (zero_le _) ⟨_,eI,U,U⟩ (hl1.at λo e=>k2 ax o e) hd2 (λj p ej=>?_) (by simpa using hsz) (λh' tk hd' kp=>?_)
 ·obtain⟨t,o,n,key,f1,f2,f3,f4,f5⟩:=hT j p ej;have lt:=Heap.lt_size f2;exact⟨t,o,n,key,f1,k2 _ _ (k01 _ _ f2),f3,f4,f5,ne_of_lt (lt_trans lt ld),ne_of_lt lt⟩
 ·rw[List.drop_zero,merged_nil_of_nodup ps hnd]at hd';refine⟨U,hQ h' tk hd' λb o e=>kp b o (ne_of_lt (lt_trans (Heap.lt_size e) ld)) (ne_of_lt (Heap.lt_size e)) (k2 _ _ (k01 _ _ e))⟩
theorem kF{α β:Type}{R:α->β->Prop}:∀{xs:List α}{ys:List β},xs.length=ys.length->(∀(j:Nat)(x:α)(y:β),xs[j]?=some x->ys[j]?=some y->R x y)->Paired R xs ys
 | [],[],_,_=>.nil
 |x :: xs,y :: ys,hl,h=>.cons (h 0 x y U U) (kF (by simpa using hl) λj x' y' e f=>h (j+1) x' y' (by simpa using e) (by simpa using f))
 | [],_ :: _,hl,_=>by simp at hl
 |_ :: _,[],hl,_=>by simp at hl
theorem lB{α:Type}{P:Nat->α->Prop}:∀n:Nat,(∀j,j<n->∃a,P j a)->∃l:List α,l.length=n/\∀(j:Nat)(a:α),l[j]?=some a->P j a
 |0,_=>⟨[],U,λj a e=>by simp at e⟩
 |n+1,h=>by
  obtain⟨l,hl,hp⟩:=lB n λj hj=>h j (by lia)
  obtain⟨a,ha⟩:=h n (by lia);refine⟨l++[a],by simp[hl],λj b e=>?_⟩;by_cases hj:j<l.length
  ·rw[getElem?_append_left hj]at e;exact hp j b e
  ·have:j=n:=by have:=(EW.mp e).1;simp at this;lia
   subst this;rw[getElem?_append_right (by lia),hl,sub_self]at e;cases e;exact ha
def kvT(kvs:List (Str×V)):List (Key×V):=kvs.map λp=>(Sum.inr p.1,p.2)
theorem oP{kvs:List (Str×V)}{j:Nat}{x:Key×V}(e:(kvT kvs)[j]?=some x):∃p,kvs[j]?=some p/\x=(Sum.inr p.1,p.2):=by
 unfold kvT at e;rw[getElem?_map]at e;cases q:kvs[j]? with
 |none=>rw[q]at e;cases e
 |some p=>rw[q]at e;cases e;exact⟨p,U,U⟩
theorem tE:∀{kvs:List (Str×V)}{vs:List (Key×Value)}{k:Str}{v:V},KV (kvT kvs) vs->kvs.lookup k=some v->∃u,valueAt vs (Sum.inr k:Key)=some u/\RelV v u
 | [],_,_,_,_,e=>by cases e
 |(k0,v0) :: kvs,vs,k,v,r,e=>by
  unfold KV at r;cases r with
  | @cons p q ps qs h t =>
   obtain⟨h1,h2⟩:=h;have h1:(Sum.inr k0:Key)=q.1:=h1;by_cases hk:k=k0
   ·subst hk;rw[lookup_cons,beq_self_eq_true]at e;cases e;refine⟨q.2,?_,h2⟩;unfold valueAt;rw[List.find?_cons_of_pos (by simp[h1])];rfl
   ·have e:kvs.lookup k=some v:=by
     rw[lookup_cons,beq_eq_false_iff_ne.mpr hk]at e;exact e
    obtain⟨u,e1,e2⟩:=tE (vs:=qs) t e;refine⟨u,?_,e2⟩;have hne:¬ (q.1=(Sum.inr k:Key)):=λz=>hk (by rw[←h1]at z;injection z with z;exact z.symm)
    unfold valueAt at e1⊢;rw[List.find?_cons_of_neg (by simpa using hne)];exact e1
theorem tF{pins:List (Addr×Obj)}{σ:St}{H:Hp}{s:Shared}(I:Inv X pins σ H s):(s.heap.objs.size == sysModules)=false:=by
 have h:mainGlobals<s.heap.objs.size:=(I.mod.glob.keeps I.bk).lt;have h2:sysModules<s.heap.objs.size:=lt_trans (by decide) h;exact beq_eq_false_iff_ne.mpr (ne_of_gt h2)
theorem jn(hcm:X.calm=true):cw X (.type "dict") (λxs H Q=>∃(l:Addr)(us:List V)(kvs:List (Str×V)),xs=[.ref l]/\H l=some (.lst us)/\us.length=kvs.length/\(∀(j:Nat)(p:Str×V),kvs[j]?=some p->∃t:Addr,us[j]?=some (.ref t)/\H t=some (.tup [.str p.1,p.2]))/\(kvs.map (·.1)).Nodup/\∀p,H p=none->Q (.ref p) (upd H p (.dK (kvT kvs)))):=by
 intro pins s σ H xs us0 Q I r h;obtain⟨l,us,kvs,rfl,el,hl,ht,hnd,q⟩:=h;obtain⟨u,rfl,rx⟩:=vals1 r;cases rx;obtain⟨its,n,rv,eg,hz⟩:=I.lst el;have hil:=rv.length;obtain⟨ps,hpl,hps⟩:=lB (P:=λj (a:Key×Value)=>∃(p:Str×V)(t:Addr)(o:Obj)(m:Nat)(key:Value),kvs[j]?=some p/\a.1=Sum.inr p.1/\its[j]?=some (.ref t)/\RelV p.2 a.2/\s.heap.get? t=some o/\o.cls=.type "tuple" /\ o.data=.seq #[key,a.2] m/\RelV (.str p.1) key) kvs.length λj hj=>by
  have ek:=EV hj;obtain⟨t,e1,e2⟩:=ht j _ ek;obtain⟨w',e3,e4⟩:=rv.get e1;cases (show w'=Value.ref t from e4);obtain⟨_,its',rv',o,ho,hc,m,hd⟩:=I.hok t _ e2;obtain⟨key,rest,rfl,rk,rr⟩:∃key rest,its'=key :: rest/\RelV (.str kvs[j].1) key/\Vals [kvs[j].2] rest:=by
   cases rv' with
   |cons a b=>exact⟨_,_,U,a,b⟩
  obtain⟨vv,rfl,rv2⟩:=vals1 rr;exact⟨(Sum.inr kvs[j].1,vv),kvs[j],t,o,m,key,ek,U,e3,rv2,ho,hc,by simpa using hd,rk⟩
 have mh:ps.map (·.1)=kvs.map λp=>(Sum.inr p.1:Key):=by
  refine ext_getElem? λj=>?_
  rw[getElem?_map,getElem?_map];cases e:ps[j]? with
  |none =>
   have:kvs[j]?=none:=by rw[List.getElem?_eq_none_iff]at e⊢;lia
   rw[this];rfl
  |some a =>
   obtain⟨p,t,o,m,key,e1,e2,_⟩:=hps j a e;rw[e1];show some a.1=some (Sum.inr p.1);rw[e2]
 refine lr (knd:=bI X.prog X.w) (items:=its.toArray) (ps:=ps) (I.ok.hd hcm) ⟨_,eg,U,n,U⟩ (λo e=>by rw[eg]at e;cases e;rfl) (by rw[size_toArray,hpl,←hl,hil]) (by rw[size_toArray,←hil];exact hz) ?_ (λj a ea=>?_) λh' tk hd kp=>?_
 ·rw[mh,show(kvs.map λp=>(Sum.inr p.1:Key))=(kvs.map (·.1)).map λz=>(Sum.inr z:Key) by rw[map_map];rfl];rw[nodup_iff_pairwise_ne]at hnd⊢;rw[pairwise_map];exact hnd.imp λ{a b} hab z=>hab (by injection z)
 ·obtain⟨p,t,o,m,key,e1,e2,e3,e4,e5,e6,e7,e8⟩:=hps j a ea;refine⟨t,o,m,key,by simpa using e3,e5,e6,e7,?_⟩;rw[e2];obtain⟨tt,rfl⟩:=(show ∃tt,key=Value.str p.1 tt from e8);exact fm X.prog X.w p.1 tt
 ·refine⟨.ref s.heap.objs.size,_,I.laid (h':=h') (t':=tk) (o:=.dK (kvT kvs)) kp (le_refl _) ⟨by unfold kvT;rw[length_map,←hl];exact hz,tF I,ps,kF (by unfold kvT;rw[length_map,hpl]) λj x y ex ey=>?_,hd⟩,U,q _ (I.hok.fresh (le_refl _))⟩;obtain⟨p,ep,rfl⟩:=oP ex;obtain⟨p',t,o,m,key,e1,e2,e3,e4,_⟩:=hps j y ey;rw[ep]at e1;cases e1;exact⟨e2.symm,e4⟩
inductive AW  (x:V)(y:V)(H:Hp)(Q:VK):Prop
 |mk (a:Addr)(kvs:List (Str×V))(k:Str)(v:V)(_:x=.ref a)(_:y=.str k)(_:H a=some (.dK (kvT kvs)))(_:kvs.lookup k=some v)(_:Q v H):AW x y H Q
theorem xv:IxR X AW:=by
 intro value slice pins s σ H x y v u Q I rx ry h hs;obtain⟨a,kvs,k,z,rfl,rfl,ea,el,q⟩:=h;cases rx;obtain⟨t,rfl⟩:=ry;obtain⟨_,_,vs,rel,dd⟩:=(show bQ X.prog X.w H s.heap a (.dK (kvT kvs))from I.hok a _ ea);obtain⟨w',ew,rw'⟩:=tE rel el;exact PyProof.Rows.tail_any dd.mapOf.typeIs slot_dict_getitem.lookup (wpAny_getItem_of (fm X.prog X.w k t) dd.mapOf ew ⟨z,H,I.tok _,rw',q⟩) hs
theorem zl{a:Expr}{ta:TE}{c:Str}{k:Nat}{p1 p2 pos:Pos}(ha:PE X a ta):PE X (.JoinedStr [.Constant (.str c) k p2,.FormattedValue a 114 none p1] pos) (λσ H Q=>c.length<=1000/\tFr c ta σ H Q):=by
 intro pins s σ H Q I h;have hb:∀n,n<=20000->n<=sizeLine:=λn hn=>le_trans hn (by decide)
 have e0:∀y:Str,(Str.empty++y).length=y.length:=λy=>by rw[len_app];show 0+_=_;lia
 obtain⟨hcl,h⟩:=h;refine wpAny_JoinedStr (Joins_cons ?_);refine thn (aS (X:=X) (x:=c) (j:=k) (pos:=p2) pins s σ H (λv H'=>v=.str c/\H'=H) I ⟨U,U⟩) λv s2 ⟨y,H2,I2,r2,e1,e2⟩=>?_
 subst e1 e2;obtain⟨t2,rfl⟩:=r2;refine⟨_,_,U,hb _ (by rw[e0];lia),Joins_cons (wpAny_FormattedValue_repr (thn (ha pins s2 σ H2 _ I2 h) λv s1 ⟨x,H1,I1,r1,z,ez,hz,hc,hl,q⟩=>?_))⟩;subst ez;obtain⟨t,rfl⟩:=r1;have hr:=StrLaws.reprText_len z hc;refine pyReprObj_str (formatField_str (λt' tk=>?_) (hb _ (by lia))) (hb _ (by lia));refine⟨_,_,U,hb _ (by rw[len_app,e0];lia),Joins_nil ⟨hb _ (by rw[len_app,e0];lia),?_⟩⟩;exact⟨.str _,H1,I1.tok _,⟨_,U⟩,q _⟩
theorem mi{X:Cx}{K:W.Frag}(h:X.K=K):OpR X (compareOp .In) (rIn K false):=h ▸ nE
theorem vZ{X:Cx}{K:W.Frag}{tg l:Expr}{tl:TE}(h:X.K=K)(hl:PE X l tl):PI X tg l (xX K tl):=h ▸ aO hl
structure Co(X:Cx)(N:List Str)(k:Nat)(fr:List Nat)(scope:Scope)(cl:List (Str×Addr)):Prop where
 clos:closureFor scope X.env=pure cl
 kind:scope.kind=.function
 names:∀y∈scope.names,y.2=.local->scope.names.lookup y.1=some .local
 len:N.length=k+fr.length
 sub:∀(i:Nat)(y:Str),N[k+i]?=some y->∃j,fr[i]?=some j/\X.N[j]?=some y/\(X.env.kindOf y=some .cell\/X.env.kindOf y=some .free)/\((relabel scope X.env).names.lookup y=some .cell\/(relabel scope X.env).names.lookup y=some .free)/\∃c,cl.lookup y=some c/\∀C:Addr,(cellsFrom (C+1) scope.names cl).lookup y=some c
 cells:∀y c,cl.lookup y=some c->X.env.cells.lookup y=some c
 has:∀(C:Addr)(y:Str),((relabel scope X.env).names.lookup y=some .cell\/(relabel scope X.env).names.lookup y=some .free)->∃c,(cellsFrom (C+1) scope.names cl).lookup y=some c
section
variable{elt iter:Expr}{ifs:List Expr}{cl:List (Str×Addr)}{k:Nat}
end
section
variable{b₀:Stmt}{su:List Stmt}{tb:TSX}{ts:Addr->Addr->TS}{Tn:Str}{B:Addr}{ze:Pos}
end
section
variable(P:Program)(w:World)
end
section
variable{o:HO}
end
section
variable{x e:Addr}{o':HO}
end
section
variable{fs fs' ex ex':List Addr}{H1 H2:Hp}{h1 h2:Heap}{x e:Addr}{o:HO}
end
section
variable{σ:List (Option V)}
end
section
variable{a b:Expr}{tb:TE}
variable{tA tB':TT}{rest:List Expr}
end
section
variable{xs ys:List V}
end
section
variable{rest:List Stmt}{t u:TS}
end
section
variable{a b c:Expr}{tb tc:TE}
end
section
variable{a b c:Expr}{tb tc:TE}
end
variable{dx:Addr}
section
variable{x:Addr}{mA:Str->Option Value}{name:Str}{v:Value}
end
section
variable{fs fs':List (Str×V)}
end
section
variable{fs:List (Str×V)}{f:Str}{v:V}
end
section
variable{value:Expr}{f:Str}{pos' AA:Pos}{tv:TE}
end
section
variable{Q:Value->Shared->Prop}{c:Value}{b:Bool}
end
section
variable{k:Nat}{dvs:List V}{ds:List Value}{E:XK}
end
section
variable{k:Nat}{ks:List Str}{E:XK}{B3:Pos}{kws:List Keyword}{tk:TA}{nm:Option Str}
variable{g:List Value->List Value->List Value}{gV:List V->List V->List V}
end
section
variable{id T:String}{r:List V->Hp->VK->Prop}
end
section
variable{κ:Type} [DecidableEq κ]
def dj(kvs:List (κ×V))(k:κ):Option V:=(kvs.find? λkv=>decide (kv.1=k)).map (·.2)
def putK(kvs:List (κ×V))(k:κ)(v:V):List (κ×V) :=
 if (kvs.any λkv=>decide (kv.1=k))=true then kvs.map (λkv=>if kv.1=k then(kv.1,v)else kv)else kvs++[(k,v)]
theorem cG{p:κ×V}{r:List (κ×V)}{k:κ}(e:p.1=k):dj (p :: r) k=some p.2:=by simp[dj,find?_cons,e]
theorem cH{p:κ×V}{r:List (κ×V)}{k:κ}(e:¬ p.1=k):dj (p :: r) k=dj r k:=by simp[dj,find?_cons,e]
theorem ij(k:κ):∀kvs:List (κ×V),(kvs.any λkv=>decide (kv.1=k))=(dj kvs k).isSome
 | []=>rfl
 |p :: r=>by
  rw[any_cons];by_cases e:p.1=k
  ·simp only[cG e,decide_eq_true e,Bool.true_or,Option.isSome_some]
  ·rw[cH e,decide_eq_false e,Bool.false_or];exact ij k r
theorem qq(k j:κ)(y:V):∀kvs:List (κ×V),dj (kvs.map λkv=>if kv.1=k then(kv.1,y)else kv) j=(dj kvs j).map λx=>if j=k then y else x
 | []=>rfl
 |p :: r=>by
  have ih:=qq k j y r;rw[map_cons];by_cases h:p.1=k
  ·rw[if_pos h];by_cases e:p.1=j
   ·rw[cG (p:=(p.1,y)) e,cG e,map_some,if_pos (e.symm.trans h)]
   ·rw[cH (p:=(p.1,y)) e,cH e,ih]
  ·rw[if_neg h];by_cases e:p.1=j
   ·rw[cG (p:=p) e,cG e,map_some,if_neg (λz=>h (e.trans z))]
   ·rw[cH (p:=p) e,cH e,ih]
theorem nX(k j:κ)(y:V):∀kvs:List (κ×V),dj kvs k=none->dj (kvs++[(k,y)]) j=if j=k then some y else dj kvs j
 | [],_=>by
  by_cases e:k=j
  ·rw[if_pos e.symm];exact cG (p:=(k,y)) e
  ·rw[if_neg (λz=>e z.symm)];exact cH (p:=(k,y)) e
 |p :: r,hn=>by
  rw[List.cons_append];have hk:¬ p.1=k:=λz=>by rw[cG z]at hn;cases hn
  rw[cH hk]at hn;have ih:=nX k j y r hn;by_cases e:p.1=j
  ·rw[cG e,cG e,if_neg (λz=>hk (e.trans z))]
  ·rw[cH e,cH e,ih]
theorem mj(kvs:List (κ×V))(k j:κ)(y:V):dj (putK kvs k y) j=if j=k then some y else dj kvs j:=by
 unfold putK;by_cases a:(kvs.any λkv=>decide (kv.1=k))=true
 ·rw[if_pos a,qq];rw[ij]at a;by_cases e:j=k
  ·obtain⟨x,hx⟩:=isSome_iff_exists.mp a;rw[if_pos e,e,hx,map_some,if_pos U]
  ·rw[if_neg e];cases dj kvs j with
   |none=>rfl
   |some x=>rw[map_some,if_neg e]
 ·rw[if_neg a];refine nX k j y kvs ?_;rw[ij]at a;cases q:dj kvs k with
  |none=>rfl
  |some x=>rw[q]at a;exact(a U).elim
theorem fA(kvs:List (κ×V))(k:κ)(v:V):(putK kvs k v).length<=kvs.length+1:=by
 unfold putK;split
 ·rw[length_map];lia
 ·rw[length_append,length_cons,List.length_nil];lia
theorem v7{kvs:List (κ×V)}{k:κ}(v:V)(h:dj kvs k=none):putK kvs k v=kvs++[(k,v)]:=by
 unfold putK;rw[ij,h];exact if_neg (by decide)
theorem iP.isSome_eq{o:Option V}{u:Option Value}(r:iP o u):o.isSome=u.isSome:=by
 cases o with
 |none=>cases u with
  |none=>rfl
  |some _=>exact(show False from r).elim
 |some _=>cases u with
  |none=>exact(show False from r).elim
  |some _=>rfl
theorem KV.val{kvs:List (κ×V)}{vs:List (κ×Value)}(r:KV kvs vs)(k:κ):iP (dj kvs k) (valueAt vs k):=by
 unfold KV at r;induction r with
 |nil=>exact True.intro
 | @cons p q ps qs h t ih =>
  obtain⟨h1,h2⟩:=h;by_cases e:p.1=k
  ·have e':q.1=k:=h1.symm.trans e;have b:valueAt (q :: qs) k=some q.2:=by simp[valueAt,find?_cons,e']
   rw[cG e,b];exact h2
  ·have e':¬ q.1=k:=λz=>e (h1.trans z)
   have b:valueAt (q :: qs) k=valueAt qs k:=by simp[valueAt,find?_cons,e']
   rw[cH e,b];exact ih
theorem KV.any{kvs:List (κ×V)}{vs:List (κ×Value)}(r:KV kvs vs)(k:κ):(kvs.any λkv=>decide (kv.1=k))=vs.any λkv=>decide (kv.1=k):=by
 unfold KV at r;induction r with
 |nil=>rfl
 |cons h t ih=>rw[any_cons,any_cons,ih,h.1]
theorem KV.repl{kvs:List (κ×V)}{vs:List (κ×Value)}(r:KV kvs vs)(k:κ){y:V}{u:Value}(ry:RelV y u) :
  KV (kvs.map λkv=>if kv.1=k then(kv.1,y)else kv) (vs.map λkv=>if kv.1=k then(kv.1,u)else kv):=by
 unfold KV at r⊢;induction r with
 |nil=>exact .nil
 | @cons p q ps qs h t ih =>
  rw[map_cons,map_cons];refine .cons ?_ ih;obtain⟨h1,h2⟩:=h;by_cases e:p.1=k
  ·rw[if_pos e,if_pos (h1.symm.trans e)];exact⟨h1,ry⟩
  ·rw[if_neg e,if_neg (λz=>e (h1.trans z))];exact⟨h1,h2⟩
theorem KV.put{kvs:List (κ×V)}{vs:List (κ×Value)}(r:KV kvs vs)(k:κ){y:V}{u:Value}(ry:RelV y u):KV (putK kvs k y) (stored vs k u):=by
 unfold putK stored;rw[r.any k];by_cases e:(vs.any λkv=>decide (kv.1=k))=true
 ·rw[if_pos e,if_pos e];exact r.repl k ry
 ·rw[if_neg e,if_neg e];exact Paired.snoc r ⟨U,ry⟩
theorem KV.length{kvs:List (κ×V)}{vs:List (κ×Value)}(r:KV kvs vs):kvs.length=vs.length:=Paired.length r
end
theorem tG{P:Program}{w:World}{k:Key}{u:Value}(r:RelV (kV k) u):(bI P w).is k u=true:=by
 cases k with
 |inl i=>obtain⟨t,e⟩:=(show ∃t,u=Value.int i t from r);subst e;exact pR P w i t
 |inr x=>obtain⟨t,e⟩:=(show ∃t,u=Value.str x t from r);subst e;exact fm P w x t
theorem nZ{P:Program}{w:World}:∀{ks:List Key}{us:List Value},Vals (ks.map kV) us->ItemsAre (bI P w) ks us
 | [],_,r=>by rw[List.map_nil]at r;cases r;exact .nil
 |k :: ks,_,r=>by
  rw[map_cons]at r;cases r with
  |cons h t=>exact .cons (tG h) (nZ t)
abbrev KT(H:Hp):List (List Key×V)->List (List Key×Addr×Value)->Prop:=Paired λp q=>p.1=q.1/\H q.2.1=some (.tup (p.1.map kV))/\RelV p.2 q.2.2
theorem KT.val{H:Hp}{kvs:List (List Key×V)}{xs:List (List Key×Addr×Value)}(r:KT H kvs xs)(k:List Key):iP (dj kvs k) ((atKey xs k).map (·.2)):=by
 induction r with
 |nil=>exact True.intro
 | @cons p q ps qs h t ih =>
  obtain⟨h1,_,h2⟩:=h;by_cases e:p.1=k
  ·have e':q.1=k:=h1.symm.trans e;have b:atKey (q :: qs) k=some q.2:=by simp[atKey,find?_cons,e']
   rw[cG e,b];exact h2
  ·have e':¬ q.1=k:=λz=>e (h1.trans z)
   have b:atKey (q :: qs) k=atKey qs k:=by simp[atKey,find?_cons,e']
   rw[cH e,b];exact ih
theorem KT.repl{H:Hp}{kvs:List (List Key×V)}{xs:List (List Key×Addr×Value)}(r:KT H kvs xs)(k:List Key){y:V}{u:Value}(ry:RelV y u) :
  KT H (kvs.map λkv=>if kv.1=k then(kv.1,y)else kv) (xs.map (putAt k u)):=by
 induction r with
 |nil=>exact .nil
 | @cons p q ps qs h t ih =>
  rw[map_cons,map_cons];refine .cons ?_ ih;obtain⟨h1,h2,h3⟩:=h;unfold putAt;by_cases e:p.1=k
  ·rw[if_pos e,if_pos (h1.symm.trans e)];exact⟨h1,h2,ry⟩
  ·rw[if_neg e,if_neg (λz=>e (h1.trans z))];exact⟨h1,h2,h3⟩
theorem KT.put{H:Hp}{kvs:List (List Key×V)}{xs:List (List Key×Addr×Value)}(r:KT H kvs xs)(k:List Key){b:Addr}{y:V}{u:Value}(hb:H b=some (.tup (k.map kV)))(ry:RelV y u) :
  KT H (putK kvs k y) (storedH xs k b u):=by
 have e:(kvs.any λkv=>decide (kv.1=k))=(atKey xs k).isSome:=by
  rw[ij,(r.val k).isSome_eq,isSome_map]
 unfold putK storedH;rw[e];by_cases q:(atKey xs k).isSome=true
 ·rw[if_pos q,if_pos q];exact r.repl k ry
 ·rw[if_neg q,if_neg q];exact Paired.snoc r ⟨U,hb,ry⟩
theorem KT.keeps{H H':Hp}{kvs:List (List Key×V)}{xs:List (List Key×Addr×Value)}(r:KT H kvs xs)(ht:∀b ys,H b=some (.tup ys)->H' b=some (.tup ys)):KT H' kvs xs :=
 Paired.mapP r λ_ _ z=>⟨z.1,ht _ _ z.2.1,z.2.2⟩
theorem ym{u:HO}(ok:HOk P w H h)(e:Rd H a u):bQ P w H h a u:=e.ok ok
theorem tH{kvs:List (Key×V)}(ok:HOk P w H h)(e:Rd H a (.dK kvs)):kvs.length<=sizeLine/\(a == sysModules)=false/\∃vs,KV kvs vs/\h.DictOf (bI P w) a vs :=
 show bQ P w H h a (.dK kvs)from ym ok e
theorem tI{kvs:List (Key×V)}(ok:HOk P w H h)(e:H a=some (.dK kvs)):kvs.length<=sizeLine/\(a == sysModules)=false/\∃vs,KV kvs vs/\h.DictOf (bI P w) a vs:=tH ok (.inl e)
theorem rP{ks:List Key}(ok:HOk P w H h)(e:H a=some (.tup (ks.map kV))):(tupleKind (bI P w)).is h ks a:=by
 obtain⟨_,its,r,o,h1,h2,n,h3⟩:=(show bQ P w H h a (.tup (ks.map kV))from ok a _ e);exact⟨o,its.toArray,n,h1,h2,h3,by simpa using nZ r⟩
theorem v9{kvs:List (List Key×V)}(ok:HOk P w H h)(e:Rd H a (.dT kvs)):kvs.length<=sizeLine/\(a == sysModules)=false /\
  ∃xs,KT H kvs xs/\h.DictOfH (tupleKind (bI P w)) a xs:=by
 obtain⟨z,y,xs,r,o,es,ep,h1,h2,h3,h4,h5⟩:=(show bQ P w H h a (.dT kvs)from ym ok e);refine⟨z,y,xs,r,o,es,ep,h1,h2,h3,h4,λx hx=>?_,h5⟩;have all:∀{l:List (List Key×V)}{m:List (List Key×Addr×Value)},KT H l m->∀x∈m,(tupleKind (bI P w)).is h x.1 x.2.1:=by
  intro l m q;induction q with
  |nil=>intro x hx;exact nomatch hx
  | @cons p q ps qs hq t ih =>
   intro x hx;rcases mem_cons.mp hx with e|hx
   ·subst e;exact rP ok (by rw[←hq.1];exact hq.2.1)
   ·exact ih x hx
 exact all r x hx
theorem AX{kvs:List (List Key×V)}(ok:HOk P w H h)(e:H a=some (.dT kvs)):kvs.length<=sizeLine/\(a == sysModules)=false /\
  ∃xs,KT H kvs xs/\h.DictOfH (tupleKind (bI P w)) a xs:=v9 ok (.inl e)
def xw(H:Hp)(a:Addr)(y:V)(r:Option V):Prop :=
 (∃kvs k,Rd H a (.dK kvs)/\y=kV k/\r=dj kvs k)\/∃kvs k b,Rd H a (.dT kvs)/\y=.ref b/\H b=some (.tup (k.map kV))/\r=dj kvs k
def xx(H:Hp)(a:Addr)(y v:V)(H':Hp):Prop :=
 (∃kvs k,H a=some (.dK kvs)/\y=kV k/\kvs.length<sizeLine/\H'=upd H a (.dK (putK kvs k v))) \/
 ∃kvs k b,H a=some (.dT kvs)/\y=.ref b/\H b=some (.tup (k.map kV))/\kvs.length<sizeLine/\H'=upd H a (.dT (putK kvs k v))
theorem xw.k{H:Hp}{a:Addr}{kvs:List (Key×V)}{k:Key}(e:H a=some (.dK kvs)):xw H a (kV k) (dj kvs k):=.inl ⟨kvs,k,.inl e,U,U⟩
theorem xx.k{H:Hp}{a:Addr}{kvs:List (Key×V)}{k:Key}{v:V}(e:H a=some (.dK kvs))(hl:kvs.length<sizeLine):xx H a (kV k) v (upd H a (.dK (putK kvs k v))):=.inl ⟨kvs,k,e,U,hl,U⟩
variable{y:V}{u:Value}
section
variable{v:V}{r:Value}{o:Option V}
theorem Inv.big(I:Inv X pins σ H s):sysModules<s.heap.objs.size:=by
 have h:mainGlobals<s.heap.objs.size:=(I.mod.glob.keeps I.bk).lt;exact lt_trans (by decide) h
theorem xy{Q:Value->Shared->Prop}(hu:A.units+1<cLine)(I:Inv X pins σ H s)(g:xw H a y o)(ry:RelV y u)(h:∀s',Inv X pins σ H s'->Q (.bool (!o.isSome)) s') :
  wpAny (model X.prog X.w) A (compareOp .NotIn u (.ref a)) Q E s:=by
 rcases g with⟨kvs,k,e,ey,l⟩|⟨kvs,k,b,e,ey,eb,l⟩
 ·subst ey;obtain⟨z,hd,vs,rel,dd⟩:=tH I.hok e;refine wpAny_notIn_of (tG ry) hd dd.mapOf ?_;rw[←(rel.val k).isSome_eq,←l];exact h _ (I.tok _)
 ·subst ey;cases (show u=Value.ref b from ry);obtain⟨z,hd,xs,rel,dd⟩:=v9 I.hok e;refine wpAny_notIn_heap (tupleKind_room_in1 hu) (rP I.hok eb) hd dd ?_;have q:=(rel.val k).isSome_eq;rw[isSome_map]at q;rw[←q,←l];exact h _ (I.tok _)
theorem tJ{h':Heap}{t':Nat}{ob:HO}(I:Inv X pins σ H s)(mu:Mut (H a))(hs:Heap.SameBut a s.heap h')(he:∃q,h'.get? a=some q)(new:bQ X.prog X.w (upd H a ob) h' a ob) :
  Inv X pins σ (upd H a ob) { s with heap:=h',toks:=t' } :=
 I.write (x:=a) (e:=a) mu (.inl U) (λb q hb z=>(hs.2 b hb).trans z) he new
theorem wb{P:Program}{w:World}{H':Hp}{h':Heap}{kvs:List (Key×V)}{vs:List (Key×Value)}(z:kvs.length<=sizeLine)(hd:(a == sysModules)=false)(rel:KV kvs vs)(dd:h'.DictOf (bI P w) a vs) :
  bQ P w H' h' a (.dK kvs):=⟨z,hd,vs,rel,dd⟩
theorem uO{H':Hp}{Q:Unit->Shared->Prop}(hu:A.units+1<cLine)(I:Inv X pins σ H s)(g:xx H a y v H')(ry:RelV y u)(rv:RelV v r)(h:∀s',Inv X pins σ H' s'->Q () s') :
  wpAny (model X.prog X.w) A (setItem (.ref a) u r) Q E s:=by
 rcases g with⟨kvs,k,e,ey,l,eH⟩|⟨kvs,k,b,e,ey,eb,l,eH⟩
 ·subst ey eH;obtain⟨z,hd,vs,rel,dd⟩:=tI I.hok e;have hz:vs.length<=sizeLine:=by rw[←rel.length];exact z
  have hl:(putK kvs k v).length<=sizeLine:=by have:=fA kvs k v;lia
  refine wpAny_setItem_pairs (hsz:=hz) (tG ry) dd λh' dd' hs=>h _ ?_
  have he:∃q,h'.get? a=some q:=let ⟨q,_,_,hq,_⟩:=dd';⟨q,hq⟩;exact tJ I (by rw[e];exact True.intro) hs he (wb hl hd (rel.put k rv) dd')
 ·subst ey eH;cases (show u=Value.ref b from ry);obtain⟨z,hd,xs,rel,dd⟩:=AX I.hok e;have hz:xs.length<=sizeLine:=by rw[←Paired.length rel];exact z
  have hl:(putK kvs k v).length<=sizeLine:=by have:=fA kvs k v;lia
  refine wpAny_setItem_heap (hsz:=hz) (tupleKind_room_in1 hu) (rP I.hok eb) dd λh' dd' hs=>h _ ?_
  obtain⟨q,es,ep,hq,h2,h3,h4,_,h5⟩:=dd';refine tJ I (by rw[e];exact True.intro) hs ⟨q,hq⟩ ⟨hl,hd,_,(rel.put k eb rv).keeps λc ys ec=>?_,q,es,ep,hq,h2,h3,h4,h5⟩;rw[ar (cg ec e (λz=>nomatch z))];exact ec
end
section
variable{kvs:List (Key×V)}{k:Key}
end
section
variable{i value:Expr}{pos' AA:Pos}{td ty tv:TE}
end
theorem wc{P:Program}{w:World}{H:Hp}(h:Heap)(hb:sysModules<h.objs.size):bQ P w H (h.push { cls:=.type "dict",data:=.dict #[] }) h.objs.size (.dK []) :=
 ⟨zero_le _,beq_eq_false_iff_ne.mpr (Ne.symm (ne_of_lt hb)),[],.nil,Heap.DictOf.new h⟩
def zm:TE:=λ_ H Q=>∀p,H p=none->Q (.ref p) (upd H p (.dK []))
theorem we:PE X (.Dict [] [] pos) zm:=λpins s σ H Q I h =>
 wpAny_Dict_empty ⟨.ref s.heap.objs.size,_,I.laid (a:=s.heap.objs.size) (o:=.dK []) (t':=s.toks) (λ_ _ q=>Heap.get?_push_of_some _ q) (le_refl _) (wc s.heap I.big),U,h _ (I.hok.fresh (le_refl _))⟩
structure M1(X:Cx)(o:Expr)(m:Str)(apos:Pos)(e:Expr)(dD:Pos):Prop where
 base:attributeBase o m X.env (eval o X.env)=eval o X.env
 few:((backTo dD (starEach [e] X.env)).all (λx=>!x.1) && (backToKw dD (keywordEach [] X.env)).all (λx=>x.1.isSome)
  && decide (([e]:List Expr).length+([]:List Keyword).length+(if ([]:List Keyword).isEmpty then 0 else 1)<30))=true
 line:(apos.endLine == dD.line)=true
 trees:backTo dD (starEach [e] X.env)=[(false,eval e X.env)]
structure M2(X:Cx)(o:Expr)(m:Str)(apos:Pos)(e f:Expr)(dD:Pos):Prop where
 base:attributeBase o m X.env (eval o X.env)=eval o X.env
 few:((backTo dD (starEach [e,f] X.env)).all (λx=>!x.1) && (backToKw dD (keywordEach [] X.env)).all (λx=>x.1.isSome)
  && decide (([e,f]:List Expr).length+([]:List Keyword).length+(if ([]:List Keyword).isEmpty then 0 else 1)<30))=true
 line:(apos.endLine == dD.line)=true
 trees:backTo dD (starEach [e,f] X.env)=[(false,eval e X.env),(false,eval f X.env)]
def IsD(H:Hp)(a:Addr):Prop:=(∃kvs,Rd H a (.dK kvs))\/∃kvs,Rd H a (.dT kvs)
theorem zo{X:Cx}{pins:List (Addr×Obj)}{σ:St}{H:Hp}{s:Shared}{a:Addr}(I:Inv X pins σ H s)(d:IsD H a) :
  s.TypeIs (.ref a) "dict" /\ (∀b,Value.ref a=.ref b->∃ob,s.heap.get? b=some ob/\ob.dict=none)/\(a == sysModules)=false:=by
 rcases d with⟨kvs,e⟩|⟨kvs,e⟩
 ·obtain⟨_,hd,vs,_,dd⟩:=tH I.hok e;refine⟨dd.typeIs,λb q=>?_,hd⟩;cases q;obtain⟨ob,_,_,h1,h2,_⟩:=dd;exact⟨ob,h1,h2.2.1⟩
 ·obtain⟨_,hd,xs,_,dd⟩:=v9 I.hok e;refine⟨dd.typeIs,λb q=>?_,hd⟩;cases q;obtain⟨ob,_,_,h1,h2,_⟩:=dd;exact⟨ob,h1,h2.2.1⟩
section
variable{d:V}{r:Value}{o:Option V}
end
section
variable{f:Expr}{dD:Pos}{td ty tx:TE}
end
section
variable{kvs:List (Key×V)}
theorem wg{Q:Value->Shared->Prop}(I:Inv X pins σ H s)(e:Rd H a (.dK kvs))(h:∀p s',H p=none->Inv X pins σ (upd H p (.dK kvs)) s'->Q (.ref p) s'):wpAny (model X.prog X.w) A (call (.type "dict") [.ref a]) Q E s:=by
 obtain⟨z,hd,vs,rel,dd⟩:=tH I.hok e;refine kt_call_dict hd dd (by rw[←rel.length];exact z) λh' dd' hs=>?_
 refine h _ _ (I.hok.fresh (le_refl _)) (I.laid (a:=s.heap.objs.size) (o:=.dK kvs) (t':=s.toks) (λb q hq=>?_) (le_refl _) (wb z (beq_eq_false_iff_ne.mpr (Ne.symm (ne_of_lt I.big))) rel dd'));exact(hs.2 b (ne_of_lt (Heap.lt_size hq))).trans (Heap.get?_push_of_some _ hq)
end
end L2
namespace Att
open PySem PySem.W PySem.Calls PyProof.Rows
section
variable{prog:Program}{w:World}{A:Around}{E:Value->Shared->Prop}{s:Shared}{K:Frag}
end
end Att
namespace L2
open PySem PySem.Spec PyProof.Rows
variable{w:World}
section
variable{P:Program}{K:W.Frag}{mg:Str->Option Value}{base:Heap}
end
variable{X:Cx}
section
variable{κ:Type} [DecidableEq κ]
end
section
variable{pins:List (Addr×Obj)}{σ:St}{H:Hp}{s:Shared}
theorem Inv.freeze{d:Addr}{o:Obj}{kvs:List (Key×V)}(I:Inv X pins σ H s)(e:H d=some (.dK kvs))(g:s.heap.get? d=some o):Inv X pins σ (upd H d (.frz o (.dK kvs))) s:=by
 have ne:∀{b u},H b=some u->u≠.dK kvs->b≠d:=λq n z=>by rw[z,e]at q;exact n (Option.some.inj q).symm
 have nn:∀{b},H b=none->b≠d:=λq z=>by rw[z,e]at q;cases q
 refine⟨I.ok,I.os,I.bare,⟨I.base.keep,I.base.slot,λb q h1 h2 h3=>?_,I.base.there,λb xs q=>?_,λb q u r=>?_,λb ps q=>?_⟩,I.loc,I.cell,?_,λx c q=>?_,λp hp=>?_,λb u q=>?_,I.len⟩
 ·have:=I.base.free b q h1 h2 h3;rw[ar (nn this)];exact this
 ·have:=I.base.tups b xs q;rw[ar (ne this (by intro z;cases z))];exact this
 ·have:=I.base.frzs b q u r;rw[ar (ne this (by intro z;cases z))];exact this
 ·obtain⟨more,this⟩:=I.base.tbls b ps q;exact⟨more,by rw[ar (ne this (by intro z;cases z))];exact this⟩
 ·rw[ar (nn I.free)];exact I.free
 ·rw[ar (nn (I.freeC x c q))];exact I.freeC x c q
 ·obtain⟨h1,h2,h3⟩:=I.pin p hp;exact⟨h1,by rw[ar (nn h2)];exact h2,h3⟩
 ·have ho:∀(a b:Addr),H b=some (.own a)->upd H d (.frz o (.dK kvs)) b=some (.own a):=λa b q=>by rw[ar (ne q (by intro z;cases z))];exact q
  have ht:∀b xs,H b=some (.tup xs)->upd H d (.frz o (.dK kvs)) b=some (.tup xs):=λb xs q=>by rw[ar (ne q (by intro z;cases z))];exact q
  by_cases hb:b=d
  ·subst hb;rw[ae]at q;cases q;exact⟨g,(I.hok b _ e).stay (λ_ _ _ q=>q) (ho b) ht⟩
  ·rw[ar hb]at q;exact(I.hok b u q).stay (λ_ _ _ q=>q) (ho b) ht
end
theorem iQ:entryFor table "dict_itemiterator.__iter__" = some Builtin.«dict_keyiterator.__iter__» :=
 entryFor_alias (id' := "dict_keyiterator.__iter__") (by kernel_rfl) (by first|rfl|decide+kernel|(unfold String.splitOn;simp +decide [String.splitOnAux])) (by decide+kernel) (by kernel_rfl)
theorem n5{α β:Type}{R:α->β->Prop}:∀{xs:List α}{as:List β}{i:Nat}{x:α},Paired R xs as->xs[i]?=some x->∃a,as[i]?=some a/\R x a
 |_,_,0,x,.cons h tl,e=>⟨_,U,by simp at e;rw[←e];exact h⟩
 |_,_,i+1,x,.cons h tl,e=>by
  obtain⟨a,q⟩:=n5 (i:=i) (x:=x) tl (by simpa using e);exact⟨a,by simpa using q.1,q.2⟩
def Iti(d:Addr)(o:Obj)(kvs:List (Key×V)):It :=
 ⟨λi H=>H d=some (.frz o (.dK kvs))/\i<kvs.length,
 λi H v H'=>∃T kv,H T=none/\v=.ref T/\kvs[i]?=some kv/\H'=upd H T (.tup [kV kv.1,kv.2]),
 λi H=>H d=some (.frz o (.dK kvs))/\kvs.length<=i⟩
def yn(it d:Addr)(n ep:Nat)(i:Nat)(h:Heap):Prop:=∃ok ov,IsItemIter h it d i n ep ok ov
theorem zp{P:Program}{w:World}{k:Key}{u:Value}(h:(bI P w).is k u=true):RelV (kV k) u:=by
 rcases bP (k:=k) (v:=u) h with⟨i,t,rfl,rfl⟩|⟨x,t,rfl,rfl⟩
 ·exact⟨t,U⟩
 ·exact⟨t,U⟩
theorem wj{P:Program}{w:World}{H:Hp}{h:Heap}{d:Addr}{o:Obj}{kvs:List (Key×V)}{es:Array DictEntry}{ep:Nat}(ok:HOk P w H h)(e:H d=some (.frz o (.dK kvs)))(ho:o.data=.dict es ep):∃vs,KV kvs vs/\h.DictAt (bI P w) d vs ep:=by
 obtain⟨g,z,hs,vs,rel,o',es',ep',h1,h2,h3,h4,h5,h6⟩:=(show bQ P w H h d (.frz o (.dK kvs))from ok d _ e);rw[g]at h1;cases h1;rw[ho]at h3;cases h3;exact⟨vs,rel,o,es,g,h2,ho,h4,h5,h6⟩
theorem rQ{P:Program}{w:World}{K:W.Frag}{elts:List Expr} {x1} {tp:Pos}{it d:Addr}{o:Obj}{kvs:List (Key×V)}{es:Array DictEntry}{ep:Nat}(ho:o.data=.dict es ep) :
  Turn P w K (.Tuple elts x1 tp) (Iti d o kvs) [it] it (yn it d kvs.length ep) where
 mem:=by simp
 obj:=λi h st c hc=>by
  obtain⟨ok,ov,g1⟩:=st;rw[mem_singleton.mp hc];exact⟨_,g1,λv q=>nomatch q⟩
 keep:=λi h h' st k=>by
  obtain⟨ok,ov,g1⟩:=st;exact⟨ok,ov,k it (by simp) _ g1⟩
 item:=by
  intro X hP hw hK hc i pins s σ H E I hf st hg;subst hP hw hK;obtain⟨hd,hi⟩:=hg;obtain⟨ok,ov,g1⟩:=st;obtain⟨vs,rel,dA⟩:=wj I.hok hd ho;have hl:kvs.length=vs.length:=Paired.length rel;have ek:=EV hi;obtain⟨q,eq_,hk1,hk2⟩:=n5 rel ek;generalize kvs[i]=kv at ek hk1 hk2;rw[hl]at g1;refine wpAny_pyNext_items_item g1 dA eq_ λkey h1 vx a1 a2 a3 a4=>?_
  refine⟨_,U,wpAny_letOwnedTupleGo_items (s:={ s with heap:=h1 }) a1 λh2 b1 b2=>?_⟩;have nT:s.heap.get? s.heap.objs.size=none:=by
   cases q:s.heap.get? s.heap.objs.size with
   |none=>rfl
   |some o=>exact absurd (Heap.lt_size q) (lt_irrefl _)
  have hT:H s.heap.objs.size=none:=I.hok.fresh (le_refl _);have nz:s.heap.objs.size≠it:=ne_of_gt (Heap.lt_size g1);have kk:∀c o,c ∉ [it]->s.heap.get? c=some o->h2.get? c=some o:=λc o hc q=>by
   have hc:c≠it:=λz=>hc (by rw[z];simp)
   exact b2.extBut _ _ hc (a4 c o hc q)
  have J:=I.turnedPair (h':=h2) (ch:=[it]) (T:=s.heap.objs.size) (x:=kV kv.1) (y:=kv.2) (u:=key) (v:=q.2) hf kk nT hT (b2.extBut _ _ nz a2) (by rw[hk1];exact zp vx) hk2;refine⟨.ref s.heap.objs.size,upd H s.heap.objs.size (.tup [kV kv.1,kv.2]),J,U,⟨_,kv,hT,U,ek,U⟩,⟨_,_,by rw[hl];exact b1⟩,λc hc=>?_⟩;rw[mem_singleton.mp hc,ar nz.symm];exact(hf it (by simp)).1
 done:=by
  intro X hP hw hK hc i pins s σ H E I hf st hg;subst hP hw hK;obtain⟨hd,hi⟩:=hg;obtain⟨ok,ov,g1⟩:=st;obtain⟨vs,rel,dA⟩:=wj I.hok hd ho;have hl:kvs.length=vs.length:=Paired.length rel;rw[hl]at g1;refine wpAny_pyNext_items_end (I.ok.hd hc) g1 dA (getElem?_eq_none (by lia)) λh2 k=>⟨U,I.turnedL (ch:=[it]) hf λc o hc q=>?_⟩
  exact k c o (λz=>hc (by rw[z];simp)) q
 self:=λA i s Q E st h=>by
  obtain⟨ok,ov,g1⟩:=st;have hT:s.TypeIs (.ref it) "dict_itemiterator" := ⟨_,g1,U⟩;refine wpAny_pyIter_slot hT F.slot_dict_itemiterator_iter (wpAny_call_entry F.slot_dict_itemiterator_iter hT iQ ?_ (F.args_dict_itemiterator_iter_1 _));show wpAny _ _ (ret (.ref it)) _ _ s;exact wpAny_pure ⟨_,U,"dict_itemiterator",_,hT,F.slot_dict_itemiterator_next.lookup,h⟩
inductive tK  (R:It->Hp->Prop)(x:V)(H1:Hp):Prop
 |mk (d kvs:_)(_:x=.ref d)(_:H1 d=some (.dK kvs))(_:∀o,R (Iti d o kvs) (upd H1 d (.frz o (.dK kvs)))):tK R x H1
def zq(td:TE):TI:=λσ H R=>td σ H λx H1=>tK R x H1
theorem wm{X:Cx}{e:Expr}{td:TE}{apos dD:Pos}{elts:List Expr} {x1} {tp:Pos}(hd:PE X e td)
  (pZ:attributeBase e "items" X.env (eval e X.env)=eval e X.env:=by rfl) (p4:(apos.endLine == dD.line)=true:=by rfl) :
  PI X (.Tuple elts x1 tp) (.Call (.Attribute e "items" apos) [] [] dD) (zq td):=by
 intro pins s σ H R I h;refine wpAny_Call_method0_late pZ p4 (thn (hd pins s σ H _ I h) λv s1 ⟨x,H1,I1,r1,d,kvs,ex,ed,q⟩=>?_);subst ex;obtain rfl:v=Value.ref d:=r1;obtain⟨z,hs,vs,rel,dO⟩:=(show bQ X.prog X.w H1 s1.heap d (.dK kvs)from I1.hok d _ ed);obtain⟨o,es,ep,g1,g2,g3,g4,g5,g6⟩:=id dO;refine⟨"dict","dict.items",F.plainAttrs_dict,F.slot_dict_items,F.type_dict_items,dO.typeIs,(zo I1 (.inl ⟨kvs,.inl ed⟩)).2.1,?_⟩;refine Calls.callWith_builtin U (PySem.evalArgs_none ?_);refine call_meetsIn F.slot_dict_items dO.typeIs F.entry_dict_items (F.args_dict_items_1 _) (meets_dict_items (bI X.prog X.w) d hs) ⟨⟨vs,dO⟩,?_⟩;have hl:kvs.length=vs.length:=Paired.length rel;have I2:Inv X pins σ (upd H1 d (.frz o (.dK kvs))) s1:=I1.freeze ed g1;have dlt:d<s1.heap.objs.size:=Heap.lt_size g1;have gp:(s1.heap.push { cls:=.type "dict_items",data:=.fields #[.ref d] }).get? d=some o:=Heap.get?_push_of_some _ g1;refine wpAny_pyIter_items (s:={ s1 with heap:=s1.heap.push { cls:=.type "dict_items",data:=.fields #[.ref d] } }) (knd:=bI X.prog X.w) (kvs:=vs) (ep:=ep) (d:=d) ⟨_,Heap.get?_push_size _ U,U,U⟩ ⟨o,es,gp,g2,g3,g4,g5,g6⟩ ?_;have sz:(s1.heap.push { cls:=.type "dict_items",data:=.fields #[.ref d] }).objs.size=s1.heap.objs.size+1:=by simp[Heap.push]
 have big:s1.heap.objs.size<=(s1.heap.push { cls:=.type "dict_items",data:=.fields #[.ref d] }).objs.size:=by rw[sz];lia
 refine⟨_,[_],yn _ d kvs.length ep,Iti d o kvs,upd H1 d (.frz o (.dK kvs)),U,I2.kept (t':=s1.toks) (λb u q=>Heap.get?_push_of_some _ (Heap.get?_push_of_some _ q)),rQ g3,⟨.none,.none,by rw[hl];exact Heap.get?_push_size _ U⟩,λc hc=>?_,q o⟩;rw[mem_singleton.mp hc];exact I2.fpOk big (I2.hok.fresh big)
section
variable{gt:TG}{k:Nat}{fr:List Nat}{tt:TT}{te:TE}
theorem qr{d:Addr}{o:Obj}{kvs:List (Key×V)}{σ:St}{H1:Hp}{Q:VK}(Pv:Addr->Nat->List V->Hp->Prop)(h0:∀D,H1 D=none->Pv D 0 [] (upd H1 D (.lst [])))
  (hk:∀D i ys H,H1 D=none->i<=kvs.length->Pv D i ys H->H d=some (.frz o (.dK kvs)))
  (hs:∀D i kv ys H T,H1 D=none->kvs[i]?=some kv->Pv D i ys H->H T=none->∀ts:St,ts.length=k->gt (.ref T) (dN σ fr ts) (upd H T (.tup [kV kv.1,kv.2])) λσ2 H2=>(∃ts2:St,ts2.length=k/\σ2=dN σ fr ts2)/\tt σ2 H2 λb H3=>if b=true then te σ2 H3 (bT Pv D i kvs.length)else eM Pv D i kvs.length H3)
  (hd:∀D ys H,H1 D=none->Pv D kvs.length ys H->Q (.ref D) H):jT (Iti d o kvs) gt k fr tt te σ Q H1:=by
 intro D hD;refine⟨λi m H=>m=kvs.length-i/\i<=kvs.length/\∃ys,Pv D i ys H,⟨_,U,zero_le _,[],h0 D hD⟩,?_⟩;rintro i m H ⟨rfl,hi,ys,p⟩;have q:=hk D i ys H hD hi p;by_cases hlt:i<kvs.length
 ·have ex:kvs[i]?=some kvs[i]:=EV hlt;refine .inr ⟨⟨q,hlt⟩,λx H' y=>?_⟩;obtain⟨T,kv,hT,rfl,e,rfl⟩:=y;exact hs D i _ ys _ T hD e p hT
 ·have e:i=kvs.length:=by lia
  subst e;exact .inl ⟨⟨q,le_refl _⟩,hd D ys H hD p⟩
end
theorem rR:cw X (.type "dict") (λxs H Q=>∃a kvs,xs=[V.ref a]/\H a=some (.dK kvs)/\∀p,H p=none->Q (.ref p) (upd H p (.dK kvs))):=by
 intro pins s σ H xs us Q I r h;obtain⟨a,kvs,rfl,ha,q⟩:=h;obtain⟨u,rfl,ru⟩:=vals1 r;cases ru;exact wg I (.inl ha) λp s' hp I'=>⟨.ref p,_,I',U,q p hp⟩
inductive AY  (x:V)(y:V)(H:Hp)(Q:VK):Prop
 |mk (a:Addr)(kvs:List (Key×V))(k:Str)(v:V)(_:x=.ref a)(_:y=.str k)(_:H a=some (.dK kvs))(_:dj kvs (Sum.inr k)=some v)(_:Q v H):AY x y H Q
theorem ml:IxR X AY:=by
 intro value slice pins s σ H x y v u Q I rx ry h hs;obtain⟨a,kvs,k,z,rfl,rfl,ea,el,q⟩:=h;cases rx;obtain⟨_,_,vs,rel,dd⟩:=tI I.hok ea;obtain⟨w',ew,rw'⟩:=iP.some_of (v:=z) (o:=valueAt vs (Sum.inr k)) (by rw[←el];exact rel.val (Sum.inr k:Key));exact PyProof.Rows.tail_any dd.mapOf.typeIs slot_dict_getitem.lookup (wpAny_getItem_of (tG (k:=Sum.inr k) ry) dd.mapOf ew ⟨z,H,I.tok _,rw',q⟩) hs
inductive AZ(neg:Bool)(x:V)(y:V)(H:Hp)(Q:VK):Prop
 |mk (a:Addr)(kvs:List (Key×V))(k:Str)(_:x=.str k)(_:y=.ref a)(_:H a=some (.dK kvs))(_:Q (.bl (if neg then !(dj kvs (Sum.inr k)).isSome else(dj kvs (Sum.inr k)).isSome)) H):AZ neg x y H Q
theorem uP{k:Nat}(hr:cb k X.A):OpR X (compareOp .NotIn) (AZ true):=by
 intro pins s σ H x y v u Q I rx ry h;obtain⟨a,kvs,k,rfl,rfl,ea,q⟩:=h;cases ry;exact xy (by have:=hr.units;lia) I (xw.k (k:=Sum.inr k) ea) rx λs' I'=>⟨.bl _,H,I',U,q⟩
theorem tL{pos:Pos}:PE X (.Dict [] [] pos) (λ_ H Q=>∀p,H p=none->Q (.ref p) (upd H p (.dK []))):=we
def A1(td ty tv:TE):TS:=λD σ H=>tv σ H λv H1=>td σ H1 λx H2=>ty σ H2 λy H3=>∃(a:Addr)(kvs:List (Key×V))(k:Str),x=.ref a/\y=.str k/\H3 a=some (.dK kvs)/\kvs.length<sizeLine/\D.nx σ (upd H3 a (.dK (putK kvs (Sum.inr k) v)))
theorem oQ{o i value:Expr}{td ty tv:TE}{pos pos':Pos}{k:Nat}(hr:cb k X.A)(ho:PE X o td)(hi:PE X i ty)(hv:PE X value tv)(hs:swapsWith value (some (.Subscript o i pos')) pos.line X.env=pure false) :
  PS X (.Assign [.Subscript o i pos'] value pos) (A1 td ty tv):=by
 intro pins s σ H D I h;refine wpAny_Assign_Subscript (thn (hv pins s σ H _ I h) λr s1 ⟨v,H1,I1,rv,q1⟩=>thn (ho pins s1 σ H1 _ I1 q1) λu s2 ⟨x,H2,I2,rx,q2⟩=>thn (hi pins s2 σ H2 _ I2 q2) λiv s3 ⟨y,H3,I3,ry,a,kvs,k,ex,ey,ea,hl,q3⟩=>?_) hs;subst ex ey;obtain rfl:u=Value.ref a:=rx;exact uO (by have:=hr.units;lia) I3 (xx.k (k:=Sum.inr k) ea hl) ry rv λs4 I4=>⟨σ,_,I4,q3⟩
theorem mn{kvs:List (Str×V)}{k:Str}:dj (kvT kvs) (Sum.inr k)=kvs.lookup k:=by
 induction kvs with
 |nil=>rfl
 |cons p r ih =>
  obtain⟨k0,v0⟩:=p;by_cases hk:k0=k
  ·subst hk;rw[lookup_cons,beq_self_eq_true];exact cG U
  ·rw[lookup_cons,beq_eq_false_iff_ne.mpr λz=>hk z.symm,←ih];exact cH λz=>hk (by injection z)
set_option maxRecDepth 100000
section
variable{prog:Program}{A:Around}{E:Value->Shared->Prop}{s:Shared}
theorem qt:typeLookup (.type "zip") "keys" = pure none:=by rw[typeLookup_type,builtinLookup_eq_fast];kernel_rfl
theorem mq:typeLookup (.type "zip") "__getattr__" = pure none:=by rw[typeLookup_type,builtinLookup_eq_fast];kernel_rfl
theorem oR:entryFor table "zip.__getattribute__" = some Builtin.«object.__getattribute__»:=entryFor_alias (id' := "object.__getattribute__") (by kernel_rfl) (by decide+kernel) (by decide+kernel) (by kernel_rfl)
theorem wo(a:Addr)(vs:Array Value)(sl:Array (Option Value))(u:Tok) :
  Meets (Builtin.«object.__getattribute__» ⟨[.ref a,.str "keys" u],[]⟩) (λA R s=>s.heap.get? a=some { cls:=.type "zip",dict:=none,data:=.fields vs,slots:=sl }/\raisesAttr (.ref a) "keys" A R s) :=
 Meets.of_wp λprog w A R s hs=>by
  obtain⟨hp,g,d,tk,os⟩:=s;obtain⟨hx,hs⟩:=hs;have hT:(⟨hp,g,d,tk,os⟩:Shared).TypeIs (.ref a) "zip" := ⟨_,hx,U⟩;have Ex:=qt;have A2:(["__module__","__name__","__qualname__","__doc__","__annotations__"]:List Str).contains "keys" = false:=by decide
  unfold Builtin.«object.__getattribute__»
  repeat (any_goals (first|assumption|wp_step))
  try simp only[A2,false_eq_true,if_false]
  repeat (any_goals (first|assumption|wp_step))
  exact wpAny_raiseAttrError hs.1 hs.2 (attrMsg_fits (by decide+kernel) (by decide))
theorem rS{a:Addr}{vs:Array Value}{sl:Array (Option Value)}{Q:Option Value->Shared->Prop}(hx:s.heap.get? a=some { cls:=.type "zip",dict:=none,data:=.fields vs,slots:=sl }) (hA:A.handled=none)
  (h:∀h' tk,(∀b o,s.heap.get? b=some o->h'.get? b=some o)->Q none { s with heap:=h',toks:=tk }) :
  wpAny (model prog w) A (getAttr? (.ref a) "keys") Q E s:=by
 obtain⟨hp,g,d,tk,os⟩:=s;have hT:∀tk',(⟨hp,g,d,tk',os⟩:Shared).TypeIs (.ref a) "zip" := λ_=>⟨_,hx,U⟩
 have f1:=sub_AttributeError;have f3:=F.slot_zip_getattribute.lookup;have f4:=F.slot_zip_getattribute.bind (.ref a);have f5:=mq;unfold getAttr? getAttrBy? getAttrBy
 repeat (any_goals (first|assumption|exact hT _|((with_reducible show wpAny _ _ (call (Value.builtin "zip.__getattribute__") _ _) _ _ _);refine call_meets F.slot_zip_getattribute (hT _) oR (F.args_zip_getattribute_2 _ _) (wo a vs sl _) ⟨hx,hA,λh' tk' e hx'=>?_⟩)|wp_step))
 obtain⟨t',u',he⟩:=hx'.there;show wpAny _ _ (getattributeRaised _ _ _ _ _ _ _) _ _ _;unfold getattributeRaised
 repeat (any_goals (first|assumption|wp_step))
 exact h _ _ hx'.of.keeps
theorem rT{z TI TO i1 i2 l1 l2:Addr}{i N:Nat}{xs ys:Array Value}{x y:Value}{Q:Option Value->Shared->Prop}(D:ZipApart z TI TO i1 i2 l1 l2)(hz:z<N)(hTO:TO<N)(hi1:i1<N)(hi2:i2<N)(hN:N<=s.heap.objs.size)
  (hZ:tw s.heap z TI TO N i)(p1:IsPair s.heap TI (.ref i1) (.ref i2))(p2:∃a b,IsPair s.heap TO a b)(t1:s.heap.IsListIter i1 l1 i)(t2:s.heap.IsListIter i2 l2 i)(q1:s.heap.IsList l1 xs)(q2:s.heap.IsList l2 ys)(hx:xs[i]?=some x)(hy:ys[i]?=some y)
  (hQ:∀h',tw h' z TI TO N (i+1)->(∃a b,IsPair h' TO a b)->h'.IsListIter i1 l1 (i+1)->h'.IsListIter i2 l2 (i+1)->IsPair h' s.heap.objs.size x y->h'.objs.size=s.heap.objs.size+1 ->
   (∀b o,b≠z->b≠TO->b≠i1->b≠i2->s.heap.get? b=some o->h'.get? b=some o)->Q (some (.ref s.heap.objs.size)) { s with heap:=h' }) :
  wpAny (model prog w) A (pyNext (.ref z)) Q E s:=by
 obtain⟨a,b,p2⟩:=p2;rcases hZ with⟨_,hZ⟩|⟨T0,bb,o,hT0,A3,hZ,gT,cT⟩
 ·refine wpAny_pyNext_zip_item D hZ p1 p2 t1 t2 q1 q2 (x:=x) (y:=y) hx hy λh' a1 a2 a3 a4 a5 a6 a7=>?_
  exact hQ h' (.inr ⟨s.heap.objs.size,false,_,hN,ne_of_gt (lt_of_lt_of_le hz hN),a1,a5,U⟩) ⟨_,_,a2⟩ a3 a4 a5 a6 a7
 ·refine uK D hZ gT p1 p2 t1 t2 q1 q2 (x:=x) (y:=y) hx hy λh' a1 a3 a4 a5 a6 a7=>?_
  exact hQ h' (.inr ⟨T0,true,o,hT0,A3,a1,a7 T0 o A3 (neA hi1 hT0) (neA hi2 hT0) gT,cT⟩) ⟨_,_,a7 TO _ D.TOz D.TOi1 D.TOi2 p2⟩ a3 a4 a5 a6 λb o b1 _ b3 b4 q=>a7 b o b1 b3 b4 q
theorem uQ{z TI TO i1 i2 l1 l2:Addr}{i N:Nat}{xs ys:Array Value}{Q:Option Value->Shared->Prop}(hh:A.handled=none)(D:ZipApart z TI TO i1 i2 l1 l2)
  (hZ:tw s.heap z TI TO N i)(p1:IsPair s.heap TI (.ref i1) (.ref i2))(p2:∃a b,IsPair s.heap TO a b)(t1:s.heap.IsListIter i1 l1 i)(t2:s.heap.IsListIter i2 l2 i)(q1:s.heap.IsList l1 xs)(q2:s.heap.IsList l2 ys)(oK:xs[i]?=none\/ys[i]?=none)
  (hQ:∀h',(∀b o,b≠z->b≠TO->b≠i1->b≠i2->s.heap.get? b=some o->h'.get? b=some o)->Q none { s with heap:=h' }) :
  wpAny (model prog w) A (pyNext (.ref z)) Q E s:=by
 obtain⟨a,b,p2⟩:=p2;rcases hZ with⟨_,hZ⟩|⟨T0,bb,o,hT0,_,hZ,gT,_⟩
 ·exact wpAny_pyNext_zip_end hh D hZ p1 p2 t1 t2 q1 q2 oK hQ
 ·exact vW hh D hZ gT p1 p2 t1 t2 q1 q2 oK λh' k=>hQ h' λb o b1 _ b3 b4 q=>k b o b1 b3 b4 q
end
section
variable{prog:Program}{A:Around}{E:Value->Shared->Prop}
theorem oS{κ:Type} [DecidableEq κ] {knd:KeyKind prog w κ}{h h':Heap}{d:Addr}{kvs:List (κ×Value)}(hd:h.DictOf knd d kvs)(k:∀o,h.get? d=some o->h'.get? d=some o):h'.DictOf knd d kvs:=by
 obtain⟨o,es,ep,ho,r⟩:=hd;exact⟨o,es,ep,k _ ho,r⟩
theorem rV{κ:Type} [DecidableEq κ] {knd:KeyKind prog w κ}{z TI TO i1 i2 l1 l2 d:Addr}{xs ys:Array Value}{ps:List (κ×Value)}{res:Value}(hh:A.handled=none)(D:ZipApart z TI TO i1 i2 l1 l2)(N:Nat)(hz:z<N)(hTO:TO<N)(hi1:i1<N)(hi2:i2<N)
  (hl1:l1<N)(hl2:l2<N)(hTI:TI<N)(hdN:d<N)(nd:d≠z/\d≠TI/\d≠TO/\d≠i1/\d≠i2/\d≠l1/\d≠l2)(hps:ps.length=min xs.size ys.size)
  (hP:∀(j:Nat)(p:κ×Value),ps[j]?=some p->∃key,xs[j]?=some key/\ys[j]?=some p.2/\knd.is p.1 key=true) :
  ∀(k i:Nat)(s:Shared)(kvs:List (κ×Value))(t0:Tok)(R:Result->Shared->Prop),ps.length=i+k->N<=s.heap.objs.size->tw s.heap z TI TO N i->IsPair s.heap TI (.ref i1) (.ref i2)->(∃a b,IsPair s.heap TO a b)->s.heap.IsListIter i1 l1 i->s.heap.IsListIter i2 l2 i->s.heap.IsList l1 xs->s.heap.IsList l2 ys->s.heap.DictOf knd d kvs->kvs.length+k<=sizeLine ->
   (∀h' tk,h'.DictOf knd d (merged kvs (ps.drop i))->(∀b o,b<N->b≠d->b≠z->b≠TO->b≠i1->b≠i2->s.heap.get? b=some o->h'.get? b=some o)->R (.ok (.ret res)) { s with heap:=h',toks:=tk }) ->
   codeAny (model prog w) A (.builtin "dict.update.loop" ⟨[.ref d,.ref z,.int (i:Int) t0,res],[]⟩) R s:=by
 intro k;induction k with
 |zero =>
  intro i s kvs t0 R e hN hZ p1 p2 t1 t2 q1 q2 hd hsz hR;refine codeAny_builtin cO ?_;rw[Around.under_plainId bq _];unfold Builtin.«dict.update.loop»;show wpAny _ A.in1 (pyNext (.ref z) >>= _) _ _ s;have oK:xs[i]?=none\/ys[i]?=none:=by
   by_cases hx:xs.size<=i
   ·exact .inl (Array.getElem?_eq_none hx)
   ·exact .inr (Array.getElem?_eq_none (by lia))
  refine wpAny_bind (uQ (by simp[hh]) D hZ p1 p2 t1 t2 q1 q2 oK λh' kp=>?_);show wpAny _ A.in1 (Builtin.Dict.addKeywords d [] >>= _) _ _ _;refine wpAny_bind (wpAny_pure (wpAny_pure ?_));have e':ps.drop i=[]:=List.drop_of_length_le (by lia);refine hR h' _ ?_ λb o _ _ b1 b2 b3 b4 q=>kp b o b1 b2 b3 b4 q
  rw[e'];exact oS hd λo q=>kp d o nd.1 nd.2.2.1 nd.2.2.2.1 nd.2.2.2.2.1 q
 |succ k ih =>
  intro i s kvs t0 R e hN hZ p1 p2 t1 t2 q1 q2 hd hsz hR;have ep:=EV (l:=ps) (i:=i) (by lia);obtain⟨key,ex,ey,ek⟩:=hP i _ ep;refine codeAny_builtin cO ?_;rw[Around.under_plainId bq _];unfold Builtin.«dict.update.loop»;show wpAny _ A.in1 (pyNext (.ref z) >>= _) _ _ s;refine wpAny_bind (rT D hz hTO hi1 hi2 hN hZ p1 p2 t1 t2 q1 q2 ex ey λh' z1 z2 z3 z4 z5 z6 kp=>?_);refine wpAny_bind (wpAny_holding ?_);refine wpAny_bind (wpAny_tryCatch ?_);unfold Builtin.Dict.pairItems;refine wpAny_bind (wpAny_typeOf (T := "tuple") ⟨_,z5,U⟩ ?_);rw[if_pos (by decide)];refine wpAny_bind (wpAny_seqItems z5 U (wpAny_pure ?_));show wpAny _ _ (holding [key,(ps[i]).2] (dictSet d key (ps[i]).2)) _ _ _;refine wpAny_holding ?_;have hd':h'.DictOf knd d kvs:=oS hd λo q=>kp d o nd.1 nd.2.2.1 nd.2.2.2.1 nd.2.2.2.2.1 q
  refine wpAny_dictSet_pairs ek hd' (λh2 hd2 hs2=>?_) (by lia);have k2:∀b o,b≠d->h'.get? b=some o->h2.get? b=some o:=λb o n q=>(hs2.2 b n).trans q
  have hsl:(stored kvs (ps[i]).1 (ps[i]).2).length<=kvs.length+1:=by
   unfold stored;split
   ·rw[length_map];lia
   ·rw[length_append];simp
  have edr:ps.drop i=ps[i] :: ps.drop (i+1):=List.drop_eq_getElem_cons (by lia);refine wpAny_pure ⟨plainId_quiet bq _,?_⟩
  have go:=ih (i+1) { s with heap:=h2,toks:=s.toks+1 } (stored kvs (ps[i]).1 (ps[i]).2) 0 R (by lia) (by show N<=h2.objs.size;rw[hs2.1,z6];lia) ?_ (k2 TI _ nd.2.1.symm (kp TI _ D.TIz D.TITO D.TIi1 D.TIi2 p1)) ?_ (z3.at λo q=>k2 i1 o nd.2.2.2.1.symm q) (z4.at λo q=>k2 i2 o nd.2.2.2.2.1.symm q)
   ((q1.at λo q=>kp l1 o D.l1z D.l1TO D.l1i1 D.l1i2 q).at λo q=>k2 l1 o nd.2.2.2.2.2.1.symm q) ((q2.at λo q=>kp l2 o D.l2z D.l2TO D.l2i1 D.l2i2 q).at λo q=>k2 l2 o nd.2.2.2.2.2.2.symm q) hd2 (by lia) (λh3 tk hd3 kp3=>?_)
  ·exact go
  ·rcases z1 with⟨z',_⟩|⟨T0,bb,o,a1,a2,a3,a4,a5⟩
   ·exact absurd z' (by lia)
   ·exact .inr ⟨T0,bb,o,a1,a2,k2 z _ nd.1.symm a3,k2 T0 _ (neA hdN a1) a4,a5⟩
  ·obtain⟨a',b',q⟩:=z2;exact⟨a',b',k2 TO _ nd.2.2.1.symm q⟩
  ·refine hR h3 tk ?_ λb o b0 bd b1 b2 b3 b4 q=>kp3 b o b0 bd b1 b2 b3 b4 (k2 b o bd (kp b o b1 b2 b3 b4 q))
   rw[edr];exact hd3
theorem m6{κ:Type} [DecidableEq κ] {knd:KeyKind prog w κ}{s:Shared}{z TI TO i1 i2 l1 l2:Addr}{xs ys:Array Value}{ps:List (κ×Value)}{Q:Value->Shared->Prop}(hh:A.handled=none)(D:ZipApart z TI TO i1 i2 l1 l2)(p0:IsZip s.heap z TI TO .none)(p1:IsPair s.heap TI (.ref i1) (.ref i2))(p2:IsPair s.heap TO .none .none)
  (t1:s.heap.IsListIter i1 l1 0)(t2:s.heap.IsListIter i2 l2 0)(q1:s.heap.IsList l1 xs)(q2:s.heap.IsList l2 ys)(hps:ps.length=min xs.size ys.size)(hsz:ps.length<=sizeLine)(hnd:(ps.map (·.1)).Nodup)
  (hP:∀(j:Nat)(p:κ×Value),ps[j]?=some p->∃key,xs[j]?=some key/\ys[j]?=some p.2/\knd.is p.1 key=true)
  (hQ:∀h' tk,h'.DictOf knd s.heap.objs.size ps->(∀b o,b≠z->b≠TO->b≠i1->b≠i2->s.heap.get? b=some o->h'.get? b=some o)->Q (.ref s.heap.objs.size) { s with heap:=h',toks:=tk }) :
  wpAny (model prog w) A (call (.type "dict") [.ref z]) Q E s:=by
 refine callType_codes (Q₁:=λobj s₁=>obj=.ref s.heap.objs.size/\s₁={ s with heap:=s.heap.push { cls:=.type "dict",data:=.dict #[] } }) F.kt_called_dict (F.kt_typeCall_dict_1 _) F.entry_dict_init (kt_code_dict_new _ ⟨U,U⟩) ?_;rintro obj s₁ ⟨rfl,rfl⟩;have jZ:(s.heap.push { cls:=.type "dict",data:=.dict #[] }).DictOf knd s.heap.objs.size []:=Heap.DictOf.new s.heap;have k0:∀b o,s.heap.get? b=some o->(s.heap.push { cls:=.type "dict",data:=.dict #[] }).get? b=some o:=λb o e=>Heap.get?_push_of_some _ e
 refine⟨jZ.typeIs,F.args_dict_init_2 _ _,?_⟩;unfold Builtin.«dict.__init__»;refine wpAny_bind ?_;unfold Builtin.Dict.selfAndRest;refine wpAny_bind (wpAny_notOrdered_dict jZ.typeIs ?_);show wpAny _ _ (pure (s.heap.objs.size,[Value.ref z])) _ _ _;refine wpAny_pure ?_;show wpAny _ _ (Builtin.Dict.updateFrom "dict.__init__" s.heap.objs.size (.ref z) [] .none) _ _ _;unfold Builtin.Dict.updateFrom;refine wpAny_bind (wpAny_typeOf (T := "zip") ⟨_,k0 _ _ p0,U⟩ ?_);rw[if_pos (by decide)];refine wpAny_bind (rS (s:={ s with heap:=s.heap.push { cls:=.type "dict",data:=.dict #[] } }) (k0 _ _ p0) (by simp[hh]) λh1 tk1 k1=>?_);rw[if_pos (by rfl)];refine wpAny_bind (wpAny_rule ?_);have k01:∀b o,s.heap.get? b=some o->h1.get? b=some o:=λb o e=>k1 b o (k0 b o e)
 refine wpAny_bind (wpAny_pyIter_zip (s:={ s with heap:=h1,toks:=tk1 }) (k01 _ _ p0) ?_);have hd1:h1.DictOf knd s.heap.objs.size []:=oS jZ λo e=>k1 _ _ e
 have ld:s.heap.objs.size<h1.objs.size:=by obtain⟨o,es,ep,ho,_⟩:=hd1;exact Heap.lt_size ho
 have lz:=Heap.lt_size p0;have lTI:=Heap.lt_size p1;have lTO:=Heap.lt_size p2;have li1:i1<s.heap.objs.size:=let ⟨_,e,_⟩:=t1;Heap.lt_size e;have li2:i2<s.heap.objs.size:=let ⟨_,e,_⟩:=t2;Heap.lt_size e;have ll1:l1<s.heap.objs.size:=let ⟨_,e,_⟩:=q1;Heap.lt_size e;have ll2:l2<s.heap.objs.size:=let ⟨_,e,_⟩:=q2;Heap.lt_size e;refine wpAny_pure ⟨plainId_quiet bq _,?_⟩;refine rV (prog:=prog) (w:=w) (knd:=knd) (d:=s.heap.objs.size) (ps:=ps) (res:=.none) (by simp[hh]) D h1.objs.size (lt_trans lz ld) (lt_trans lTO ld) (lt_trans li1 ld) (lt_trans li2 ld) (lt_trans ll1 ld) (lt_trans ll2 ld) (lt_trans lTI ld) ld ⟨ne_of_gt lz,ne_of_gt lTI,ne_of_gt lTO,ne_of_gt li1,ne_of_gt li2,ne_of_gt ll1,ne_of_gt ll2⟩ hps hP ps.length 0 { s with heap:=h1,toks:=tk1 } [] 0 _ (by lia) (le_refl _) (.inl ⟨U,k01 _ _ p0⟩) (k01 _ _ p1) ⟨_,_,k01 _ _ p2⟩ (t1.at λo e=>k01 _ _ e) (t2.at λo e=>k01 _ _ e) (q1.at λo e=>k01 _ _ e) (q2.at λo e=>k01 _ _ e) hd1 (by simpa using hsz) (λh' tk hd' kp=>?_);rw[List.drop_zero,merged_nil_of_nodup ps hnd]at hd';exact⟨U,hQ h' tk hd' λb o b1 b2 b3 b4 e=>kp b o (lt_trans (Heap.lt_size e) ld) (ne_of_lt (Heap.lt_size e)) b1 b2 b3 b4 (k01 _ _ e)⟩
end
set_option maxRecDepth 100000
inductive yo  (x:V)(y:V)(H:Hp)(Q:VK):Prop
 |mk (a b:Addr)(kvs:List (Key×V))(_:x=.ref a)(_:y=.ref b)(_:H a=some (.dK kvs))(_:H b=some (.dK kvs))(_:(∀p∈kvs,bY p.2=true/\dj kvs p.1=some p.2))(_:Q (.bl false) H):yo x y H Q
theorem xA{A:Around}{s:Shared}{kvs:List (Key×V)}{vb:List (Key×Value)}(rb:KV kvs vb):∀{ks:List (Key×V)}{va:List (Key×Value)},KV ks va->(∀p∈ks,bY p.2=true/\dj kvs p.1=some p.2)->W.KeqHits A s vb va true:=by
 intro ks va ra;unfold KV at ra;induction ra with
 |nil=>intro _;exact .nil
 | @cons p q ps qs h t ih =>
  intro hk;obtain⟨h1,h2⟩:=h;obtain⟨f1,f2⟩:=hk p mem_cons_self;have hv:=rb.val p.1;rw[f2]at hv;obtain⟨y,ey,ry⟩:=iP.some_of hv;have he:=oG (A:=A) (s:=s) h2 ry f1 f1;have e:eqV p.2 p.2=true:=ia f1;rw[e]at he;obtain⟨k,v⟩:=q;have h1:p.1=k:=h1;subst h1;exact W.KeqHits.hit (e:=true) (b:=true) ey he (ih λp' hp=>hk p' (mem_cons_of_mem _ hp))
theorem xB{k:Nat}(hr:cb k X.A):OpR X (compareOp .NotEq) yo:=by
 intro pins s σ H x y v u Q I rx ry h;obtain⟨a,b,kvs,rfl,rfl,ea,eb,hk,q⟩:=h;cases rx;cases ry;obtain⟨_,ha,va,ra,da⟩:=tI I.hok ea;obtain⟨_,hb,vb,rb,db⟩:=tI I.hok eb;have l1:=Paired.length ra;have l2:=Paired.length rb;refine W.keq_ne (r:=true) ha hb da db hr.units0 (λ_=>xA rb ra hk) ?_;rw[show(!(va.length == vb.length && true))=false by rw[←l1,←l2];simp];exact⟨.bl false,H,I,U,q⟩
inductive A4(K:W.Frag)(Q:VK)(vs:List V)(H1:Hp):Prop
 |mk (a b:Addr)(ks:List Str)(ys:List V)(_:vs=[.ref a,.ref b])(_:SqL K H1 a (ks.map V.str))(_:SqL K H1 b ys)(_:ks.length=ys.length)(_:ks.Nodup)(_:∀D,H1 D=none->Q (.ref D) (upd H1 D (.dK (kvT (ks.zip ys))))):A4 K Q vs H1
def tDZ(K:W.Frag)(ta:TA):TE:=λσ H Q=>ta σ H λvs H1=>A4 K Q vs H1
theorem rW{e1 e2:Expr}{ta:TA}{p1 p2 A5 zr:Pos}(hcm:X.calm=true)(hg:Gl X "dict") (hm:X.mg "dict" = none) (hgz:Gl X "zip") (hmz:X.mg "zip" = none) (ha:PA X [e1,e2] ta)
  (hs:starEach [e1,e2] X.env=[(false,eval e1 X.env),(false,eval e2 X.env)]:=by rfl)(hs2:starEach [e2] X.env=[(false,eval e2 X.env)]:=by rfl) :
  PE X (.Call (.Name "dict" p1) [.Call (.Name "zip" p2) [e1,e2] [] zr] [] A5) (tDZ X.K ta):=by
 intro pins s σ H Q I h;refine wpAny_Call_Name_kw (gm I hg hm PyProof.Rows.boot_dict ?_);refine PyProof.Rows.callWith_type1 ?_ U U;show wpAny _ _ (spliced ((false,eval (.Call (.Name "zip" p2) [e1,e2] [] zr) X.env) :: backTo A5 (starEach [] X.env))) _ _ s;refine Calls.spliced_cons ?_;refine wpAny_Call_Name_kw (gm I hgz hmz PyProof.Rows.boot_zip ?_);refine PyProof.Rows.callWith_type1 (thn (ha zr pins s σ H _ I h) λus s1 ⟨vs,H1,I1,r1,q1⟩=>?_) (by rw[hs,hs2]) (by rw[hs2];rfl);obtain⟨a,b,ks,ys,rfl,qa,qb,hl,hnd,q⟩:=q1;obtain⟨u,v,rfl,ru,rv⟩:=r1.two;cases (show u=Value.ref a from ru);cases (show v=Value.ref b from rv);obtain⟨us,vu,pu,zu⟩:=I1.list qa;obtain⟨vs,vv,pv,zv⟩:=I1.list qb;obtain⟨oa,ea,_⟩:=id pu.isList;obtain⟨ob,eb,_⟩:=id pv.isList;have la:a<s1.heap.objs.size:=Heap.lt_size ea;have lb:b<s1.heap.objs.size:=Heap.lt_size eb;have l1:=vu.length;have l2:=vv.length;rw[length_map]at l1;refine call_zip_2 pu.isList pv.isList λh' z1 z2 z3 z4 z5 z6 z7=>?_
 refine Calls.spliced_nil ?_;have D:ZipApart (s1.heap.objs.size+4) (s1.heap.objs.size+2) (s1.heap.objs.size+3) s1.heap.objs.size (s1.heap.objs.size+1) a b:=by
  refine⟨?_,?_,?_,?_,?_,?_,?_,?_,?_,?_,?_,?_,?_,?_,?_,?_,?_,?_⟩ <;> first|exact ne_of_lt (by lia)|exact ne_of_gt (by lia)|exact ne_of_lt la|exact ne_of_lt lb|exact ne_of_lt (lt_of_lt_of_le la (le_add_right _ _))|exact ne_of_lt (lt_of_lt_of_le lb (le_add_right _ _))
 have hps:∀(j:Nat)(p:Key×Value),((ks.map λz=>(Sum.inr z:Key)).zip vs)[j]?=some p->∃key,us.toArray[j]?=some key/\vs.toArray[j]?=some p.2/\(bI X.prog X.w).is p.1 key=true:=λj p e=>by
  rw[List.getElem?_zip_eq_some,getElem?_map]at e;obtain⟨e1,e2⟩:=e;obtain⟨z,ez,e1⟩:=Option.map_eq_some_iff.mp e1;obtain⟨key,ek,rk⟩:=vu.get (i:=j) (x:=.str z) (by rw[getElem?_map,ez];rfl);obtain⟨tt,rfl⟩:=(show ∃tt,key=Value.str z tt from rk);exact⟨_,by simpa using ek,by simpa using e2,by rw[←e1];exact fm X.prog X.w z tt⟩
 refine m6 (s:={ s1 with heap:=h' }) (knd:=bI X.prog X.w) (ps:=(ks.map λz=>(Sum.inr z:Key)).zip vs) (I1.ok.hd hcm) D z1 z2 z3 z4 z5 (pu.isList.at λo e=>z7 _ _ e) (pv.isList.at λo e=>z7 _ _ e) (by simp[length_zip];lia) (by rw[length_zip,length_map];lia) ?_ hps λh2 tk hd k3=>?_
 ·rw[List.map_fst_zip (by rw[length_map];lia)];rw[nodup_iff_pairwise_ne]at hnd⊢;rw[pairwise_map];exact hnd.imp λ{a b} hab z=>hab (by injection z)
 ·have hz2:Shared.heap { s1 with heap:=h' }=h':=rfl;rw[hz2]at hd k3;rw[z6]at hd;have kp:∀c o,s1.heap.get? c=some o->h2.get? c=some o:=λc o e=>by
   have:=Heap.lt_size e;exact k3 c o (ltA this _) (ltA this _) (ne_of_lt this) (ltA this _) (z7 c o e)
  show EP X pins σ Q _ _;rw[show(Shared.heap { s1 with heap:=h' }).objs.size=s1.heap.objs.size+5 from z6];have Cp:(s1.heap.objs.size+5 == sysModules)=false:=by
   have:=tF I1;have h1:mainGlobals<s1.heap.objs.size:=(I1.mod.glob.keeps I1.bk).lt;have h2:sysModules<s1.heap.objs.size:=lt_trans (by decide) h1;exact beq_eq_false_iff_ne.mpr (ne_of_gt (lt_of_lt_of_le h2 (le_add_right _ _)))
  refine⟨.ref (s1.heap.objs.size+5),_,I1.laid (h':=h2) (t':=tk) (o:=.dK (kvT (ks.zip ys))) kp (le_add_right _ _) ⟨by unfold kvT;rw[length_map,length_zip];lia,Cp,_,kF (by unfold kvT;rw[length_map,length_zip,length_zip,length_map];lia) (λj x y ex ey=>?_),hd⟩,U,q _ (I1.hok.fresh (le_add_right _ _))⟩;obtain⟨p,ep,rfl⟩:=oP ex;rw[List.getElem?_zip_eq_some]at ep ey;rw[getElem?_map]at ey;obtain⟨z,ez,e1⟩:=Option.map_eq_some_iff.mp ey.1;rw[ep.1]at ez;cases ez;obtain⟨v1,ev1,rv1⟩:=vv.get ep.2;rw[ey.2]at ev1;cases ev1;exact⟨e1,rv1⟩
theorem uR:cw X (.builtin "isinstance") (λxs H Q=>∃(a:Addr)(ys:List V),xs=[.ref a,.ty "tuple"]/\SqT X.K H a ys/\W.kitOne X.K (.type "tuple") (.type "tuple")=some true/\Q (.bl true) H):=by
 intro pins s σ H xs us Q I r h;obtain⟨a,ys,rfl,ha,e,q⟩:=h;obtain⟨u,v,rfl,ru,rv⟩:=r.two;cases (show u=Value.ref a from ru);cases (show v=Value.type "tuple" from rv);obtain⟨its,r1,p1,_⟩:=I.tuple ha;obtain⟨o,h1,h2,_⟩:=id p1;exact W.kia_one W.kitx_tuple I.kIn ⟨o,h1,h2⟩ e (λz=>nomatch z) λtk=>⟨.bl true,H,I.tok _,U,q⟩
theorem rX:cw X (.builtin "isinstance") (λxs H Q=>(∃x c cv t b,xs=[x,c]/\ClV c cv/\TyG X.K H x t/\W.kitOne X.K t cv=some b/\Q (.bl b) H)\/∃(a:Addr)(ys:List V),xs=[.ref a,.ty "tuple"]/\SqT X.K H a ys/\W.kitOne X.K (.type "tuple") (.type "tuple")=some true/\Q (.bl true) H):=dH.or uR
end L2
set_option Elab.async false
set_option maxRecDepth 100000
set_option maxHeartbeats 4000000
set_option linter.all false
namespace My
open PySem L2
def top(i:Nat):Stmt:=PySem.Challenge.pw_rowjudge_k83_asked.main.body.getD i (.Pass ⟨0,0,0,0⟩)
abbrev Y39:Stmt:=top 17
abbrev Y47:Stmt:=top 18
abbrev Y46:Stmt:=top 19
abbrev Y38:Stmt:=top 23
abbrev Y75:Stmt:=top 28
abbrev Y78:Stmt:=top 30
abbrev Y77:Stmt:=top 32
abbrev Y80:Stmt:=top 33
abbrev Y70:Stmt:=top 34
abbrev Y84:Stmt:=top 35
abbrev Y42:Stmt:=top 36
abbrev Y72:Stmt:=top 37
abbrev Y74:Stmt:=top 38
abbrev Y85:Stmt:=top 39
abbrev Y71:Stmt:=top 40
abbrev Y45:Stmt:=top 42
abbrev Y87:Stmt:=top 53
abbrev Y79:Stmt:=top 58
abbrev Y76:Stmt:=top 60
abbrev Y82:Stmt:=top 62
abbrev Y81:Stmt:=top 63
abbrev Y73:Stmt:=top 64
abbrev Y44:Stmt:=top 65
abbrev Y69:Stmt:=top 66
abbrev Y48:Stmt:=top 67
abbrev Y43:Stmt:=top 69
abbrev Y86:Stmt:=top 70
abbrev Y40:Stmt:=top 71
abbrev Y41:Stmt:=top 72
abbrev Y50:Stmt:=top 73
abbrev Y83:Stmt:=top 74
abbrev Y49:Stmt:=top 75
abbrev Y52:Stmt:=top 77
abbrev Y67:Stmt:=top 78
abbrev Y54:Stmt:=top 79
abbrev Y63:Stmt:=top 80
abbrev Y65:Stmt:=top 81
abbrev Y64:Stmt:=top 82
abbrev Y61:Stmt:=top 83
abbrev Y53:Stmt:=top 84
abbrev Y59:Stmt:=top 85
abbrev Y66:Stmt:=top 86
abbrev Y57:Stmt:=top 87
abbrev Y58:Stmt:=top 88
abbrev Y55:Stmt:=top 89
abbrev Y56:Stmt:=top 90
abbrev Y60:Stmt:=top 91
abbrev Y62:Stmt:=top 92
abbrev Y68:Stmt:=top 93
abbrev Y0:Stmt:=inClass (top 27) 0
abbrev Y22:Stmt:=inClass (top 57) 0
abbrev Y7:Stmt:=inClass (top 47) 0
abbrev Y23:Stmt:=inClass (top 46) 0
abbrev Y18:Stmt:=inClass (top 48) 0
abbrev Y27:Stmt:=inClass (top 46) 0
abbrev Y11:Stmt:=inClass (top 49) 0
abbrev Y25:Stmt:=inClass (top 46) 0
abbrev Y13:Stmt:=inClass (top 50) 0
abbrev Y26:Stmt:=inClass (top 46) 0
abbrev Y9:Stmt:=inClass (top 51) 0
abbrev Y24:Stmt:=inClass (top 46) 0
abbrev Y20:Stmt:=inClass (top 52) 0
abbrev Y28:Stmt:=inClass (top 46) 0
abbrev Y5:Stmt:=inClass (top 20) 5
abbrev Y6:Stmt:=inClass (top 20) 5
abbrev Y15:Stmt:=inClass (top 21) 0
abbrev Y1:Stmt:=inClass (top 20) 0
abbrev Y35:Stmt:=inClass (top 22) 0
abbrev Y2:Stmt:=inClass (top 20) 0
abbrev Y3:Stmt:=inClass (top 20) 6
abbrev Y17:Stmt:=inClass (top 21) 2
abbrev Y16:Stmt:=inClass (top 21) 1
abbrev Y4:Stmt:=inClass (top 20) 6
abbrev Y37:Stmt:=inClass (top 22) 2
abbrev Y36:Stmt:=inClass (top 22) 1
abbrev Y29:Stmt:=inClass (top 46) 1
abbrev Y8:Stmt:=inClass (top 47) 1
abbrev Y33:Stmt:=inClass (top 46) 1
abbrev Y19:Stmt:=inClass (top 48) 1
abbrev Y31:Stmt:=inClass (top 46) 1
abbrev Y12:Stmt:=inClass (top 49) 1
abbrev Y32:Stmt:=inClass (top 46) 1
abbrev Y14:Stmt:=inClass (top 50) 1
abbrev Y30:Stmt:=inClass (top 46) 1
abbrev Y10:Stmt:=inClass (top 51) 1
abbrev Y34:Stmt:=inClass (top 46) 1
abbrev Y21:Stmt:=inClass (top 52) 1
abbrev Y51:Stmt:=top 94
theorem Z39:aw ["text","signs","sign"] ["text","signs"] (aj Y39):=fsc
theorem Z47:aw ["text"] ["text"] (aj Y47):=fsc
theorem Z46:aw ["value"] ["value"] (aj Y46):=fsc
theorem Z38:aw ["one","other"] ["one","other"] (aj Y38):=fsc
theorem Z75:aw ["facts","tables"] ["facts","tables"] (aj Y75):=fsc
theorem Z78:aw ["facts","tables","name","domain","names","table"] ["facts","tables"] (aj Y78):=fsc
theorem Z77:aw ["facts","tables","due","table","name","domain"] ["facts","tables"] (aj Y77):=fsc
theorem Z80:aw ["tables","left","names","waiting"] ["tables"] (aj Y80):=fsc
theorem Z70:aw ["table","names"] ["table","names"] (aj Y70):=fsc
theorem Z84:aw ["book","name","table"] ["book","name"] (aj Y84):=fsc
theorem Z42:aw ["book","name"] ["book","name"] (aj Y42):=fsc
theorem Z72:aw ["book","name","order"] ["book","name"] (aj Y72):=fsc
theorem Z74:aw ["book","name","order","asked"] ["book","name","order"] (aj Y74):=fsc
theorem Z85:aw ["book","name"] ["book","name"] (aj Y85):=fsc
theorem Z71:aw ["book","name","columns","table"] ["book","name"] (aj Y71):=fsc
theorem Z45:aw ["spans","number","low","high"] ["spans","number"] (aj Y45):=fsc
theorem Z87:aw ["name","way"] ["name"] (aj Y87):=fsc
theorem Z79:aw ["names","name"] ["names"] (aj Y79):=fsc
theorem Z76:aw ["names","rows"] ["names","rows"] (aj Y76):=fsc
theorem Z82:aw ["way","outcome"] ["way","outcome"] (aj Y82):=fsc
theorem Z81:aw ["domains","outcome","cells","code","domain","spans","low","high"] ["domains","outcome","cells","code"] (aj Y81):=fsc
theorem Z73:aw ["cells","code"] ["cells","code"] (aj Y73):=fsc
theorem Z44:aw ["table","k","codes","cells","spans","code"] ["table","k","codes"] (aj Y44):=fsc
theorem Z69:aw ["table","codes"] ["table","codes"] (aj Y69):=fsc
theorem Z48:aw ["table","rows","codes"] ["table","rows"] (aj Y48):=fsc
theorem Z43:aw ["book","name","facts","domains","codes","fact"] ["book","name","facts"] (aj Y43):=fsc
theorem Z86:aw ["book","name","facts","codes"] ["book","name","facts"] (aj Y86):=fsc
theorem Z40:aw ["book","name","facts"] ["book","name","facts"] (aj Y40):=fsc
theorem Z41:aw ["book","name","codes"] ["book","name","codes"] (aj Y41):=fsc
theorem Z50:aw ["tables","facts","codes"] ["tables","facts","codes"] (aj Y50):=fsc
theorem Z83:aw ["tables","codes","told","taken","table","step"] ["tables","codes"] (aj Y83):=fsc
theorem Z49:aw ["table","columns","silent","codes","rows"] ["table","columns"] (aj Y49):=fsc
theorem Z52:aw ["script","k"] ["script","k"] (aj Y52):=fsc
theorem Z67:aw ["cell","count","letters","head","tail"] ["cell","count"] (aj Y67):=fsc
theorem Z54:aw ["cell","low","width","words"] ["cell"] (aj Y54):=fsc
theorem Z63:aw ["domain","cell","most","width"] ["domain","cell","most"] (aj Y63):=fsc
theorem Z65:aw ["kind","one","two","domain","parts"] ["kind","one","two","domain"] (aj Y65):=fsc
theorem Z64:aw ["columns","domains","pools","own","number","parts","k","size","one","two"] ["columns","domains","pools","own","number"] (aj Y64):=fsc
theorem Z61:aw ["script","most","numbers","k","cell","kept"] ["script","most"] (aj Y61):=fsc
theorem Z53:aw ["script","facts","total","domains","sizes","pools","tables","own","cell","columns","way","numbers","k","table"] ["script"] (aj Y53):=fsc
theorem Z59:aw ["domain"] ["domain"] (aj Y59):=fsc
theorem Z66:aw ["plan","k","names","domains","tables","own","columns","rows","heads","taken"] ["plan","k"] (aj Y66):=fsc
theorem Z57:aw ["plan","names","domains","tables"] ["plan"] (aj Y57):=fsc
theorem Z58:aw ["spans","code","pair"] ["spans","code"] (aj Y58):=fsc
theorem Z55:aw ["way","outs","domain"] ["way","outs","domain"] (aj Y55):=fsc
theorem Z56:aw ["plan","k","codes","names","domains","tables","first","columns","way","rows","own","j","told","fitting","parts"] ["plan","k","codes"] (aj Y56):=fsc
theorem Z60:aw ["plan","k","names","domains","tables","first","reached","j"] ["plan","k"] (aj Y60):=fsc
theorem Z62:aw ["plan","cell","names","domains","tables","ends","table","row","j","spans","codes","k","low","high","code"] ["plan","cell"] (aj Y62):=fsc
theorem Z68:aw ["domain","code"] ["domain","code"] (aj Y68):=fsc
theorem Z0:aw ["self","facts","tables"] ["self","facts","tables"] (aj Y0):=fsc
theorem Z22:aw ["self","name","names","domains","outcome","way","rows","cells","code"] ["self","name","names","domains","outcome","way","rows"] (aj Y22):=fsc
theorem Z7:aw ["self"] ["self"] (aj Y7):=fsc
theorem Z23:aw ["self","called"] ["self","called"] (aj Y23):=fsc
theorem Z18:aw ["self"] ["self"] (aj Y18):=fsc
theorem Z27:aw ["self","called"] ["self","called"] (aj Y27):=fsc
theorem Z11:aw ["self"] ["self"] (aj Y11):=fsc
theorem Z25:aw ["self","called"] ["self","called"] (aj Y25):=fsc
theorem Z13:aw ["self"] ["self"] (aj Y13):=fsc
theorem Z26:aw ["self","called"] ["self","called"] (aj Y26):=fsc
theorem Z9:aw ["self"] ["self"] (aj Y9):=fsc
theorem Z24:aw ["self","called"] ["self","called"] (aj Y24):=fsc
theorem Z20:aw ["self"] ["self"] (aj Y20):=fsc
theorem Z28:aw ["self","called"] ["self","called"] (aj Y28):=fsc
theorem Z5:aw ["self","value"] ["self","value"] (aj Y5):=fsc
theorem Z6:aw ["self","value"] ["self","value"] (aj Y6):=fsc
theorem Z15:aw ["self","low","high"] ["self","low","high"] (aj Y15):=fsc
theorem Z1:aw ["self","low","high"] ["self","low","high"] (aj Y1):=fsc
theorem Z35:aw ["self","words","word"] ["self","words"] (aj Y35):=fsc
theorem Z2:aw ["self","low","high"] ["self","low","high"] (aj Y2):=fsc
theorem Z3:aw ["self","value"] ["self","value"] (aj Y3):=fsc
theorem Z17:aw ["self","value"] ["self","value"] (aj Y17):=fsc
theorem Z16:aw ["self","value"] ["self","value"] (aj Y16):=fsc
theorem Z4:aw ["self","value"] ["self","value"] (aj Y4):=fsc
theorem Z37:aw ["self","value"] ["self","value"] (aj Y37):=fsc
theorem Z36:aw ["self","value"] ["self","value"] (aj Y36):=fsc
theorem Z29:aw ["self","codes","outcome"] ["self","codes","outcome"] (aj Y29):=fsc
theorem Z8:aw ["self","codes","outcome"] ["self","codes","outcome"] (aj Y8):=fsc
theorem Z33:aw ["self","codes","outcome"] ["self","codes","outcome"] (aj Y33):=fsc
theorem Z19:aw ["self","codes","outcome"] ["self","codes","outcome"] (aj Y19):=fsc
theorem Z31:aw ["self","codes","outcome"] ["self","codes","outcome"] (aj Y31):=fsc
theorem Z12:aw ["self","codes","outcome"] ["self","codes","outcome"] (aj Y12):=fsc
theorem Z32:aw ["self","codes","outcome"] ["self","codes","outcome"] (aj Y32):=fsc
theorem Z14:aw ["self","codes","outcome"] ["self","codes","outcome"] (aj Y14):=fsc
theorem Z30:aw ["self","codes","outcome"] ["self","codes","outcome"] (aj Y30):=fsc
theorem Z10:aw ["self","codes","outcome"] ["self","codes","outcome"] (aj Y10):=fsc
theorem Z34:aw ["self","codes","outcome"] ["self","codes","outcome"] (aj Y34):=fsc
theorem Z21:aw ["self","codes","outcome"] ["self","codes","outcome"] (aj Y21):=fsc
theorem Z51:aw ["script","plan","names","domains","tables","first","made_tables","book","held","cell","codes","facts","j","k","due","kept","found","handed","codes_handed","name"] ["script"] (aj Y51):=fsc
structure AD where (a b c d e f g h i j k l m n o p:Addr)
structure Bk(K:W.Frag)(Y:AD):Prop where
 n_TableError:W.nsIn K mainGlobals "TableError" = some (some (.ref Y.a))
 n_NoTable:W.nsIn K mainGlobals "NoTable" = some (some (.ref Y.b))
 n_Way:W.nsIn K mainGlobals "Way" = some (some (.ref Y.c))
 n_First:W.nsIn K mainGlobals "First" = some (some (.ref Y.d))
 n_Only:W.nsIn K mainGlobals "Only" = some (some (.ref Y.e))
 n_Like:W.nsIn K mainGlobals "Like" = some (some (.ref Y.f))
 n_Low:W.nsIn K mainGlobals "Low" = some (some (.ref Y.g))
 n_High:W.nsIn K mainGlobals "High" = some (some (.ref Y.h))
 n_Sum:W.nsIn K mainGlobals "Sum" = some (some (.ref Y.i))
 n_Domain:W.nsIn K mainGlobals "Domain" = some (some (.ref Y.j))
 n_Numbers:W.nsIn K mainGlobals "Numbers" = some (some (.ref Y.k))
 n_Words:W.nsIn K mainGlobals "Words" = some (some (.ref Y.l))
 n_Table:W.nsIn K mainGlobals "Table" = some (some (.ref Y.m))
 n_Book:W.nsIn K mainGlobals "Book" = some (some (.ref Y.n))
 n_NONE:W.nsIn K mainGlobals "NONE" = some (some (.ref Y.o))
 n_CLASH:W.nsIn K mainGlobals "CLASH" = some (some (.ref Y.p))
 x_NoTable:ExcCls K Y.b
 l_NoTable:xm K Y.b
 k_First:Cls K Y.d
 k_Only:Cls K Y.e
 k_Like:Cls K Y.f
 k_Low:Cls K Y.g
 k_High:Cls K Y.h
 k_Sum:Cls K Y.i
 k_Numbers:Cls K Y.k
 k_Words:Cls K Y.l
 k_Table:Cls K Y.m
 k_Book:Cls K Y.n
 t_First:lq K Y.d
 t_Only:lq K Y.e
 t_Like:lq K Y.f
 t_Low:lq K Y.g
 t_High:lq K Y.h
 t_Sum:lq K Y.i
 t_Numbers:lq K Y.k
 t_Words:lq K Y.l
 t_Table:lq K Y.m
 t_Book:lq K Y.n
 q_NONE:ModT K Y.o [.str "none",.int (0)]
 q_CLASH:ModT K Y.p [.str "clash",.int (0)]
 na_First_called:NoAttr K Y.d "called"
 na_Only_called:NoAttr K Y.e "called"
 na_Like_called:NoAttr K Y.f "called"
 na_Low_called:NoAttr K Y.g "called"
 na_High_called:NoAttr K Y.h "called"
 na_Sum_called:NoAttr K Y.i "called"
 na_Numbers_low:NoAttr K Y.k "low"
 na_Numbers_high:NoAttr K Y.k "high"
 na_Numbers_words:NoAttr K Y.k "words"
 na_Words_low:NoAttr K Y.l "low"
 na_Words_high:NoAttr K Y.l "high"
 na_Words_words:NoAttr K Y.l "words"
 na_Table_name:NoAttr K Y.m "name"
 na_Table_names:NoAttr K Y.m "names"
 na_Table_domains:NoAttr K Y.m "domains"
 na_Table_outcome:NoAttr K Y.m "outcome"
 na_Table_way:NoAttr K Y.m "way"
 na_Table_rows:NoAttr K Y.m "rows"
 na_Book_facts:NoAttr K Y.n "facts"
 na_Book_tables:NoAttr K Y.n "tables"
 f_nn:W.kitOne K (.ref Y.k) (.ref Y.k)=some true
 f_wn:W.kitOne K (.ref Y.l) (.ref Y.k)=some false
 f_ww:W.kitOne K (.ref Y.l) (.ref Y.l)=some true
 f_tt:W.kitOne K (.ref Y.m) (.ref Y.m)=some true
 f_nw:W.kitOne K (.ref Y.k) (.ref Y.l)=some false
 e_NoTable:W.exmOne K (.ref Y.b) (.ref Y.a)=some true
 e2_NoTable:W.exmOne K (.ref Y.b) (.ref Y.b)=some true
 v_NoTable:W.kitOne K (.ref Y.b) (.ref Y.a)=some true
 g_NoTable:W.kitOne K (.ref Y.b) (.ref Y.b)=some true
structure Bl(K:W.Frag)(mg:Str->Option Value)(Y:AD):Prop extends Bk K Y where
 TableError_:mg "TableError" = some (.ref Y.a)
 NoTable_:mg "NoTable" = some (.ref Y.b)
 Way_:mg "Way" = some (.ref Y.c)
 First_:mg "First" = some (.ref Y.d)
 Only_:mg "Only" = some (.ref Y.e)
 Like_:mg "Like" = some (.ref Y.f)
 Low_:mg "Low" = some (.ref Y.g)
 High_:mg "High" = some (.ref Y.h)
 Sum_:mg "Sum" = some (.ref Y.i)
 Domain_:mg "Domain" = some (.ref Y.j)
 Numbers_:mg "Numbers" = some (.ref Y.k)
 Words_:mg "Words" = some (.ref Y.l)
 Table_:mg "Table" = some (.ref Y.m)
 Book_:mg "Book" = some (.ref Y.n)
 NONE_:mg "NONE" = some (.ref Y.o)
 CLASH_:mg "CLASH" = some (.ref Y.p)
 len_:mg "len" = none
 isinstance_:mg "isinstance" = none
 int_:mg "int" = none
 bool_:mg "bool" = none
 set_:mg "set" = none
 dict_:mg "dict" = none
 zip_:mg "zip" = none
 list_:mg "list" = none
 sum_:mg "sum" = none
 range_:mg "range" = none
 enumerate_:mg "enumerate" = none
 min_:mg "min" = none
 max_:mg "max" = none
 sorted_:mg "sorted" = none
 tuple_:mg "tuple" = none
 MOST_SIGNS_:∃u,mg "MOST_SIGNS" = some u/\RelV (V.int 12) u
 SMALL_LETTERS_:∃u,mg "SMALL_LETTERS" = some u/\RelV (V.str "abcdefghijklmnopqrstuvwxyz") u
 MOST_FACTS_:∃u,mg "MOST_FACTS" = some u/\RelV (V.int 20) u
 MOST_TABLES_:∃u,mg "MOST_TABLES" = some u/\RelV (V.int 30) u
 MOST_ROWS_:∃u,mg "MOST_ROWS" = some u/\RelV (V.int 200) u
 MOST_COLUMNS_:∃u,mg "MOST_COLUMNS" = some u/\RelV (V.int 4) u
 MOST_WORDS_:∃u,mg "MOST_WORDS" = some u/\RelV (V.int 40) u
theorem p10(n:Nat):(0:Int)<10^n:=Int.pow_pos (by decide)
theorem A6{n:Int}{p:Int×Int}(c:decide (p.1<=n)=true)(d:decide (n<=p.2)=true):inR n p=true:=by unfold inR;rw[c,d];rfl
theorem yp{n:Int}{p:Int×Int}(c:¬ decide (p.1<=n)=true):inR n p=false:=by unfold inR;rw[eq_false_iff.mpr c];rfl
theorem yq{n:Int}{p:Int×Int}(d:¬ decide (n<=p.2)=true):inR n p=false:=by unfold inR;rw[eq_false_iff.mpr d,Bool.and_false]
theorem jo{H:Hp}{r:Addr}{o:HO}{b:Addr}{u:HO}(h:H r=some u)(n:H b=none):upd H b o r=some u:=by rw[ar (bj h n)];exact h
theorem take_snoc{α:Type}{l:List α}{i:Nat}{x:α}(e:l[i]?=some x):l.take (i+1)=l.take i++[x]:=by rw[take_add_one,e];rfl
theorem get_map{ns:List Int}{i:Nat}{c:Int}(e:ns[i]?=some c):(ns.map V.int)[i]?=some (.int c):=by rw[getElem?_map,e];rfl
theorem of_map{ns:List Int}{i:Nat}{x:V}(e:(ns.map V.int)[i]?=some x):∃c,x=.int c/\ns[i]?=some c:=by
 rw[getElem?_map]at e;cases q:ns[i]? with
 |none=>rw[q]at e;cases e
 |some c=>rw[q]at e;cases e;exact⟨c,U,U⟩
def lets:Str := "abcdefghijklmnopqrstuvwxyz"
def isw(z:Str):Bool:=decide ((1:Int)<=((z.length:Nat):Int)) && (decide (((z.length:Nat):Int)<=12) && (!decide (V.str z=V.str "not") && lW z lets))
theorem zt{l:List Nat}{i:Nat}{c:Nat}{p:Nat->Bool}(e:l[i]?=some c)(h:p c=false):l.all p=false:=by
 cases q:l.all p with
 |false=>rfl
 |true=>rw[all_eq_true.mp q c (EY e)]at h;cases h
theorem all_succ{l:List Nat}{i:Nat}{c:Nat}{p:Nat->Bool}(e:l[i]?=some c)(h:p c=true)(ha:(l.take i).all p=true):(l.take (i+1)).all p=true:=by
 rw[take_snoc e,List.all_append,ha];simp[h]
theorem wq{z g:Str}(h:(z.cps.toList.take z.cps.size).all (sg g)=true):lW z g=true:=by
 have e:z.cps.toList.take z.cps.size=z.cps.toList:=by rw[←length_toList];exact take_length
 rw[e]at h;exact h
theorem zw{g:Str}{c:Nat}(h:(!(!(Builtin.Str.occurrences g ⟨#[c]⟩ 0 g.length 1).isEmpty))=true):sg g c=false:=by unfold sg;simpa using h
theorem A7{g:Str}{c:Nat}(h:¬ (!(!(Builtin.Str.occurrences g ⟨#[c]⟩ 0 g.length 1).isEmpty))=true):sg g c=true:=by unfold sg;simpa using h
theorem big{n:Nat}(h:n<=1000):n<=sizeLine:=le_of_lt (aC h)
def mkd(C:Addr)(H:Hp)(x dx:Addr)(lo hi:Int):Hp:=upd (upd H x (.ins C dx [("low",.int lo)])) x (.ins C dx [("low",.int lo),("high",.int hi)])
theorem put2(v u:V):bC (Str.ofString "high") u [(Str.ofString "low",v)]=[(Str.ofString "low",v),(Str.ofString "high",u)]:=by
 unfold bC bC;rw[if_neg (by decide)]
theorem put3(v u t:V):bC (Str.ofString "words") t [(Str.ofString "low",v),(Str.ofString "high",u)]=[(Str.ofString "low",v),(Str.ofString "high",u),(Str.ofString "words",t)]:=by
 unfold bC bC bC;rw[if_neg (by decide),if_neg (by decide)]
def hiW(zs:List Str):Int:=((zs.length:Nat):Int)-1
structure Good(zs:List Str):Prop where
 some_:1<=zs.length
 few:zs.length<=40
 words:∀z∈zs,isw z=true
 once:zs.Nodup
theorem d6(zs:List Str):(zs.map V.str).all bY=true:=by
 rw[List.all_map];exact all_eq_true.mpr λ_ _=>U
theorem dq{zs:List Str}{i:Nat}{x:V}(e:(zs.map V.str)[i]?=some x):∃z,x=.str z/\zs[i]?=some z:=by
 rw[getElem?_map]at e;cases q:zs[i]? with
 |none=>rw[q]at e;cases e
 |some z=>rw[q]at e;cases e;exact⟨z,U,U⟩
theorem eV{zs:List Str}{i:Nat}{z:Str}(e:zs[i]?=some z):(zs.map V.str)[i]?=some (.str z):=by rw[getElem?_map,e];rfl
def six:List Str:=[Str.ofString "first",Str.ofString "only",Str.ofString "like",Str.ofString "low",Str.ofString "high",Str.ofString "sum"]
theorem xC{i j:Nat}{z:Str}(h:six[i]?=some z)(k:six[j]?=some z):i=j:=lG (show six.Nodup by decide+kernel) h k
def WyN(C:Addr)(H:Hp)(x:Addr)(z:Str):Prop:=∃dx,H x=some (.ins C dx [("called",.str z)])
theorem WyN.same{C:Addr}{H H':Hp}{x:Addr}{z:Str}(h:WyN C H x z)(s:ao H H'):WyN C H' x z:=by obtain⟨dx,e⟩:=h;exact⟨dx,s _ _ e⟩
def uS(C:Addr)(z:Str):Sp:=λvs H Q _=>∃(x dx:Addr),vs=[.ref x]/\H x=some (.ins C dx [])/\Q .non (upd H x (.ins C dx [("called",.str z)]))
theorem bp:2<=sizeLine:=by decide
def cl6(a b c d e f:Addr):List Addr:=[a,b,c,d,e,f]
def zy(C:Addr)(H:Hp)(a:Addr)(lo hi:Int):Prop:=∃dx fs,H a=some (.ins C dx fs)/\fs.lookup (Str.ofString "low")=some (.int lo)/\fs.lookup (Str.ofString "high")=some (.int hi)/\fs.lookup (Str.ofString "has_code")=none
def Dom(cN cW:Addr)(H:Hp)(a:Addr)(b:Int×Int):Prop:=∃C,(C=cN\/C=cW)/\zy C H a b.1 b.2
theorem Dom.same{cN cW:Addr}{H H':Hp}{a:Addr}{b:Int×Int}(h:Dom cN cW H a b)(s:ao H H'):Dom cN cW H' a b:=by obtain⟨C,hC,dx,fs,e,r⟩:=h;exact⟨C,hC,dx,fs,s _ _ e,r⟩
def az{α:Type}(xs:List V)(as:List α)(P:Addr->α->Prop):Prop:=xs.length=as.length/\∀(j:Nat)(a:α),as[j]?=some a->∃r,xs[j]?=some (.ref r)/\P r a
theorem az.mono{α:Type}{xs:List V}{as:List α}{P Q:Addr->α->Prop}(h:az xs as P)(k:∀r a,P r a->Q r a):az xs as Q:=⟨h.1,λj a e=>let ⟨r,e1,p⟩:=h.2 j a e;⟨r,e1,k r a p⟩⟩
theorem az.nil{α:Type}{P:Addr->α->Prop}:az [] [] P:=⟨U,(λj a e=>by simp at e)⟩
theorem az.snoc{α:Type}{xs:List V}{as:List α}{P:Addr->α->Prop}{r:Addr}{a:α}(h:az xs as P)(p:P r a):az (xs++[.ref r]) (as++[a]) P:=by
 refine⟨by simp[h.1],λj b e=>?_⟩;by_cases hj:j<as.length
 ·rw[getElem?_append_left hj]at e;obtain⟨r',e1,q⟩:=h.2 j b e;exact⟨r',by rw[getElem?_append_left (by rw[h.1];exact hj)];exact e1,q⟩
 ·have hj2:j=as.length:=by
   have:=(EW.mp e).1;simp at this;lia
  subst hj2;simp at e;subst e;exact⟨r,by rw[←h.1];simp,p⟩
theorem az.get{α:Type}{xs:List V}{as:List α}{P:Addr->α->Prop}(h:az xs as P){j:Nat}{x:V}(e:xs[j]?=some x):∃r a,x=.ref r/\as[j]?=some a/\P r a:=by
 have hj:=(EW.mp e).1;have ea:=EV (l:=as) (i:=j) (by rw[←h.1];exact hj);obtain⟨r,e1,p⟩:=h.2 j _ ea;rw[e]at e1;cases e1;exact⟨r,_,U,ea,p⟩
abbrev Prs:=List (Int×Int)
def SpA(N:Addr->Prop)(H:Hp)(l:Addr)(ps:Prs):Prop:=N l/\∃ys,H l=some (.lst ys)/\PL H ys ps
def CL(N:Addr->Prop)(H:Hp)(xs:List V)(pss:List Prs):Prop:=az xs pss (SpA N H)
abbrev Rw:=List Prs×Int
def fY(N:Addr->Prop)(H:Hp)(r:Addr)(rw_:Rw):Prop:=∃ce cs,H r=some (.tup [.ref ce,.int rw_.2])/\N ce/\H ce=some (.lst cs)/\CL N H cs rw_.1
def RL(N:Addr->Prop)(H:Hp)(xs:List V)(rws:List Rw):Prop:=az xs rws (fY N H)
theorem SpA.same{N:Addr->Prop}{H H':Hp}{l:Addr}{ps:Prs}(h:SpA N H l ps)(s:ao H H'):SpA N H' l ps:=by obtain⟨n,ys,e,p⟩:=h;exact⟨n,ys,s _ _ e,p.mono s.tups⟩
theorem CL.same{N:Addr->Prop}{H H':Hp}{xs:List V}{pss:List Prs}(h:CL N H xs pss)(s:ao H H'):CL N H' xs pss:=az.mono h λ_ _ p=>p.same s
theorem fY.same{N:Addr->Prop}{H H':Hp}{r:Addr}{w:Rw}(h:fY N H r w)(s:ao H H'):fY N H' r w:=by obtain⟨ce,cs,e,n,f,c⟩:=h;exact⟨ce,cs,s _ _ e,n,s _ _ f,c.same s⟩
theorem RL.same{N:Addr->Prop}{H H':Hp}{xs:List V}{rws:List Rw}(h:RL N H xs rws)(s:ao H H'):RL N H' xs rws:=az.mono h λ_ _ p=>p.same s
abbrev NT:Addr->Prop:=λ_=>True
theorem SpA.any{N:Addr->Prop}{H:Hp}{l:Addr}{ps:Prs}(h:SpA N H l ps):SpA NT H l ps:=⟨trivial,h.2⟩
theorem CL.any{N:Addr->Prop}{H:Hp}{xs:List V}{pss:List Prs}(h:CL N H xs pss):CL NT H xs pss:=az.mono h λ_ _ p=>p.any
theorem fY.any{N:Addr->Prop}{H:Hp}{r:Addr}{w:Rw}(h:fY N H r w):fY NT H r w:=by obtain⟨ce,cs,e,_,f,c⟩:=h;exact⟨ce,cs,e,trivial,f,c.any⟩
theorem RL.any{N:Addr->Prop}{H:Hp}{xs:List V}{rws:List Rw}(h:RL N H xs rws):RL NT H xs rws:=az.mono h λ_ _ p=>p.any
theorem SpA.wk{N N':Addr->Prop}{H:Hp}{l:Addr}{ps:Prs}(h:SpA N H l ps)(k:∀a,N a->N' a):SpA N' H l ps:=⟨k _ h.1,h.2⟩
theorem CL.wk{N N':Addr->Prop}{H:Hp}{xs:List V}{pss:List Prs}(h:CL N H xs pss)(k:∀a,N a->N' a):CL N' H xs pss:=az.mono h λ_ _ p=>p.wk k
theorem fY.wk{N N':Addr->Prop}{H:Hp}{r:Addr}{w:Rw}(h:fY N H r w)(k:∀a,N a->N' a):fY N' H r w:=by obtain⟨ce,cs,e,n,f,c⟩:=h;exact⟨ce,cs,e,k _ n,f,c.wk k⟩
theorem SpA.updN{N:Addr->Prop}{D:Addr}{H:Hp}{l:Addr}{ps:Prs}{zs:List V}{o:HO}(h:SpA N H l ps)(n:¬ N D)(e:H D=some (.lst zs)):SpA N (upd H D o) l ps:=by
 obtain⟨m,ys,f,p⟩:=h;exact⟨m,ys,(ar (λz=>n (by rw[←z];exact m))).trans f,p.mono (nG e)⟩
theorem CL.updN{N:Addr->Prop}{D:Addr}{H:Hp}{xs:List V}{pss:List Prs}{zs:List V}{o:HO}(h:CL N H xs pss)(n:¬ N D)(e:H D=some (.lst zs)):CL N (upd H D o) xs pss:=az.mono h λ_ _ p=>p.updN n e
theorem fY.updN{N:Addr->Prop}{D:Addr}{H:Hp}{r:Addr}{w:Rw}{zs:List V}{o:HO}(h:fY N H r w)(n:¬ N D)(e:H D=some (.lst zs)):fY N (upd H D o) r w:=by
 obtain⟨ce,cs,f,m,g,c⟩:=h;exact⟨ce,cs,(ar (cg f e (by intro z;cases z))).trans f,m,(ar (λz=>n (by rw[←z];exact m))).trans g,c.updN n e⟩
theorem RL.updN{N:Addr->Prop}{D:Addr}{H:Hp}{xs:List V}{rws:List Rw}{zs:List V}{o:HO}(h:RL N H xs rws)(n:¬ N D)(e:H D=some (.lst zs)):RL N (upd H D o) xs rws:=az.mono h λ_ _ p=>p.updN n e
def Fr(H:Hp)(D:Addr):Addr->Prop:=λa=>H a=none/\a≠D
theorem Fr.out{H:Hp}{D:Addr}:¬ Fr H D D:=λh=>h.2 U
structure Ey(b:Int×Int)(zs:List Str):Prop where
 le:b.1<=b.2
 ws:zs≠[]->Good zs/\b=(0,hiW zs)
structure tM(bs:Prs)(o:Int×Int)(w:Rw):Prop where
 len:w.1.length=bs.length
 inn:∀(j:Nat)(ps:Prs)(b:Int×Int),w.1[j]?=some ps->bs[j]?=some b->∀p∈ps,b.1<=p.1/\p.2<=b.2
 lo:o.1<=w.2
 hi:w.2<=o.2
def m7(pss:List Prs)(cs:List Int):Bool:=(List.range cs.length).all λj=>inP (pss.getD j []) (cs.getD j 0)
theorem pf1(v0 v1:V):bC (Str.ofString "names") v1 [(Str.ofString "name",v0)]=[(Str.ofString "name",v0),(Str.ofString "names",v1)]:=by
 unfold bC bC;rw[if_neg (by decide)]
theorem pf2(v0 v1 v2:V):bC (Str.ofString "domains") v2 [(Str.ofString "name",v0),(Str.ofString "names",v1)]=[(Str.ofString "name",v0),(Str.ofString "names",v1),(Str.ofString "domains",v2)]:=by
 unfold bC bC bC;rw[if_neg (by decide),if_neg (by decide)]
theorem pf3(v0 v1 v2 v3:V):bC (Str.ofString "outcome") v3 [(Str.ofString "name",v0),(Str.ofString "names",v1),(Str.ofString "domains",v2)]=[(Str.ofString "name",v0),(Str.ofString "names",v1),(Str.ofString "domains",v2),(Str.ofString "outcome",v3)]:=by
 unfold bC bC bC bC;rw[if_neg (by decide),if_neg (by decide),if_neg (by decide)]
theorem pf4(v0 v1 v2 v3 v4:V):bC (Str.ofString "way") v4 [(Str.ofString "name",v0),(Str.ofString "names",v1),(Str.ofString "domains",v2),(Str.ofString "outcome",v3)]=[(Str.ofString "name",v0),(Str.ofString "names",v1),(Str.ofString "domains",v2),(Str.ofString "outcome",v3),(Str.ofString "way",v4)]:=by
 unfold bC bC bC bC bC;rw[if_neg (by decide),if_neg (by decide),if_neg (by decide),if_neg (by decide)]
theorem pf5(v0 v1 v2 v3 v4 v5:V):bC (Str.ofString "rows") v5 [(Str.ofString "name",v0),(Str.ofString "names",v1),(Str.ofString "domains",v2),(Str.ofString "outcome",v3),(Str.ofString "way",v4)]=[(Str.ofString "name",v0),(Str.ofString "names",v1),(Str.ofString "domains",v2),(Str.ofString "outcome",v3),(Str.ofString "way",v4),(Str.ofString "rows",v5)]:=by
 unfold bC bC bC bC bC bC;rw[if_neg (by decide),if_neg (by decide),if_neg (by decide),if_neg (by decide),if_neg (by decide)]
def hide(H:Hp)(x:Addr):Hp:=λb=>if b=x then none else H b
theorem de{H:Hp}{x b:Addr}{o:HO}(e:H b=some o)(n:b≠x):hide H x b=some o:=by unfold hide;rw[if_neg n];exact e
theorem kG{H H':Hp}{x:Addr}(k:∀b o,b≠x->H b=some o->H' b=some o):ao (hide H x) H':=λb o e=>by
 unfold hide at e;by_cases h:b=x
 ·rw[if_pos h]at e;cases e
 ·rw[if_neg h]at e;exact k b o h e
theorem PL.hide{H:Hp}{x C dx:Addr}{fs:List (Str×V)}(hx:H x=some (.ins C dx fs)){ys:List V}{ps:Prs}(h:PL H ys ps):PL (hide H x) ys ps :=
 h.mono λb xs e=>de e (cg e hx (by intro z;cases z))
theorem RL.hide{H:Hp}{x C dx:Addr}{fs:List (Str×V)}(hx:H x=some (.ins C dx fs)){xs:List V}{rws:List Rw}(h:RL NT H xs rws):RL NT (My.hide H x) xs rws :=
 az.mono h λr w ⟨ce,cs,e,_,f,c⟩=>⟨ce,cs,de e (cg e hx (by intro z;cases z)),trivial,de f (cg f hx (by intro z;cases z)),az.mono c λl ps ⟨_,ys,g,p⟩=>⟨trivial,ys,de g (cg g hx (by intro z;cases z)),PL.hide hx p⟩⟩
def wcs(c k:Int):List Nat:=List.replicate (c / 26%6).toNat (97+(c%26).toNat)++([97+(k / 7%7).toNat,97+(k%7).toNat]++List.replicate (k%5).toNat (97+(c / 156%26).toNat))
def wd(c k:Int):Str:=⟨(wcs c k).toArray⟩
theorem zA{c:Nat}(h:97<=c/\c<=122):sg lets c=true:=by
 have:∀d:Nat,d<26->sg lets (97+d)=true:=by decide+kernel
 have z:=this (c-97) (by lia);rw[show 97+(c-97)=c by lia]at z;exact z
theorem oU{s:Str}{n:Nat}(h:s.cps.toList=(List.range n).map (97 + ·)){k:Int}(h0:0<=k)(h1:k<n):atI s.cps.toList k=some (97+k.toNat):=by
 have hk:k.toNat<n:=by lia
 have z:s.cps.toList[k.toNat]?=some (97+k.toNat):=by rw[h,getElem?_map,getElem?_range hk];rfl
 have q:=aM z;rw[show((k.toNat:Nat):Int)=k by lia]at q;exact q
theorem wt:(Str.ofString "abcdefghijklmnopqrstuvwxyz").cps.toList=(List.range 26).map (97 + ·):=by decide+kernel
abbrev SI:=Str×Int
def tp(p:SI):List V:=[.str p.1,.int p.2]
def say(i:Int):SI:=(Str.ofString "say",i)
def tO:SI:=(Str.ofString "clash",0)
def zB:SI:=(Str.ofString "none",0)
def least(ns:List Int):Int:=ns.foldl (λm c=>if c<m then c else m) (ns.headD 0)
def great(ns:List Int):Int:=ns.foldl (λm c=>if c>m then c else m) (ns.headD 0)
theorem fold_min(ns:List Int):∀m:Int,(ns.foldl (λm c=>if c<m then c else m) m=m\/ns.foldl (λm c=>if c<m then c else m) m∈ns)/\ns.foldl (λm c=>if c<m then c else m) m<=m/\∀x∈ns,ns.foldl (λm c=>if c<m then c else m) m<=x:=by
 induction ns with
 |nil=>intro m;exact⟨.inl U,Int.le_refl _,λx h=>by cases h⟩
 |cons n ns ih =>
  intro m;obtain⟨h1,h2,h3⟩:=ih (if n<m then n else m);rw[foldl_cons];refine⟨?_,?_,λx hx=>?_⟩
  ·rcases h1 with h1|h1
   ·rw[h1];split
    ·exact .inr mem_cons_self
    ·exact .inl U
   ·exact .inr (mem_cons_of_mem _ h1)
  ·split at h2 <;> split <;> lia
  ·rcases mem_cons.mp hx with rfl|hx
   ·split at h2 <;> split <;> lia
   ·exact h3 x hx
theorem fold_max(ns:List Int):∀m:Int,(ns.foldl (λm c=>if c>m then c else m) m=m\/ns.foldl (λm c=>if c>m then c else m) m∈ns)/\m<=ns.foldl (λm c=>if c>m then c else m) m/\∀x∈ns,x<=ns.foldl (λm c=>if c>m then c else m) m:=by
 induction ns with
 |nil=>intro m;exact⟨.inl U,Int.le_refl _,λx h=>by cases h⟩
 |cons n ns ih =>
  intro m;obtain⟨h1,h2,h3⟩:=ih (if n>m then n else m);rw[foldl_cons];refine⟨?_,?_,λx hx=>?_⟩
  ·rcases h1 with h1|h1
   ·rw[h1];split
    ·exact .inr mem_cons_self
    ·exact .inl U
   ·exact .inr (mem_cons_of_mem _ h1)
  ·split at h2 <;> split <;> lia
  ·rcases mem_cons.mp hx with rfl|hx
   ·split at h2 <;> split <;> lia
   ·exact h3 x hx
theorem fZ{n:Int}{ns:List Int}:least (n :: ns)∈n :: ns/\∀x∈n :: ns,least (n :: ns)<=x:=by
 obtain⟨h1,h2,h3⟩:=fold_min (n :: ns) n;refine⟨?_,h3⟩;rcases h1 with h1|h1
 ·show(n :: ns).foldl _ n∈_;rw[h1];exact mem_cons_self
 ·exact h1
theorem il{n:Int}{ns:List Int}:great (n :: ns)∈n :: ns/\∀x∈n :: ns,x<=great (n :: ns):=by
 obtain⟨h1,h2,h3⟩:=fold_max (n :: ns) n;refine⟨?_,h3⟩;rcases h1 with h1|h1
 ·show(n :: ns).foldl _ n∈_;rw[h1];exact mem_cons_self
 ·exact h1
theorem mr{n m:Int}{ns:List Int}(h1:m∈n :: ns)(h2:∀b∈n :: ns,m<=b):m=least (n :: ns):=by
 have a:=h2 _ fZ.1;have b:=fZ.2 _ h1;lia
theorem mx{n m:Int}{ns:List Int}(h1:m∈n :: ns)(h2:∀b∈n :: ns,b<=m):m=great (n :: ns):=by
 have a:=h2 _ il.1;have b:=il.2 _ h1;lia
def Cq(ns:List Int):SI:=say (least ns)
def A8(ns:List Int):SI:=say (great ns)
def j3(ns:List Int):SI:=if least ns=great ns then say (least ns)else tO
theorem kH{n:Int}{ns:List Int}:(∀x∈ns,x=n)↔least (n :: ns)=great (n :: ns):=by
 constructor
 ·intro h;have e:∀x∈n :: ns,x=n:=λx hx=>by
   rcases mem_cons.mp hx with r|hx
   ·exact r
   ·exact h x hx
  rw[e _ fZ.1,e _ il.1]
 ·intro h x hx;have a1:=fZ.2 x (mem_cons_of_mem n hx);have a2:=il.2 x (mem_cons_of_mem n hx);have a3:=fZ.2 n (mem_cons_self (l:=ns));have a4:=il.2 n (mem_cons_self (l:=ns));lia
theorem n6{n:Int}{ns:List Int}(h:∀x∈ns,x=n):least (n :: ns)=n:=by
 have e:∀x∈n :: ns,x=n:=λx hx=>by
  rcases mem_cons.mp hx with r|hx
  ·exact r
  ·exact h x hx
 exact e _ fZ.1
def ver(f:List Int->SI):List Int->SI
 | []=>zB
 |n :: ns=>f (n :: ns)
def Wy(C:Addr)(H:Hp)(x:Addr):Prop:=∃dx z,H x=some (.ins C dx [("called",.str z)])
def zC(ns:List Int):SI:=say (ns.headD 0)
def j4(ns:List Int):SI:=if ns.length=1 then say (ns.headD 0)else tO
def near(lo hi n:Int):Int:=if n<lo then lo else if n>hi then hi else n
def wf:Nat->Int->Int->List Int->SI
 |0,_,_=>zC
 |1,_,_=>j4
 |2,_,_=>j3
 |3,_,_=>Cq
 |4,_,_=>A8
 |_,lo,hi=>λns=>say (near lo hi ns.sum)
theorem at0(n:Int)(ns:List Int):atI ((n :: ns).map V.int) 0=some (.int n):=aM (j:=0) U
def uT(K:W.Frag)(C cN cW:Addr)(i:Nat):Sp:=λvs H Q _=>∃(x c o:Addr)(n:Int)(ns:List Int)(b:Int×Int),vs=[.ref x,.ref c,.ref o]/\Wy C H x/\Dom cN cW H o b/\b.1<=b.2/\SqL K H c ((n :: ns).map V.int)/\ns.length<900/\∀(r:Addr)(H':Hp),ao H H'->SqT K H' r (tp (wf i b.1 b.2 (n :: ns)))->Q (.ref r) H'
def j5(K:W.Frag)(C cN cW:Addr)(i:Nat):Sp:=λvs H Q _=>∃(x c o:Addr)(ns:List Int)(b:Int×Int),vs=[.ref x,.ref c,.ref o]/\Wy C H x/\Dom cN cW H o b/\b.1<=b.2/\SqL K H c (ns.map V.int)/\ns.length<900/\∀(r:Addr)(H':Hp),ao H H'->SqT K H' r (tp (ver (wf i b.1 b.2) ns))->Q (.ref r) H'
def msk(f:Nat->Bool):Nat->Nat
 |0=>0
 |n+1=>(if f n then 2^n else 0)+msk f n
theorem my(f:Nat->Bool)(n:Nat):msk f (n+1)=(if f n then 2^n else 0)+msk f n:=rfl
theorem rY(f:Nat->Bool):∀n,msk f n<2^n
 |0=>Nat.one_pos
 |n+1=>by
  have:=rY f n;unfold msk;rw[Nat.pow_succ];split <;> lia
theorem tP(f:Nat->Bool)(k:Nat):∀n,(msk f n).testBit k=(decide (k<n) && f k)
 |0=>by simp[msk]
 |n+1=>by
  have ih:=tP f k n;have lt:=rY f n;unfold msk;rcases Nat.lt_trichotomy k n with h|h|h
  ·split
   ·rw[Nat.testBit_two_pow_add_gt h,ih];simp[h,lt_succ_of_lt h]
   ·rw[Nat.zero_add,ih];simp[h,lt_succ_of_lt h]
  ·subst h;split
   ·rename_i hf
    rw[Nat.testBit_two_pow_add_eq,Nat.testBit_lt_two_pow lt];simp[hf]
   ·rename_i hf
    rw[Nat.zero_add,Nat.testBit_lt_two_pow lt];simp[hf]
  ·have lt2:(if f n=true then 2^n else 0)+msk f n<2^k:=lt_of_lt_of_le (rY f (n+1)) (Nat.pow_le_pow_right (by decide) h);rw[Nat.testBit_lt_two_pow lt2];simp;lia
def ip(m:Int)(k:Nat):Bool:=Builtin.bitAnd (m / 2^k) 1 != 0
theorem uU(f:Nat->Bool)(n k:Nat):ip ((msk f n:Nat):Int) k=(decide (k<n) && f k):=by
 rw[←tP];unfold ip;have e:((msk f n:Nat):Int) / 2^k=((msk f n / 2^k:Nat):Int):=by simp
 rw[e,PyProof.Rows.bitAnd_pp (natCast_nonneg _) (by decide)];unfold Nat.testBit;rw[Nat.shiftRight_eq_div_pow,toNat_natCast,Nat.and_comm];show((((1:Int).toNat &&& (msk f n / 2^k):Nat):Int) != 0)=_;rw[Bool.eq_iff_iff,bne_iff_ne,bne_iff_ne];constructor
 ·intro h z;exact h (by rw[show(1:Int).toNat=1 from U,z];rfl)
 ·intro h z;exact h (by rw[show(1:Int).toNat=1 from U]at z;lia)
def pkF(rws:List Rw)(f:Nat->Bool)(n:Nat):List Int:=((List.range n).filter f).map λk=>(rws.getD k ([],0)).2
theorem qu(rws:List Rw)(f:Nat->Bool)(n:Nat):pkF rws f (n+1)=pkF rws f n++(if f n then[(rws.getD n ([],0)).2] else[]):=by
 unfold pkF;rw[range_succ,filter_append,map_append];cases h:f n with
 |true=>rw[filter_cons_of_pos h];simp
 |false=>rw[filter_cons_of_neg (by rw[h];exact Bool.false_ne_true)];simp
theorem tQ(rws:List Rw)(f:Nat->Bool)(n:Nat):(pkF rws f n).length<=n:=by
 unfold pkF;rw[length_map];exact le_trans (length_filter_le ..) (by simp)
theorem xD(rws:List Rw)(f:Nat->Bool)(n:Nat):pkF rws (ip ((msk f n:Nat):Int)) n=pkF rws f n:=by
 unfold pkF
 congr 1
 apply List.filter_congr
 intro k hk;rw[uU];simp[mem_range.mp hk]
def Tbl(cT cN cW:Addr)(H:Hp)(t:Addr)(rws:List Rw)(i:Nat)(o:Int×Int):Prop:=∃(rl ou dx:Addr)(fs:List (Str×V))(xs:List V)(wy:Str),H t=some (.ins cT dx fs)/\fs.lookup (Str.ofString "rows")=some (.ref rl)/\fs.lookup (Str.ofString "way")=some (.str wy)/\fs.lookup (Str.ofString "outcome")=some (.ref ou)/\H rl=some (.lst xs)/\RL NT H xs rws/\six[i]?=some wy/\Dom cN cW H ou o/\o.1<=o.2/\xs.length<=200
theorem Tbl.same{cT cN cW:Addr}{H H':Hp}{t:Addr}{rws:List Rw}{i:Nat}{o:Int×Int}(h:Tbl cT cN cW H t rws i o)(s:ao H H'):Tbl cT cN cW H' t rws i o:=by
 obtain⟨rl,ou,dx,fs,xs,wy,h1,h2,h3,h4,h5,h6,h7,h8,h9,h10⟩:=h;exact⟨rl,ou,dx,fs,xs,wy,s _ _ h1,h2,h3,h4,s _ _ h5,h6.same s,h7,h8.same s,h9,h10⟩
theorem zD{i:Nat}{z:Str}(h:six[i]?=some z):i<6:=(EW.mp h).1
def eW(rws:List Rw)(cs:List Int)(k:Nat):Bool:=m7 (rws.getD k ([],0)).1 cs
theorem getD_at{rws:List Rw}{k:Nat}{w:Rw}(e:rws[k]?=some w):rws.getD k ([],0)=w:=by rw[getD_eq_getElem?_getD,e];rfl
def fl(rws:List Rw)(cs:List Int):List Int:=(rws.filter λw=>m7 w.1 cs).map (·.2)
theorem xE(rws:List Rw)(w:Rw)(cs:List Int):fl (rws++[w]) cs=fl rws cs++(if m7 w.1 cs then[w.2] else[]):=by
 unfold fl;rw[filter_append,map_append];cases h:m7 w.1 cs <;> simp[filter_cons,h]
theorem qv(rws:List Rw)(cs:List Int):∀n,n<=rws.length->pkF rws (eW rws cs) n=fl (rws.take n) cs
 |0,_=>by simp[pkF,fl]
 |n+1,h=>by
  have ew:rws[n]?=some rws[n]:=EV h;rw[qu,qv rws cs n (Nat.le_of_succ_le h),take_snoc ew,xE,getD_at ew];unfold eW;rw[getD_at ew]
theorem wu(rws:List Rw)(cs:List Int):pkF rws (eW rws cs) rws.length=fl rws cs:=by
 rw[qv rws cs _ (le_refl _),take_length]
def ord:List Nat:=[3,4,2,1,0,5]
structure Col where
 prs:Prs
 w:Bool
 sd:Int
structure Ch(ps:Prs):Prop where
 le:∀(i:Nat)(p:Int×Int),ps[i]?=some p->p.1<=p.2
 nxt:∀(i:Nat)(p q:Int×Int),ps[i]?=some p->ps[i+1]?=some q->q.1=p.2+1
structure Ez(c:Col):Prop where
 some_:1<=c.prs.length
 few:c.prs.length<=6
 ch:Ch c.prs
 w0:c.w=true->∀p,c.prs[0]?=some p->p.1=0
 wl:c.w=true->∀(i:Nat)(p:Int×Int),c.prs[i]?=some p->p.2<40
def Col.lo(c:Col):Int:=(c.prs.headD (0,0)).1
def Col.hi(c:Col):Int:=(c.prs.getLastD (0,0)).2
def Col.b(c:Col):Int×Int:=(c.lo,c.hi)
structure Srt(ps:Prs):Prop where
 le:∀(i:Nat)(p:Int×Int),ps[i]?=some p->p.1<=p.2
 lt:∀(i j:Nat)(p q:Int×Int),i<j->ps[i]?=some p->ps[j]?=some q->p.2<q.1
structure Cr(prs:Prs)(b n:Nat)(ps:Prs):Prop where
 srt:Srt ps
 iff:∀x:Int,inP ps x=true↔∃(k:Nat)(p:Int×Int),k<n/\prs[k]?=some p/\b.testBit k=true/\p.1<=x/\x<=p.2
def mrg(prs:Prs)(b:Nat):Nat->Prs
 |0=>[]
 |n+1=>if b.testBit n then(if (decide (0<n) && b.testBit (n-1)) then(mrg prs b n).dropLast++[(((mrg prs b n).getLastD (0,0)).1,(prs.getD n (0,0)).2)]else mrg prs b n++[prs.getD n (0,0)])else mrg prs b n
abbrev BW:=List Nat×Int
def vN(bs:List Nat):List V:=bs.map λb:Nat=>V.int (b:Int)
theorem cC(bs:List Nat):(vN bs).length=bs.length:=by unfold vN;rw[length_map]
theorem wx{bs:List Nat}{j b:Nat}(e:bs[j]?=some b):(vN bs)[j]?=some (.int (b:Int)):=by unfold vN;rw[getElem?_map,e];rfl
theorem mz{bs:List Nat}{j:Nat}{x:V}(e:(vN bs)[j]?=some x):∃b:Nat,x=.int (b:Int)/\bs[j]?=some b:=by
 unfold vN at e;rw[getElem?_map]at e;cases q:bs[j]? with
 |none=>rw[q]at e;cases e
 |some b=>rw[q]at e;cases e;exact⟨b,U,U⟩
theorem oV(bs cs:List Nat):vN bs++vN cs=vN (bs++cs):=by unfold vN;rw[map_append]
structure EA(cs:List Col)(o:Col)(w:BW):Prop where
 len:w.1.length=cs.length
 lt:∀(j b:Nat)(c:Col),w.1[j]?=some b->cs[j]?=some c->b<2^c.prs.length
 lo:o.lo<=w.2
 hi:w.2<=o.hi
structure EK(cs:List Col)(w:BW)(x:Rw):Prop where
 code:x.2=w.2
 len:x.1.length=cs.length
 sp:∀(j:Nat)(ps:Prs)(c:Col)(b:Nat),x.1[j]?=some ps->cs[j]?=some c->w.1[j]?=some b->Cr c.prs b c.prs.length ps
 is:∀(j:Nat)(ps:Prs)(c:Col)(b:Nat),x.1[j]?=some ps->cs[j]?=some c->w.1[j]?=some b->ps=mrg c.prs b c.prs.length
def grow(pts:List (List Nat))(n:Nat):List (List Nat):=pts.flatMap λp=>(List.range n).map λk=>p++[k]
def prm{α:Type}(os:List Nat)(xs:List α):List α:=os.filterMap (xs[·]?)
structure Pm(os:List Nat)(n:Nat):Prop where
 len:os.length=n
 lt:∀k∈os,k<n
 nd:os.Nodup
 all:∀k,k<n->k∈os
theorem mB{α:Type}{o:Nat}{os:List Nat}{xs:List α}(h:o<xs.length):prm (o :: os) xs=xs[o] :: prm os xs:=by
 unfold prm;rw[filterMap_cons,EV h]
theorem bZ{α:Type}:∀{os:List Nat}{xs:List α},(∀k∈os,k<xs.length)->(prm os xs).length=os.length/\∀(j k:Nat),os[j]?=some k->(prm os xs)[j]?=xs[k]?
 | [],xs,_=>⟨U,λj k e=>by simp at e⟩
 |o :: os,xs,h=>by
  obtain⟨h1,h2⟩:=bZ (os:=os) (xs:=xs) λk hk=>h k (mem_cons_of_mem _ hk)
  have ho:=h o mem_cons_self;rw[mB ho];refine⟨by rw[length_cons,length_cons,h1],λj k f=>?_⟩
  match j,f with
  |0,f =>
   have:o=k:=by simpa using f
   subst this;rw[EV ho];rfl
  |j+1,f=>exact h2 j k (by simpa using f)
theorem wz{α:Type}{os:List Nat}{k:Nat}{xs:List α}{x:α}(e:xs[k]?=some x):prm (os++[k]) xs=prm os xs++[x]:=by
 unfold prm;rw[List.filterMap_append];simp[e]
theorem xF{α β:Type}(f:α->β)(os:List Nat)(xs:List α):prm os (xs.map f)=(prm os xs).map f:=by
 unfold prm;rw[List.map_filterMap]
 congr 1
 funext k
 rw[getElem?_map]
theorem tR{α:Type}{os:List Nat}{xs:List α}{x:α}(h:x∈prm os xs):x∈xs:=by
 unfold prm at h;obtain⟨k,_,e⟩:=mem_filterMap.mp h;exact EY e
theorem eO{α:Type}{xs:List α}(h:xs.Nodup){i j:Nat}{x:α}(e:xs[i]?=some x)(f:xs[j]?=some x):i=j:=by
 obtain⟨hi,ei⟩:=EW.mp e;obtain⟨hj,ej⟩:=EW.mp f;have p:=List.pairwise_iff_getElem.mp (nodup_iff_pairwise_ne.mp h);rcases Nat.lt_trichotomy i j with q|q|q
 ·exact absurd (ei.trans ej.symm) (p i j hi hj q)
 ·exact q
 ·exact absurd (ej.trans ei.symm) (p j i hj hi q)
theorem uV{α:Type}{os:List Nat}{xs:List α}(ho:os.Nodup)(hx:xs.Nodup)(hl:∀k∈os,k<xs.length):(prm os xs).Nodup:=by
 induction os with
 |nil=>exact nodup_nil
 |cons o os ih =>
  rw[nodup_cons]at ho;have hi:=ih ho.2 λk hk=>hl k (mem_cons_of_mem _ hk)
  have h0:=hl o mem_cons_self;rw[mB h0,nodup_cons];refine⟨λhm=>?_,hi⟩;unfold prm at hm;obtain⟨k,hk,f⟩:=mem_filterMap.mp hm;have:k=o:=eO hx f (EV h0);subst this;exact ho.1 hk
def TF(cT:Addr)(H:Hp)(t:Addr)(nm wy:Str)(ou:Addr)(zs:List Str)(dv:List V)(rws:List Rw):Prop:=∃(rl dx na dl:Addr)(fs:List (Str×V))(xs:List V),H t=some (.ins cT dx fs)/\fs.lookup (Str.ofString "rows")=some (.ref rl)/\fs.lookup (Str.ofString "name")=some (.str nm)/\fs.lookup (Str.ofString "way")=some (.str wy)/\fs.lookup (Str.ofString "outcome")=some (.ref ou)/\fs.lookup (Str.ofString "names")=some (.ref na)/\fs.lookup (Str.ofString "domains")=some (.ref dl)/\H na=some (.lst (zs.map V.str))/\H dl=some (.lst dv)/\H rl=some (.lst xs)/\RL NT H xs rws/\xs.length<=200
theorem TF.same{cT:Addr}{H H':Hp}{t:Addr}{nm wy:Str}{ou:Addr}{zs:List Str}{dv:List V}{rws:List Rw}(h:TF cT H t nm wy ou zs dv rws)(s:ao H H'):TF cT H' t nm wy ou zs dv rws:=by
 obtain⟨rl,dx,na,dl,fs,xs,h1,h2,h3,h4,h5,h6,h7,h8,h9,h10,h11,r⟩:=h;exact⟨rl,dx,na,dl,fs,xs,s _ _ h1,h2,h3,h4,h5,h6,h7,s _ _ h8,s _ _ h9,s _ _ h10,h11.same s,r⟩
theorem TF.tbl{cT cN cW:Addr}{H:Hp}{t:Addr}{nm wy:Str}{ou:Addr}{zs:List Str}{dv:List V}{rws:List Rw}{i:Nat}{o:Int×Int}(h:TF cT H t nm wy ou zs dv rws)(hi:six[i]?=some wy)(ho:Dom cN cW H ou o)(hl:o.1<=o.2):Tbl cT cN cW H t rws i o:=by
 obtain⟨rl,dx,_,_,fs,xs,h1,h2,_,h4,h5,_,_,_,_,h10,h11,h12⟩:=h;exact⟨rl,ou,dx,fs,xs,wy,h1,h2,h4,h5,h10,h11,hi,ho,hl,h12⟩
structure TOk(cN cW:Addr)(H:Hp)(nm wy:Str)(ou:Addr)(zs:List Str)(dv:List V)(rws:List Rw)(bs:Prs)(o:Int×Int):Prop where
 words:∀z∈nm :: zs,isw z=true
 once:(nm :: zs).Nodup
 one:1<=zs.length
 four:zs.length<=4
 way:wy∈six
 sum:wy=Str.ofString "sum" -> ∃dx fs,H ou=some (.ins cN dx fs)
 doms:az dv bs (Dom cN cW H)
 out:Dom cN cW H ou o
 len:bs.length=zs.length
 rows:∀w∈rws,tM bs o w
 few:rws.length<=200
theorem qw{H:Hp}{D:Addr}{o:HO}:hide (upd H D o) D=hide H D:=by
 funext b
 unfold hide;by_cases h:b=D
 ·rw[if_pos h,if_pos h]
 ·rw[if_neg h,if_neg h,ar h]
theorem n8{H H':Hp}{D:Addr}(s:ao H H'):ao (hide H D) (hide H' D):=λb o e=>by
 unfold hide at e⊢;by_cases h:b=D
 ·rw[if_pos h]at e;cases e
 ·rw[if_neg h]at e⊢;exact s b o e
theorem lC(H:Hp)(D:Addr):ao (hide H D) H:=λb o e=>by
 unfold hide at e;by_cases h:b=D
 ·rw[if_pos h]at e;cases e
 ·rw[if_neg h]at e;exact e
theorem kI{H H':Hp}{D:Addr}(s:ao H H')(n:H D=none):ao H (hide H' D):=λb o e=>de (s b o e) (bj e n)
def rZ(C:Addr)(H:Hp)(a:Addr)(zs:List Str):Prop:=∃dx l,H a=some (.ins C dx [("low",.int 0),("high",.int (hiW zs)),("words",.ref l)])/\H l=some (.lst (zs.map V.str))
def oW(C:Addr)(H:Hp)(a:Addr)(lo hi:Int):Prop:=∃dx,H a=some (.ins C dx [("low",.int lo),("high",.int hi)])
theorem rZ.same{C:Addr}{H H':Hp}{a:Addr}{zs:List Str}(h:rZ C H a zs)(s:ao H H'):rZ C H' a zs:=by obtain⟨dx,l,e,f⟩:=h;exact⟨dx,l,s _ _ e,s _ _ f⟩
theorem oW.same{C:Addr}{H H':Hp}{a:Addr}{lo hi:Int}(h:oW C H a lo hi)(s:ao H H'):oW C H' a lo hi:=by obtain⟨dx,e⟩:=h;exact⟨dx,s _ _ e⟩
def bnd(i:Int):Prop:=i.natAbs<10^60
theorem zE{l:List Nat}(h1:1<=l.length)(h2:l.length<=12)(h3:∀x∈l,97<=x/\x<=122)(h4:l≠[110,111,116]):isw ⟨l.toArray⟩=true:=by
 have ha:lW ⟨l.toArray⟩ lets=true:=by
  unfold lW;rw[all_eq_true];intro x hx;exact zA (h3 x (by simpa using hx))
 have hn:¬ (V.str ⟨l.toArray⟩=V.str (Str.ofString "not")):=λh=>by
  injection h with h;have e:Str.ofString "not" = ⟨[110,111,116].toArray⟩:=by decide+kernel
  rw[e]at h;injection h with h;exact h4 (by simpa using congrArg Array.toList h)
 have hl:(⟨l.toArray⟩:Str).length=l.length:=by simp[Str.length]
 unfold isw;rw[ha,decide_eq_true (show(1:Int)<=(((⟨l.toArray⟩:Str).length:Nat):Int) by lia),decide_eq_true (show(((⟨l.toArray⟩:Str).length:Nat):Int)<=12 by lia)];show(true && (true && (!decide (V.str ⟨l.toArray⟩=V.str (Str.ofString "not")) && true)))=true;rw[decide_eq_false hn];rfl
def pz(t:Int):List Nat:=[122,117,118].take t.toNat
theorem A9{k:Int}(h0:0<=k)(h1:k<40):bnd k:=by
 unfold bnd;have e:(40:Nat)<=10^60:=by decide
 generalize (10^60:Nat)=W at e⊢;lia
abbrev Dk:=Option (List Str)×Int×Int
def iR(cN cW:Addr)(H:Hp)(d:Addr)(k:Dk):Prop:=match k.1 with
 |none=>oW cN H d k.2.1 k.2.2
 |some zs=>rZ cW H d zs/\k.2.1=0/\k.2.2=hiW zs/\Good zs
theorem iR.same{cN cW:Addr}{H H':Hp}{d:Addr}{k:Dk}(h:iR cN cW H d k)(s:ao H H'):iR cN cW H' d k:=by
 obtain⟨w,lo,hi⟩:=k;cases w with
 |none=>exact oW.same h s
 |some zs=>exact⟨h.1.same s,h.2⟩
structure Cs(k:Dk)(p:Pr):Prop where
 lo:k.2.1<=p.1
 le:p.1<=p.2
 hi:p.2<=k.2.2
 b1:bnd p.1
 b2:bnd p.2
def GdK(k:Dk):Prop:=match k.1 with
 |none=>True
 |some zs=>Good zs
def gO(N:Addr->Prop)(cN cW:Addr)(H:Hp)(d:Addr)(k:Dk):Prop:=match k.1 with
 |none=>oW cN H d k.2.1 k.2.2
 |some zs=>(∃dx l,N l/\H d=some (.ins cW dx [("low",.int 0),("high",.int (hiW zs)),("words",.ref l)])/\H l=some (.lst (zs.map V.str)))/\k.2.1=0/\k.2.2=hiW zs/\Good zs
theorem gO.dom{N:Addr->Prop}{cN cW:Addr}{H:Hp}{d:Addr}{k:Dk}(h:gO N cN cW H d k):iR cN cW H d k:=by
 obtain⟨w,lo,hi⟩:=k;cases w with
 |none=>exact h
 |some zs=>obtain⟨⟨dx,l,_,e,f⟩,r⟩:=h;exact⟨⟨dx,l,e,f⟩,r⟩
theorem gO.same{N:Addr->Prop}{cN cW:Addr}{H H':Hp}{d:Addr}{k:Dk}(h:gO N cN cW H d k)(s:ao H H'):gO N cN cW H' d k:=by
 obtain⟨w,lo,hi⟩:=k;cases w with
 |none=>exact oW.same h s
 |some zs=>obtain⟨⟨dx,l,n,e,f⟩,r⟩:=h;exact⟨⟨dx,l,n,s _ _ e,s _ _ f⟩,r⟩
theorem gO.upd{N:Addr->Prop}{cN cW:Addr}{H:Hp}{d D:Addr}{k:Dk}{o:HO}{zs:List V}(h:gO N cN cW H d k)(n:¬ N D)(e:H D=some (.lst zs)):gO N cN cW (upd H D o) d k:=by
 obtain⟨w,lo,hi⟩:=k;cases w with
 |none =>
  obtain⟨dx,f⟩:=h;exact⟨dx,(ar (cg f e (by intro z;cases z))).trans f⟩
 |some ws =>
  obtain⟨⟨dx,l,m,f,g⟩,r⟩:=h;exact⟨⟨dx,l,m,(ar (cg f e (by intro z;cases z))).trans f,(ar (λ(z:l=D)=>n (by rw[←z];exact m))).trans g⟩,r⟩
theorem tS{z:Str}(h:isw z=true):z.length<=12:=by
 unfold isw at h;simp only[and_eq_true,decide_eq_true_eq]at h;lia
theorem zF{zs:List Str}{m:Nat}(h:∀z∈zs,z.length<=m):(zs.map (·.length)).sum<=zs.length*m:=by
 induction zs with
 |nil=>simp
 |cons z zs ih =>
  have h1:=h z (by simp);have h2:=ih λy hy=>h y (mem_cons_of_mem _ hy)
  rw[map_cons,List.sum_cons,length_cons,Nat.succ_mul];lia
theorem xG{zs:List Str}{m n:Nat}(h:∀z∈zs,z.length<=m)(hl:zs.length<=n)(hm:n*m+n*64<=16777216):(zs.map (·.length)).sum+zs.length*64<=16777216:=by
 have h1:=zF h;have h2:zs.length*m<=n*m:=Nat.mul_le_mul_right m hl;have h3:zs.length*64<=n*64:=Nat.mul_le_mul_right 64 hl;lia
theorem zG(a b:Str):(a++b).length=a.length+b.length:=by
 show(Str.append a b).length=_;unfold Str.append Str.length;simp
def hcs(c:Int):List Nat:=(List.range (c%6).toNat).map λj:Nat=>97+(c / (3*(0+(j:Int))+1)%13).toNat
def tcs(c:Int):List Nat:=(List.range (c / 7%6).toNat).map λj:Nat=>97+(c / (5*(0+(j:Int))+2)%13).toNat
def lwc(c k:Int):List Nat:=hcs c++([97+((c / 11+3*k)%26).toNat]++tcs c)
def lw(c k:Int):Str:=⟨(lwc c k).toArray⟩
def lws(c:Int)(n:Nat):List Str:=(List.range n).map λj:Nat=>lw c (0+(j:Int))
theorem wA(c:Int)(n:Nat):lws c (n+1)=lws c n++[lw c (0+(n:Int))]:=by unfold lws;rw[range_succ,map_append];rfl
theorem j6(c:Int)(n:Nat):(lws c n).length=n:=by unfold lws;simp
theorem lD{c k:Int}{x:Nat}(h:x∈lwc c k):(97<=x/\x<=109)\/x=97+((c / 11+3*k)%26).toNat:=by
 unfold lwc at h;rcases mem_append.mp h with h|h
 ·unfold hcs at h;obtain⟨j,_,rfl⟩:=mem_map.mp h;have:=emod_lt_of_pos (c / (3*(0+(j:Int))+1)) (show(0:Int)<13 by decide);lia
 ·rcases mem_append.mp h with h|h
  ·exact .inr (by simpa using h)
  ·unfold tcs at h;obtain⟨j,_,rfl⟩:=mem_map.mp h;have:=emod_lt_of_pos (c / (5*(0+(j:Int))+2)) (show(0:Int)<13 by decide);lia
theorem oX(c:Int):(hcs c).length<=5:=by
 unfold hcs;rw[length_map,length_range];have:=emod_lt_of_pos c (show(0:Int)<6 by decide);lia
theorem oY(c:Int):(tcs c).length<=5:=by
 unfold tcs;rw[length_map,length_range];have:=emod_lt_of_pos (c / 7) (show(0:Int)<6 by decide);lia
theorem wB(c k:Int):isw (lw c k)=true:=by
 have h1:=oX c;have h2:=oY c;have m1:=emod_lt_of_pos (c / 11+3*k) (show(0:Int)<26 by decide);refine zE (by unfold lwc;simp;lia) (by unfold lwc;simp;lia) (λx hx=>?_) (λh=>?_)
 ·rcases lD hx with hx|hx <;> lia
 ·have a:(110:Nat)∈lwc c k:=by rw[h];simp
  have b:(111:Nat)∈lwc c k:=by rw[h];simp
  rcases lD a with a|a
  ·lia
  ·rcases lD b with b|b <;> lia
theorem zH{c k k':Int}(h0:0<=k)(h1:k<8)(h2:0<=k')(h3:k'<8)(e:lw c k=lw c k'):k=k':=by
 unfold lw at e;injection e with e;have e:lwc c k=lwc c k':=by simpa using congrArg Array.toList e
 unfold lwc at e;have e:=List.append_cancel_left e;injection e with e1 e2;have:=emod_nonneg (c / 11+3*k) (show(26:Int)≠0 by decide);have:=emod_nonneg (c / 11+3*k') (show(26:Int)≠0 by decide);generalize c / 11=d at *
 lia
theorem og{c:Int}{n:Nat}(h:n<=8):(lws c n).Nodup:=by
 unfold lws;rw[nodup_iff_pairwise_ne,pairwise_map];refine List.Pairwise.imp_of_mem (R:=λa b=>a≠b) (λ{a b} ha hb hab e=>?_) nodup_range;have ha:=mem_range.mp ha;have hb:=mem_range.mp hb;have:=zH (by lia) (by lia) (by lia) (by lia) e;lia
theorem tT{c:Int}{n:Nat}{z:Str}(hz:z∈lws c n):isw z=true:=by
 unfold lws at hz;obtain⟨j,_,rfl⟩:=mem_map.mp hz;exact wB _ _
theorem wC{c:Int}{n:Nat}(h1:1<=n)(h2:n<=8):Good (lws c n):=⟨by rw[j6];exact h1,by rw[j6];lia,λz hz=>tT hz,og h2⟩
theorem mC:∀xs:List Nat,Txt.join (Str.ofString "") (xs.map λx=>(⟨#[x]⟩:Str))=⟨xs.toArray⟩:=λxs=>by
 rw[show Txt.join (Str.ofString "") (xs.map λx=>(⟨#[x]⟩:Str))=(Str.ofString "").join (xs.map λx=>(⟨#[x]⟩:Str))from StrLaws.glued_eq_join _ _];have e0:Str.ofString "" = Str.empty:=by decide+kernel
 rw[e0];induction xs with
 |nil=>rfl
 |cons x xs ih =>
  cases xs with
  |nil=>rfl
  |cons y ys =>
   show(⟨#[x]⟩:Str)++Str.empty++Str.join Str.empty ((y :: ys).map λx=>(⟨#[x]⟩:Str))=_;rw[ih];show Str.append (Str.append _ _) _=_;unfold Str.append Str.empty;simp
theorem qx(xs:List Nat)(h:xs.length<=5):((xs.map λx=>(⟨#[x]⟩:Str)).map (·.length)).sum+(xs.map λx=>(⟨#[x]⟩:Str)).length*64<=16777216 :=
 xG (m:=1) (n:=5) (λz hz=>by obtain⟨x,_,rfl⟩:=mem_map.mp hz;exact le_refl 1) (by rw[length_map];exact h) (by decide)
structure PD where
 lo:Int
 hi:Int
 ws:List Str
 pool:List Int
def EdP(p:PD)(x:Int×Int):Prop:=(x.1=p.lo\/x.1∈p.pool\/x.1-1∈p.pool)/\(x.2=p.hi\/x.2∈p.pool\/x.2+1∈p.pool)
def PDA(N:Addr->Prop)(H:Hp)(r:Addr)(p:PD):Prop:=∃l:Addr,N r/\N l/\H r=some (.tup [.int p.lo,.int p.hi,.ref l])/\H l=some (.lst (p.ws.map V.str))
theorem PDA.same{N:Addr->Prop}{H H':Hp}{r:Addr}{p:PD}(h:PDA N H r p)(s:ao H H'):PDA N H' r p:=by obtain⟨l,n,m,e,f⟩:=h;exact⟨l,n,m,s _ _ e,s _ _ f⟩
theorem PDA.wk{N N':Addr->Prop}{H:Hp}{r:Addr}{p:PD}(h:PDA N H r p)(w:∀x,N x->N' x):PDA N' H r p:=by obtain⟨l,n,m,e,f⟩:=h;exact⟨l,w _ n,w _ m,e,f⟩
def PD.k(p:PD):Dk:=(if p.ws=[]then none else some p.ws,p.lo,p.hi)
structure oZ(p:PD):Prop where
 le:p.lo<=p.hi
 wd:p.ws≠[]->Good p.ws/\p.lo=0/\p.hi=hiW p.ws
 bd:∀x:Int,p.lo<=x->x<=p.hi->bnd x
theorem p30:(10:Int)^(30:Int).toNat=((10^30:Nat):Int):=by decide
theorem p29:(10:Int)^(29:Int).toNat=((10^29:Nat):Int):=by decide
theorem Ba{x:Int}(h0 : -((10^31:Nat):Int)<=x)(h1:x<=((10^31:Nat):Int)):bnd x:=by
 unfold bnd;have k:(10^31:Nat)<10^60:=by decide
 generalize (10^31:Nat)=A at h0 h1 k;generalize (10^60:Nat)=W at k⊢;lia
theorem eX{i j:Int}(h:0<j)(h2:j<1000):Aw i j:=⟨h,by lia⟩
theorem pl1{H:Hp}{t l:Addr}{a b:Int}(ht:H t=none)(hl:upd H t (.tup [.int a,.int b]) l=none):ao H (upd (upd H t (.tup [.int a,.int b])) l (.lst [.ref t]))/\upd (upd H t (.tup [.int a,.int b])) l (.lst [.ref t]) l=some (.lst [.ref t])/\PL (upd (upd H t (.tup [.int a,.int b])) l (.lst [.ref t])) [.ref t] [(a,b)] :=
 ⟨(ah ht _).trans (ah hl _),ae,.cons ⟨t,U,ah hl _ _ _ ae⟩ .nil⟩
theorem pl2{H:Hp}{t u l:Addr}{a b c d:Int}(ht:H t=none)(hu:upd H t (.tup [.int a,.int b]) u=none)(hl:upd (upd H t (.tup [.int a,.int b])) u (.tup [.int c,.int d]) l=none):ao H (upd (upd (upd H t (.tup [.int a,.int b])) u (.tup [.int c,.int d])) l (.lst [.ref t,.ref u]))/\upd (upd (upd H t (.tup [.int a,.int b])) u (.tup [.int c,.int d])) l (.lst [.ref t,.ref u]) l=some (.lst [.ref t,.ref u])/\PL (upd (upd (upd H t (.tup [.int a,.int b])) u (.tup [.int c,.int d])) l (.lst [.ref t,.ref u])) [.ref t,.ref u] [(a,b),(c,d)] :=
 ⟨((ah ht _).trans (ah hu _)).trans (ah hl _),ae,.cons ⟨t,U,ah hl _ _ _ (ah hu _ _ _ ae)⟩ (.cons ⟨u,U,ah hl _ _ _ ae⟩ .nil)⟩
structure o6(ds:List PD)(cols:List Nat)(ow:Nat)(w:Rw):Prop where
 len:w.1.length=cols.length
 inn:∀(j k:Nat)(ps:Prs)(p:PD),w.1[j]?=some ps->cols[j]?=some k->ds[k]?=some p->∀x∈ps,p.lo<=x.1/\x.1<=x.2/\x.2<=p.hi
 few:∀ps∈w.1,ps.length<=2
 code:∀p,ds[ow]?=some p->p.lo<=w.2/\w.2<=p.hi
 pool:∀(j k:Nat)(ps:Prs)(p:PD),w.1[j]?=some ps->cols[j]?=some k->ds[k]?=some p->∀x∈ps,EdP p x
theorem PDA.updN{N:Addr->Prop}{H:Hp}{r D:Addr}{p:PD}{zs:List V}{o:HO}(h:PDA N H r p)(n:¬ N D)(e:H D=some (.lst zs)):PDA N (upd H D o) r p:=by
 obtain⟨l,n1,n2,f,g⟩:=h;exact⟨l,n1,n2,(ar (cg f e (by intro z;cases z))).trans f,(ar (λ(z:l=D)=>n (by rw[←z];exact n2))).trans g⟩
def hideL(H:Hp)(F:List Addr):Hp:=λb=>if b∈F then none else H b
theorem dr{H:Hp}{F:List Addr}{b:Addr}{o:HO}(e:H b=some o)(n:b ∉ F):hideL H F b=some o:=by unfold hideL;rw[if_neg n];exact e
theorem eB(H:Hp)(F:List Addr):ao (hideL H F) H:=λb o e=>by
 unfold hideL at e;by_cases h:b∈F
 ·rw[if_pos h]at e;cases e
 ·rw[if_neg h]at e;exact e
theorem gs{H H':Hp}{F:List Addr}(s:ao H H'):ao (hideL H F) (hideL H' F):=λb o e=>by
 by_cases h:b∈F
 ·unfold hideL at e;rw[if_pos h]at e;cases e
 ·exact dr (s b o (eB H F b o e)) h
theorem oh{H:Hp}{F:List Addr}{D:Addr}{o:HO}(h:D∈F):hideL (upd H D o) F=hideL H F:=by
 funext b
 unfold hideL;by_cases hb:b∈F
 ·rw[if_pos hb,if_pos hb]
 ·rw[if_neg hb,if_neg hb];exact ar λz=>hb (by rw[z];exact h)
theorem r6{H H':Hp}{F:List Addr}(s:ao H H')(n:∀D∈F,H D=none):ao H (hideL H' F):=λb o e=>dr (s b o e) λhb=>by rw[n b hb]at e;cases e
theorem mD{H:Hp}{F:List Addr}(hF:∀D∈F,∃zs,H D=some (.lst zs)):jc H (hideL H F):=λb t e=>dr e λhb=>by
 obtain⟨zs,ez⟩:=hF b hb;rw[ez]at e;cases e
theorem fY.hideL{H H2:Hp}{F:List Addr}{r:Addr}{w:Rw}(h:fY (λa=>H a=none) H2 r w)(hF:∀D∈F,∃zs,H D=some (.lst zs))(s:ao H H2):fY NT (My.hideL H2 F) r w:=by
 obtain⟨ce,cs,e,n,f,c⟩:=h;have hF2:∀D∈F,∃zs,H2 D=some (.lst zs):=λD hD=>let ⟨zs,ez⟩:=hF D hD;⟨zs,s _ _ ez⟩
 have out:∀x,H x=none->x ∉ F:=λx hx hm=>by obtain⟨zs,ez⟩:=hF x hm;rw[ez]at hx;cases hx
 refine⟨ce,cs,mD hF2 _ _ e,trivial,dr f (out _ n),az.mono c λl ps h=>?_⟩;obtain⟨n1,ys,g,pl⟩:=h;exact⟨trivial,ys,dr g (out _ n1),pl.mono (mD hF2)⟩
def TT(H:Hp)(r:Addr)(t:(List Nat×Str)×Addr):Prop:=∃cl:Addr,H r=some (.tup [.ref cl,.str t.1.2,.ref t.2])/\H cl=some (.lst (vN t.1.1))
theorem TT.same{H H':Hp}{r:Addr}{t:(List Nat×Str)×Addr}(h:TT H r t)(s:ao H H'):TT H' r t:=by obtain⟨cl,e,f⟩:=h;exact⟨cl,s _ _ e,s _ _ f⟩
structure zI(fN:Nat)(ds:List PD)(j:Nat)(t:List Nat×Str):Prop where
 some_:1<=t.1.length
 few:t.1.length<=3
 lt:∀k∈t.1,k<fN+j
 nd:t.1.Nodup
 way:t.2∈six
 sum:t.2=Str.ofString "sum" -> ∀p,ds[fN+j]?=some p->p.ws=[]
def clm(c:Int)(ow:Nat)(m:Nat):List Nat:=(List.range m).map λj:Nat=>((c / 3+(0+(j:Int)))%(ow:Int)).toNat
theorem zJ{c:Int}{ow m:Nat}(h:1<=ow):∀k∈clm c ow m,k<ow:=λk hk=>by
 unfold clm at hk;obtain⟨j,_,rfl⟩:=mem_map.mp hk;have h1:=emod_lt_of_pos (c / 3+(0+(j:Int))) (show(0:Int)<(ow:Int) by lia);have h0:=emod_nonneg (c / 3+(0+(j:Int))) (show(ow:Int)≠0 by lia);lia
theorem uW{x i j n:Int}(h0:0<=i)(h1:i<n)(h2:0<=j)(h3:j<n)(e:(x+i)%n=(x+j)%n):i=j:=by
 have key:∀a b:Int,0<=a->a<n->0<=b->b<n->b<=a->(x+a)%n=(x+b)%n->a=b:=λa b a0 a1 b0 b1 hab e=>by
  have h:=Int.emod_eq_emod_iff_emod_sub_eq_zero.mp e;rw[show x+a-(x+b)=a-b by lia,Int.emod_eq_of_lt (by lia) (by lia)]at h;lia
 by_cases h:j<=i
 ·exact key i j h0 h1 h2 h3 h e
 ·exact(key j i h2 h3 h0 h1 (by lia) e.symm).symm
theorem zK{c:Int}{ow m:Nat}(h:1<=ow)(hm:m<=ow):(clm c ow m).Nodup:=by
 unfold clm;rw[nodup_iff_pairwise_ne,pairwise_map];refine List.Pairwise.imp_of_mem (R:=λa b=>a≠b) (λ{a b} ha hb hab e=>?_) nodup_range;have ha:=mem_range.mp ha;have hb:=mem_range.mp hb;have a0:=emod_nonneg (c / 3+(0+(a:Int))) (show(ow:Int)≠0 by lia);have b0:=emod_nonneg (c / 3+(0+(b:Int))) (show(ow:Int)≠0 by lia);have:=uW (x:=c / 3) (i:=0+(a:Int)) (j:=0+(b:Int)) (n:=(ow:Int)) (by lia) (by lia) (by lia) (by lia) (by lia);lia
theorem o7(c:Int)(ow m:Nat):(clm c ow m).length=m:=by unfold clm;simp
theorem wD(c:Int)(ow m:Nat):vN (clm c ow (m+1))=vN (clm c ow m)++[.int ((((c / 3+(0+(m:Int)))%(ow:Int)).toNat:Nat):Int)]:=by
 unfold clm vN;rw[range_succ,map_append,map_append];rfl
structure PT where
 cols:List Nat
 way:Str
 rows:List Rw
def PTA(H:Hp)(r:Addr)(t:PT):Prop:=∃(cl rl:Addr)(zs:List V),H r=some (.tup [.ref cl,.str t.way,.ref rl])/\H cl=some (.lst (vN t.cols))/\H rl=some (.lst zs)/\RL NT H zs t.rows
theorem PTA.same{H H':Hp}{r:Addr}{t:PT}(h:PTA H r t)(s:ao H H'):PTA H' r t:=by obtain⟨cl,rl,zs,e,f,g,k⟩:=h;exact⟨cl,rl,zs,s _ _ e,s _ _ f,s _ _ g,k.same s⟩
structure Bb(fN:Nat)(ds:List PD)(j:Nat)(t:PT):Prop where
 ok:zI fN ds j (t.cols,t.way)
 rows:∀w∈t.rows,o6 ds t.cols (fN+j) w
 few:t.rows.length<=200
def PlA(H:Hp)(r:Addr)(zs:List Str)(ds:List PD)(ts:List PT):Prop:=∃(nl dl tl_:Addr)(dv tv:List V),H r=some (.tup [.ref nl,.ref dl,.ref tl_])/\H nl=some (.lst (zs.map V.str))/\H dl=some (.lst dv)/\az dv ds (PDA NT H)/\H tl_=some (.lst tv)/\az tv ts (PTA H)
theorem PlA.same{H H':Hp}{r:Addr}{zs:List Str}{ds:List PD}{ts:List PT}(h:PlA H r zs ds ts)(s:ao H H'):PlA H' r zs ds ts:=by
 obtain⟨nl,dl,tl_,dv,tv,e1,e2,e3,h1,e4,h2⟩:=h;exact⟨nl,dl,tl_,dv,tv,s _ _ e1,s _ _ e2,s _ _ e3,az.mono h1 (λ_ _ p=>p.same s),s _ _ e4,az.mono h2 λ_ _ p=>p.same s⟩
structure eY(zs:List Str)(ds:List PD)(ts:List PT)(fN:Nat):Prop where
 words:∀z∈zs,isw z=true
 nd:zs.Nodup
 len:zs.length=ds.length
 n7:ds.length<=7
 tab:fN+ts.length=ds.length
 some_:1<=ts.length
 doms:∀p∈ds,oZ p
 tabs:∀(j:Nat)(t:PT),ts[j]?=some t->Bb fN ds j t
theorem oi{H H9:Hp}{F F':List Addr}(h:∀b o,b ∉ F->H b=some o->H9 b=some o/\b ∉ F'):ao (hideL H F) (hideL H9 F'):=λb o e=>by
 by_cases hb:b∈F
 ·unfold hideL at e;rw[if_pos hb]at e;cases e
 ·obtain⟨e9,n9⟩:=h b o hb (eB H F b o e);exact dr e9 n9
def rls(ts:List ((List Nat×Str)×Addr)):List Addr:=ts.map (·.2)
theorem wF(ts:List ((List Nat×Str)×Addr))(t:(List Nat×Str)×Addr):rls (ts++[t])=rls ts++[t.2]:=by unfold rls;rw[map_append];rfl
theorem xH{c:Int}{ow:Nat}(h1:1<=ow):∃m:Nat,(if (ow:Int)<1+c%3 then(ow:Int)else 1+c%3)=(m:Int)/\1<=m/\m<=3/\m<=ow:=by
 have c0:=emod_nonneg c (show(3:Int)≠0 by decide);have c1:=emod_lt_of_pos c (show(0:Int)<3 by decide);refine⟨(if (ow:Int)<1+c%3 then(ow:Int)else 1+c%3).toNat,?_,?_,?_,?_⟩ <;> split <;> lia
theorem lE{ts:List ((List Nat×Str)×Addr)}{j:Nat}{t:(List Nat×Str)×Addr}(e:ts[j]?=some t):(rls ts)[j]?=some t.2:=by unfold rls;rw[getElem?_map,e];rfl
theorem lF{ts:List ((List Nat×Str)×Addr)}{j:Nat}{t:(List Nat×Str)×Addr}(e:ts[j]?=some t):t.2∈rls ts:=EY (lE e)
def mkT(t:(List Nat×Str)×Addr)(rs:List Rw):PT:=⟨t.1.1,t.1.2,rs⟩
def RwI(H:Hp)(F:List Addr)(fN:Nat)(ds:List PD)(ts:List ((List Nat×Str)×Addr))(rss:List (List Rw))(n:Nat):Prop:=rss.length=ts.length/\∀(j:Nat)(t:(List Nat×Str)×Addr)(rs:List Rw),ts[j]?=some t->rss[j]?=some rs->(∃zs,H t.2=some (.lst zs)/\RL NT (hideL H F) zs rs)/\(∀w∈rs,o6 ds t.1.1 (fN+j) w)/\rs.length<=n
theorem RwI.grow{H H2:Hp}{fN n jj:Nat}{ds:List PD}{ts:List ((List Nat×Str)×Addr)}{rss:List (List Rw)}{t:(List Nat×Str)×Addr}{rs:List Rw}{zs:List V}{r:Addr}{w:Rw}(h:RwI H (rls ts) fN ds ts rss n)(hnd:(rls ts).Nodup)(s:ao H H2)(et:ts[jj]?=some t)(er:rss[jj]?=some rs)(ez:H t.2=some (.lst zs))(hz:RL NT (hideL H (rls ts)) zs rs)(hw:fY NT (hideL H2 (rls ts)) r w)(hf:o6 ds t.1.1 (fN+jj) w):RwI (upd H2 t.2 (.lst (zs++[.ref r]))) (rls ts) fN ds ts (rss.set jj (rs++[w])) (n+1):=by
 refine⟨by rw[length_set];exact h.1,λj t' rs' e1 e2=>?_⟩;have hh:hideL (upd H2 t.2 (.lst (zs++[.ref r]))) (rls ts)=hideL H2 (rls ts):=oh (lF et);rw[hh];by_cases hj:jj=j
 ·subst hj;rw[et]at e1;cases e1;rw[List.getElem?_set_self (EW.mp er).1]at e2;cases e2;obtain⟨_,h2,h3⟩:=h.2 jj t rs et er;refine⟨⟨_,ae,az.snoc (hz.same (gs s)) hw⟩,λw' hw'=>?_,by rw[length_append,length_singleton];lia⟩;rcases mem_append.mp hw' with hw' | hw'
  ·exact h2 w' hw'
  ·rw[show w'=w by simpa using hw'];exact hf
 ·rw[List.getElem?_set_ne hj]at e2;obtain⟨⟨zs',f1,f2⟩,h2,h3⟩:=h.2 j t' rs' e1 e2;refine⟨⟨zs',(ar λz=>?_).trans (s _ _ f1),f2.same (gs s)⟩,h2,by lia⟩;have a1:=lE e1;have a2:=lE et;rw[z]at a1;exact hj (eO hnd a2 a1)
structure Ct(k:Dk)(ps:Prs):Prop where
 few:ps.length<=2
 inn:∀p∈ps,Cs k p
 gd:GdK k
 w0:∀zs,k.1=some zs->k.2=(0,hiW zs)
theorem PD.k_none{p:PD}(h:p.ws=[]):p.k=(none,p.lo,p.hi):=by unfold PD.k;rw[if_pos h]
theorem PD.k_some{p:PD}(h:p.ws≠[]):p.k=(some p.ws,p.lo,p.hi):=by unfold PD.k;rw[if_neg h]
theorem iR.dom{cN cW:Addr}{H:Hp}{d:Addr}{k:Dk}(h:iR cN cW H d k):Dom cN cW H d k.2:=by
 obtain⟨w,lo,hi⟩:=k;cases w with
 |none=>obtain⟨dx,e⟩:=h;exact⟨cN,.inl U,dx,_,e,U,U,U⟩
 |some zs =>
  obtain⟨⟨dx,l,e,_⟩,h0,h1,_⟩:=h;have h0:lo=0:=h0;have h1:hi=hiW zs:=h1;subst h0 h1;exact⟨cW,.inr U,dx,_,e,U,U,U⟩
theorem eY.own{zs:List Str}{ds:List PD}{ts:List PT}{fN:Nat}(h:eY zs ds ts fN){k:Nat}{t:PT}(e:ts[k]?=some t):fN+k<ds.length:=by
 have:=(EW.mp e).1;have:=h.tab;lia
theorem eY.lt{zs:List Str}{ds:List PD}{ts:List PT}{fN:Nat}(h:eY zs ds ts fN){k:Nat}{t:PT}(e:ts[k]?=some t):∀j∈t.cols,j<ds.length:=λj hj=>by
 have h1:=(h.tabs k t e).ok.lt j hj;have h2:=h.own e;lia
theorem eY.rows{zs:List Str}{ds:List PD}{ts:List PT}{fN:Nat}(h:eY zs ds ts fN){k:Nat}{t:PT}(e:ts[k]?=some t){po:PD}(eo:ds[fN+k]?=some po):∀w∈t.rows,tM (prm t.cols (ds.map λp=>(p.lo,p.hi))) (po.lo,po.hi) w:=λw hw=>by
 have f:=(h.tabs k t e).rows w hw;have lt:=h.lt e;have lt2:∀j∈t.cols,j<(ds.map λp=>(p.lo,p.hi)).length:=λj hj=>by rw[length_map];exact lt j hj
 have g:=bZ (os:=t.cols) (xs:=ds.map λp=>(p.lo,p.hi)) lt2;have c:=f.code po eo;refine⟨by rw[f.len,g.1],λj ps b e1 e2 p hp=>?_,c.1,c.2⟩;have hj:j<t.cols.length:=by rw[←f.len];exact(EW.mp e1).1
 have ec:=EV hj;rw[g.2 j _ ec,getElem?_map]at e2;have ed:=EV (lt _ (EY ec));rw[ed]at e2;cases e2;have:=f.inn j _ ps _ e1 ec ed p hp;exact⟨this.1,this.2.2⟩
theorem oj{H:Hp}{D:Addr}{zs:List V}(e:H D=some (.lst zs)):jc H (hide H D):=λb t f=>de f (cg f e (by intro z;cases z))
theorem uX{α:Type}{os:List Nat}{o:Nat}{xs:List α}{x:α}(e:xs[o]?=some x):prm (os++[o]) xs=prm os xs++[x]:=by
 unfold prm;rw[List.filterMap_append];simp[e]
theorem gO.wk{N N':Addr->Prop}{cN cW:Addr}{H:Hp}{d:Addr}{k:Dk}(h:gO N cN cW H d k)(w:∀x,N x->N' x):gO N' cN cW H d k:=by
 obtain⟨w_,lo,hi⟩:=k;cases w_ with
 |none=>exact h
 |some zs=>obtain⟨⟨dx,l,n,e,f⟩,r⟩:=h;exact⟨⟨dx,l,w _ n,e,f⟩,r⟩
def FcT(P:Nat->Addr->Prop)(H:Hp)(zs:List Str)(r:Addr)(k:Nat):Prop:=∃(nm:Str)(d:Addr),zs[k]?=some nm/\P k d/\H r=some (.tup [.str nm,.ref d])
theorem FcT.tups{P:Nat->Addr->Prop}{H H':Hp}{zs:List Str}{r:Addr}{k:Nat}(h:FcT P H zs r k)(s:jc H H'):FcT P H' zs r k:=by
 obtain⟨nm,d,h1,h2,h3⟩:=h;exact⟨nm,d,h1,h2,s _ _ h3⟩
theorem FcT.mono{P P':Nat->Addr->Prop}{H:Hp}{zs:List Str}{r:Addr}{k:Nat}(h:FcT P H zs r k)(w:∀k d,P k d->P' k d):FcT P' H zs r k:=by
 obtain⟨nm,d,h1,h2,h3⟩:=h;exact⟨nm,d,h1,w _ _ h2,h3⟩
def DmP(cN cW:Addr)(H:Hp)(ds:List PD)(k:Nat)(d:Addr):Prop:=∃po:PD,ds[k]?=some po/\iR cN cW H d po.k
theorem om{H:Hp}{D:Addr}{zs:List V}{o:HO}(e:H D=some (.lst zs)):jc H (upd H D o):=λb t f=>(ar (cg f e (by intro z;cases z))).trans f
theorem oo{H:Hp}{D C dx:Addr}{fs:List (Str×V)}{o:HO}(e:H D=some (.ins C dx fs)):jc H (upd H D o):=λb t f=>(ar (cg f e (by intro z;cases z))).trans f
def akc(fN:Nat)(cols:List Nat):List Nat:=(cols.filter λc=>decide (fN<=c)).map λc=>c-fN
def akT(ts:List PT)(fN k:Nat):List Nat:=match ts[k]? with
 |some t=>akc fN t.cols
 |none=>[]
theorem iq{zs:List Str}{ds:List PD}{ts:List PT}{fN:Nat}(ok:eY zs ds ts fN):∀k,∀j∈akT ts fN k,j<k:=λk j hj=>by
 unfold akT at hj;cases e:ts[k]? with
 |none=>rw[e]at hj;cases hj
 |some t =>
  rw[e]at hj;obtain⟨c,hc,rfl⟩:=mem_map.mp (show j∈akc fN t.cols from hj);obtain⟨h1,h2⟩:=mem_filter.mp hc;have h2:fN<=c:=of_decide_eq_true h2;have h3:=(ok.tabs k t e).ok.lt c h1;lia
def iS(ak:Nat->List Nat):Nat->Nat->List Nat->List Nat
 |0,_,told=>told
 |n+1,k,told=>if told.contains k then told else(ak k).foldl (λt j=>iS ak n j t) told++[k]
theorem jq{α β:Type}{f g:β->α->β}:∀{l:List α}{b:β},(∀b a,a∈l->f b a=g b a)->l.foldl f b=l.foldl g b
 | [],_,_=>rfl
 |x :: l,b,h=>by
  rw[foldl_cons,foldl_cons,h b x mem_cons_self];exact jq λb a ha=>h b a (mem_cons_of_mem _ ha)
theorem oq{ak:Nat->List Nat}(h:∀k,∀j∈ak k,j<k):∀(n m k:Nat)(told:List Nat),k<n->k<m->iS ak n k told=iS ak m k told
 |0,_,_,_,h1,_=>absurd h1 (not_lt_zero _)
 |_+1,0,_,_,_,h2=>absurd h2 (not_lt_zero _)
 |n+1,m+1,k,told,h1,h2=>by
  show(if told.contains k then told else(ak k).foldl (λt j=>iS ak n j t) told++[k])=(if told.contains k then told else(ak k).foldl (λt j=>iS ak m j t) told++[k]);rw[jq (f:=λt j=>iS ak n j t) (g:=λt j=>iS ak m j t) λt j hj=>oq h n m j t (by have:=h k j hj;lia) (by have:=h k j hj;lia)]
def odr(ak:Nat->List Nat)(k:Nat)(told:List Nat):List Nat:=iS ak (k+1) k told
theorem mE{ak:Nat->List Nat}(h:∀k,∀j∈ak k,j<k)(k:Nat)(told:List Nat):odr ak k told=if told.contains k then told else(ak k).foldl (λt j=>odr ak j t) told++[k]:=by
 show(if told.contains k then told else(ak k).foldl (λt j=>iS ak k j t) told++[k])=_;rw[jq (f:=λt j=>iS ak k j t) (g:=λt j=>odr ak j t) λt j hj=>oq h k (j+1) j t (h k j hj) (by lia)]
theorem zL{ak:Nat->List Nat}(h:∀k,∀j∈ak k,j<k){k:Nat}{told:List Nat}(hk:told.contains k=true):odr ak k told=told:=by rw[mE h,if_pos hk]
theorem mF{f:List Nat->Nat->List Nat}(hf:∀t j x,x∈f t j->x∈t\/x<=j):∀{l:List Nat}{t:List Nat}{x:Nat},x∈l.foldl f t->x∈t\/∃j∈l,x<=j
 | [],_,_,hx=>.inl hx
 |j :: l,t,x,hx=>by
  rw[foldl_cons]at hx;rcases mF hf hx with hx|⟨i,hi,hx⟩
  ·rcases hf t j x hx with hx|hx
   ·exact .inl hx
   ·exact .inr ⟨j,mem_cons_self,hx⟩
  ·exact .inr ⟨i,mem_cons_of_mem _ hi,hx⟩
theorem mG{ak:Nat->List Nat}(h:∀k,∀j∈ak k,j<k):∀(n k:Nat)(told:List Nat)(x:Nat),x∈iS ak n k told->x∈told\/x<=k
 |0,_,_,_,hx=>.inl hx
 |n+1,k,told,x,hx=>by
  have hx:x∈(if told.contains k then told else(ak k).foldl (λt j=>iS ak n j t) told++[k]):=hx;split at hx
  ·exact .inl hx
  ·rcases mem_append.mp hx with hx|hx
   ·rcases mF (λt j x hx=>mG h n j t x hx) hx with hx|⟨j,hj,hx⟩
    ·exact .inl hx
    ·have:=h k j hj;exact .inr (by lia)
   ·exact .inr (by rw[mem_singleton.mp hx];exact le_refl _)
theorem tU{f:List Nat->Nat->List Nat}(hf:∀t j,t.Nodup->(f t j).Nodup):∀{l:List Nat}{t:List Nat},t.Nodup->(l.foldl f t).Nodup
 | [],_,h=>h
 |j :: l,t,h=>by rw[foldl_cons];exact tU hf (hf t j h)
theorem tV{ak:Nat->List Nat}(h:∀k,∀j∈ak k,j<k):∀(n k:Nat)(told:List Nat),told.Nodup->(iS ak n k told).Nodup
 |0,_,_,ht=>ht
 |n+1,k,told,ht=>by
  show(if told.contains k then told else(ak k).foldl (λt j=>iS ak n j t) told++[k]).Nodup;split
  ·exact ht
  ·next hc =>
   refine nodup_append.mpr ⟨tU (λt j ht=>tV h n j t ht) ht,by simp,λa ha b hb e=>?_⟩;rw[mem_singleton.mp hb]at e;subst e;rcases mF (λt j x hx=>mG h n j t x hx) ha with ha|⟨j,hj,ha⟩
   ·exact hc (by simpa using ha)
   ·have:=h a j hj;lia
structure Tld(m:Nat)(told:List Nat):Prop where
 nd:told.Nodup
 lt:∀x∈told,x<m
theorem Tld.odr{ak:Nat->List Nat}(h:∀k,∀j∈ak k,j<k){m k:Nat}{told:List Nat}(ht:Tld m told)(hk:k<m):Tld m (My.odr ak k told) :=
 ⟨tV h _ _ _ ht.nd,λx hx=>(mG h _ _ _ x hx).elim (ht.lt x) λg=>by lia⟩
theorem Tld.fold{ak:Nat->List Nat}(h:∀k,∀j∈ak k,j<k){m:Nat}:∀{l:List Nat}{told:List Nat},(∀j∈l,j<m)->Tld m told->Tld m (l.foldl (λt j=>My.odr ak j t) told)
 | [],_,_,ht=>ht
 |j :: l,_,hl,ht=>by rw[foldl_cons];exact Tld.fold h (λi hi=>hl i (mem_cons_of_mem _ hi)) (ht.odr h (hl j mem_cons_self))
theorem Tld.len{m:Nat}{told:List Nat}(h:Tld m told):told.length<=m:=by
 have h1:told.Nodup:=h.nd;have h2:told ⊆ List.range m:=λx hx=>mem_range.mpr (h.lt x hx)
 have:=List.Nodup.length_le_of_subset h1 h2
 rwa [length_range]at this
theorem Tld.nil{m:Nat}:Tld m []:=⟨nodup_nil,λx hx=>by cases hx⟩
theorem ir(z:Str)(ns:List Str):inV (.str z) (ns.map V.str)=ns.contains z:=by
 unfold inV;induction ns with
 |nil=>rfl
 |cons n ns ih =>
  rw[map_cons,any_cons,List.contains_cons,ih]
  congr 1
  show(n == z)=(z == n);rw[Bool.eq_iff_iff,beq_iff_eq,beq_iff_eq];exact⟨Eq.symm,Eq.symm⟩
def TbA(cT cN cW:Addr)(H:Hp)(zs:List Str)(ds:List PD)(ts:List PT)(fN:Nat)(a:Addr)(k:Nat):Prop:=∃(t:PT)(nm:Str)(po:PD)(ou:Addr)(dv:List V),ts[k]?=some t/\zs[fN+k]?=some nm/\ds[fN+k]?=some po/\TF cT H a nm t.way ou (prm t.cols zs) dv t.rows/\az dv (prm t.cols (ds.map PD.k)) (iR cN cW H)/\iR cN cW H ou po.k
theorem TbA.same{cT cN cW:Addr}{H H':Hp}{zs:List Str}{ds:List PD}{ts:List PT}{fN:Nat}{a:Addr}{k:Nat}(h:TbA cT cN cW H zs ds ts fN a k)(s:ao H H'):TbA cT cN cW H' zs ds ts fN a k:=by
 obtain⟨t,nm,po,ou,dv,h1,h2,h3,h4,h5,h6⟩:=h;exact⟨t,nm,po,ou,dv,h1,h2,h3,h4.same s,az.mono h5 (λ_ _ p=>p.same s),h6.same s⟩
def FcA(cN cW:Addr)(H:Hp)(zs:List Str)(ds:List PD)(r:Addr)(k:Nat):Prop:=∃(nm:Str)(po:PD)(d:Addr),zs[k]?=some nm/\ds[k]?=some po/\H r=some (.tup [.str nm,.ref d])/\iR cN cW H d po.k
theorem FcA.same{cN cW:Addr}{H H':Hp}{zs:List Str}{ds:List PD}{r:Addr}{k:Nat}(h:FcA cN cW H zs ds r k)(s:ao H H'):FcA cN cW H' zs ds r k:=by
 obtain⟨nm,po,d,h1,h2,h3,h4⟩:=h;exact⟨nm,po,d,h1,h2,s _ _ h3,h4.same s⟩
def tnm(zs:List Str)(fN k:Nat):Str:=zs.getD (fN+k) Str.empty
theorem dF{zs:List Str}{fN k:Nat}{nm:Str}(e:zs[fN+k]?=some nm):tnm zs fN k=nm:=by unfold tnm;rw[getD_eq_getElem?_getD,e];rfl
structure BkI(cT cN cW:Addr)(H:Hp)(zs:List Str)(ds:List PD)(ts:List PT)(fN:Nat)(fv mv:List V)(L:List Nat):Prop where
 ok:eY zs ds ts fN
 facts:az fv (List.range fN) (FcA cN cW H zs ds)
 tabs:az mv L (TbA cT cN cW H zs ds ts fN)
 lt:∀k∈L,k<ts.length
 nd:L.Nodup
 len:L.length=ts.length
 all:∀k,k<ts.length->k∈L
theorem BkI.same{cT cN cW:Addr}{H H':Hp}{zs:List Str}{ds:List PD}{ts:List PT}{fN:Nat}{fv mv:List V}{L:List Nat}(h:BkI cT cN cW H zs ds ts fN fv mv L)(s:ao H H'):BkI cT cN cW H' zs ds ts fN fv mv L :=
 ⟨h.ok,az.mono h.facts (λ_ _ p=>p.same s),az.mono h.tabs (λ_ _ p=>p.same s),h.lt,h.nd,h.len,h.all⟩
def bnm(zs:List Str)(fN:Nat)(L:List Nat):List Str:=zs.take fN++L.map (tnm zs fN)
section
variable{cT cN cW:Addr}{H:Hp}{zs:List Str}{ds:List PD}{ts:List PT}{fN:Nat}{fv mv:List V}{L:List Nat}
theorem BkI.few(h:BkI cT cN cW H zs ds ts fN fv mv L):L.length<=7/\fN<=7/\fN<=zs.length:=by
 have h1:=h.ok.n7;have h2:=h.ok.tab;have h3:=h.ok.len;have h4:=h.len;lia
theorem BkI.tn(h:BkI cT cN cW H zs ds ts fN fv mv L){k:Nat}(hk:k∈L):zs[fN+k]?=some (tnm zs fN k):=by
 have h1:=h.lt k hk;have h2:=h.ok.tab;have h3:=h.ok.len;have e:=EV (l:=zs) (i:=fN+k) (by lia);rw[e,dF e]
theorem BkI.bnd_(h:BkI cT cN cW H zs ds ts fN fv mv L):(bnm zs fN L).Nodup:=by
 have hz:=h.ok.nd;unfold bnm;refine nodup_append.mpr ⟨hz.sublist (take_sublist _ _),?_,λa ha b hb e=>?_⟩
 ·rw[nodup_iff_pairwise_ne,pairwise_map];refine List.Pairwise.imp_of_mem (R:=λa b=>a≠b) (λ{a b} ha hb hab e=>?_) h.nd;have e1:=h.tn ha;have e2:=h.tn hb;rw[e]at e1;have:=eO hz e1 e2;lia
 ·subst e;obtain⟨k,hk,e⟩:=mem_map.mp hb;obtain⟨j,hj⟩:=getElem?_of_mem ha;rw[getElem?_take]at hj;split at hj
  ·have e2:=h.tn hk;rw[e]at e2;have:=eO hz hj e2;lia
  ·cases hj
theorem BkI.has(h:BkI cT cN cW H zs ds ts fN fv mv L){z:Str}(hz:z∈zs):z∈bnm zs fN L:=by
 obtain⟨j,ej⟩:=getElem?_of_mem hz;unfold bnm;by_cases hj:j<fN
 ·exact mem_append_left _ (EY (by rw[getElem?_take,if_pos hj];exact ej))
 ·refine mem_append_right _ (mem_map.mpr ⟨j-fN,h.all _ ?_,?_⟩)
  ·have:=(EW.mp ej).1;have h2:=h.ok.tab;have h3:=h.ok.len;lia
  ·exact dF (by rw[show fN+(j-fN)=j by lia];exact ej)
end
def FcN(N:Addr->Prop)(cN cW:Addr)(H:Hp)(zs:List Str)(ds:List PD)(r:Addr)(k:Nat):Prop:=∃(nm:Str)(po:PD)(d:Addr),zs[k]?=some nm/\ds[k]?=some po/\H r=some (.tup [.str nm,.ref d])/\gO N cN cW H d po.k
theorem FcN.same{N:Addr->Prop}{cN cW:Addr}{H H':Hp}{zs:List Str}{ds:List PD}{r:Addr}{k:Nat}(h:FcN N cN cW H zs ds r k)(s:ao H H'):FcN N cN cW H' zs ds r k:=by
 obtain⟨nm,po,d,h1,h2,h3,h4⟩:=h;exact⟨nm,po,d,h1,h2,s _ _ h3,h4.same s⟩
theorem FcN.upd{N:Addr->Prop}{cN cW:Addr}{H:Hp}{zs:List Str}{ds:List PD}{r D:Addr}{k:Nat}{o:HO}{ys:List V}(h:FcN N cN cW H zs ds r k)(n:¬ N D)(e:H D=some (.lst ys)):FcN N cN cW (L2.upd H D o) zs ds r k:=by
 obtain⟨nm,po,d,h1,h2,h3,h4⟩:=h;exact⟨nm,po,d,h1,h2,(ar (cg h3 e (by intro z;cases z))).trans h3,h4.upd n e⟩
theorem FcN.fc{N:Addr->Prop}{cN cW:Addr}{H:Hp}{zs:List Str}{ds:List PD}{r:Addr}{k:Nat}(h:FcN N cN cW H zs ds r k):FcA cN cW H zs ds r k:=by
 obtain⟨nm,po,d,h1,h2,h3,h4⟩:=h;exact⟨nm,po,d,h1,h2,h3,h4.dom⟩
theorem o8{n j k:Nat}(e:(List.range n)[j]?=some k):k=j/\j<n:=by
 have hj:=(EW.mp e).1;rw[length_range]at hj;rw[getElem?_range hj]at e;cases e;exact⟨U,hj⟩
section
variable{cT cN cW:Addr}{H:Hp}{zs:List Str}{ds:List PD}{ts:List PT}{fN:Nat}{fv mv:List V}{L:List Nat}
def Cu(cN cW:Addr)(H:Hp)(zs:List Str)(ds:List PD)(kvs:List (Str×V)):Prop:=∀(j:Nat)(z:Str)(p:PD),zs[j]?=some z->ds[j]?=some p->∃d,kvs.lookup z=some (.ref d)/\iR cN cW H d p.k
theorem o9{kvs:List (Str×V)}(hn:(kvs.map (·.1)).Nodup):∀{j:Nat}{k:Str}{v:V},kvs[j]?=some (k,v)->kvs.lookup k=some v:=by
 induction kvs with
 |nil=>intro j k v e;simp at e
 |cons p kvs ih =>
  intro j k v e;obtain⟨k0,v0⟩:=p;rw[map_cons]at hn;have hn':=nodup_cons.mp hn;cases j with
  |zero =>
   cases e;rw[lookup_cons,beq_self_eq_true]
  |succ j =>
   have e:kvs[j]?=some (k,v):=by simpa using e
   have hk:k≠k0:=λz=>hn'.1 (mem_map.mpr ⟨(k,v),EY e,z⟩)
   rw[lookup_cons,beq_eq_false_iff_ne.mpr hk];exact ih hn'.2 e
end
def wts(ts:List PT)(fN:Nat)(L:List Nat)(k:Nat):Bool:=match ts[k]? with
 |some t=>t.cols.any λc=>decide (fN<=c) && L.contains (c-fN)
 |none=>false
theorem wG:∀{L:List Nat},L≠[]->∃k∈L,∀j∈L,k<=j
 | [],h=>absurd U h
 | [x],_=>⟨x,by simp,λj hj=>by rw[show j=x by simpa using hj];exact le_refl _⟩
 |x :: y :: r,_=>by
  obtain⟨k,hk,hm⟩:=wG (L:=y :: r) (by simp);by_cases h:x<=k
  ·refine⟨x,by simp,λj hj=>?_⟩;rcases mem_cons.mp hj with rfl|hj
   ·exact le_refl _
   ·exact le_trans h (hm j hj)
  ·refine⟨k,mem_cons_of_mem _ hk,λj hj=>?_⟩;rcases mem_cons.mp hj with rfl|hj
   ·lia
   ·exact hm j hj
theorem wH{zs:List Str}{ds:List PD}{ts:List PT}{fN:Nat}(ok:eY zs ds ts fN){L:List Nat}(hL:L≠[]):(L.filter (wts ts fN L)).length<L.length:=by
 obtain⟨k,hk,hm⟩:=wG hL;have hw:wts ts fN L k=false:=by
  unfold wts;cases e:ts[k]? with
  |none=>rfl
  |some t =>
   show(t.cols.any λc=>decide (fN<=c) && L.contains (c-fN))=false;rw[List.any_eq_false];intro c hc hb;rw[and_eq_true,decide_eq_true_iff]at hb;have h1:=(ok.tabs k t e).ok.lt c hc;have h2:=hm (c-fN) (by simpa using hb.2);lia
 have h1:=length_filter_le (wts ts fN L) L;by_cases h:(L.filter (wts ts fN L)).length=L.length
 ·have:=List.length_filter_eq_length_iff.mp h k hk;rw[hw]at this;cases this
 ·lia
theorem uY{zs:List Str}{ds:List PD}{ts:List PT}{fN:Nat}(ok:eY zs ds ts fN){L:List Nat}(hL:∀k∈L,k<ts.length){k:Nat}{t:PT}(e:ts[k]?=some t):(!((prm t.cols zs).filter λz=>(L.map (tnm zs fN)).contains z).isEmpty)=wts ts fN L k:=by
 have hlt:=ok.lt e;have hl1:=ok.len;have hl2:=ok.tab;have ltz:∀j∈t.cols,j<zs.length:=λj hj=>by rw[hl1];exact hlt j hj
 have gz:=bZ (os:=t.cols) (xs:=zs) ltz;have tn:∀k∈L,zs[fN+k]?=some (tnm zs fN k):=λk hk=>by
  have:=hL k hk;have e:=EV (l:=zs) (i:=fN+k) (by lia);rw[e,dF e]
 rw[Bool.eq_iff_iff];unfold wts;rw[e];show _↔(t.cols.any λc=>decide (fN<=c) && L.contains (c-fN))=true;rw[any_eq_true];constructor
 ·intro h;have hne:((prm t.cols zs).filter λz=>(L.map (tnm zs fN)).contains z)≠[]:=λz=>by rw[z]at h;cases h
  obtain⟨z,hz⟩:=List.exists_mem_of_ne_nil _ hne;obtain⟨hz1,hz2⟩:=mem_filter.mp hz;have hz2:z∈L.map (tnm zs fN):=by simpa using hz2
  obtain⟨k',hk',rfl⟩:=mem_map.mp hz2;obtain⟨j,ej⟩:=getElem?_of_mem hz1;have hj:j<t.cols.length:=by rw[←gz.1];exact(EW.mp ej).1
  have ec:=EV hj;rw[gz.2 j _ ec]at ej;have:=eO ok.nd ej (tn k' hk');refine⟨_,EY ec,?_⟩;rw[this,and_eq_true,decide_eq_true_iff];refine⟨by lia,?_⟩;rw[show fN+k'-fN=k' by lia];simpa using hk'
 ·rintro⟨c,hc,hb⟩;rw[and_eq_true,decide_eq_true_iff]at hb;have hm:c-fN∈L:=by simpa using hb.2
  have hz:=tn _ hm;rw[show fN+(c-fN)=c by lia]at hz;obtain⟨j,ej⟩:=getElem?_of_mem hc;have e1:=gz.2 j c ej;rw[hz]at e1;have hin:tnm zs fN (c-fN)∈(prm t.cols zs).filter λz=>(L.map (tnm zs fN)).contains z:=mem_filter.mpr ⟨EY e1,by simpa using⟨_,hm,U⟩⟩
  cases h:(prm t.cols zs).filter λz=>(L.map (tnm zs fN)).contains z with
  |nil=>rw[h]at hin;cases hin
  |cons _ _=>rfl
def SmB(z:Str):Prop:=z.length<=1000/\∀n∈z.cps.toList,n<16^8
def BkA(cN cW cB:Addr)(H:Hp)(b:Addr)(zs:List Str)(ds:List PD)(fN:Nat)(mv:List V):Prop:=∃(dx:Addr)(fs:List (Str×V))(ta fb:Addr)(gv:List V),H b=some (.ins cB dx fs)/\fs.lookup (Str.ofString "tables")=some (.ref ta)/\H ta=some (.lst mv)/\fs.lookup (Str.ofString "facts")=some (.ref fb)/\H fb=some (.lst gv)/\az gv (List.range fN) (FcT (DmP cN cW H ds) H zs)
theorem BkA.same{cN cW cB:Addr}{H H':Hp}{b:Addr}{zs:List Str}{ds:List PD}{fN:Nat}{mv:List V}(h:BkA cN cW cB H b zs ds fN mv)(s:ao H H'):BkA cN cW cB H' b zs ds fN mv:=by
 obtain⟨dx,fs,ta,fb,gv,h1,h2,h3,h4,h5,h6⟩:=h;exact⟨dx,fs,ta,fb,gv,s _ _ h1,h2,s _ _ h3,h4,s _ _ h5,az.mono h6 λ_ _ p=>(p.tups s.tups).mono λ_ _ ⟨po,h1,h2⟩=>⟨po,h1,h2.same s⟩⟩
structure BkT(cT cN cW cB:Addr)(H:Hp)(b:Addr)(zs:List Str)(ds:List PD)(ts:List PT)(fN:Nat)(mv:List V)(L:List Nat):Prop where
 bk:BkA cN cW cB H b zs ds fN mv
 ok:eY zs ds ts fN
 tabs:az mv L (TbA cT cN cW H zs ds ts fN)
 lt:∀k∈L,k<ts.length
 few:L.length<=7
theorem BkT.same{cT cN cW cB:Addr}{H H':Hp}{b:Addr}{zs:List Str}{ds:List PD}{ts:List PT}{fN:Nat}{mv:List V}{L:List Nat}(h:BkT cT cN cW cB H b zs ds ts fN mv L)(s:ao H H'):BkT cT cN cW cB H' b zs ds ts fN mv L :=
 ⟨h.bk.same s,h.ok,az.mono h.tabs (λ_ _ p=>p.same s),h.lt,h.few⟩
theorem iM{H H':Hp}{x a:Addr}{o:HO}(k:∀b o,b≠x->H b=some o->H' b=some o)(hx:H' x=some o)(h:H' a=none):H a=none:=by
 cases e:H a with
 |none=>rfl
 |some u =>
  have n:a≠x:=λz=>by rw[z,hx]at h;cases h
  rw[k a u n e]at h;cases h
theorem RL.hideN{N:Addr->Prop}{H:Hp}{x C dx:Addr}{fs:List (Str×V)}(hx:H x=some (.ins C dx fs)){xs:List V}{rws:List Rw}(h:RL N H xs rws):RL N (My.hide H x) xs rws :=
 az.mono h λr w ⟨ce,cs,e,n,f,c⟩=>⟨ce,cs,de e (cg e hx (by intro z;cases z)),n,de f (cg f hx (by intro z;cases z)),az.mono c λl ps ⟨m,ys,g,p⟩=>⟨m,ys,de g (cg g hx (by intro z;cases z)),PL.hide hx p⟩⟩
def TbN(N:Addr->Prop)(cT cN cW:Addr)(H:Hp)(zs:List Str)(ds:List PD)(ts:List PT)(fN:Nat)(a:Addr)(k:Nat):Prop:=∃(t:PT)(nm:Str)(po:PD)(ou:Addr)(dv:List V)(rl dx na dl:Addr)(fs:List (Str×V))(xs:List V),ts[k]?=some t/\zs[fN+k]?=some nm/\ds[fN+k]?=some po/\H a=some (.ins cT dx fs)/\fs.lookup (Str.ofString "rows")=some (.ref rl)/\fs.lookup (Str.ofString "name")=some (.str nm)/\fs.lookup (Str.ofString "way")=some (.str t.way)/\fs.lookup (Str.ofString "outcome")=some (.ref ou)/\fs.lookup (Str.ofString "names")=some (.ref na)/\fs.lookup (Str.ofString "domains")=some (.ref dl)/\N na/\N dl/\N rl/\H na=some (.lst ((prm t.cols zs).map V.str))/\H dl=some (.lst dv)/\H rl=some (.lst xs)/\RL N H xs t.rows/\xs.length<=200/\az dv (prm t.cols (ds.map PD.k)) (gO N cN cW H)/\gO N cN cW H ou po.k
section
variable{N N':Addr->Prop}{cT cN cW:Addr}{H H':Hp}{zs:List Str}{ds:List PD}{ts:List PT}{fN:Nat}{a:Addr}{k:Nat}
theorem TbN.tb(h:TbN N cT cN cW H zs ds ts fN a k):TbA cT cN cW H zs ds ts fN a k:=by
 obtain⟨t,nm,po,ou,dv,rl,dx,na,dl,fs,xs,h1,h2,h3,h4,h5,h6,h7,h8,h9,h10,_,_,_,h11,h12,h13,h14,h15,h16,h17⟩:=h;exact⟨t,nm,po,ou,dv,h1,h2,h3,⟨rl,dx,na,dl,fs,xs,h4,h5,h6,h7,h8,h9,h10,h11,h12,h13,h14.any,h15⟩,az.mono h16 (λ_ _ p=>p.dom),h17.dom⟩
theorem TbN.same(h:TbN N cT cN cW H zs ds ts fN a k)(s:ao H H'):TbN N cT cN cW H' zs ds ts fN a k:=by
 obtain⟨t,nm,po,ou,dv,rl,dx,na,dl,fs,xs,h1,h2,h3,h4,h5,h6,h7,h8,h9,h10,n1,n2,n3,h11,h12,h13,h14,h15,h16,h17⟩:=h;exact⟨t,nm,po,ou,dv,rl,dx,na,dl,fs,xs,h1,h2,h3,s _ _ h4,h5,h6,h7,h8,h9,h10,n1,n2,n3,s _ _ h11,s _ _ h12,s _ _ h13,h14.same s,h15,az.mono h16 (λ_ _ p=>p.same s),h17.same s⟩
theorem TbN.wk(h:TbN N cT cN cW H zs ds ts fN a k)(w:∀x,N x->N' x):TbN N' cT cN cW H zs ds ts fN a k:=by
 obtain⟨t,nm,po,ou,dv,rl,dx,na,dl,fs,xs,h1,h2,h3,h4,h5,h6,h7,h8,h9,h10,n1,n2,n3,h11,h12,h13,h14,h15,h16,h17⟩:=h;exact⟨t,nm,po,ou,dv,rl,dx,na,dl,fs,xs,h1,h2,h3,h4,h5,h6,h7,h8,h9,h10,w _ n1,w _ n2,w _ n3,h11,h12,h13,az.mono h14 (λ_ _ p=>p.wk w),h15,az.mono h16 (λ_ _ p=>p.wk w),h17.wk w⟩
theorem TbN.upd{D:Addr}{zz:List V}{o:HO}(h:TbN N cT cN cW H zs ds ts fN a k)(n:¬ N D)(e:H D=some (.lst zz)):TbN N cT cN cW (L2.upd H D o) zs ds ts fN a k:=by
 obtain⟨t,nm,po,ou,dv,rl,dx,na,dl,fs,xs,h1,h2,h3,h4,h5,h6,h7,h8,h9,h10,n1,n2,n3,h11,h12,h13,h14,h15,h16,h17⟩:=h;have ne:∀{b:Addr},N b->b≠D:=λhb z=>n (z ▸ hb)
 exact⟨t,nm,po,ou,dv,rl,dx,na,dl,fs,xs,h1,h2,h3,(ar (cg h4 e (by intro z;cases z))).trans h4,h5,h6,h7,h8,h9,h10,n1,n2,n3,(ar (ne n1)).trans h11,(ar (ne n2)).trans h12,(ar (ne n3)).trans h13,h14.updN n e,h15,az.mono h16 (λ_ _ p=>p.upd n e),h17.upd n e⟩
end
theorem az.rev{α:Type}{xs:List V}{as:List α}{P:Addr->α->Prop}(h:az xs as P):az xs.reverse as.reverse P:=by
 refine⟨by rw[length_reverse,length_reverse];exact h.1,λj a e=>?_⟩;have hj:j<as.length:=by have:=(EW.mp e).1;rwa [length_reverse]at this
 rw[List.getElem?_reverse hj]at e;obtain⟨r,e1,p⟩:=h.2 _ a e;refine⟨r,?_,p⟩;rw[List.getElem?_reverse (by rw[h.1];exact hj),h.1];exact e1
theorem wI{K:W.Frag}{H:Hp}{Q:VK}{a b:Addr}{xs:List V}(ha:SqL K H a xs)(hb:SqL K H b xs)(fl:∀x∈xs,bY x=true)(q:Q (.bl false) H):vH K true (.ref a) (.ref b) H Q:=by
 refine⟨a,b,xs,xs,U,U,ha,hb,.inr ⟨U,λ_=>true,λj x y e1 e2=>?_,?_⟩⟩
 ·rw[e1]at e2;cases e2;have z:=fl x (EY e1);have:=EqI.flat (K:=K) (H:=H) z z;rw[ia z]at this;exact this
 ·have:(List.range xs.length).all (λ_=>true)=true:=by simp
  rw[this];exact q
theorem zM{c:Int}{n:Nat}:∀z∈lws c n,SmB z:=λz hz=>by
 obtain⟨i,_,rfl⟩:=mem_map.mp hz;refine⟨le_trans (tS (wB c _)) (by decide),λx hx=>?_⟩;have hx:x∈lwc c (0+(i:Int)):=by simpa[lw]using hx
 have m0:=emod_nonneg (c / 11+3*(0+(i:Int))) (show(26:Int)≠0 by decide);have m1:=emod_lt_of_pos (c / 11+3*(0+(i:Int))) (show(0:Int)<26 by decide);show x<4294967296;rcases lD hx with h|h <;> lia
theorem BkT.mem{cT cN cW cB:Addr}{H:Hp}{b:Addr}{zs:List Str}{ds:List PD}{ts:List PT}{fN:Nat}{mv:List V}{L:List Nat}(h:BkT cT cN cW cB H b zs ds ts fN mv L)(all:∀k,k<ts.length->k∈L){j:Nat}{z:Str}(e:zs[j]?=some z):(L.map (tnm zs fN)).contains z=decide (fN<=j):=by
 have hl1:=h.ok.len;have hl2:=h.ok.tab;have hj:=(EW.mp e).1;rw[Bool.eq_iff_iff,decide_eq_true_iff];constructor
 ·intro hc;have hc:z∈L.map (tnm zs fN):=by simpa using hc
  obtain⟨k,hk,rfl⟩:=mem_map.mp hc;have hk2:=h.lt k hk;have e2:=EV (l:=zs) (i:=fN+k) (by lia);rw[dF e2]at e;have:=eO h.ok.nd e e2;lia
 ·intro hf;have hm:=all (j-fN) (by lia);have:tnm zs fN (j-fN)=z:=dF (by rw[show fN+(j-fN)=j by lia];exact e);have:z∈L.map (tnm zs fN):=mem_map.mpr ⟨_,hm,this⟩;simpa using this
section
variable{cT cN cW cB:Addr}{H:Hp}{b:Addr}{zs:List Str}{ds:List PD}{ts:List PT}{fN:Nat}{mv:List V}{L:List Nat}
theorem BkT.nmz(h:BkT cT cN cW cB H b zs ds ts fN mv L){k:Nat}(hk:k<ts.length):zs[fN+k]?=some (tnm zs fN k):=by
 have h2:=h.ok.tab;have h3:=h.ok.len;have e:=EV (l:=zs) (i:=fN+k) (by lia);rw[e,dF e]
theorem BkT.one(h:BkT cT cN cW cB H b zs ds ts fN mv L){j k:Nat}(hj:j<ts.length)(hk:k<ts.length)(e:tnm zs fN j=tnm zs fN k):j=k:=by
 have e1:=h.nmz hj;have e2:=h.nmz hk;rw[e]at e1;have:=eO h.ok.nd e1 e2;lia
theorem BkT.ins(h:BkT cT cN cW cB H b zs ds ts fN mv L){told:List Nat}(ht:Tld ts.length told){j:Nat}(hj:j<ts.length):(told.map (tnm zs fN)).contains (tnm zs fN j)=told.contains j:=by
 rw[Bool.eq_iff_iff,List.contains_iff_mem,List.contains_iff_mem];constructor
 ·intro hm;obtain⟨i,hi,e⟩:=mem_map.mp hm;rw[←h.one (ht.lt i hi) hj e];exact hi
 ·intro hm;exact mem_map.mpr ⟨j,hm,U⟩
theorem BkT.aks(h:BkT cT cN cW cB H b zs ds ts fN mv L)(all:∀k,k<ts.length->k∈L){k:Nat}{t:PT}(et:ts[k]?=some t):((prm t.cols zs).filter λz=>(L.map (tnm zs fN)).contains z)=(akc fN t.cols).map (tnm zs fN):=by
 have hlt:=h.ok.lt et;rw[←h.ok.len]at hlt
 revert hlt
 generalize t.cols=cs;intro hlt;induction cs with
 |nil=>rfl
 |cons c cs ih =>
  have hc:=hlt c mem_cons_self;have e:=EV hc;rw[mB hc,filter_cons];have hm:=h.mem all e;have ih:=ih λj hj=>hlt j (mem_cons_of_mem _ hj)
  unfold akc at ih⊢;rw[filter_cons,hm];by_cases hf:fN<=c
  ·rw[if_pos (decide_eq_true hf),if_pos (decide_eq_true hf),map_cons,map_cons,ih]
   congr 1
   exact(dF (by rw[show fN+(c-fN)=c by lia];exact e)).symm
  ·rw[if_neg (by simpa using hf),if_neg (by simpa using hf),ih]
end
inductive Rch(ak:Nat->List Nat):Nat->Nat->Prop
 |self (k:Nat):Rch ak k k
 |step {k j x:Nat}:j∈ak k->Rch ak j x->Rch ak k x
theorem ot{R:Nat->Nat->Prop}{f:List Nat->Nat->List Nat}(hf:∀t j x,x∈f t j->x∈t\/R j x):∀{l:List Nat}{t:List Nat}{x:Nat},x∈l.foldl f t->x∈t\/∃j∈l,R j x
 | [],_,_,hx=>.inl hx
 |j :: l,t,x,hx=>by
  rw[foldl_cons]at hx;rcases ot hf hx with hx|⟨i,hi,hx⟩
  ·rcases hf t j x hx with hx|hx
   ·exact .inl hx
   ·exact .inr ⟨j,mem_cons_self,hx⟩
  ·exact .inr ⟨i,mem_cons_of_mem _ hi,hx⟩
theorem qy{ak:Nat->List Nat}:∀(n k:Nat)(told:List Nat)(x:Nat),x∈iS ak n k told->x∈told\/Rch ak k x
 |0,_,_,_,hx=>.inl hx
 |n+1,k,told,x,hx=>by
  have hx:x∈(if told.contains k then told else(ak k).foldl (λt j=>iS ak n j t) told++[k]):=hx;split at hx
  ·exact .inl hx
  ·rcases mem_append.mp hx with hx|hx
   ·rcases ot (λt j x hx=>qy n j t x hx) hx with hx|⟨j,hj,hx⟩
    ·exact .inl hx
    ·exact .inr (.step hj hx)
   ·rw[mem_singleton.mp hx];exact .inr (.self _)
def uZ(ak:Nat->List Nat)(told:List Nat):Prop:=∀y∈told,∀x,Rch ak y x->x∈told
theorem qz{ak:Nat->List Nat}{f:List Nat->Nat->List Nat}:∀{l:List Nat}{told:List Nat},(∀j∈l,∀t,uZ ak t->uZ ak (f t j)/\(∀x∈t,x∈f t j)/\∀x,Rch ak j x->x∈f t j)->uZ ak told->uZ ak (l.foldl f told)/\(∀x∈told,x∈l.foldl f told)/\∀j∈l,∀x,Rch ak j x->x∈l.foldl f told
 | [],_,_,hc=>⟨hc,λ_ h=>h,λ_ h=>by cases h⟩
 |i :: l,told,h,hc=>by
  obtain⟨c1,c2,c3⟩:=h i mem_cons_self told hc;obtain⟨d1,d2,d3⟩:=qz (l:=l) (λj hj=>h j (mem_cons_of_mem _ hj)) c1;rw[foldl_cons];refine⟨d1,λx hx=>d2 x (c2 x hx),λj hj x hx=>?_⟩;rcases mem_cons.mp hj with rfl|hj
  ·exact d2 x (c3 x hx)
  ·exact d3 j hj x hx
theorem tW{ak:Nat->List Nat}(h:∀k,∀j∈ak k,j<k):∀(n k:Nat),k<n->∀told,uZ ak told->uZ ak (odr ak k told)/\(∀x∈told,x∈odr ak k told)/\∀x,Rch ak k x->x∈odr ak k told
 |0,_,hk,_,_=>absurd hk (not_lt_zero _)
 |n+1,k,hk,told,hc=>by
  rw[mE h];split
  ·next hm =>
   have hm:k∈told:=by simpa using hm
   exact⟨hc,λ_ h=>h,λx hx=>hc k hm x hx⟩
  ·obtain⟨d1,d2,d3⟩:=qz (l:=ak k) (f:=λt j=>odr ak j t) (told:=told) (λj hj t ht=>tW h n j (by have:=h k j hj;lia) t ht) hc;have hk2:∀x,Rch ak k x->x∈(ak k).foldl (λt j=>odr ak j t) told++[k]:=λx hx=>by
    cases hx with
    |self=>exact mem_append_right _ (mem_singleton.mpr U)
    |step hj hx=>exact mem_append_left _ (d3 _ hj x hx)
   refine⟨λy hy x hx=>?_,λx hx=>mem_append_left _ (d2 x hx),hk2⟩;rcases mem_append.mp hy with hy|hy
   ·exact mem_append_left _ (d1 y hy x hx)
   ·rw[mem_singleton.mp hy]at hx;exact hk2 x hx
theorem tX{ak:Nat->List Nat}(h:∀k,∀j∈ak k,j<k)(k x:Nat):x∈odr ak k []↔Rch ak k x :=
 ⟨λhx=>(qy _ _ _ _ hx).elim (λz=>by cases z) id,λhx=>(tW h (k+1) k (by lia) [] (λy hy=>by cases hy)).2.2 x hx⟩
def nmT(ts:List PT)(zs:List Str)(j:Nat):List Str:=match ts[j]? with
 |some t=>prm t.cols zs
 |none=>[]
def cy(ts:List PT)(zs:List Str)(fN k:Nat)(z:Str):Bool:=(odr (akT ts fN) k []).any λj=>(nmT ts zs j).contains z
theorem pb{α β:Type}{f:α->List β}{l:List α}{a:α}:(l++[a]).flatMap f=l.flatMap f++f a:=by
 rw[List.flatMap_append];simp
theorem u4{ts:List PT}{zs:List Str}{fN k:Nat}{z:Str}:((odr (akT ts fN) k []).flatMap (nmT ts zs)).contains z=cy ts zs fN k z:=by
 unfold cy;rw[Bool.eq_iff_iff,List.contains_iff_mem,List.mem_flatMap,any_eq_true];constructor
 ·rintro⟨j,hj,hz⟩;exact⟨j,hj,by simpa using hz⟩
 ·rintro⟨j,hj,hz⟩;exact⟨j,hj,by simpa using hz⟩
theorem mH{ts:List PT}{zs:List Str}(h:∀j,(nmT ts zs j).length<=4):∀l:List Nat,(l.flatMap (nmT ts zs)).length<=4*l.length
 | []=>zero_le _
 |j :: l=>by
  rw[List.flatMap_cons,length_append,length_cons];have h1:=h j;have h2:=mH h l;lia
theorem BkT.nm4{cT cN cW cB:Addr}{H:Hp}{b:Addr}{zs:List Str}{ds:List PD}{ts:List PT}{fN:Nat}{mv:List V}{L:List Nat}(h:BkT cT cN cW cB H b zs ds ts fN mv L):∀j,(nmT ts zs j).length<=4:=λj=>by
 unfold nmT;cases e:ts[j]? with
 |none=>exact zero_le _
 |some t =>
  have h1:t.cols.length<=3:=(h.ok.tabs j t e).ok.few;have h2:=(bZ (os:=t.cols) (xs:=zs) λc hc=>by rw[h.ok.len];exact h.ok.lt e c hc).1;show(prm t.cols zs).length<=4;lia
theorem wJ{c:Int}{n:Nat}:∀z∈lws c n,∀y∈lws c n,z.length=y.length:=λz hz y hy=>by
 obtain⟨i,_,rfl⟩:=mem_map.mp hz;obtain⟨j,_,rfl⟩:=mem_map.mp hy;show(lwc c _).toArray.size=(lwc c _).toArray.size;unfold lwc;simp
def SPJ(p:PD)(one two:Int)(H H':Hp)(pl:Addr):Prop:=ao H H'/\∃(ts:List V)(ps:Prs),H' pl=some (.lst ts)/\PL H' ts ps/\(∀x∈ps,p.lo<=x.1/\x.2<=p.hi)/\ps.length<=2/\∀x∈ps,(x.1=p.lo\/x.1=one\/x.1=two\/x.1=two+1)/\(x.2=p.hi\/x.2=one\/x.2=two\/x.2=one-1)
theorem SPJ.one{p:PD}{one two:Int}{H H1 H2:Hp}{l t:Addr}{a b:Int}(s:ao H H1)(h:ao H1 H2/\H2 l=some (.lst [.ref t])/\PL H2 [.ref t] [(a,b)])(h1:p.lo<=a)(h2:b<=p.hi)(h3:(a=p.lo\/a=one\/a=two\/a=two+1)/\(b=p.hi\/b=one\/b=two\/b=one-1)):SPJ p one two H H2 l :=
 ⟨s.trans h.1,_,_,h.2.1,h.2.2,(λx hx=>by rw[show x=(a,b) by simpa using hx];exact⟨h1,h2⟩),by simp,(λx hx=>by rw[show x=(a,b) by simpa using hx];exact h3)⟩
theorem SPJ.two{p:PD}{one two:Int}{H H1 H2:Hp}{l t u:Addr}{a b c d:Int}(s:ao H H1)(h:ao H1 H2/\H2 l=some (.lst [.ref t,.ref u])/\PL H2 [.ref t,.ref u] [(a,b),(c,d)])(h1:p.lo<=a)(h2:b<=p.hi)(h3:p.lo<=c)(h4:d<=p.hi)(h5:(a=p.lo\/a=one\/a=two\/a=two+1)/\(b=p.hi\/b=one\/b=two\/b=one-1))(h6:(c=p.lo\/c=one\/c=two\/c=two+1)/\(d=p.hi\/d=one\/d=two\/d=one-1)):SPJ p one two H H2 l :=
 ⟨s.trans h.1,_,_,h.2.1,h.2.2,(λx hx=>by
  rcases mem_cons.mp hx with rfl|hx
  ·exact⟨h1,h2⟩
  ·rw[show x=(c,d) by simpa using hx];exact⟨h3,h4⟩),by simp,(λx hx=>by
  rcases mem_cons.mp hx with rfl|hx
  ·exact h5
  ·rw[show x=(c,d) by simpa using hx];exact h6)⟩
def PoB(N:Addr->Prop)(H:Hp)(a:Addr)(p:PD):Prop:=N a/\H a=some (.lst (p.pool.map V.int))/\1<=p.pool.length/\p.pool.length<=3/\∀x∈p.pool,p.lo<=x/\x<=p.hi
theorem PoB.same{N:Addr->Prop}{H H':Hp}{a:Addr}{p:PD}(h:PoB N H a p)(s:ao H H'):PoB N H' a p:=by obtain⟨n,e,r⟩:=h;exact⟨n,s _ _ e,r⟩
theorem PoB.pick{N:Addr->Prop}{H:Hp}{a:Addr}{p:PD}(h:PoB N H a p)(m:Int):∃x,atI (p.pool.map V.int) (m%((p.pool.length:Nat):Int))=some (.int x)/\x∈p.pool/\p.lo<=x/\x<=p.hi:=by
 obtain⟨_,e,h1,h3,hb⟩:=h;have hp:(0:Int)<((p.pool.length:Nat):Int):=by lia
 have m0:=emod_nonneg m (Int.ne_of_gt hp);have m1:=emod_lt_of_pos m hp;obtain⟨k,ek⟩:∃k:Nat,m%((p.pool.length:Nat):Int)=(k:Int):=⟨_,(toNat_of_nonneg m0).symm⟩;have ex:=EV (l:=p.pool) (i:=k) (by lia);refine⟨p.pool[k],?_,EY ex,hb _ (EY ex)⟩;rw[ek];exact aM (by rw[getElem?_map,ex];rfl)
theorem r9{fN:Nat}{x y z:Int}(h1:1<=fN)(h3:fN<=3)(hx:1<=x/\x<=8)(hy:1<=y/\y<=x)(hz:1<=z/\z<=x):∃v:Int,atI [V.int x,.int y,.int z] ((fN:Int)-1)=some (.int v)/\1<=v/\v<=x:=by
 match fN,h1,h3 with
 |1,_,_=>exact⟨x,U,by lia,by lia⟩
 |2,_,_=>exact⟨y,U,by lia,by lia⟩
 |3,_,_=>exact⟨z,U,by lia,by lia⟩
def PlB(N:Addr->Prop)(H:Hp)(l:Addr)(P:List Int):Prop:=N l/\H l=some (.lst (P.map V.int))
theorem mI{ds:List PD}{pls:List (List Int)}{j:Nat}{p:PD}(e:(List.zipWith (λ(p:PD) P=>{ p with pool:=P }) ds pls)[j]?=some p):∃p0 P,ds[j]?=some p0/\pls[j]?=some P/\p={ p0 with pool:=P }:=by
 rw[getElem?_zipWith]at e;cases e1:ds[j]? with
 |none=>rw[e1]at e;cases e
 |some p0 =>
  cases e2:pls[j]? with
  |none=>rw[e1,e2]at e;cases e
  |some P =>
   rw[e1,e2]at e;cases e;exact⟨p0,P,U,U,U⟩
def FN(ts:List PT)(fN k f:Nat):Prop:=(k<fN/\f=k)\/(fN<=k/\f<fN/\∃(x:Nat)(t:PT),Rch (akT ts fN) (k-fN) x/\ts[x]?=some t/\f∈t.cols)
theorem wK{ts:List PT}{fN k:Nat}{t:PT}(e:ts[k]?=some t){j:Nat}:j∈akT ts fN k↔fN+j∈t.cols:=by
 unfold akT;rw[e];show j∈akc fN t.cols↔_;unfold akc;rw[mem_map];constructor
 ·rintro⟨c,hc,rfl⟩;obtain⟨h1,h2⟩:=mem_filter.mp hc;have h2:fN<=c:=of_decide_eq_true h2;rw[show fN+(c-fN)=c by lia];exact h1
 ·intro h;exact⟨fN+j,mem_filter.mpr ⟨h,by simp⟩,by lia⟩
theorem zN{ts:List PT}{fN k f:Nat}{t:PT}(hk:fN<=k)(e:ts[k-fN]?=some t):FN ts fN k f↔∃j∈t.cols,FN ts fN j f:=by
 constructor
 ·rintro(⟨h,_⟩|⟨_,hf,x,t',hr,ex,hc⟩)
  ·lia
  ·cases hr with
   |self =>
    rw[e]at ex;cases ex;exact⟨f,hc,.inl ⟨hf,U⟩⟩
   |step hj hr =>
    rename_i j
    exact⟨fN+j,(wK e).mp hj,.inr ⟨by lia,hf,x,t',by rw[show fN+j-fN=j by lia];exact hr,ex,hc⟩⟩
 ·rintro⟨j,hj,⟨h1,rfl⟩|⟨h1,hf,x,t',hr,ex,hc⟩⟩
  ·exact .inr ⟨hk,h1,_,t,.self _,e,hj⟩
  ·exact .inr ⟨hk,hf,x,t',.step ((wK e).mpr (by rw[show fN+(j-fN)=j by lia];exact hj)) hr,ex,hc⟩
theorem FN.lt{ts:List PT}{fN k f:Nat}(h:FN ts fN k f):f<fN:=by
 rcases h with⟨h,rfl⟩|⟨_,h,_⟩ <;> exact h
theorem zO(rs:List Nat):vN rs=(rs.map λb:Nat=>(b:Int)).map V.int:=by unfold vN;rw[map_map];rfl
theorem xI{cs:List Int}(h:∀c∈cs,0<=c)(hp:cs.Pairwise (· < ·)):∃js:List Nat,cs.map V.int=vN js/\js.Pairwise (· < ·)/\∀f:Nat,f∈js↔(f:Int)∈cs:=by
 refine⟨cs.map Int.toNat,?_,?_,λf=>?_⟩
 ·unfold vN;rw[map_map];exact List.map_congr_left λc hc=>by
   show V.int c=V.int ((c.toNat:Nat):Int);rw[toNat_of_nonneg (h c hc)]
 ·rw[pairwise_map];refine List.Pairwise.imp_of_mem (R:=λa b:Int=>a<b) (λ{a b} ha hb hab=>?_) hp;have:=h a ha;lia
 ·rw[mem_map];constructor
  ·rintro⟨c,hc,rfl⟩;rw[toNat_of_nonneg (h c hc)];exact hc
  ·intro hf;exact⟨(f:Int),hf,by lia⟩
theorem wL{js:List Nat}{m:Nat}(hp:js.Pairwise (· < ·))(h:∀f∈js,f<m):js.length<=m:=Tld.len ⟨hp.imp λh=>ne_of_lt h,h⟩
theorem qA:∀{A B:List Nat},A.Pairwise (· < ·)->B.Pairwise (· < ·)->(∀c,c∈A↔c∈B)->A=B
 | [],[],_,_,_=>rfl
 | [],b :: B,_,_,h=>by have:=(h b).mpr mem_cons_self;cases this
 |a :: A,[],_,_,h=>by have:=(h a).mp mem_cons_self;cases this
 |a :: A,b :: B,hA,hB,h=>by
  obtain⟨a1,a2⟩:=pairwise_cons.mp hA;obtain⟨b1,b2⟩:=pairwise_cons.mp hB;have hab:a=b:=by
   rcases mem_cons.mp ((h a).mp mem_cons_self)with e|e
   ·exact e
   ·rcases mem_cons.mp ((h b).mpr mem_cons_self)with e' | e'
    ·exact e'.symm
    ·have:=b1 a e;have:=a1 b e';lia
  subst hab;rw[qA a2 b2 λc=>⟨λhc=>by
   rcases mem_cons.mp ((h c).mp (mem_cons_of_mem _ hc))with e|e
   ·have:=a1 c hc;lia
   ·exact e,λhc=>by
   rcases mem_cons.mp ((h c).mpr (mem_cons_of_mem _ hc))with e|e
   ·have:=b1 c hc;lia
   ·exact e⟩]
theorem tY{zs:List Str}{ds:List PD}{ts:List PT}{fN kk f:Nat}{z:Str}(ok:eY zs ds ts fN)(hf:f<fN)(ez:zs[f]?=some z):cy ts zs fN kk z=true↔FN ts fN (fN+kk) f:=by
 have hak:=iq ok;unfold cy;rw[any_eq_true];constructor
 ·rintro⟨x,hx,hz⟩;rw[tX hak]at hx;unfold nmT at hz;cases e:ts[x]? with
  |none=>rw[e]at hz;cases hz
  |some t =>
   rw[e]at hz;have hz:z∈prm t.cols zs:=by simpa using hz
   have ltz:∀j∈t.cols,j<zs.length:=λj hj=>by rw[ok.len];exact ok.lt e j hj
   have gz:=bZ (os:=t.cols) (xs:=zs) ltz;obtain⟨c,ec0⟩:=getElem?_of_mem hz;have hcl:c<t.cols.length:=by rw[←gz.1];exact(EW.mp ec0).1
   have ecc:=EV hcl;rw[gz.2 c _ ecc]at ec0;have efc:=eO ok.nd ec0 ez;exact .inr ⟨by lia,hf,x,t,by rw[show fN+kk-fN=kk by lia];exact hx,e,by rw[←efc];exact EY ecc⟩
 ·rintro(⟨h,_⟩|⟨_,_,x,t,hr,e,hc⟩)
  ·lia
  ·rw[show fN+kk-fN=kk by lia]at hr;refine⟨x,(tX hak _ _).mpr hr,?_⟩;unfold nmT;rw[e];show(prm t.cols zs).contains z=true;have ltz:∀j∈t.cols,j<zs.length:=λj hj=>by rw[ok.len];exact ok.lt e j hj
   have gz:=bZ (os:=t.cols) (xs:=zs) ltz;obtain⟨c,ec⟩:=getElem?_of_mem hc;have:z∈prm t.cols zs:=EY (show(prm t.cols zs)[c]?=some z by rw[gz.2 c _ ec];exact ez);simpa using this
theorem Bc{zs:List Str}{ds:List PD}{ts:List PT}{fN kk:Nat}{js:List Nat}(ok:eY zs ds ts fN)(pw:js.Pairwise (· < ·))(mem:∀f,f∈js↔FN ts fN (fN+kk) f):((zs.take fN).filter (cy ts zs fN kk)).length=js.length/\∀(j:Nat)(z:Str),((zs.take fN).filter (cy ts zs fN kk))[j]?=some z->∃f,js[j]?=some f/\zs[f]?=some z:=by
 have hl1:=ok.len;have hl2:=ok.tab;have hg:∀f,f<fN->zs[f]?=some (zs.getD f Str.empty):=λf hf=>by
  have e:=EV (l:=zs) (i:=f) (by lia);rw[getD_eq_getElem?_getD,e];rfl
 have ejs:js=(List.range fN).filter (λf=>cy ts zs fN kk (zs.getD f Str.empty)):=by
  refine qA pw (List.Pairwise.sublist filter_sublist List.pairwise_lt_range) λc=>?_
  rw[mem c,mem_filter,mem_range];constructor
  ·intro h;have hc:=h.lt;exact⟨hc,(tY ok hc (hg c hc)).mpr h⟩
  ·rintro⟨hc,h⟩;exact(tY ok hc (hg c hc)).mp h
 have etk:zs.take fN=(List.range fN).map λf=>zs.getD f Str.empty:=by
  refine ext_getElem? λj=>?_
  rw[getElem?_take,getElem?_map];by_cases hj:j<fN
  ·rw[if_pos hj,getElem?_range hj,hg j hj];rfl
  ·rw[if_neg hj,getElem?_eq_none (by rw[length_range];lia)];rfl
 have enl:(zs.take fN).filter (cy ts zs fN kk)=js.map λf=>zs.getD f Str.empty:=by
  rw[etk,List.filter_map,ejs];rfl
 rw[enl];refine⟨length_map _,λj z e=>?_⟩;rw[getElem?_map]at e;cases ej:js[j]? with
 |none=>rw[ej]at e;cases e
 |some f =>
  rw[ej]at e;cases e;exact⟨f,U,hg f ((mem f).mp (EY ej)).lt⟩
theorem yr{c A B:Prop} [Decidable c] (hc:¬ c)(h:A):if (!decide c)=true then A else B:=by rw[decide_eq_false hc];exact ee h
def wvP(p:PD)(c:Int):V:=if p.ws=[]then .int c else .str (p.ws.getD c.toNat Str.empty)
def cR(v:SI):Bool:=decide (v.1=Str.ofString "say")
def ixF:List Str->Str->Nat
 | [],_=>0
 |x :: l,z=>if x=z then 0 else ixF l z+1
theorem sr:∀{l:List Str}{z:Str},z∈l->l[ixF l z]?=some z
 |x :: l,z,h=>by
  unfold ixF;by_cases e:x=z
  ·rw[if_pos e];simp[e]
  ·rw[if_neg e];have h2:z∈l:=by
    rcases mem_cons.mp h with q|q
    ·exact absurd q.symm e
    ·exact q
   simpa using sr h2
def kJ(p:PD)(t:PT)(cvs:List SI):SI:=match cvs.find? (λv=>!cR v) with
 |some v=>v
 |none=>ver (wf (ixF six t.way) p.lo p.hi) (fl t.rows (cvs.map (·.2)))
def vdF(ts:List PT)(ds:List PD)(fN:Nat)(cd:List Int):Nat->Nat->SI
 |0,_=>zB
 |n+1,k=>match ts[k]?,ds[fN+k]? with
  |some t,some p=>kJ p t (t.cols.map λc=>if c<fN then say (cd.getD c 0)else vdF ts ds fN cd n (c-fN))
  |_,_=>zB
def vd(ts:List PT)(ds:List PD)(fN:Nat)(cd:List Int)(k:Nat):SI:=vdF ts ds fN cd (k+1) k
def cvo(ts:List PT)(ds:List PD)(fN:Nat)(cd:List Int)(c:Nat):SI:=if c<fN then say (cd.getD c 0)else vd ts ds fN cd (c-fN)
theorem qB{ts:List PT}{ds:List PD}{fN:Nat}{cd:List Int}(h:∀(k:Nat)(t:PT),ts[k]?=some t->∀c∈t.cols,c<fN+k):∀(n m k:Nat),k<n->k<m->vdF ts ds fN cd n k=vdF ts ds fN cd m k
 |0,_,_,h1,_=>absurd h1 (not_lt_zero _)
 |_+1,0,_,_,h2=>absurd h2 (not_lt_zero _)
 |n+1,m+1,k,h1,h2=>by
  unfold vdF;cases et:ts[k]? with
  |none=>rfl
  |some t =>
   cases ds[fN+k]? with
   |none=>rfl
   |some p =>
    show kJ p t _=kJ p t _
    congr 1
    refine List.map_congr_left λc hc=>?_
    split
    ·rfl
    ·have:=h k t et c hc;exact qB h n m (c-fN) (by lia) (by lia)
theorem tZ{ts:List PT}{ds:List PD}{fN:Nat}{cd:List Int}(h:∀(k:Nat)(t:PT),ts[k]?=some t->∀c∈t.cols,c<fN+k){k:Nat}{t:PT}{p:PD}(et:ts[k]?=some t)(ep:ds[fN+k]?=some p):vd ts ds fN cd k=kJ p t (t.cols.map (cvo ts ds fN cd)):=by
 unfold vd vdF;rw[et,ep];show kJ p t _=kJ p t _
 congr 1
 refine List.map_congr_left λc hc=>?_
 unfold cvo;split
 ·rfl
 ·have:=h k t et c hc;exact qB h k (c-fN+1) (c-fN) (by lia) (by lia)
theorem qC{p:PD}{t:PT}{cvs:List SI}(h:∀v∈cvs,cR v=true):kJ p t cvs=ver (wf (ixF six t.way) p.lo p.hi) (fl t.rows (cvs.map (·.2))):=by
 unfold kJ;have:cvs.find? (λv=>!cR v)=none:=by
  rw[List.find?_eq_none];intro v hv;simp[h v hv]
 rw[this]
theorem xJ{p:PD}{t:PT}{cvs:List SI}{i:Nat}{v:SI}(e:cvs[i]?=some v)(hv:cR v=false)(h:∀u∈cvs.take i,cR u=true):kJ p t cvs=v:=by
 unfold kJ;have hs:cvs=cvs.take i++v :: cvs.drop (i+1):=by
  obtain⟨hi,e'⟩:=EW.mp e;rw[←e',←List.drop_eq_getElem_cons hi,List.take_append_drop]
 have:cvs.find? (λv=>!cR v)=some v:=by
  rw[hs,List.find?_append];have h1:(cvs.take i).find? (λv=>!cR v)=none:=by
   rw[List.find?_eq_none];intro u hu;simp[h u hu]
  rw[h1,Option.none_or,List.find?_cons_of_pos (by simp[hv])]
 rw[this]
def Bef(ak:Nat->List Nat)(told:List Nat):Prop:=∀(i j:Nat),told[i]?=some j->∀x∈ak j,x∈told.take i
theorem ua{ak:Nat->List Nat}(h:∀k,∀j∈ak k,j<k):∀(k:Nat)(told:List Nat),Bef ak told->Bef ak (odr ak k told)/\(∀x∈told,x∈odr ak k told)/\k∈odr ak k told:=by
 intro k;induction k using Nat.strongRecOn with
 |ind k ih =>
  intro told hb;have fold:∀(l:List Nat)(t:List Nat),(∀j∈l,j<k)->Bef ak t->Bef ak (l.foldl (λt j=>odr ak j t) t)/\(∀x∈t,x∈l.foldl (λt j=>odr ak j t) t)/\∀j∈l,j∈l.foldl (λt j=>odr ak j t) t:=by
   intro l;induction l with
   |nil=>intro t _ hb;exact⟨hb,λx hx=>hx,λj hj=>by cases hj⟩
   |cons j l ihl =>
    intro t hl hb;obtain⟨a1,a2,a3⟩:=ih j (hl j mem_cons_self) t hb;obtain⟨b1,b2,b3⟩:=ihl (odr ak j t) (λi hi=>hl i (mem_cons_of_mem _ hi)) a1;rw[foldl_cons];refine⟨b1,λx hx=>b2 x (a2 x hx),λi hi=>?_⟩;rcases mem_cons.mp hi with rfl|hi
    ·exact b2 _ a3
    ·exact b3 i hi
  rw[mE h];split
  ·rename_i hc
   exact⟨hb,λx hx=>hx,by simpa using hc⟩
  ·obtain⟨a1,a2,a3⟩:=fold (ak k) told (h k) hb;generalize (ak k).foldl (λt j=>odr ak j t) told=F at a1 a2 a3⊢;refine⟨λi j e x hx=>?_,λx hx=>mem_append_left _ (a2 x hx),mem_append_right _ (mem_singleton.mpr U)⟩;by_cases hi:i<F.length
   ·rw[getElem?_append_left hi]at e;rw[List.take_append_of_le_length (le_of_lt hi)];exact a1 i j e x hx
   ·have hl:i=F.length:=by
     have:=(EW.mp e).1;rw[length_append,length_singleton]at this;lia
    subst hl;rw[getElem?_append_right (le_refl _),sub_self]at e;cases e;rw[List.take_left']
    ·exact a3 x hx
    ·rfl
theorem ub{ak:Nat->List Nat}:Bef ak []:=λi j e=>by simp at e
def StA(N:Addr->Prop)(K:W.Frag)(H:Hp)(r:Addr)(nm:Str)(t:PT)(p:PD)(cvs:List SI):Prop:=∃(cv:V)(m:Int)(r3:Addr),H r=some (.tup [.str nm,cv,.int m,.ref r3])/\SqT K H r3 (tp (kJ p t cvs)) /\
 ((cvs.all cR=false/\cv=.non/\m=0)\/(cvs.all cR=true/\∃lc,cv=.ref lc/\N lc/\H lc=some (.lst ((cvs.map (·.2)).map V.int))/\m=((msk (eW t.rows (cvs.map (·.2))) t.rows.length:Nat):Int)))
theorem mJ{K:W.Frag}{H:Hp}{x a:Addr}{o u:HO}{xs:List V}(h:SqT K H a xs)(e:H x=some u)(n1:∀ys,u≠.tup ys)(n2:∀o ys,u≠.frz o (.tup ys)):SqT K (upd H x o) a xs:=by
 rcases h with(h|⟨o',h⟩)|h
 ·exact .inl (.inl ((ar (λz=>by rw[z,e]at h;exact n1 xs (Option.some.inj h))).trans h))
 ·exact .inl (.inr ⟨o',(ar (λz=>by rw[z,e]at h;exact n2 o' xs (Option.some.inj h))).trans h⟩)
 ·exact .inr h
section
variable{N N':Addr->Prop}{K:W.Frag}{H H':Hp}{r:Addr}{nm:Str}{t:PT}{p:PD}{cvs:List SI}
theorem StA.same(h:StA N K H r nm t p cvs)(s:ao H H'):StA N K H' r nm t p cvs:=by
 obtain⟨cv,m,r3,h1,h2,h3⟩:=h;exact⟨cv,m,r3,s _ _ h1,s.seqT h2,h3.imp id λ⟨a,lc,b,n,c,d⟩=>⟨a,lc,b,n,s _ _ c,d⟩⟩
theorem StA.wk(h:StA N K H r nm t p cvs)(w:∀x,N x->N' x):StA N' K H r nm t p cvs:=by
 obtain⟨cv,m,r3,h1,h2,h3⟩:=h;exact⟨cv,m,r3,h1,h2,h3.imp id λ⟨a,lc,b,n,c,d⟩=>⟨a,lc,b,w _ n,c,d⟩⟩
theorem StA.updL{x:Addr}{ys:List V}{o:HO}(h:StA N K H r nm t p cvs)(e:H x=some (.lst ys))(n:¬ N x):StA N K (upd H x o) r nm t p cvs:=by
 obtain⟨cv,m,r3,h1,h2,h3⟩:=h;exact⟨cv,m,r3,(ar (cg h1 e (by intro z;cases z))).trans h1,mJ h2 e (λ_ z=>by cases z) (λ_ _ z=>by cases z),h3.imp id λ⟨a,lc,b,m,c,d⟩=>⟨a,lc,b,m,(ar (λ(z:lc=x)=>n (by rw[←z];exact m))).trans c,d⟩⟩
theorem StA.updD{x:Addr}{kvs:List (Key×V)}{o:HO}(h:StA N K H r nm t p cvs)(e:H x=some (.dK kvs)):StA N K (upd H x o) r nm t p cvs:=by
 obtain⟨cv,m,r3,h1,h2,h3⟩:=h;exact⟨cv,m,r3,(ar (cg h1 e (by intro z;cases z))).trans h1,mJ h2 e (λ_ z=>by cases z) (λ_ _ z=>by cases z),h3.imp id λ⟨a,lc,b,m,c,d⟩=>⟨a,lc,b,m,(ar (cg c e (by intro z;cases z))).trans c,d⟩⟩
end
def StK(N:Addr->Prop)(K:W.Frag)(H:Hp)(zs:List Str)(ds:List PD)(ts:List PT)(fN:Nat)(cd:List Int)(r:Addr)(j:Nat):Prop:=∃(t:PT)(p:PD)(nm:Str),ts[j]?=some t/\ds[fN+j]?=some p/\zs[fN+j]?=some nm/\StA N K H r nm t p (t.cols.map (cvo ts ds fN cd))
section
variable{N N':Addr->Prop}{K:W.Frag}{H H':Hp}{zs:List Str}{ds:List PD}{ts:List PT}{fN:Nat}{cd:List Int}{r:Addr}{j:Nat}
theorem StK.same(h:StK N K H zs ds ts fN cd r j)(s:ao H H'):StK N K H' zs ds ts fN cd r j:=by obtain⟨t,p,nm,a,b,c,d⟩:=h;exact⟨t,p,nm,a,b,c,d.same s⟩
theorem StK.wk(h:StK N K H zs ds ts fN cd r j)(w:∀x,N x->N' x):StK N' K H zs ds ts fN cd r j:=by obtain⟨t,p,nm,a,b,c,d⟩:=h;exact⟨t,p,nm,a,b,c,d.wk w⟩
theorem StK.updL{x:Addr}{ys:List V}{o:HO}(h:StK N K H zs ds ts fN cd r j)(e:H x=some (.lst ys))(n:¬ N x):StK N K (upd H x o) zs ds ts fN cd r j:=by obtain⟨t,p,nm,a,b,c,d⟩:=h;exact⟨t,p,nm,a,b,c,d.updL e n⟩
theorem StK.updD{x:Addr}{kvs:List (Key×V)}{o:HO}(h:StK N K H zs ds ts fN cd r j)(e:H x=some (.dK kvs)):StK N K (upd H x o) zs ds ts fN cd r j:=by obtain⟨t,p,nm,a,b,c,d⟩:=h;exact⟨t,p,nm,a,b,c,d.updD e⟩
end
def FCd(zs:List Str)(fN:Nat)(cd:List Int)(kvs:List (Str×V)):Prop:=∀p∈kvs,∃f,f<fN/\zs[f]?=some p.1/\p.2=.int (cd.getD f 0)
def FaD(zs:List Str)(ds:List PD)(fN:Nat)(cd:List Int)(fk:List (Key×V)):Prop:=∀(f:Nat)(z:Str)(p:PD),f<fN->zs[f]?=some z->ds[f]?=some p->dj fk (Sum.inr z)=some (wvP p (cd.getD f 0))/\p.lo<=cd.getD f 0/\cd.getD f 0<=p.hi
theorem ox{z:Str}:∀{kvs:List (Str×V)},(∀p∈kvs,p.1≠z)->kvs.lookup z=none
 | [],_=>rfl
 |(k,v) :: kvs,h=>by
  rw[lookup_cons,beq_eq_false_iff_ne.mpr λe=>h (k,v) mem_cons_self e.symm];exact ox λp hp=>h p (mem_cons_of_mem _ hp)
theorem uc{kvs:List (Str×V)}{z:Str}{v:V}(h:z ∉ kvs.map (·.1)):putK (kvT kvs) (Sum.inr z) v=kvT (kvs++[(z,v)]):=by
 rw[v7 v (by rw[mn];exact ox λp hp e=>h (mem_map.mpr ⟨p,hp,e⟩))];unfold kvT;rw[map_append];rfl
theorem FCd.snoc{zs:List Str}{fN:Nat}{cd:List Int}{kvs:List (Str×V)}(h:FCd zs fN cd kvs){f:Nat}{z:Str}(hf:f<fN)(ez:zs[f]?=some z):FCd zs fN cd (kvs++[(z,.int (cd.getD f 0))]):=λp hp=>by
 rcases mem_append.mp hp with hp|hp
 ·exact h p hp
 ·rw[mem_singleton.mp hp];exact⟨f,hf,ez,U⟩
structure TdA(H:Hp)(ys:List V)(ks kvs:List (Str×V)):Prop where
 len:ys.length=ks.length
 keys:ks.map (·.1)=kvs.map (·.1)
 at_:∀(j:Nat)(p:Str×V),ks[j]?=some p->∃(T S:Addr)(c:Int),ys[j]?=some (.ref T)/\H T=some (.tup [.str p.1,.ref S])/\p.2=.ref S/\H S=some (.tup (tp (say c)))/\kvs[j]?=some (p.1,.int c)
theorem TdA.tups{H H':Hp}{ys:List V}{ks kvs:List (Str×V)}(h:TdA H ys ks kvs)(s:jc H H'):TdA H' ys ks kvs :=
 ⟨h.len,h.keys,λj p e=>let ⟨T,S,c,h1,h2,h3,h4,h5⟩:=h.at_ j p e;⟨T,S,c,h1,s _ _ h2,h3,s _ _ h4,h5⟩⟩
theorem TdA.snoc{H:Hp}{ys:List V}{ks kvs:List (Str×V)}(h:TdA H ys ks kvs){T S:Addr}{z:Str}{c:Int}(eT:H T=some (.tup [.str z,.ref S]))(eS:H S=some (.tup (tp (say c)))):TdA H (ys++[.ref T]) (ks++[(z,.ref S)]) (kvs++[(z,.int c)]):=by
 have hlk:ks.length=kvs.length:=by have:=congrArg List.length h.keys;simpa using this
 have hyl:=h.len;refine⟨by rw[length_append,length_append,h.len];rfl,by rw[map_append,map_append,h.keys];rfl,λj p e=>?_⟩;by_cases hj:j<ks.length
 ·rw[getElem?_append_left hj]at e;obtain⟨T',S',c',h1,h2,h3,h4,h5⟩:=h.at_ j p e;exact⟨T',S',c',by rw[getElem?_append_left (by rw[h.len];exact hj)];exact h1,h2,h3,h4,by rw[getElem?_append_left (by lia)];exact h5⟩
 ·have hj2:j=ks.length:=by
   have:=(EW.mp e).1;rw[length_append,length_singleton]at this;lia
  subst hj2;rw[getElem?_append_right (le_refl _),sub_self]at e;cases e;exact⟨T,S,c,by rw[getElem?_append_right (by lia),h.len,sub_self];rfl,eT,U,eS,by rw[getElem?_append_right (by lia),hlk,sub_self];rfl⟩
def TIv(K:W.Frag)(H:Hp)(zs:List Str)(ds:List PD)(ts:List PT)(fN:Nat)(cd:List Int)(kv:List (Key×V))(P:Nat->Prop):Prop:=∀(c:Nat)(z:Str),zs[c]?=some z->P c->∃r:Addr,dj kv (Sum.inr z)=some (.ref r)/\SqT K H r (tp (cvo ts ds fN cd c))
section
variable{K:W.Frag}{H H':Hp}{zs:List Str}{ds:List PD}{ts:List PT}{fN:Nat}{cd:List Int}{kv:List (Key×V)}{P:Nat->Prop}
theorem TIv.same(h:TIv K H zs ds ts fN cd kv P)(s:ao H H'):TIv K H' zs ds ts fN cd kv P:=λc z e p=>let ⟨r,h1,h2⟩:=h c z e p;⟨r,h1,s.seqT h2⟩
theorem TIv.updX{x:Addr}{u o:HO}(h:TIv K H zs ds ts fN cd kv P)(e:H x=some u)(n1:∀ys,u≠.tup ys)(n2:∀o ys,u≠.frz o (.tup ys)):TIv K (upd H x o) zs ds ts fN cd kv P:=λc z e' p=>let ⟨r,h1,h2⟩:=h c z e' p;⟨r,h1,mJ h2 e n1 n2⟩
theorem TIv.put(h:TIv K H zs ds ts fN cd kv P)(hn:zs.Nodup){c0:Nat}{z0:Str}{r:Addr}(e0:zs[c0]?=some z0)(hr:SqT K H r (tp (cvo ts ds fN cd c0))){P':Nat->Prop}(hP:∀c,P' c->c=c0\/P c):TIv K H zs ds ts fN cd (putK kv (Sum.inr z0) (.ref r)) P':=λc z e p=>by
 rw[mj];by_cases hz:z=z0
 ·subst hz;have:=eO hn e e0;subst this;exact⟨r,if_pos U,hr⟩
 ·rw[if_neg (λq=>hz (by injection q))];rcases hP c p with rfl|p
  ·rw[e0]at e;exact absurd (Option.some.inj e).symm hz
  ·exact h c z e p
end
theorem TdA.tiv{K:W.Frag}{H:Hp}{zs:List Str}{ds:List PD}{ts:List PT}{fN:Nat}{cd:List Int}{ys:List V}{ks kvs:List (Str×V)}(h:TdA H ys ks kvs)(hn:zs.Nodup)(hk:(kvs.map (·.1)).Nodup)(hF:FCd zs fN cd kvs):TIv K H zs ds ts fN cd (kvT ks) (λc=>c<fN/\∀z,zs[c]?=some z->z∈kvs.map (·.1)):=λc z e ⟨hc,hz⟩=>by
 have hz:=hz z e;rw[←h.keys]at hz;obtain⟨⟨z',v⟩,hp,rfl⟩:=mem_map.mp hz;obtain⟨j,ej⟩:=getElem?_of_mem hp;obtain⟨T,S,c',h1,h2,h3,h4,h5⟩:=h.at_ j _ ej;obtain⟨f,hf,ef,ec⟩:=hF _ (EY h5);have:=eO hn ef e;subst this;have ec:V.int c'=V.int (cd.getD f 0):=ec;injection ec with ec;subst ec;refine⟨S,?_,SqT.of ?_⟩
 ·rw[mn];have hk':(ks.map (·.1)).Nodup:=by rw[h.keys];exact hk
  have h3:v=.ref S:=h3;rw[o9 hk' ej,h3]
 ·unfold cvo;rw[if_pos hc];exact h4
def EnA(H0 H:Hp)(ea:Addr)(n m:Nat):Prop:=H0 ea=none/\∃ev:List V,H ea=some (.lst ev)/\ev.length=n/\∀(j:Nat)(x:V),ev[j]?=some x->∃(l:Addr)(xs:List Int),x=.ref l/\l≠ea/\H0 l=none/\H l=some (.lst (xs.map V.int))/\xs.length<=m
theorem EnA.same{H0 H H':Hp}{ea:Addr}{n m:Nat}(h:EnA H0 H ea n m)(s:ao H H'):EnA H0 H' ea n m:=by
 obtain⟨h0,ev,h1,h2,h3⟩:=h;exact⟨h0,ev,s _ _ h1,h2,λj x e=>let ⟨l,xs,a,b,c,d,f⟩:=h3 j x e;⟨l,xs,a,b,c,s _ _ d,f⟩⟩
theorem EnA.le{H0 H:Hp}{ea:Addr}{n m m':Nat}(h:EnA H0 H ea n m)(w:m<=m'):EnA H0 H ea n m':=by
 obtain⟨h0,ev,h1,h2,h3⟩:=h;exact⟨h0,ev,h1,h2,λj x e=>let ⟨l,xs,a,b,c,d,f⟩:=h3 j x e;⟨l,xs,a,b,c,d,le_trans f w⟩⟩
theorem EnA.ext{H0 H:Hp}{ea l:Addr}{n m k:Nat}{xs ys:List Int}(h:EnA H0 H ea n m)(nl:l≠ea)(el:H l=some (.lst (xs.map V.int)))(hx:xs.length<=m)(hy:ys.length<=k):EnA H0 (upd H l (.lst (xs.map V.int++ys.map V.int))) ea n (m+k):=by
 obtain⟨h0,ev,h1,h2,h3⟩:=h;refine⟨h0,ev,(ar nl.symm).trans h1,h2,λj x e=>?_⟩;obtain⟨l',xs',a,b,c,d,f⟩:=h3 j x e;by_cases hl:l'=l
 ·subst hl;exact⟨l',xs++ys,a,b,c,by rw[ae,map_append],by rw[length_append];lia⟩
 ·exact⟨l',xs',a,b,c,(ar hl).trans d,by lia⟩
theorem wM(p:Nat->Bool)(n:Nat):((List.range n).filter p).length=n↔(List.range n).all p=true:=by
 have h:=List.length_filter_eq_length_iff (l:=List.range n) (p:=p);rw[length_range]at h;rw[h,all_eq_true]
theorem ud(f:Nat->Bool):∀n:Nat,((msk f n:Nat):Int)=((((List.range n).filter f).map λb:Nat=>(1:Int)*2^((b:Int)).toNat)).sum
 |0=>rfl
 |n+1=>by
  rw[my,range_succ,filter_append,map_append,sum_append,←ud f n];cases h:f n with
  |true=>rw[filter_cons_of_pos h];simp;lia
  |false=>rw[filter_cons_of_neg (by rw[h];exact Bool.false_ne_true)];simp
theorem qD{xs:List V}{lo hi:Option Int}{x:V}(h:x∈hV xs lo hi):x∈xs:=by
 unfold hV at h;exact List.mem_of_mem_drop (mem_of_mem_take h)
theorem ue{ak:Nat->List Nat}(h:∀k,∀j∈ak k,j<k)(k:Nat):∃od,odr ak k []=od++[k]:=by
 rw[mE h,if_neg (by simp)];exact⟨_,U⟩
theorem oy{α:Type}{xs:List V}{as:List α}{a:α}{P:Addr->α->Prop}(h:az xs (as++[a]) P):∃r,atI xs (-1)=some (.ref r)/\P r a:=by
 obtain⟨hl,hg⟩:=h;obtain⟨r,er,hp⟩:=hg as.length a (by simp);have e:xs=xs.dropLast++[.ref r]:=by
  have hl2:xs.length=as.length+1:=by rw[hl];simp
  refine ext_getElem? λi=>?_
  by_cases hi:i<as.length
  ·rw[getElem?_append_left (by rw[length_dropLast];lia),List.getElem?_dropLast,if_pos (by lia)]
  ·by_cases hi2:i=as.length
   ·subst hi2;rw[er,getElem?_append_right (by rw[length_dropLast];lia),length_dropLast,hl2,Nat.add_sub_cancel,sub_self];rfl
   ·rw[getElem?_eq_none (by lia),getElem?_eq_none (by rw[length_append,length_dropLast];simp;lia)]
 exact⟨r,by rw[e];exact vD _ _,hp⟩
theorem wN{kvs:List (Key×V)}{k:Key}{v:V}{p:Key×V}(h:p∈putK kvs k v):p=(k,v)\/(p∈kvs/\p.1≠k):=by
 unfold putK at h;by_cases a:(kvs.any λkv=>decide (kv.1=k))=true
 ·rw[if_pos a]at h;obtain⟨kv,hkv,rfl⟩:=mem_map.mp h;by_cases e:kv.1=k
  ·rw[if_pos e];left;rw[e]
  ·rw[if_neg e];exact .inr ⟨hkv,e⟩
 ·rw[if_neg a]at h;rcases mem_append.mp h with h|h
  ·exact .inr ⟨h,λe=>a (any_eq_true.mpr ⟨p,h,decide_eq_true e⟩)⟩
  ·exact .inl (mem_singleton.mp h)
theorem wO(p:PD)(c:Int):bY (wvP p c)=true:=by unfold wvP;split <;> rfl
theorem sx{K:W.Frag}{H:Hp}{Q:VK}{a b:Addr}{v:SI}(ha:SqT K H a (tp v))(hb:SqT K H b (tp v))(h:Q (.bl false) H):zf K true (.ref a) (.ref b) H Q:=by
 refine⟨a,b,_,_,U,U,ha,hb,λ_=>true,λj x y e1 e2=>?_,h⟩;rw[e1]at e2;cases e2;have hf:bY x=true:=by
  match j,e1 with
  |0,e1=>cases e1;rfl
  |1,e1=>cases e1;rfl
  |j+2,e1=>simp[tp]at e1
 have:=EqI.flat (K:=K) (H:=H) hf hf;rw[ia hf]at this;exact this
def HdA(H:Hp)(he:Addr)(zs:List Str)(ds:List PD)(ts:List PT)(fN:Nat)(x:V):Prop:=∃(r ha du:Addr)(k:Nat)(nm:Str)(cd:List Int)(js:List Nat),x=.ref r/\H r=some (.tup [.str nm,.ref ha,.ref du])/\ha≠he/\k<ts.length/\zs[fN+k]?=some nm/\H ha=some (.lst ((js.map λf=>cd.getD f 0).map V.int))/\js.Pairwise (· < ·)/\(∀f,f∈js↔FN ts fN (fN+k) f)/\H du=some (.tup (tp (vd ts ds fN cd k)))
theorem HdA.same{H H':Hp}{he:Addr}{zs:List Str}{ds:List PD}{ts:List PT}{fN:Nat}{x:V}(h:HdA H he zs ds ts fN x)(s:ao H H'):HdA H' he zs ds ts fN x:=by obtain⟨r,ha,du,k,nm,cd,js,a1,a2,a3,a4,a5,a6,a7,a8,a9⟩:=h;exact⟨r,ha,du,k,nm,cd,js,a1,s _ _ a2,a3,a4,a5,s _ _ a6,a7,a8,s _ _ a9⟩
theorem HdA.upd{H:Hp}{he:Addr}{zs:List Str}{ds:List PD}{ts:List PT}{fN:Nat}{x:V}{ys zs':List V}(h:HdA H he zs ds ts fN x)(e:H he=some (.lst ys)):HdA (upd H he (.lst zs')) he zs ds ts fN x:=by obtain⟨r,ha,du,k,nm,cd,js,a1,a2,a3,a4,a5,a6,a7,a8,a9⟩:=h;exact⟨r,ha,du,k,nm,cd,js,a1,(ar λz=>by rw[z,e]at a2;cases a2).trans a2,a3,a4,a5,(ar a3).trans a6,a7,a8,(ar λz=>by rw[z,e]at a9;cases a9).trans a9⟩
inductive gu(K:W.Frag)(Y:AD)(vs:List V)(H:Hp)(Q:VK)(e_:XK):Prop
 |mk (z g:Str)(_:vs=[.str z,.str g])(_:Q (.bl (lW z g)) H):gu K Y vs H Q e_
inductive fB(K:W.Frag)(Y:AD)(vs:List V)(H:Hp)(Q:VK)(e_:XK):Prop
 |mk (i:Int)(_:vs=[.int i])(_:Q (.bl true) H):fB K Y vs H Q e_
inductive mK(K:W.Frag)(Y:AD)(vs:List V)(H:Hp)(Q:VK)(e_:XK):Prop
 |mk (a b:Addr)(k:Dk)(_:vs=[.ref a,.ref b])(_:iR Y.k Y.l H a k)(_:iR Y.k Y.l H b k)(_:Q (.bl true) H):mK K Y vs H Q e_
inductive cD(K:W.Frag)(Y:AD)(vs:List V)(H:Hp)(Q:VK)(e_:XK):Prop
 |mk (fa ma:Addr)(fv mv:List V)(_:vs=[.ref fa,.ref ma])(_:H fa=some (.lst fv))(_:H ma=some (.lst mv))(_:fv.length<=20)(_:mv.length<=30)(_:Q .non H):cD K Y vs H Q e_
inductive dP(K:W.Frag)(Y:AD)(vs:List V)(H:Hp)(Q:VK)(e_:XK):Prop
 |mk (t na ou:Addr)(nm wy:Str)(zs ns:List Str)(dv:List V)(rws:List Rw)(_:vs=[.ref t,.ref na])(_:TF Y.m H t nm wy ou zs dv rws)(_:H na=some (.lst (ns.map V.str)))(_:zs.length<=100)(_:∀(l:Addr)(H':Hp),ao H H'->H l=none->H' l=some (.lst ((zs.filter λz=>ns.contains z).map V.str))->Q (.ref l) H'):dP K Y vs H Q e_
inductive fC(K:W.Frag)(Y:AD)(vs:List V)(H:Hp)(Q:VK)(E:XK):Prop
 |mk (b:Addr)(nm:Str)(zs:List Str)(ds:List PD)(ts:List PT)(fN:Nat)(mv:List V)(L:List Nat)(_:vs=[.ref b,.str nm])(_:BkT Y.m Y.k Y.l Y.n H b zs ds ts fN mv L)(_:SmB nm)(_:(∀(a:Addr)(k i:Nat),mv[i]?=some (.ref a)->L[i]?=some k->k∈L->tnm zs fN k=nm->TbA Y.m Y.k Y.l H zs ds ts fN a k->Q (.ref a) H))(_:((∀k∈L,tnm zs fN k≠nm)->E (.ref Y.b) none H)):fC K Y vs H Q E
inductive mL(K:W.Frag)(Y:AD)(vs:List V)(H:Hp)(Q:VK)(e_:XK):Prop
 |mk (a:Addr)(xs:List V)(ps:List (Int×Int))(n:Int)(_:vs=[.ref a,.int n])(_:SqL K H a xs)(_:PL H xs ps)(_:Q (.bl (inP ps n)) H):mL K Y vs H Q e_
inductive cm(K:W.Frag)(Y:AD)(vs:List V)(H:Hp)(Q:VK)(e_:XK):Prop
 |mk (p r:Addr)(xs ys:List V)(_:vs=[.ref p,.ref r])(_:SqL K H p xs)(_:SqL K H r ys)(_:1<=xs.length)(_:xs.length<=4)(_:ys.length<=200)(_:Q .non H):cm K Y vs H Q e_
inductive jr(K:W.Frag)(Y:AD)(vs:List V)(H:Hp)(Q:VK)(e_:XK):Prop
 |mk (cl:Addr)(xs:List V)(w:Rw)(_:vs=[.ref cl,.int w.2])(_:H cl=some (.lst xs))(_:CL NT H xs w.1)(_:w.1.length<=100)(_:∀(r:Addr)(H':Hp),ao H H'->H r=none->fY (λa=>H a=none) H' r w->Q (.ref r) H'):jr K Y vs H Q e_
inductive iN(K:W.Frag)(Y:AD)(vs:List V)(H:Hp)(Q:VK)(e_:XK):Prop
 |mk (a:Addr)(ns:List Int)(k:Int)(_:vs=[.ref a,.int k])(_:SqL K H a (ns.map V.int))(_:0<=k)(_:∀r:Int,Q (.int r) H):iN K Y vs H Q e_
inductive eQ(K:W.Frag)(Y:AD)(vs:List V)(H:Hp)(Q:VK)(e_:XK):Prop
 |mk (c:Int)(n:Nat)(_:vs=[.int c,.int (n:Int)])(_:n<=40)(_:∀(l:Addr)(H':Hp),ao H H'->H l=none->H' l=some (.lst ((lws c n).map V.str))->Q (.ref l) H'):eQ K Y vs H Q e_
inductive iu(K:W.Frag)(Y:AD)(vs:List V)(H:Hp)(Q:VK)(e_:XK):Prop
 |mk (r:Addr)(p:PD)(c:Int)(n:Nat)(_:vs=[.ref r,.int c,.int (n:Int)])(_:PDA NT H r p)(_:oZ p)(_:n<=3)(_:∀(l:Addr)(xs:List Int)(H':Hp),ao H H'->H l=none->H' l=some (.lst (xs.map V.int))->xs.length=n->(∀x∈xs,p.lo<=x/\x<=p.hi)->Q (.ref l) H'):iu K Y vs H Q e_
inductive gw(K:W.Frag)(Y:AD)(vs:List V)(H:Hp)(Q:VK)(e_:XK):Prop
 |mk (kd one two:Int)(r:Addr)(p:PD)(_:vs=[.int kd,.int one,.int two,.ref r])(_:PDA NT H r p)(_:p.lo<=one)(_:one<=two)(_:two<=p.hi)(_:∀(l:Addr)(ps:Prs)(H':Hp),ao H H'->SpA (λa=>H a=none) H' l ps->(∀x∈ps,p.lo<=x.1/\x.1<=x.2/\x.2<=p.hi)->ps.length<=2->(∀x∈ps,(x.1=p.lo\/x.1=one\/x.1=two\/x.1=two+1)/\(x.2=p.hi\/x.2=one\/x.2=two\/x.2=one-1))->Q (.ref l) H'):gw K Y vs H Q e_
inductive eZ(K:W.Frag)(Y:AD)(vs:List V)(H:Hp)(Q:VK)(e_:XK):Prop
 |mk (a:Addr)(ns:List Int)(m:Nat)(_:vs=[.ref a,.int (m:Int)])(_:SqL K H a (ns.map V.int))(_:ns.length<=63)(_:1<=m)(_:m<=100)(_:∀(l:Addr)(ms:List Int)(H':Hp),ao H H'->H l=none->H' l=some (.lst (ms.map V.int))->ms.length<=m->Q (.ref l) H'):eZ K Y vs H Q e_
inductive iw(K:W.Frag)(Y:AD)(vs:List V)(H:Hp)(Q:VK)(e_:XK):Prop
 |mk (a:Addr)(xs:List V)(ps:List (Int×Int))(n:Int)(_:vs=[.ref a,.int n])(_:SqL K H a xs)(_:PL H xs ps)(_:Q (.bl (inP ps n)) H):iw K Y vs H Q e_
inductive jt(K:W.Frag)(Y:AD)(vs:List V)(H:Hp)(Q:VK)(e_:XK):Prop
 |mk (c r:Addr)(wy:Str)(i:Nat)(ns:List Int)(p:PD)(_:vs=[.str wy,.ref c,.ref r])(_:six[i]?=some wy)(_:SqL K H c (ns.map V.int))(_:PDA NT H r p)(_:p.lo<=p.hi)(_:∀(r:Addr)(H':Hp),ao H H'->H' r=some (.tup (tp (ver (wf i p.lo p.hi) ns)))->Q (.ref r) H'):jt K Y vs H Q e_
inductive gx(K:W.Frag)(Y:AD)(vs:List V)(H:Hp)(Q:VK)(e_:XK):Prop
 |mk (r:Addr)(cell:Int)(zs:List Str)(ds:List PD)(ts:List PT)(fN:Nat)(_:vs=[.ref r,.int cell])(_:PlA H r zs ds ts)(_:eY zs ds ts fN)(_:(∀t∈ts,t.rows.length<=32))(_:ts.length<=4)(_:∀(l:Addr)(cd:List Int)(H':Hp),ao H H'->H l=none->H' l=some (.lst (cd.map V.int))->cd.length=fN->(∀(f:Nat)(p:PD),f<fN->ds[f]?=some p->p.lo<=cd.getD f 0/\cd.getD f 0<=p.hi)->Q (.ref l) H'):gx K Y vs H Q e_
inductive gy(K:W.Frag)(Y:AD)(vs:List V)(H:Hp)(Q:VK)(e_:XK):Prop
 |mk (r:Addr)(p:PD)(c:Int)(_:vs=[.ref r,.int c])(_:PDA NT H r p)(_:oZ p)(_:p.lo<=c)(_:c<=p.hi)(_:Q (wvP p c) H):gy K Y vs H Q e_
inductive cJ(K:W.Frag)(Y:AD)(vs:List V)(H:Hp)(Q:VK)(e_:XK):Prop
 |mk (x dx:Addr)(z:Str)(_:vs=[.ref x,.str z])(_:H x=some (.ins Y.d dx []))(_:Q .non (upd H x (.ins Y.d dx [("called",.str z)]))):cJ K Y vs H Q e_
inductive cS(K:W.Frag)(Y:AD)(vs:List V)(H:Hp)(Q:VK)(e_:XK):Prop
 |mk (x dx:Addr)(z:Str)(_:vs=[.ref x,.str z])(_:H x=some (.ins Y.e dx []))(_:Q .non (upd H x (.ins Y.e dx [("called",.str z)]))):cS K Y vs H Q e_
inductive cU(K:W.Frag)(Y:AD)(vs:List V)(H:Hp)(Q:VK)(e_:XK):Prop
 |mk (x dx:Addr)(z:Str)(_:vs=[.ref x,.str z])(_:H x=some (.ins Y.f dx []))(_:Q .non (upd H x (.ins Y.f dx [("called",.str z)]))):cU K Y vs H Q e_
inductive dk(K:W.Frag)(Y:AD)(vs:List V)(H:Hp)(Q:VK)(e_:XK):Prop
 |mk (x dx:Addr)(z:Str)(_:vs=[.ref x,.str z])(_:H x=some (.ins Y.g dx []))(_:Q .non (upd H x (.ins Y.g dx [("called",.str z)]))):dk K Y vs H Q e_
inductive cV(K:W.Frag)(Y:AD)(vs:List V)(H:Hp)(Q:VK)(e_:XK):Prop
 |mk (x dx:Addr)(z:Str)(_:vs=[.ref x,.str z])(_:H x=some (.ins Y.h dx []))(_:Q .non (upd H x (.ins Y.h dx [("called",.str z)]))):cV K Y vs H Q e_
inductive dn(K:W.Frag)(Y:AD)(vs:List V)(H:Hp)(Q:VK)(e_:XK):Prop
 |mk (x dx:Addr)(z:Str)(_:vs=[.ref x,.str z])(_:H x=some (.ins Y.i dx []))(_:Q .non (upd H x (.ins Y.i dx [("called",.str z)]))):dn K Y vs H Q e_
inductive bU(K:W.Frag)(Y:AD)(vs:List V)(H:Hp)(Q:VK)(e_:XK):Prop
 |mk (x dx:Addr)(lo hi:Int)(_:vs=[.ref x,.int lo,.int hi])(_:H x=some (.ins Y.k dx []))(_:Q .non (mkd Y.k H x dx lo hi)):bU K Y vs H Q e_
inductive b7(K:W.Frag)(Y:AD)(vs:List V)(H:Hp)(Q:VK)(e_:XK):Prop
 |mk (x dx:Addr)(lo hi:Int)(_:vs=[.ref x,.int lo,.int hi])(_:H x=some (.ins Y.l dx []))(_:Q .non (mkd Y.l H x dx lo hi)):b7 K Y vs H Q e_
inductive bM(K:W.Frag)(Y:AD)(vs:List V)(H:Hp)(Q:VK)(e_:XK):Prop
 |mk (a:Addr)(v:V)(_:vs=[.ref a,v])(_:Q v H):bM K Y vs H Q e_
inductive bW(K:W.Frag)(Y:AD)(vs:List V)(H:Hp)(Q:VK)(e_:XK):Prop
 |mk (a:Addr)(zs:List Str)(z:Str)(j:Nat)(_:vs=[.ref a,.str z])(_:rZ Y.l H a zs)(_:zs.Nodup)(_:zs[j]?=some z)(_:Q (.int (j:Int)) H):bW K Y vs H Q e_
inductive cX(K:W.Frag)(Y:AD)(vs:List V)(H:Hp)(Q:VK)(e_:XK):Prop
 |mk (a:Addr)(zs:List Str)(z:Str)(_:vs=[.ref a,.str z])(_:rZ Y.l H a zs)(_:z∈zs)(_:Q (.bl true) H):cX K Y vs H Q e_
def J1(K:W.Frag)(Y:AD):Sp:=uT K Y.d Y.k Y.l 0
def J9(K:W.Frag)(Y:AD):Sp:=uT K Y.e Y.k Y.l 1
def J5(K:W.Frag)(Y:AD):Sp:=uT K Y.f Y.k Y.l 2
def J7(K:W.Frag)(Y:AD):Sp:=uT K Y.g Y.k Y.l 3
def J3(K:W.Frag)(Y:AD):Sp:=uT K Y.h Y.k Y.l 4
def J11(K:W.Frag)(Y:AD):Sp:=uT K Y.i Y.k Y.l 5
inductive fe(K:W.Frag)(Y:AD)(vs:List V)(H:Hp)(Q:VK)(e_:XK):Prop
 |mk (z:Str)(_:vs=[.str z])(_:z.length<=1000)(_:Q (.bl (isw z)) H):fe K Y vs H Q e_
inductive dQ(K:W.Frag)(Y:AD)(vs:List V)(H:Hp)(Q:VK)(e_:XK):Prop
 |mk (fa ma:Addr)(fv mv:List V)(zs:List Str)(ds:List PD)(ts:List PT)(fN:Nat)(L:List Nat)(_:vs=[.ref fa,.ref ma])(_:H fa=some (.lst fv))(_:H ma=some (.lst mv))(_:BkI Y.m Y.k Y.l H zs ds ts fN fv mv L)(_:∀H',ao H H'->Q .non H'):dQ K Y vs H Q e_
inductive eE(K:W.Frag)(Y:AD)(vs:List V)(H:Hp)(Q:VK)(e_:XK):Prop
 |mk (ma:Addr)(mv:List V)(zs:List Str)(ds:List PD)(ts:List PT)(fN:Nat)(L:List Nat)(_:vs=[.ref ma])(_:H ma=some (.lst mv))(_:eY zs ds ts fN)(_:az mv L (TbA Y.m Y.k Y.l H zs ds ts fN))(_:(∀k∈L,k<ts.length))(_:L.length<=7)(_:∀H',ao H H'->Q .non H'):eE K Y vs H Q e_
inductive pe(K:W.Frag)(Y:AD)(vs:List V)(H:Hp)(Q:VK)(E:XK):Prop
 |mk (b:Addr)(nm:Str)(zs:List Str)(ds:List PD)(ts:List PT)(fN:Nat)(mv:List V)(L:List Nat)(_:vs=[.ref b,.str nm])(_:BkT Y.m Y.k Y.l Y.n H b zs ds ts fN mv L)(_:SmB nm)(_:(∀(k:Nat)(t:PT)(l:Addr)(H':Hp),k∈L->tnm zs fN k=nm->ts[k]?=some t->ao H H'->H l=none->H' l=some (.lst (((prm t.cols zs).filter λz=>(L.map (tnm zs fN)).contains z).map V.str))->Q (.ref l) H'))(_:((∀k∈L,tnm zs fN k≠nm)->E (.ref Y.b) none H)):pe K Y vs H Q E
inductive ph(K:W.Frag)(Y:AD)(vs:List V)(H:Hp)(Q:VK)(e_:XK):Prop
 |mk (t rl c dx:Addr)(fs:List (Str×V))(xs:List V)(rws:List Rw)(k:Nat)(w:Rw)(cs:List Int)(_:vs=[.ref t,.int k,.ref c])(_:H t=some (.ins Y.m dx fs))(_:fs.lookup (Str.ofString "rows")=some (.ref rl)) (_:H rl=some (.lst xs))(_:RL NT H xs rws)(_:rws[k]?=some w)(_:SqL K H c (cs.map V.int))(_:w.1.length=cs.length)(_:∀H',ao H H'->Q (.bl (m7 w.1 cs)) H'):ph K Y vs H Q e_
inductive fL(K:W.Frag)(Y:AD)(vs:List V)(H:Hp)(Q:VK)(e_:XK):Prop
 |mk (c:Int)(_:vs=[.int c])(_:∀(r:Addr)(p:PD)(H':Hp),ao H H'->PDA (λa=>H a=none) H' r p->oZ p->Q (.ref r) H'):fL K Y vs H Q e_
inductive ju(K:W.Frag)(Y:AD)(vs:List V)(H:Hp)(Q:VK)(e_:XK):Prop
 |mk (cl dl pl:Addr)(ow:Nat)(n:Int)(cols:List Nat)(dv pvs:List V)(ds:List PD)(_:vs=[.ref cl,.ref dl,.ref pl,.int (ow:Int),.int n])(_:H cl=some (.lst (vN cols)))(_:H dl=some (.lst dv))(_:az dv ds (PDA NT H))(_:H pl=some (.lst pvs))(_:az pvs ds (PoB NT H))(_:(∀k∈cols,k<ds.length))(_:ow<ds.length)(_:cols.length<=10)(_:∀(r:Addr)(w:Rw)(H':Hp),ao H H'->fY (λa=>H a=none) H' r w->o6 ds cols ow w->Q (.ref r) H'):ju K Y vs H Q e_
def J0(K:W.Frag)(Y:AD):Sp:=uS Y.d (Str.ofString "first")
def J8(K:W.Frag)(Y:AD):Sp:=uS Y.e (Str.ofString "only")
def J4(K:W.Frag)(Y:AD):Sp:=uS Y.f (Str.ofString "like")
def J6(K:W.Frag)(Y:AD):Sp:=uS Y.g (Str.ofString "low")
def J2(K:W.Frag)(Y:AD):Sp:=uS Y.h (Str.ofString "high")
def J10(K:W.Frag)(Y:AD):Sp:=uS Y.i (Str.ofString "sum")
inductive bB(K:W.Frag)(Y:AD)(vs:List V)(H:Hp)(Q:VK)(e_:XK):Prop
 |mk (a:Addr)(b:Int×Int)(i:Int)(_:vs=[.ref a,.int i])(_:zy Y.k H a b.1 b.2)(_:b.1<=i)(_:i<=b.2)(_:Q (.bl true) H):bB K Y vs H Q e_
inductive b8(K:W.Frag)(Y:AD)(vs:List V)(H:Hp)(Q:VK)(e_:XK):Prop
 |mk (a:Addr)(b:Int×Int)(i:Int)(_:vs=[.ref a,.int i])(_:zy Y.l H a b.1 b.2)(_:b.1<=i)(_:i<=b.2)(_:Q (.bl true) H):b8 K Y vs H Q e_
inductive bO(K:W.Frag)(Y:AD)(vs:List V)(H:Hp)(Q:VK)(e_:XK):Prop
 |mk (x dx:Addr)(lo hi:Int)(_:vs=[.ref x,.int lo,.int hi])(_:H x=some (.ins Y.k dx []))(_:lo<=hi)(_:Q .non (mkd Y.k H x dx lo hi)):bO K Y vs H Q e_
inductive cY(K:W.Frag)(Y:AD)(vs:List V)(H:Hp)(Q:VK)(e_:XK):Prop
 |mk (a:Addr)(zs:List Str)(z:Str)(j:Nat)(_:vs=[.ref a,.str z])(_:rZ Y.l H a zs)(_:zs.Nodup)(_:zs[j]?=some z)(_:Q (.int (j:Int)) H):cY K Y vs H Q e_
def J12(K:W.Frag)(Y:AD):Sp:=j5 K Y.d Y.k Y.l 0
def J16(K:W.Frag)(Y:AD):Sp:=j5 K Y.e Y.k Y.l 1
def J14(K:W.Frag)(Y:AD):Sp:=j5 K Y.f Y.k Y.l 2
def J15(K:W.Frag)(Y:AD):Sp:=j5 K Y.g Y.k Y.l 3
def J13(K:W.Frag)(Y:AD):Sp:=j5 K Y.h Y.k Y.l 4
def J17(K:W.Frag)(Y:AD):Sp:=j5 K Y.i Y.k Y.l 5
inductive cK(K:W.Frag)(Y:AD)(vs:List V)(H:Hp)(Q:VK)(e_:XK):Prop
 |mk (fa ma:Addr)(fv mv:List V)(zs:List Str)(ds:List PD)(ts:List PT)(fN:Nat)(L:List Nat)(_:vs=[.ref fa,.ref ma])(_:H fa=some (.lst fv))(_:H ma=some (.lst mv))(_:BkI Y.m Y.k Y.l H zs ds ts fN fv mv L)(_:∀H',ao H H'->Q .non H'):cK K Y vs H Q e_
inductive cE(K:W.Frag)(Y:AD)(vs:List V)(H:Hp)(Q:VK)(e_:XK):Prop
 |mk (p:Addr)(zs:List Str)(_:vs=[.ref p])(_:SqL K H p (zs.map V.str))(_:(∀z∈zs,isw z=true))(_:zs.Nodup)(_:zs.length<=100)(_:∀H',ao H H'->Q .non H'):cE K Y vs H Q e_
inductive fM(K:W.Frag)(Y:AD)(vs:List V)(H:Hp)(Q:VK)(e_:XK):Prop
 |mk (dl ou cl:Addr)(dv xs:List V)(bs:Prs)(o:Int×Int)(w:Rw)(_:vs=[.ref dl,.ref ou,.ref cl,.int w.2])(_:SqL K H dl dv)(_:az dv bs (Dom Y.k Y.l H))(_:Dom Y.k Y.l H ou o)(_:H cl=some (.lst xs))(_:CL NT H xs w.1)(_:tM bs o w)(_:∀H',ao H H'->Q .non H'):fM K Y vs H Q e_
inductive pj(K:W.Frag)(Y:AD)(vs:List V)(H:Hp)(Q:VK)(e_:XK):Prop
 |mk (t c:Addr)(rws:List Rw)(i:Nat)(o:Int×Int)(cs:List Int)(_:vs=[.ref t,.ref c])(_:Tbl Y.m Y.k Y.l H t rws i o)(_:SqL K H c (cs.map V.int))(_:(∀w∈rws,w.1.length=cs.length))(_:∀H',ao H H'->Q (.int ((msk (eW rws cs) rws.length:Nat):Int)) H'):pj K Y vs H Q e_
inductive iy(K:W.Frag)(Y:AD)(vs:List V)(H:Hp)(Q:VK)(e_:XK):Prop
 |mk (a:Addr)(ns:List Int)(_:vs=[.ref a])(_:SqL K H a (ns.map V.int))(_:ns.length<=63)(_:∀(r:Addr)(zs:List Str)(ds:List PD)(ts:List PT)(fN:Nat)(H':Hp),ao H H'->PlA H' r zs ds ts->eY zs ds ts fN->(∀p∈ds,p.pool.length<=3)->(∀t∈ts,t.rows.length<=32)->ts.length<=4->1<=fN->(∀z∈zs,∀y∈zs,z.length=y.length)->(∀z∈zs,SmB z)->Q (.ref r) H'):iy K Y vs H Q e_
inductive cn(K:W.Frag)(Y:AD)(vs:List V)(H:Hp)(Q:VK)(e_:XK):Prop
 |mk (x dx p:Addr)(zs:List Str)(_:vs=[.ref x,.ref p])(_:H x=some (.ins Y.l dx []))(_:H p=some (.lst (zs.map V.str)))(_:Good zs)(_:∀(H':Hp)(l:Addr),(∀b o,b≠x->H b=some o->H' b=some o)->H' x=some (.ins Y.l dx [("low",.int 0),("high",.int (hiW zs)),("words",.ref l)])->H' l=some (.lst (zs.map V.str))->H l=none->Q .non H'):cn K Y vs H Q e_
inductive b9(K:W.Frag)(Y:AD)(vs:List V)(H:Hp)(Q:VK)(e_:XK):Prop
 |mk (a:Addr)(lo hi i:Int)(_:vs=[.ref a,.int i])(_:oW Y.k H a lo hi)(_:lo<=i)(_:i<=hi)(_:Q (.bl true) H):b9 K Y vs H Q e_
inductive iO(K:W.Frag)(Y:AD)(vs:List V)(H:Hp)(Q:VK)(e_:XK):Prop
 |mk (z:Str)(_:vs=[.str z])(_:z∈six)(_:(∀i:Nat,six[i]?=some z->∀(x C:Addr)(H':Hp),ao H H'->(cl6 Y.d Y.e Y.f Y.g Y.h Y.i)[i]?=some C->WyN C H' x z->Q (.ref x) H')):iO K Y vs H Q e_
inductive cL(K:W.Frag)(Y:AD)(vs:List V)(H:Hp)(Q:VK)(e_:XK):Prop
 |mk (x dx fa ma:Addr)(fv mv:List V)(zs:List Str)(ds:List PD)(ts:List PT)(fN:Nat)(L:List Nat)(P:Nat->Addr->Prop)(_:vs=[.ref x,.ref fa,.ref ma])(_:H x=some (.ins Y.n dx []))(_:H fa=some (.lst fv))(_:H ma=some (.lst mv))(_:BkI Y.m Y.k Y.l H zs ds ts fN fv mv L)(_:az fv (List.range fN) (FcT P H zs))(_:∀(H':Hp)(fs:List (Str×V))(ta fb:Addr)(gv:List V),(∀b o,b≠x->H b=some o->H' b=some o)->H' x=some (.ins Y.n dx fs)->fs.lookup (Str.ofString "tables")=some (.ref ta)->H' ta=some (.lst mv)->fs.lookup (Str.ofString "facts")=some (.ref fb)->H' fb=some (.lst gv)->az gv (List.range fN) (FcT P H' zs)->Q .non H'):cL K Y vs H Q e_
inductive cF(K:W.Frag)(Y:AD)(vs:List V)(H:Hp)(Q:VK)(e_:XK):Prop
 |mk (a:Addr)(lo hi i:Int)(_:vs=[.ref a,.int i])(_:oW Y.k H a lo hi)(_:lo<=i)(_:i<=hi)(_:Q (.int i) H):cF K Y vs H Q e_
inductive fO(K:W.Frag)(Y:AD)(vs:List V)(H:Hp)(Q:VK)(e_:XK):Prop
 |mk (z:Str)(ou:Addr)(_:vs=[.str z,.ref ou])(_:z∈six)(_:(z=Str.ofString "sum" -> ∃dx fs,H ou=some (.ins Y.k dx fs))) (_:∀H',ao H H'->Q .non H'):fO K Y vs H Q e_
inductive kK(K:W.Frag)(Y:AD)(vs:List V)(H:Hp)(Q:VK)(e_:XK):Prop
 |mk (t:Addr)(rws:List Rw)(i:Nat)(o:Int×Int)(m:Int)(_:vs=[.ref t,.int m])(_:Tbl Y.m Y.k Y.l H t rws i o)(_:∀(r:Addr)(H':Hp),ao H H'->SqT K H' r (tp (ver (wf i o.1 o.2) (pkF rws (ip m) rws.length)))->Q (.ref r) H'):kK K Y vs H Q e_
inductive fD(K:W.Frag)(Y:AD)(vs:List V)(H:Hp)(Q:VK)(e_:XK):Prop
 |mk (r:Addr)(p:PD)(_:vs=[.ref r])(_:PDA NT H r p)(_:oZ p)(_:∀(a:Addr)(H':Hp),ao H H'->gO (λx=>H x=none) Y.k Y.l H' a p.k->Q (.ref a) H'):fD K Y vs H Q e_
inductive fg(K:W.Frag)(Y:AD)(vs:List V)(H:Hp)(Q:VK)(e_:XK):Prop
 |mk (a l:Addr)(k:Nat)(zs:List Str)(ds:List PD)(ts:List PT)(fN:Nat)(xs:List V)(cvs:List SI)(t:PT)(p:PD)(nm:Str)(_:vs=[.ref a,.ref l])(_:TbA Y.m Y.k Y.l H zs ds ts fN a k)(_:ts[k]?=some t)(_:zs[fN+k]?=some nm)(_:ds[fN+k]?=some p)(_:Bb fN ds k t)(_:oZ p)(_:SqL K H l xs)(_:az xs cvs (λr v=>SqT K H r (tp v)))(_:cvs.length=t.cols.length)(_:∀(r:Addr)(H':Hp),ao H H'->StA (λx=>H x=none) K H' r nm t p cvs->Q (.ref r) H'):fg K Y vs H Q e_
inductive gA(K:W.Frag)(Y:AD)(vs:List V)(H:Hp)(Q:VK)(e_:XK):Prop
 |mk (r:Addr)(zs:List Str)(ds:List PD)(ts:List PT)(fN:Nat)(_:vs=[.ref r])(_:PlA H r zs ds ts)(_:eY zs ds ts fN)(_:∀(l:Addr)(fv:List V)(H':Hp),ao H H'->H' l=some (.lst fv)->az fv (List.range fN) (FcA Y.k Y.l H' zs ds)->Q (.ref l) H'):gA K Y vs H Q e_
inductive cq(K:W.Frag)(Y:AD)(vs:List V)(H:Hp)(Q:VK)(e_:XK):Prop
 |mk (x dx na dl ou rl:Addr)(nm wy:Str)(zs:List Str)(dv rx:List V)(bs:Prs)(o:Int×Int)(rws:List Rw)(_:vs=[.ref x,.str nm,.ref na,.ref dl,.ref ou,.str wy,.ref rl])(_:H x=some (.ins Y.m dx []))(_:H na=some (.lst (zs.map V.str)))(_:(∀z∈nm :: zs,isw z=true))(_:(nm :: zs).Nodup)(_:1<=zs.length)(_:zs.length<=4)(_:wy∈six)(_:(wy=Str.ofString "sum" -> ∃dx fs,H ou=some (.ins Y.k dx fs))) (_:H dl=some (.lst dv))(_:az dv bs (Dom Y.k Y.l H))(_:Dom Y.k Y.l H ou o)(_:H rl=some (.lst rx))(_:RL NT H rx rws)(_:rx.length<=200)(_:bs.length<=4)(_:(∀w∈rws,tM bs o w))(_:∀(H':Hp)(fs:List (Str×V))(rl':Addr)(xs':List V),(∀b o,b≠x->H b=some o->H' b=some o)->H' x=some (.ins Y.m dx fs)->fs.lookup (Str.ofString "rows")=some (.ref rl')->fs.lookup (Str.ofString "way")=some (.str wy)->fs.lookup (Str.ofString "outcome")=some (.ref ou)->fs.lookup (Str.ofString "name")=some (.str nm)->(∃na' dl':Addr,H na'=none/\H dl'=none/\fs.lookup (Str.ofString "names")=some (.ref na')/\fs.lookup (Str.ofString "domains")=some (.ref dl')/\H' na'=some (.lst (zs.map V.str))/\H' dl'=some (.lst dv))->H rl'=none->H' rl'=some (.lst xs')->RL (λa=>H a=none) H' xs' rws->Q .non H'):cq K Y vs H Q e_
inductive kc(K:W.Frag)(Y:AD)(vs:List V)(H:Hp)(Q:VK)(e_:XK):Prop
 |mk (tl d:Addr)(tv:List V)(zs:List Str)(ds:List PD)(ts:List PT)(fN:Nat)(cd:List Int)(od:List Nat)(kvs:List (Str×V))(_:vs=[.ref tl,.ref d])(_:H d=some (.dK (kvT kvs)))(_:hide H d tl=some (.lst tv))(_:az tv od (TbA Y.m Y.k Y.l (hide H d) zs ds ts fN))(_:eY zs ds ts fN)(_:Tld ts.length od)(_:Bef (akT ts fN) od)(_:kvs.length<=7)(_:(kvs.map (·.1)).Nodup)(_:FCd zs fN cd kvs)(_:(∀j∈od,∀t:PT,ts[j]?=some t->∀c∈t.cols,c<fN->∀z:Str,zs[c]?=some z->z∈kvs.map (·.1)))(_:∀(l:Addr)(xs:List V)(H':Hp),ao (hide H d) H'->H' l=some (.lst xs)->az xs od (StK NT K H' zs ds ts fN cd)->Q (.ref l) H'):kc K Y vs H Q e_
inductive eG(K:W.Frag)(Y:AD)(vs:List V)(H:Hp)(Q:VK)(e_:XK):Prop
 |mk (tl_ fa ca:Addr)(tv:List V)(zs:List Str)(ds:List PD)(ts:List PT)(fN k:Nat)(cd:List Int)(js:List Nat)(_:vs=[.ref tl_,.ref fa,.ref ca])(_:H tl_=some (.lst tv))(_:az tv (odr (akT ts fN) k []) (TbA Y.m Y.k Y.l H zs ds ts fN))(_:eY zs ds ts fN)(_:k<ts.length)(_:H fa=some (.lst (((zs.take fN).filter (cy ts zs fN k)).map V.str)))(_:H ca=some (.lst ((js.map λf=>cd.getD f 0).map V.int)))(_:js.Pairwise (· < ·))(_:(∀f,f∈js↔FN ts fN (fN+k) f))(_:∀(d:Addr)(H':Hp),ao H H'->SqT K H' d (tp (vd ts ds fN cd k))->Q (.ref d) H'):eG K Y vs H Q e_
inductive gB(K:W.Frag)(Y:AD)(vs:List V)(H:Hp)(Q:VK)(e_:XK):Prop
 |mk (r:Addr)(k:Nat)(zs:List Str)(ds:List PD)(ts:List PT)(fN:Nat)(t:PT)(nm:Str)(po:PD)(_:vs=[.ref r,.int (k:Int)])(_:PlA H r zs ds ts)(_:eY zs ds ts fN)(_:ts[k]?=some t)(_:zs[fN+k]?=some nm)(_:ds[fN+k]?=some po)(_:∀(x:Addr)(H':Hp),ao H H'->TbN (λa=>H a=none) Y.m Y.k Y.l H' zs ds ts fN x k->Q (.ref x) H'):gB K Y vs H Q e_
inductive dR(K:W.Frag)(Y:AD)(n:Nat)(vs:List V)(H:Hp)(Q:VK)(e_:XK):Prop
 |mk (r:Addr)(k:Nat)(zs:List Str)(ds:List PD)(ts:List PT)(fN:Nat)(_:vs=[.ref r,.int (k:Int)])(_:PlA H r zs ds ts)(_:eY zs ds ts fN)(_:k<zs.length)(_:k+1<=n)(_:∀(l:Addr)(js:List Nat)(H':Hp),ao H H'->H l=none->H' l=some (.lst (vN js))->js.Pairwise (· < ·)->(∀f,f∈js↔FN ts fN k f)->Q (.ref l) H'):dR K Y n vs H Q e_
theorem pq{K:W.Frag}{Y:AD}{vs:List V}{H:Hp}{Q:VK}{E:XK}(h:dR K Y 0 vs H Q E):False:=by
 obtain⟨r,k,zs,ds,ts,fN,rfl,hPl,ok,hk,hn,q⟩:=h;lia
inductive dS(K:W.Frag)(Y:AD)(n:Nat)(vs:List V)(H:Hp)(Q:VK)(e_:XK):Prop
 |mk (r ca:Addr)(j:Nat)(zs:List Str)(ds:List PD)(ts:List PT)(fN:Nat)(cd:List Int)(_:vs=[.ref r,.int ((fN+j:Nat):Int),.ref ca])(_:PlA H r zs ds ts)(_:eY zs ds ts fN)(_:j<ts.length)(_:j+1<=n)(_:H ca=some (.lst (cd.map V.int)))(_:cd.length=fN)(_:∀(l d:Addr)(v0 v1:V)(H':Hp),ao H H'->H' l=some (.tup [v0,v1,.ref d])->H' d=some (.tup (tp (vd ts ds fN cd j)))->Q (.ref l) H'):dS K Y n vs H Q e_
theorem pA{K:W.Frag}{Y:AD}{vs:List V}{H:Hp}{Q:VK}{E:XK}(h:dS K Y 0 vs H Q E):False:=by
 obtain⟨r,ca,j,zs,ds,ts,fN,cd,rfl,hPl,ok,hj,hn,hca,hcd,q⟩:=h;lia
inductive dz(K:W.Frag)(Y:AD)(n:Nat)(vs:List V)(H:Hp)(Q:VK)(E:XK):Prop
 |mk (b o:Addr)(nm:Str)(zs:List Str)(ds:List PD)(ts:List PT)(fN:Nat)(mv:List V)(L:List Nat)(told:List Nat)(k:Nat)(_:vs=[.ref b,.str nm,.ref o])(_:BkT Y.m Y.k Y.l Y.n (hide H o) b zs ds ts fN mv L)(_:(∀k,k<ts.length->k∈L))(_:H o=some (.lst ((told.map (tnm zs fN)).map V.str)))(_:Tld ts.length told)(_:SmB nm)(_:(∀z∈zs,SmB z))(_:k+1<=n)(_:((k<ts.length/\tnm zs fN k=nm/\k ∉ told/\∀H',ao (hide H o) (hide H' o)->H' o=some (.lst (((odr (akT ts fN) k told).map (tnm zs fN)).map V.str))->Q .non H')\/((∀k∈L,tnm zs fN k≠nm)/\E (.ref Y.b) none H))):dz K Y n vs H Q E
theorem m8{K:W.Frag}{Y:AD}{vs:List V}{H:Hp}{Q:VK}{E:XK}(h:dz K Y 0 vs H Q E):False:=by
 obtain⟨b,o,nm,zs,ds,ts,fN,mv,L,told,k,rfl,hB,cI,ho,htd,hs,hsz,hn,hq⟩:=h;lia
inductive iz(K:W.Frag)(Y:AD)(vs:List V)(H:Hp)(Q:VK)(E:XK):Prop
 |mk (b:Addr)(nm:Str)(zs:List Str)(ds:List PD)(ts:List PT)(fN:Nat)(mv:List V)(L:List Nat)(k:Nat)(_:vs=[.ref b,.str nm])(_:BkT Y.m Y.k Y.l Y.n H b zs ds ts fN mv L)(_:(∀k,k<ts.length->k∈L))(_:SmB nm)(_:(∀z∈zs,SmB z))(_:k<=12)(_:((k<ts.length/\tnm zs fN k=nm/\∀(l:Addr)(H':Hp),ao H H'->H l=none->H' l=some (.lst (((odr (akT ts fN) k []).map (tnm zs fN)).map V.str))->Q (.ref l) H')\/((∀k∈L,tnm zs fN k≠nm)/\∀H',ao H H'->E (.ref Y.b) none H'))):iz K Y vs H Q E
inductive dB(K:W.Frag)(Y:AD)(vs:List V)(H:Hp)(Q:VK)(E:XK):Prop
 |mk (b:Addr)(nm:Str)(zs:List Str)(ds:List PD)(ts:List PT)(fN:Nat)(mv:List V)(L:List Nat)(k:Nat)(_:vs=[.ref b,.str nm])(_:BkT Y.m Y.k Y.l Y.n H b zs ds ts fN mv L)(_:(∀k,k<ts.length->k∈L))(_:SmB nm)(_:(∀z∈zs,SmB z))(_:k<=12)(_:((k<ts.length/\tnm zs fN k=nm/\∀(l:Addr)(xs:List V)(H':Hp),ao H H'->H l=none->H' l=some (.lst xs)->az xs (odr (akT ts fN) k []) (λr j=>∃i:Nat,mv[i]?=some (.ref r)/\L[i]?=some j)->Q (.ref l) H')\/((∀k∈L,tnm zs fN k≠nm)/\∀H',ao H H'->E (.ref Y.b) none H'))):dB K Y vs H Q E
inductive kf(K:W.Frag)(Y:AD)(vs:List V)(H:Hp)(Q:VK)(E:XK):Prop
 |mk (b:Addr)(nm:Str)(zs:List Str)(ds:List PD)(ts:List PT)(fN:Nat)(mv:List V)(L:List Nat)(k:Nat)(_:vs=[.ref b,.str nm])(_:BkT Y.m Y.k Y.l Y.n H b zs ds ts fN mv L)(_:(∀k,k<ts.length->k∈L))(_:SmB nm)(_:(∀z∈zs,SmB z))(_:k<=12)(_:((k<ts.length/\tnm zs fN k=nm/\∀(l:Addr)(H':Hp),ao H H'->H l=none->H' l=some (.lst (((zs.take fN).filter (cy ts zs fN k)).map V.str))->Q (.ref l) H')\/((∀k∈L,tnm zs fN k≠nm)/\∀H',ao H H'->E (.ref Y.b) none H'))):kf K Y vs H Q E
inductive fP(K:W.Frag)(Y:AD)(vs:List V)(H:Hp)(Q:VK)(e_:XK):Prop
 |mk (b fd:Addr)(nm:Str)(zs:List Str)(ds:List PD)(ts:List PT)(fN:Nat)(mv:List V)(L:List Nat)(k:Nat)(fk:List (Key×V))(cd:List Int)(_:vs=[.ref b,.str nm,.ref fd])(_:BkT Y.m Y.k Y.l Y.n H b zs ds ts fN mv L)(_:(∀k,k<ts.length->k∈L))(_:SmB nm)(_:(∀z∈zs,SmB z))(_:k<=12)(_:k<ts.length)(_:tnm zs fN k=nm)(_:H fd=some (.dK fk))(_:FaD zs ds fN cd fk)(_:∀(d:Addr)(kvs:List (Str×V))(H':Hp),ao H H'->H d=none->H' d=some (.dK (kvT kvs))->kvs.map (·.1)=(zs.take fN).filter (cy ts zs fN k)->FCd zs fN cd kvs->Q (.ref d) H'):fP K Y vs H Q e_
inductive gC(K:W.Frag)(Y:AD)(vs:List V)(H:Hp)(Q:VK)(e_:XK):Prop
 |mk (b ca:Addr)(nm:Str)(zs:List Str)(ds:List PD)(ts:List PT)(fN:Nat)(mv:List V)(L:List Nat)(k:Nat)(cd:List Int)(js:List Nat)(_:vs=[.ref b,.str nm,.ref ca])(_:BkT Y.m Y.k Y.l Y.n H b zs ds ts fN mv L)(_:(∀k,k<ts.length->k∈L))(_:SmB nm)(_:(∀z∈zs,SmB z))(_:k<=12)(_:k<ts.length)(_:tnm zs fN k=nm)(_:H ca=some (.lst ((js.map λf=>cd.getD f 0).map V.int)))(_:js.Pairwise (· < ·))(_:(∀f,f∈js↔FN ts fN (fN+k) f))(_:∀(d:Addr)(H':Hp),ao H H'->SqT K H' d (tp (vd ts ds fN cd k))->Q (.ref d) H'):gC K Y vs H Q e_
inductive mM(K:W.Frag)(Y:AD)(vs:List V)(H:Hp)(Q:VK)(e_:XK):Prop
 |mk (b fd:Addr)(nm:Str)(zs:List Str)(ds:List PD)(ts:List PT)(fN:Nat)(mv:List V)(L:List Nat)(k:Nat)(fk:List (Key×V))(cd:List Int)(_:vs=[.ref b,.str nm,.ref fd])(_:BkT Y.m Y.k Y.l Y.n H b zs ds ts fN mv L)(_:(∀k,k<ts.length->k∈L))(_:SmB nm)(_:(∀z∈zs,SmB z))(_:k<=12)(_:k<ts.length)(_:tnm zs fN k=nm)(_:H fd=some (.dK fk))(_:FaD zs ds fN cd fk)(_:∀(l:Addr)(xs:List V)(H':Hp),ao H H'->H' l=some (.lst xs)->az xs (odr (akT ts fN) k []) (StK NT K H' zs ds ts fN cd)->Q (.ref l) H'):mM K Y vs H Q e_
inductive sy(K:W.Frag)(Y:AD)(vs:List V)(H:Hp)(Q:VK)(e_:XK):Prop
 |mk (b fd:Addr)(nm:Str)(zs:List Str)(ds:List PD)(ts:List PT)(fN:Nat)(mv:List V)(L:List Nat)(k:Nat)(fk:List (Key×V))(cd:List Int)(_:vs=[.ref b,.str nm,.ref fd])(_:BkT Y.m Y.k Y.l Y.n H b zs ds ts fN mv L)(_:(∀k,k<ts.length->k∈L))(_:SmB nm)(_:(∀z∈zs,SmB z))(_:k<=12)(_:k<ts.length)(_:tnm zs fN k=nm)(_:H fd=some (.dK fk))(_:FaD zs ds fN cd fk)(_:∀(d:Addr)(H':Hp),ao H H'->SqT K H' d (tp (vd ts ds fN cd k))->Q (.ref d) H'):sy K Y vs H Q e_
def J18(K:W.Frag):Sp:=λvs H Q _=>∃(a:Addr)(ns:List Int),vs=[.ref a]/\SqL K H a (ns.map V.int)/\ns.length<=63/\∀H',Q (.bl true) H'
section
variable{P:Program}{w:World}{K:W.Frag}{mg:Str->Option Value}{base:Heap}{f:Addr}{fd:FuncData}{Y:AD}
theorem Cv(F:Fun K "all_among" "all_among" Y39 f fd) (bl:Bl K mg Y)  : aN P w K mg base CX0 1 f fd ["text","signs"] (gu K Y):=by
 refine F.okA Z39 λcdv A outer s H vs Q E hr h=>?_
 obtain⟨z,g,rfl,q⟩:=h
 refine⟨_,(ay (bf PassesOwn.never U (zc (pv 0)) (aD (i:=2) Z39.nd U (Or.inl U))
  (ag (aQ (aI oB (pv 2) (pv 1) (by with_unfolding_all rfl))
  (ag (aG fT))
  aH)))
  (ag (aG fT))),?_⟩
 refine⟨_,U,z,U,xl (λi σ H'=>(∃c2:Option V,σ=[some (.str z),some (.str g),c2])/\H'=H/\(z.cps.toList.take i).all (sg g)=true) ⟨⟨_,U⟩,U,U⟩ (λi c σ H' e h=>?_) (λσ H' h=>?_)⟩
 ·obtain⟨⟨c2,rfl⟩,e0,ha⟩:=h;rw[e0];refine⟨_,U,_,U,_,_,U,U,_,U,?_⟩;refine di (λd=>?_) (λd=>?_)
  ·have z2:lW z g=false:=zt e (zw d);rw[z2]at q;exact q
  ·exact⟨⟨_,U⟩,U,all_succ e (A7 d) ha⟩
 ·obtain⟨⟨c2,rfl⟩,e0,ha⟩:=h;rw[e0];rw[wq ha]at q;exact q
theorem Cw(F:Fun K "is_whole" "is_whole" Y46 f fd) (bl:Bl K mg Y)  : aN P w K mg base CX0 1 f fd ["value"] (fB K Y):=by
 refine F.okA Z46 λcdv A outer s H vs Q E hr h=>?_
 obtain⟨i,rfl,q⟩:=h;refine⟨_,(ag (aG (km (au dH U bl.isinstance_ PyProof.Rows.boot_isinstance (aa (pv 0) (aa (oA (v:=.ty "int") U bl.int_ PyProof.Rows.boot_int U) af))) (lI (yE (au dH U bl.isinstance_ PyProof.Rows.boot_isinstance (aa (pv 0) (aa (oA (v:=.ty "bool") U bl.bool_ PyProof.Rows.boot_bool U) af)))))))),?_⟩;exact⟨_,U,_,_,_,_,true,U,.ty _,.inl (.int _),(by first|rfl|with_unfolding_all rfl|decide+kernel),_,U,ee ⟨_,U,_,_,_,_,false,U,.ty _,.inl (.int _),(by first|rfl|with_unfolding_all rfl|decide+kernel),_,U,q⟩⟩
theorem Cy(F:Fun K "alike" "alike" Y38 f fd) (bl:Bl K mg Y)  : aN P w K mg base CX0 1 f fd ["one","other"] (mK K Y):=by
 refine F.okA Z38 λcdv A outer s H vs Q E hr h=>?_
 obtain⟨a,b,k,rfl,ha,hb,q⟩:=h
 refine⟨_,(ay (aQ (PW.pt (gn (dg (au dH U bl.isinstance_ PyProof.Rows.boot_isinstance (aa (pv 0) (aa (cM (v:=.ref Y.k) U bl.Numbers_ U) af)))) (eP (dg (au dH U bl.isinstance_ PyProof.Rows.boot_isinstance (aa (pv 1) (aa (cM (v:=.ref Y.k) U bl.Numbers_ U) af)))))))
  (ag (aG (km (jP cx (aY (pv 0) U) (aY (pv 1) U) (aP _)) (lI (jP cx (aY (pv 0) U) (aY (pv 1) U) (aP _))))))
  aH)
  (ay (aQ (PW.pt (gn (dg (au dH U bl.isinstance_ PyProof.Rows.boot_isinstance (aa (pv 0) (aa (cM (v:=.ref Y.l) U bl.Words_ U) af)))) (eP (dg (au dH U bl.isinstance_ PyProof.Rows.boot_isinstance (aa (pv 1) (aa (cM (v:=.ref Y.l) U bl.Words_ U) af)))))))
  (ag (aG (jP (za hr) (aY (pv 0) U) (aY (pv 1) U) (aP _))))
  aH)
  (ag (aG fT)))),?_⟩
 obtain⟨w,lo,hi⟩:=k;cases w with
 |none =>
  obtain⟨dx,e⟩:=ha;obtain⟨dx2,e2⟩:=hb;refine⟨_,U,_,_,_,_,true,U,.ref _,bl.t_Numbers.ty e,bl.f_nn,_,U,ee ?_⟩;refine⟨_,U,_,_,_,_,true,U,.ref _,bl.t_Numbers.ty e2,bl.f_nn,_,U,ee ?_⟩;refine⟨_,U,a,_,_,_,_,U,e,bl.k_Numbers,bl.na_Numbers_low,U,_,U,b,_,_,_,_,U,e2,bl.k_Numbers,bl.na_Numbers_low,U,U,_,U,eA U ?_⟩;refine⟨_,U,a,_,_,_,_,U,e,bl.k_Numbers,bl.na_Numbers_high,U,_,U,b,_,_,_,_,U,e2,bl.k_Numbers,bl.na_Numbers_high,U,U,?_⟩;rw[decide_eq_true U];exact q
 |some zs =>
  obtain⟨⟨dx,l,e,f⟩,_⟩:=ha;obtain⟨⟨dx2,l2,e2,f2⟩,_⟩:=hb;refine⟨_,U,_,_,_,_,false,U,.ref _,bl.t_Words.ty e,bl.f_wn,_,U,bV (bV ?_)⟩;refine⟨_,U,_,_,_,_,true,U,.ref _,bl.t_Words.ty e,bl.f_ww,_,U,ee ?_⟩;refine⟨_,U,_,_,_,_,true,U,.ref _,bl.t_Words.ty e2,bl.f_ww,_,U,ee ?_⟩;refine⟨_,U,a,_,_,_,_,U,e,bl.k_Words,bl.na_Words_words,U,_,U,b,_,_,_,_,U,e2,bl.k_Words,bl.na_Words_words,U,?_⟩;exact uJ (SqL.of f) (SqL.of f2) (λx hx=>.inl (all_eq_true.mp (d6 zs) x hx)) q
theorem Cz(F:Fun K "refuse_counts" "refuse_counts" Y75 f fd) (bl:Bl K mg Y)  : aN P w K mg base CX0 1 f fd ["facts","tables"] (cD K Y):=by
 refine F.okA Z75 λcdv A outer s H vs Q E hr h=>?_
 obtain⟨fa,ma,fv,mv,rfl,e1,e2,h1,h2,q⟩:=h
 refine⟨_,(ay (aQ (aI hU (au aq U bl.len_ boot_len (aa (pv 0) af)) (lV U bl.MOST_FACTS_) (aP _))
  (ag bc)
  aH)
  (ag (aQ (aI hU (au aq U bl.len_ boot_len (aa (pv 1) af)) (lV U bl.MOST_TABLES_) (aP _))
  (ag bc)
  aH))),?_⟩
 refine⟨_,U,fa,_,U,.inl (SqL.of e1),_,_,U,U,_,U,bR (by lia) ?_⟩;exact⟨_,U,ma,_,U,.inl (SqL.of e2),_,_,U,U,_,U,bR (by lia) q⟩
theorem CA(F:Fun K "named_among" "named_among" Y70 f fd) (bl:Bl K mg Y)  : aN P w K mg base CX0 1 f fd ["table","names"] (dP K Y):=by
 refine F.okA Z70 λcdv A outer s H vs Q E hr h=>?_
 obtain⟨t,na,ou,nm,wy,zs,ns,dv,rws,rfl,⟨rl,dx,tna,dl,fs,xs,ht,f1,f2,f3,f4,f5,f6,ena,edl,erl,hR,iT⟩,hna,CB,q⟩:=h;refine⟨_,(ag (aG (bF (aO (aY (pv 0) U)) (aU (N:=["name","names"]) (fr:=[1]) (cl:=[("names",s.heap.objs.size+1)]) U U (by decide+kernel) (by decide+kernel) U (by decide+kernel) U U U (forall_mem_cons.mpr ⟨U,forall_mem_nil _⟩) U) U (λ_ _ _ _=>(fu (aI (mi (K:=K) U) (pv 0) (pv 1) (by with_unfolding_all rfl)))) (λ_ _ _ _=>(pv 0))))),?_⟩;have hzl:(zs.map V.str).length=zs.length:=length_map _;refine⟨_,U,t,_,_,_,_,U,ht,bl.k_Table,bl.na_Table_names,f5,tna,U,⟨_,SqL.of ena⟩,bh (xs:=zs.map V.str) (λD i ys H'=>ao H H'/\H' D=some (.lst ys)/\ys=((zs.take i).filter λz=>ns.contains z).map V.str) (λD hD=>⟨ah hD _,ae,U⟩) (λD i ys H' hD _ h=>SqL.of (h.1 _ _ ena)) (λD i y ys H' hD e h=>?_) (λD ys H' hD h=>?_)⟩
 ·obtain⟨sm,eD,rfl⟩:=h;obtain⟨z,rfl,ez⟩:=dq e;have hi:i<(zs.map V.str).length:=(EW.mp e).1;have hfl:((zs.take i).filter λz=>ns.contains z).length<=i:=le_trans (length_filter_le ..) (by rw[length_take];lia);refine⟨_,U,_,U,na,_,U,.inl (SqL.of (sm _ _ hna)),U,d6 ns,_,U,?_⟩;rw[show(if false=true then !inV (V.str z) (ns.map V.str)else inV (V.str z) (ns.map V.str))=ns.contains z by rw[if_neg Bool.false_ne_true,ir]];have hf:((zs.take (i+1)).filter λz=>ns.contains z)=((zs.take i).filter λz=>ns.contains z)++(if ns.contains z then[z] else[]):=by
   rw[take_snoc ez,filter_append]
   congr 1
   cases h:ns.contains z with
   |true=>rw[filter_cons_of_pos h,filter_nil];rfl
   |false=>rw[filter_cons_of_neg (by rw[h];exact Bool.false_ne_true),filter_nil];rfl
  cases hc:ns.contains z with
  |true =>
   rw[hc]at hf;refine ee ⟨_,U,bT.mk hi eD (aC (by rw[length_map];lia)) ⟨sm.upd hD,ae,?_⟩⟩;rw[hf,map_append];rfl
  |false =>
   rw[hc]at hf;refine bV (eM.mk (zs:=((zs.take i).filter λz=>ns.contains z).map V.str) hi ⟨sm,eD,?_⟩);rw[hf];simp
 ·obtain⟨sm,eD,rfl⟩:=h;rw[hzl,take_length]at eD;exact q D H' sm hD eD
theorem CC(F:Fun K "table_of" "table_of" Y84 f fd) (bl:Bl K mg Y)  : aN P w K mg base (CX1 P w) 1 f fd ["book","name"] (fC K Y):=by
 refine F.okEA Z84 λcdv A outer s H vs Q E hr h=>?_
 obtain⟨b,nm,zs,ds,ts,fN,mv,L,rfl,hB,hs,q,qE⟩:=h
 refine⟨_,(ay (bf (kB U U U) U (aO (aY (pv 0) U)) (aD (i:=2) Z84.nd U (Or.inl U))
  (ag (aQ (aI cx (aY (pv 2) U) (pv 1) (aP _))
  (ag (aG (pv 2)))
  aH)))
  (ag (uI bl.x_NoTable hr.hd U bl.NoTable_ (aa (zl (pv 1)) af)))),?_⟩
 obtain⟨dx,fs,ta,fb,gv,hb,ft,eta,_⟩:=hB.bk;have hml:mv.length=L.length:=hB.tabs.1;refine⟨_,U,b,_,_,_,_,U,hb,bl.k_Book,bl.na_Book_tables,ft,ta,U,⟨_,SqL.of eta⟩,bg (xs:=mv) (λi σ H'=>H'=H/\(∀k∈L.take i,tnm zs fN k≠nm)/\∃c2:Option V,σ=[some (.ref b),some (.str nm),c2]) ⟨U,λk hk=>by simp at hk,_,U⟩ (λi σ H' _ h=>by rw[h.1];exact SqL.of eta) (λi y σ H' e h=>?_) (λσ H' h=>?_)⟩
 ·obtain⟨e0,hn,c2,rfl⟩:=h;rw[e0];obtain⟨t_,k,rfl,ek,hT⟩:=az.get hB.tabs e;obtain⟨tt,nm2,po,ou,dv,g1,g2,g3,g4,g5,g6⟩:=id hT;obtain⟨rl,dx2,na,dl,fs2,xs,ht,f1,f2,f3,f4,f5,f6,ena,edl,erl,hR,iT⟩:=g4;refine⟨_,U,t_,_,_,_,_,U,ht,bl.k_Table,bl.na_Table_name,f2,_,U,U,_,U,?_⟩;by_cases h:nm2=nm
  ·exact eA (by rw[h]) ⟨_,U,q t_ k i e ek (EY ek) (by rw[dF g2,h]) hT⟩
  ·refine bR (λz=>by injection z with z;exact h z) ⟨U,λj hj=>?_,_,U⟩;rw[take_snoc ek]at hj;rcases mem_append.mp hj with hj|hj
   ·exact hn j hj
   ·rw[mem_singleton.mp hj,dF g2];exact h
 ·obtain⟨e0,hn,c2,rfl⟩:=h;rw[e0];rw[hml,take_length]at hn;exact⟨(by decide+kernel),_,U,nm,U,hs.1,hs.2,(by decide+kernel),λ_=>⟨(by show 1<=sizeLine;decide),qE hn⟩⟩
theorem CD(F:Fun K "holds" "holds" Y45 f fd) (bl:Bl K mg Y)  : aN P w K mg base CX0 1 f fd ["spans","number"] (mL K Y):=by
 refine F.okA Z45 λcdv A outer s H vs Q E hr h=>?_
 obtain⟨a,xs,ps,n,rfl,hS,hP,q⟩:=h
 refine⟨_,(ay (bf PassesOwn.never U (aO (pv 0)) (dh U (aJ (aD (i:=2) Z45.nd U (Or.inl U)) (aJ (aD (i:=3) Z45.nd U (Or.inl U)) bJ)))
  (ag (aQ (lL eL eL (pv 2) (pv 1) (pv 3))
  (ag (aG fT))
  aH)))
  (ag (aG fT))),?_⟩
 refine⟨_,U,a,U,⟨_,hS⟩,bg (xs:=xs) (λi σ H'=>(∃c2 c3,σ=[some (.ref a),some (.int n),c2,c3])/\H'=H/\(ps.take i).any (inR n)=false) ⟨⟨_,_,U⟩,U,U⟩ (λi σ H' _ h=>by obtain⟨_,e,_⟩:=h;rw[e];exact hS) (λi x σ H' e h=>?_) (λσ H' h=>?_)⟩
 ·obtain⟨⟨c2,c3,rfl⟩,e0,hn⟩:=h;rw[e0];obtain⟨p,r,e1,rfl,hr'⟩:=hP.get e;refine⟨r,_,U,SqT.of hr',U,_,_,U,_,_,U,U,?_⟩;refine⟨_,U,_,U,_,_,U,U,_,U,?_⟩;refine di (λc=>?_) (λc=>?_)
  ·refine⟨_,U,_,_,U,U,_,U,?_⟩;refine di (λd=>?_) (λd=>?_)
   ·have z2:inP ps n=true:=lQ e1 (A6 c d);rw[z2]at q;exact q
   ·exact⟨⟨_,_,U⟩,U,d7 e1 hn (yq d)⟩
  ·exact⟨_,U,bV ⟨⟨_,_,U⟩,U,d7 e1 hn (yp c)⟩⟩
 ·obtain⟨⟨c2,c3,rfl⟩,e0,hn⟩:=h;rw[e0];have z:inP ps n=false:=by
   rw[hP.length,take_length]at hn;exact hn
  rw[z]at q;exact q
theorem CF(F:Fun K "refuse_counts" "refuse_counts" Y76 f fd) (bl:Bl K mg Y)  : aN P w K mg base CX0 1 f fd ["names","rows"] (cm K Y):=by
 refine F.okA Z76 λcdv A outer s H vs Q E hr h=>?_
 obtain⟨p,r,xs,ys,rfl,hP,hR,h1,h4,iT,q⟩:=h
 refine⟨_,(ay (aQ (cP (lL eL eL ai (au aq U bl.len_ boot_len (aa (pv 0) af)) (lV U bl.MOST_COLUMNS_)))
  (ag bc)
  aH)
  (ag (aQ (aI hU (au aq U bl.len_ boot_len (aa (pv 1) af)) (lV U bl.MOST_ROWS_) (aP _))
  (ag bc)
  aH))),?_⟩
 refine⟨_,U,p,_,U,.inl (hP),_,_,U,U,_,U,eA (by lia) ?_⟩;refine⟨_,_,U,U,_,U,?_⟩;rw[decide_eq_true (show((xs.length:Nat):Int)<=4 by lia)];refine bV ?_;exact⟨_,U,r,_,U,.inl (hR),_,_,U,U,_,U,bR (by lia) q⟩
theorem CG(F:Fun K "own_row" "own_row" Y73 f fd) (bl:Bl K mg Y)  : aN P w K mg base CX0 1 f fd ["cells","code"] (jr K Y):=by
 refine F.okA Z73 λcdv A outer s H vs Q E hr h=>?_
 obtain⟨cl,xs,w_,rfl,hC,hcl,CB,q⟩:=h;refine⟨_,(ag (aG (aZ (aa (bF (aO (pv 0)) (bD U (by decide+kernel) (by decide+kernel) (by decide+kernel) U) U (λ_ _ _ _=>aV) (λ_ _ _ _=>(bx (je (K:=K) U) U bl.list_ PyProof.Rows.boot_list (aa (pv 0) af)))) (aa (pv 1) af))))),?_⟩
 refine⟨_,U,cl,U,⟨_,SqL.of hC⟩,bh (xs:=xs) (λD i zs H'=>ao H H'/\H' D=some (.lst zs)/\CL (Fr H D) H' zs (w_.1.take i))
  (λD hD=>⟨ah hD _,ae,az.nil⟩) (λD i zs H' hD _ h=>SqL.of (h.1 _ _ hC)) (λD i x zs H' hD e h=>?_) (λD zs H' hD h=>?_)⟩
 ·obtain⟨sm,eD,hz⟩:=h;obtain⟨l,ps,rfl,ep,hl⟩:=az.get hcl e;obtain⟨_,ys,el,hp⟩:=hl.same sm;have hi:i<xs.length:=(EW.mp e).1;have hlz:zs.length<sizeLine:=by
   have h1:=hz.1;rw[length_take]at h1;exact aC (by lia)
  refine⟨_,U,l,_,U,.inl (SqL.of el),λl2 hl2=>?_⟩;have s2:=ah hl2 (.lst ys);have e2:upd H' l2 (.lst ys) l2=some (.lst ys):=ae;have eD2:=s2 _ _ eD;generalize upd H' l2 (.lst ys)=H2 at s2 e2 eD2⊢;have n2:H l2=none:=sm.free hl2;have nD:l2≠D:=λz=>by rw[z,eD]at hl2;cases hl2
  refine bT.mk hi eD2 hlz ⟨(sm.trans s2).upd hD,ae,?_⟩;rw[take_snoc ep];exact CL.updN (az.snoc (hz.same s2) ⟨⟨n2,nD⟩,ys,e2,hp.mono s2.tups⟩) Fr.out eD2
 ·obtain⟨sm,eD,hz⟩:=h;rw[hcl.1,take_length]at hz;refine⟨_,U,bp,λr hr'=>q r _ (sm.trans (ah hr' _)) (sm.free hr') ⟨D,zs,ae,hD,ah hr' _ _ _ eD,?_⟩⟩;exact(hz.same (ah hr' _)).wk λa h=>h.1
theorem CH(F:Fun K "_law_at" "_law_at" Y52 f fd) (bl:Bl K mg Y)  : aN P w K mg base CX0 1 f fd ["script","k"] (iN K Y):=by
 refine F.okA Z52 λcdv A outer s H vs Q E hr h=>?_
 obtain⟨a,ns,k,rfl,hS,h0,q⟩:=h
 refine⟨_,(ay (aQ (aI kS (pv 1) (au aq U bl.len_ boot_len (aa (pv 0) af)) (aP _))
  (ag (aG (aF aL (pv 0) (pv 1) (λ_ _=>U))))
  aH)
  (ag (aG ai))),?_⟩
 refine⟨_,U,_,U,a,_,U,.inl hS,_,_,U,U,_,U,?_⟩;refine di (λc=>?_) (λc=>?_)
 ·have c':k<(((ns.map V.int).length:Nat):Int):=nH c;rw[length_map]at c';have hk:k.toNat<ns.length:=by lia
  have hv:atI (ns.map V.int) k=some (.int ns[k.toNat]):=by
   have z:atI (ns.map V.int) ((k.toNat:Nat):Int)=some (.int ns[k.toNat]):=aM (by rw[getElem?_map,EV hk];rfl);rw[show((k.toNat:Nat):Int)=k by lia]at z;exact z
  exact⟨_,U,_,U,a,_,_,_,U,U,hS,hv,q _⟩
 ·exact q 0
theorem CI(F:Fun K "_law_words" "_law_words" Y67 f fd) (bl:Bl K mg Y)  : aN P w K mg base CX0 1 f fd ["cell","count"] (eQ K Y):=by
 refine F.okA Z67 λcdv A outer s H vs Q E hr h=>?_
 obtain⟨c,n,rfl,h40,q⟩:=h
 refine⟨_,(ay (aK (i:=2) Z67.nd U (Or.inr U) aS)
  (av (aK (i:=3) Z67.nd U (Or.inr U) (d9 PySem.F.plainAttrs_str PySem.F.slot_str_join PySem.F.type_str_join tq aS (aa (bF (br U bl.range_ (aa (aE bu (pv 0) ai) af)) (aU (N:=["j","cell","letters"]) (fr:=[0,2]) (cl:=[("letters",s.heap.objs.size+1+1),("cell",s.heap.objs.size+1)]) U U (by decide+kernel) (by decide+kernel) U (by decide+kernel) U U U (forall_mem_cons.mpr ⟨U,forall_mem_cons.mpr ⟨U,forall_mem_nil _⟩⟩) U) U (λ_ _ _ _=>aV) (λ_ _ _ _=>(aF rh (pv 2) (aE bu (aE bE (pv 1) (aE bG (aE gZ ai (pv 0)) ai)) ai) (λ_ _=>U)))) af)))
  (av (aK (i:=4) Z67.nd U (Or.inr U) (d9 PySem.F.plainAttrs_str PySem.F.slot_str_join PySem.F.type_str_join tq aS (aa (bF (br U bl.range_ (aa (aE bu (aE bE (pv 0) ai) ai) af)) (aU (N:=["j","cell","letters"]) (fr:=[0,2]) (cl:=[("letters",s.heap.objs.size+1+1),("cell",s.heap.objs.size+1)]) U U (by decide+kernel) (by decide+kernel) U (by decide+kernel) U U U (forall_mem_cons.mpr ⟨U,forall_mem_cons.mpr ⟨U,forall_mem_nil _⟩⟩) U) U (λ_ _ _ _=>aV) (λ_ _ _ _=>(aF rh (pv 2) (aE bu (aE bE (pv 1) (aE bG (aE gZ ai (pv 0)) ai)) ai) (λ_ _=>U)))) af)))
  (ag (aG (bF (br U bl.range_ (aa (pv 1) af)) (aU (N:=["k","cell","letters","head","tail"]) (fr:=[0,2,3,4]) (cl:=[("tail",s.heap.objs.size+1+1+1+1),("letters",s.heap.objs.size+1+1),("head",s.heap.objs.size+1+1+1),("cell",s.heap.objs.size+1)]) U U (by decide+kernel) (by decide+kernel) U (by decide+kernel) U U U (forall_mem_cons.mpr ⟨U,forall_mem_cons.mpr ⟨U,forall_mem_cons.mpr ⟨U,forall_mem_cons.mpr ⟨U,forall_mem_nil _⟩⟩⟩⟩) U) U (λ_ _ _ _=>aV) (λ_ _ _ _=>(aE lN (aE lN (pv 3) (aF rh (pv 2) (aE bu (aE bG (aE bE (pv 1) ai) (aE gZ ai (pv 0))) ai) (λ_ _=>U))) (pv 4))))))))),?_⟩
 have c0:=emod_nonneg c (show(6:Int)≠0 by decide);have c1:=emod_lt_of_pos c (show(0:Int)<6 by decide);have d0:=emod_nonneg (c / 7) (show(6:Int)≠0 by decide);have d1:=emod_lt_of_pos (c / 7) (show(0:Int)<6 by decide);refine⟨λσ' H'=>ao H H'/\σ'=[some (.int c),some (.int (n:Int)),some (.str (Str.ofString "abcdefghijklmnopqrstuvwxyz")),some (.str ⟨(hcs c).toArray⟩),none],?_,?_⟩
 ·refine⟨U,_,U,_,_,U,U,(by show(0:Int)<6;decide),_,U,(by show -(2^62)<=c%6;lia),(by show c%6<2^62;lia),bH (λD i zs H'=>ao H H'/\H' D=some (.lst zs)/\zs=(((List.range i).map λj:Nat=>97+(c / (3*(0+(j:Int))+1)%13).toNat).map λx=>(⟨#[x]⟩:Str)).map V.str) (λD hD=>⟨ah hD _,ae,U⟩) (λD i zs H' hD hi h=>?_) (λD zs H' hD h=>?_)⟩
  ·obtain⟨sm,eD,rfl⟩:=h;have a0:=emod_nonneg (c / (3*(0+(i:Int))+1)) (show(13:Int)≠0 by decide);have a1:=emod_lt_of_pos (c / (3*(0+(i:Int))+1)) (show(0:Int)<13 by decide);refine⟨_,U,_,U,_,U,_,_,U,U,.inl ⟨by decide,by decide⟩,_,_,U,U,_,_,U,U,eX (by lia) (by lia),_,_,U,U,(by show(0:Int)<13;decide),_,_,_,U,U,(by decide),oU wt a0 (by lia),bT.mk hi eD (aC (by simp;lia)) ⟨sm.upd hD,ae,?_⟩⟩;rw[range_succ,map_append,map_append,map_append];rfl
  ·obtain⟨sm,eD,rfl⟩:=h;have el:=oX c;have ec:((List.range (c%6).toNat).map λj:Nat=>97+(c / (3*(0+(j:Int))+1)%13).toNat)=hcs c:=rfl;rw[ec]at eD;refine⟨_,D,_,U,U,SqL.of eD,(by decide+kernel),qx _ el,sm,?_⟩;rw[mC];rfl
 rintro σ1 H1 ⟨s1,rfl⟩;refine⟨λσ' H'=>ao H1 H'/\σ'=[some (.int c),some (.int (n:Int)),some (.str (Str.ofString "abcdefghijklmnopqrstuvwxyz")),some (.str ⟨(hcs c).toArray⟩),some (.str ⟨(tcs c).toArray⟩)],?_,?_⟩
 ·refine⟨U,_,U,_,_,U,U,⟨by decide,by decide⟩,_,_,U,U,(by show(0:Int)<6;decide),_,U,(by show -(2^62)<=c / 7%6;lia),(by show c / 7%6<2^62;lia),bH (λD i zs H'=>ao H1 H'/\H' D=some (.lst zs)/\zs=(((List.range i).map λj:Nat=>97+(c / (5*(0+(j:Int))+2)%13).toNat).map λx=>(⟨#[x]⟩:Str)).map V.str) (λD hD=>⟨ah hD _,ae,U⟩) (λD i zs H' hD hi h=>?_) (λD zs H' hD h=>?_)⟩
  ·obtain⟨sm,eD,rfl⟩:=h;have a0:=emod_nonneg (c / (5*(0+(i:Int))+2)) (show(13:Int)≠0 by decide);have a1:=emod_lt_of_pos (c / (5*(0+(i:Int))+2)) (show(0:Int)<13 by decide);refine⟨_,U,_,U,_,U,_,_,U,U,.inl ⟨by decide,by decide⟩,_,_,U,U,_,_,U,U,eX (by lia) (by lia),_,_,U,U,(by show(0:Int)<13;decide),_,_,_,U,U,(by decide),oU wt a0 (by lia),bT.mk hi eD (aC (by simp;lia)) ⟨sm.upd hD,ae,?_⟩⟩;rw[range_succ,map_append,map_append,map_append];rfl
  ·obtain⟨sm,eD,rfl⟩:=h;have el:=oY c;have ec:((List.range (c / 7%6).toNat).map λj:Nat=>97+(c / (5*(0+(j:Int))+2)%13).toNat)=tcs c:=rfl;rw[ec]at eD;refine⟨_,D,_,U,U,SqL.of eD,(by decide+kernel),qx _ el,sm,?_⟩;rw[mC];rfl
 rintro σ2 H2 ⟨s2,rfl⟩;have s12:=s1.trans s2;have n1:(⟨(hcs c).toArray⟩:Str).length<=5:=by have:=oX c;simpa[Str.length]using this
 have n2:(⟨(tcs c).toArray⟩:Str).length<=5:=by have:=oY c;simpa[Str.length]using this
 have o1:∀x:Nat,(⟨#[x]⟩:Str).length=1:=λ_=>U
 refine⟨_,U,_,U,(by lia),(by lia),bH (λD i zs H'=>ao H2 H'/\H' D=some (.lst zs)/\zs=(lws c i).map V.str) (λD hD=>⟨ah hD _,ae,U⟩) (λD i zs H' hD hi h=>?_) (λD zs H' hD h=>?_)⟩
 ·obtain⟨sm,eD,rfl⟩:=h;have a0:=emod_nonneg (c / 11+3*(0+(i:Int))) (show(26:Int)≠0 by decide);have a1:=emod_lt_of_pos (c / 11+3*(0+(i:Int))) (show(0:Int)<26 by decide);have ew:(⟨(hcs c).toArray⟩:Str)++(⟨#[97+((c / 11+3*(0+(i:Int)))%26).toNat]⟩:Str)++(⟨(tcs c).toArray⟩:Str)=lw c (0+(i:Int)):=by
   show Str.append (Str.append _ _) _=_;unfold Str.append lw lwc;simp
  refine⟨_,U,_,U,_,U,_,_,U,U,⟨by decide,by decide⟩,_,U,_,_,U,U,.inl ⟨by decide,by decide⟩,_,_,U,U,_,_,U,U,(by show(0:Int)<26;decide),_,_,_,U,U,(by decide),oU wt a0 a1,_,_,U,U,big (by rw[o1];lia),_,U,_,_,U,U,big (by rw[zG,o1];lia),?_⟩;rw[ew];refine bT.mk hi eD (aC (by rw[length_map,j6];lia)) ⟨sm.upd hD,ae,?_⟩;rw[wA,map_append];rfl
 ·obtain⟨sm,eD,rfl⟩:=h;rw[toNat_natCast]at eD;exact q D H' (s12.trans sm) (s12.free hD) eD
theorem CJ(F:Fun K "_law_pool" "_law_pool" Y63 f fd) (bl:Bl K mg Y)  : aN P w K mg base CX0 1 f fd ["domain","cell","most"] (iu K Y):=by
 refine F.okA Z63 λcdv A outer s H vs Q E hr h=>?_
 obtain⟨r,p,c,n,rfl,⟨wl,_,_,er,ewl⟩,ok,hn3,q⟩:=h
 refine⟨_,(ay (aK (i:=3) Z63.nd U (Or.inr U) (aE bG (aE ck (aF aW (pv 0) ai (λ_ _=>U)) (aF aW (pv 0) ai (λ_ _=>U))) ai))
  (ag (aG (bF (br U bl.range_ (aa (pv 2) af)) (aU (N:=["j","domain","cell","width"]) (fr:=[0,1,3]) (cl:=[("width",s.heap.objs.size+1+1+1),("domain",s.heap.objs.size+1),("cell",s.heap.objs.size+1+1)]) U U (by decide+kernel) (by decide+kernel) U (by decide+kernel) U U U (forall_mem_cons.mpr ⟨U,forall_mem_cons.mpr ⟨U,forall_mem_cons.mpr ⟨U,forall_mem_nil _⟩⟩⟩) U) U (λ_ _ _ _=>aV) (λ_ _ _ _=>(aE bG (aF (dM (K:=K) U) (pv 1) ai (λ_ _=>U)) (aE bu (aE bG (aE bE (pv 2) (aE bG (aE gZ ai (pv 0)) ai)) (aE gZ (pv 0) (pv 2))) (pv 3)))))))),?_⟩
 have hle:=ok.le;refine⟨_,U,r,_,_,_,U,U,SqT.of er,U,_,U,r,_,_,_,U,U,SqT.of er,U,_,_,U,U,_,_,U,U,?_⟩;have hw:0<p.hi-p.lo+1:=by lia
 refine⟨_,U,_,U,(by lia),(by lia),bH (λD i zs H'=>ao H H'/\H' D=some (.lst zs)/\∃xs:List Int,zs=xs.map V.int/\xs.length=i/\∀x∈xs,p.lo<=x/\x<=p.hi) (λD hD=>⟨ah hD _,ae,[],U,U,(λx hx=>by cases hx)⟩) (λD i zs H' hD hi h=>?_) (λD zs H' hD h=>?_)⟩
 ·obtain⟨sm,eD,xs,rfl,hl,hx⟩:=h;rw[toNat_natCast]at hi;have a0:=emod_nonneg (c / (3*(0+(i:Int))+1)+(0+(i:Int))*c) (Int.ne_of_gt hw);have a1:=emod_lt_of_pos (c / (3*(0+(i:Int))+1)+(0+(i:Int))*c) hw;refine⟨_,U,r,_,_,_,U,U,SqT.of (sm _ _ er),U,_,U,_,U,_,_,U,U,.inl ⟨by decide,by decide⟩,_,_,U,U,_,_,U,U,eX (by lia) (by lia),_,U,_,U,_,_,U,U,.inl ⟨by lia,by lia⟩,_,_,U,U,_,U,_,_,U,U,hw,_,_,U,U,bT.mk (by rw[toNat_natCast];exact hi) eD (aC (by rw[length_map];lia)) ⟨sm.upd hD,ae,xs++[_],by rw[map_append];rfl,by rw[length_append,hl];rfl,λx hx'=>?_⟩⟩;rcases mem_append.mp hx' with hx' | hx'
  ·exact hx x hx'
  ·have e:x=p.lo+(c / (3*(0+(i:Int))+1)+(0+(i:Int))*c)%(p.hi-p.lo+1):=by simpa using hx'
   generalize (c / (3*(0+(i:Int))+1)+(0+(i:Int))*c)%(p.hi-p.lo+1)=m at a0 a1 e;lia
 ·obtain⟨sm,eD,xs,rfl,hl,hx⟩:=h;rw[toNat_natCast]at hl;exact q D xs H' sm hD eD hl hx
theorem CK(F:Fun K "_law_spans" "_law_spans" Y65 f fd) (bl:Bl K mg Y)  : aN P w K mg base CX0 1 f fd ["kind","one","two","domain"] (gw K Y):=by
 refine F.okA Z65 λcdv A outer s H vs Q E hr h=>?_
 obtain⟨kd,one,two,r,p,rfl,⟨wl,_,_,er,ewl⟩,h1,h2,h3,q⟩:=h
 refine⟨_,(av (aK (i:=4) Z65.nd U (Or.inl U) (bz (aa (aZ (aa (aF aW (pv 3) ai (λ_ _=>U)) (aa (aF aW (pv 3) ai (λ_ _=>U)) af))) af)))
  (av (aQ (PW.pt (nq (aI cx (pv 0) ai (aP _)) (lH (PW.pt (gn (aI cx (pv 0) ai (aP _)) (eP (aI eL (pv 2) (aE bG (pv 1) ai) (aP _))))))))
  (ag (aK (i:=4) Z65.nd U (Or.inl U) (bz (aa (aZ (aa (pv 1) (aa (pv 2) af))) af))))
  (ag (aQ (aI cx (pv 0) ai (aP _))
  (ag (aK (i:=4) Z65.nd U (Or.inl U) (bz (aa (aZ (aa (pv 1) (aa (pv 1) af))) (aa (aZ (aa (pv 2) (aa (pv 2) af))) af)))))
  aH)))
  (av (aQ (aI cx (pv 0) ai (aP _))
  (ag (aK (i:=4) Z65.nd U (Or.inl U) (bz (aa (aZ (aa (pv 1) (aa (pv 1) af))) af))))
  aH)
  (av (aQ (aI cx (pv 0) ai (aP _))
  (ag (aK (i:=4) Z65.nd U (Or.inl U) (bz (aa (aZ (aa (aF aW (pv 3) ai (λ_ _=>U)) (aa (aE ck (pv 1) ai) af))) (aa (aZ (aa (aE bG (pv 2) ai) (aa (aF aW (pv 3) ai (λ_ _=>U)) af))) af)))))
  aH)
  (av (aQ (aI cx (pv 0) ai (aP _))
  (ag (aK (i:=4) Z65.nd U (Or.inl U) (bz af)))
  aH)
  (ag (aG (bF (aO (pv 4)) (bD U (by decide+kernel) (by decide+kernel) (by decide+kernel) U) U (λ_ _ _ _=>(fu (aI eL (aF (dM (K:=K) U) (pv 0) ai (λ_ _=>U)) (aF (dM (K:=K) U) (pv 0) ai (λ_ _=>U)) (aP _)))) (λ_ _ _ _=>(pv 0)))))))))),?_⟩
 refine⟨λσ' H'=>∃pl,SPJ p one two H H' pl/\σ'=[some (.int kd),some (.int one),some (.int two),some (.ref r),some (.ref pl)],⟨_,U,r,_,_,_,U,U,SqT.of er,U,_,U,r,_,_,_,U,U,SqT.of er,U,bp,λt ht=>⟨(by show 1<=sizeLine;decide),λl hl=>⟨l,SPJ.one (ao.refl H) (pl1 ht hl) (Int.le_refl _) (Int.le_refl _) ⟨.inl U,.inl U⟩,U⟩⟩⟩,?_⟩;rintro σ1 H1 ⟨pl,hs,rfl⟩;refine⟨λσ' H'=>∃pl,SPJ p one two H H' pl/\σ'=[some (.int kd),some (.int one),some (.int two),some (.ref r),some (.ref pl)],?_,?_⟩
 ·have s1:=hs.1;have both:∀t l,H1 t=none->upd H1 t (.tup [.int one,.int two]) l=none->SPJ p one two H (upd (upd H1 t (.tup [.int one,.int two])) l (.lst [.ref t])) l:=λt l ht hl=>SPJ.one s1 (pl1 ht hl) h1 h3 ⟨.inr (.inl U),.inr (.inr (.inl U))⟩
  refine⟨_,U,U,_,U,di (λ_=>ee ?_) (λ_=>?_)⟩
  ·exact⟨_,U,_,U,bp,λt ht=>⟨(by show 1<=sizeLine;decide),λl hl=>⟨l,both t l ht hl,U⟩⟩⟩
  ·refine⟨_,U,U,_,U,di (λ_=>?_) (λ_=>bV ?_)⟩
   ·refine⟨_,U,_,U,_,_,U,U,_,_,U,U,_,U,di (λ_=>?_) (λ_=>?_)⟩
    ·exact⟨_,U,_,U,bp,λt ht=>⟨(by show 1<=sizeLine;decide),λl hl=>⟨l,both t l ht hl,U⟩⟩⟩
    ·refine⟨_,U,U,_,U,di (λ_=>?_) (λ_=>⟨pl,hs,U⟩)⟩;exact⟨_,U,_,U,bp,λt ht=>⟨_,U,_,U,bp,λu hu=>⟨(by show 2<=sizeLine;decide),λl hl=>⟨l,SPJ.two s1 (pl2 ht hu hl) h1 (by lia) (by lia) h3 ⟨.inr (.inl U),.inr (.inl U)⟩ ⟨.inr (.inr (.inl U)),.inr (.inr (.inl U))⟩,U⟩⟩⟩⟩
   ·refine⟨_,U,U,_,U,di (λ_=>?_) (λ_=>⟨pl,hs,U⟩)⟩;exact⟨_,U,_,U,bp,λt ht=>⟨_,U,_,U,bp,λu hu=>⟨(by show 2<=sizeLine;decide),λl hl=>⟨l,SPJ.two s1 (pl2 ht hu hl) h1 (by lia) (by lia) h3 ⟨.inr (.inl U),.inr (.inl U)⟩ ⟨.inr (.inr (.inl U)),.inr (.inr (.inl U))⟩,U⟩⟩⟩⟩
 clear hs pl;rintro σ2 H2 ⟨pl,hs,rfl⟩;refine⟨λσ' H'=>∃pl,SPJ p one two H H' pl/\σ'=[some (.int kd),some (.int one),some (.int two),some (.ref r),some (.ref pl)],?_,?_⟩
 ·refine⟨_,U,U,_,U,di (λ_=>?_) (λ_=>⟨pl,hs,U⟩)⟩;have s1:=hs.1;exact⟨_,U,_,U,bp,λt ht=>⟨(by show 1<=sizeLine;decide),λl hl=>⟨l,SPJ.one s1 (pl1 ht hl) (by lia) (by lia) ⟨.inr (.inl U),.inr (.inl U)⟩,U⟩⟩⟩
 clear hs pl;rintro σ3 H3 ⟨pl,hs,rfl⟩;refine⟨λσ' H'=>∃pl,SPJ p one two H H' pl/\σ'=[some (.int kd),some (.int one),some (.int two),some (.ref r),some (.ref pl)],?_,?_⟩
 ·refine⟨_,U,U,_,U,di (λ_=>?_) (λ_=>⟨pl,hs,U⟩)⟩;have s1:=hs.1;refine⟨_,U,r,_,_,_,U,U,SqT.of (s1 _ _ er),U,_,U,_,_,U,U,bp,λt ht=>⟨_,U,_,_,U,U,_,U,r,_,_,_,U,U,SqT.of (((s1.trans (ah ht _)) _ _ er)),U,bp,λu hu=>⟨(by show 2<=sizeLine;decide),λl hl=>⟨l,SPJ.two s1 (pl2 ht hu hl) (Int.le_refl _) (by lia) (by lia) (Int.le_refl _) ⟨.inl U,.inr (.inr (.inr U))⟩ ⟨.inr (.inr (.inr U)),.inl U⟩,U⟩⟩⟩⟩
 clear hs pl;rintro σ6 H6 ⟨pl,hs,rfl⟩;refine⟨λσ' H'=>∃pl,SPJ p one two H H' pl/\σ'=[some (.int kd),some (.int one),some (.int two),some (.ref r),some (.ref pl)],?_,?_⟩
 ·refine⟨_,U,U,_,U,di (λ_=>?_) (λ_=>⟨pl,hs,U⟩)⟩;have s1:=hs.1;exact⟨(by show 0<=sizeLine;decide),λl hl=>⟨l,⟨s1.trans (ah hl _),[],[],ae,.nil,(λx hx=>by cases hx),by simp,(λx hx=>by cases hx)⟩,U⟩⟩
 clear hs pl;rintro σ7 H7 ⟨pl,hs,rfl⟩;obtain⟨s7,ts,ps,epl,hP,hb,hl2,hE⟩:=hs;have htl:=hP.length;refine⟨_,U,pl,U,⟨_,SqL.of epl⟩,bh (xs:=ts) (λD i zs H'=>ao H7 H'/\H' D=some (.lst zs)/\∃ps':Prs,PL H' zs ps'/\(∀x∈ps',p.lo<=x.1/\x.1<=x.2/\x.2<=p.hi)/\ps'.length<=i/\∀x∈ps',x∈ps) (λD hD=>⟨ah hD _,ae,[],.nil,(λx hx=>by cases hx),zero_le _,(λx hx=>by cases hx)⟩) (λD i zs H' hD _ h=>SqL.of (h.1 _ _ epl)) (λD i y zs H' hD e h=>?_) (λD zs H' hD h=>?_)⟩
 ·obtain⟨sm,eD,ps',hP',hb',hl',hin⟩:=h;obtain⟨x,t,ex,rfl,et⟩:=hP.get e;have hi:i<ts.length:=(EW.mp e).1;have et':=sm _ _ et;refine⟨_,U,t,_,_,_,U,U,SqT.of et',U,_,U,t,_,_,_,U,U,SqT.of et',U,_,_,U,U,_,U,?_⟩;refine di (λg=>?_) (λg=>?_)
  ·have g':x.1<=x.2:=nH g;have st:jc H' (upd H' D (.lst (zs++[.ref t]))):=nG eD;refine⟨_,U,bT.mk hi eD (aC (by have:=hP'.length;lia)) ⟨sm.upd hD,ae,ps'++[x],(hP'.mono st).snoc (st _ _ et'),λy hy=>?_,by rw[length_append,length_singleton];lia,λy hy=>?_⟩⟩
   ·rcases mem_append.mp hy with hy|hy
    ·exact hb' y hy
    ·rw[show y=x by simpa using hy];have:=hb x (EY ex);lia
   ·rcases mem_append.mp hy with hy|hy
    ·exact hin y hy
    ·rw[show y=x by simpa using hy];exact EY ex
  ·exact eM.mk (zs:=zs) hi ⟨sm,eD,ps',hP',hb',by lia,hin⟩
 ·obtain⟨sm,eD,ps',hP',hb',hl',hin⟩:=h;have s:=s7.trans sm;exact q D ps' H' s ⟨s7.free hD,zs,eD,hP'⟩ hb' (by lia) λx hx=>hE x (hin x hx)
theorem CM(F:Fun K "_law_numbers" "_law_numbers" Y61 f fd) (bl:Bl K mg Y)  : aN P w K mg base CX0 1 f fd ["script","most"] (eZ K Y):=by
 refine F.okA Z61 λcdv A outer s H vs Q E hr h=>?_
 obtain⟨a,ns,m,rfl,hS,h63,hm1,hm2,q⟩:=h
 refine⟨_,(av (aK (i:=2) Z61.nd U (Or.inl U) (bz af))
  (ay (bf PassesOwn.never U (ko U bl.range_ (aa ai (aa (au aq U bl.len_ boot_len (aa (pv 0) af)) af))) (aD (i:=3) Z61.nd U (Or.inl U))
  (ay (aK (i:=4) Z61.nd U (Or.inl U) (aE bu (aF aL (pv 0) (pv 3) (λ_ _=>U)) (aE lJ ai ai)))
  (ag (aQ (aI kS (au aq U bl.len_ boot_len (aa (pv 2) af)) (pv 1) (aP _))
  (ag (aT (d9 PySem.F.plainAttrs_list PySem.F.slot_list_append PySem.F.type_list_append bS (pv 2) (aa (pv 4) af))))
  (ay (aK (i:=5) Z61.nd U (Or.inl U) (aE bG (aE gZ (aF aL (pv 2) (aE bu (pv 3) (pv 1)) (λ_ _=>U)) ai) (pv 4)))
  (ag (gY (aE bu (pv 5) (aE lJ ai ai)) (yH (pv 2) (aE bu (pv 3) (pv 1)) set_list))))))))
  (ag (aG (pv 2))))),?_⟩
 have hnl:(ns.map V.int).length=ns.length:=length_map _;have hmp:(0:Int)<(m:Int):=by lia
 refine⟨λσ' H'=>ao H H'/\∃l:Addr,H l=none/\H' l=some (.lst [])/\σ'=[some (.ref a),some (.int (m:Int)),some (.ref l),none,none,none],⟨(by show 0<=sizeLine;decide),λl hl=>⟨ah hl _,l,hl,ae,U⟩⟩,?_⟩;rintro σ1 H1 ⟨s1,l,nl,el,rfl⟩;refine⟨_,U,a,_,U,.inl (s1.seq hS),_,_,U,⟨by lia,by lia,by lia,by lia⟩,dG (λi σ H'=>ao H H'/\∃(ms:List Int)(c3 c4 c5:Option V),H' l=some (.lst (ms.map V.int))/\ms.length<=m/\σ=[some (.ref a),some (.int (m:Int)),some (.ref l),c3,c4,c5]) ⟨s1,[],_,_,_,el,zero_le _,U⟩ (λi σ H' hi h=>?_) (λσ H' h=>?_)⟩
 ·obtain⟨sm,ms,c3,c4,c5,el2,hl,rfl⟩:=h;have hi2:i+2<ns.length:=by lia
  have ix2:atI (ns.map V.int) (2+(i:Int))=some (.int ns[i+2]):=by
   have:=aM (get_map (EV hi2));rw[show((i+2:Nat):Int)=2+(i:Int) by lia]at this;exact this
  have hml:(ms.map V.int).length=ms.length:=length_map _;refine⟨_,U,_,U,a,_,_,_,U,U,sm.seq hS,ix2,_,_,U,U,⟨by decide,by decide,by decide⟩,_,_,U,U,p10 _,_,U,l,_,U,.inl (SqL.of el2),_,U,_,_,U,U,_,U,di (λg=>?_) (λg=>?_)⟩
  ·have g:((ms.length:Nat):Int)<(m:Int):=by have:=of_decide_eq_true g;rw[hml]at this;exact this
   refine⟨_,U,.inl ⟨U,_,SqL.of el2⟩,_,U,l,_,_,U,U,el2,aC (by lia),sm.upd nl,ms++[_],_,_,_,by rw[ae,map_append];rfl,by rw[length_append];show _+1<=m;lia,U⟩
  ·have g:ms.length=m:=by
    have:¬ (((ms.map V.int).length:Nat):Int)<(m:Int):=λz=>g (decide_eq_true z)
    rw[hml]at this;lia
   have j0:=emod_nonneg (2+(i:Int)) (Int.ne_of_gt hmp);have j1:=emod_lt_of_pos (2+(i:Int)) hmp;obtain⟨x,ex⟩:∃x,ms[((2+(i:Int))%(m:Int)).toNat]?=some x:=⟨_,EV (by lia)⟩;have ix:atI (ms.map V.int) ((2+(i:Int))%(m:Int))=some (.int x):=by
    have:=aM (get_map ex);rw[toNat_of_nonneg j0]at this;exact this
   refine⟨_,U,_,U,_,U,_,_,U,U,hmp,l,_,_,_,U,U,SqL.of el2,ix,_,_,U,U,.inr ⟨by decide,by decide⟩,_,U,_,_,U,U,?_⟩;refine⟨_,U,_,_,U,U,⟨by decide,by decide,by decide⟩,_,_,U,U,p10 _,_,U,_,U,_,U,_,_,U,U,hmp,l,_,_,((2+(i:Int))%(m:Int)).toNat,U,U,el2,?_,?_⟩
   ·unfold ixN;rw[if_pos j0,if_pos (by rw[hml];lia)]
   ·exact⟨sm.upd nl,ms.set ((2+(i:Int))%(m:Int)).toNat _,_,_,_,by rw[ae,List.map_set],by rw[length_set];exact hl,U⟩
 ·obtain⟨sm,ms,c3,c4,c5,el2,hl,rfl⟩:=h;exact⟨_,U,q l ms H' sm nl el2 hl⟩
theorem CN(F:Fun K "_law_held" "_law_held" Y58 f fd) (bl:Bl K mg Y)  : aN P w K mg base CX0 1 f fd ["spans","code"] (iw K Y):=by
 refine F.okA Z58 λcdv A outer s H vs Q E hr h=>?_
 obtain⟨a,xs,ps,n,rfl,hS,hP,q⟩:=h
 refine⟨_,(ay (bf PassesOwn.never U (aO (pv 0)) (aD (i:=2) Z58.nd U (Or.inl U))
  (ag (aQ (PW.pt (gn (aI eL (aF aW (pv 2) ai (λ_ _=>U)) (pv 1) (aP _)) (eP (aI eL (pv 1) (aF aW (pv 2) ai (λ_ _=>U)) (aP _)))))
  (ag (aG fT))
  aH)))
  (ag (aG fT))),?_⟩
 refine⟨_,U,a,U,⟨_,hS⟩,bg (xs:=xs) (λi σ H'=>(∃c2,σ=[some (.ref a),some (.int n),c2])/\H'=H/\(ps.take i).any (inR n)=false) ⟨⟨_,U⟩,U,U⟩ (λi σ H' _ h=>by obtain⟨_,e,_⟩:=h;rw[e];exact hS) (λi x σ H' e h=>?_) (λσ H' h=>?_)⟩
 ·obtain⟨⟨c2,rfl⟩,e0,hn⟩:=h;rw[e0];obtain⟨p,r,e1,rfl,hr'⟩:=hP.get e;refine⟨_,U,r,_,_,_,U,U,SqT.of hr',U,_,U,_,_,U,U,_,U,?_⟩;refine di (λc=>?_) (λc=>?_)
  ·refine⟨_,U,_,U,r,_,_,_,U,U,SqT.of hr',U,_,_,U,U,_,U,?_⟩;refine di (λd=>?_) (λd=>?_)
   ·have z2:inP ps n=true:=lQ e1 (A6 c d);rw[z2]at q;exact q
   ·exact⟨⟨_,U⟩,U,d7 e1 hn (yq d)⟩
  ·exact bV ⟨⟨_,U⟩,U,d7 e1 hn (yp c)⟩
 ·obtain⟨⟨c2,rfl⟩,e0,hn⟩:=h;rw[e0];have z:inP ps n=false:=by
   rw[hP.length,take_length]at hn;exact hn
  rw[z]at q;exact q
theorem CO(F:Fun K "_law_due" "_law_due" Y55 f fd) (bl:Bl K mg Y)  : aN P w K mg base CX0 1 f fd ["way","outs","domain"] (jt K Y):=by
 refine F.okA Z55 λcdv A outer s H vs Q E hr h=>?_
 obtain⟨c,r,wy,i,ns,p,rfl,hwy,hS,⟨l,_,_,er,el⟩,hle,q⟩:=h
 refine⟨_,(ay (aQ (aI cx (au aq U bl.len_ boot_len (aa (pv 1) af)) ai (aP _))
  (ag (aG (aZ (aa aS (aa ai af)))))
  aH)
  (ay (aQ (aI cx (pv 0) aS (aP _))
  (ag (aG (aZ (aa aS (aa (aF aL (pv 1) ai (λ_ _=>U)) af)))))
  aH)
  (ay (aQ (aI cx (pv 0) aS (aP _))
  (ag (aG (aZ (aa aS (aa (au (fJ U) U bl.min_ PyProof.Rows.boot_min (aa (pv 1) af)) af)))))
  aH)
  (ay (aQ (aI cx (pv 0) aS (aP _))
  (ag (aG (aZ (aa aS (aa (au (fK U) U bl.max_ PyProof.Rows.boot_max (aa (pv 1) af)) af)))))
  aH)
  (ay (aQ (aI cx (pv 0) aS (aP _))
  (ag (aG (aZ (aa aS (aa (au (iK U) U bl.max_ PyProof.Rows.boot_max (aa (aF aW (pv 2) ai (λ_ _=>U)) (aa (au (fU U) U bl.min_ PyProof.Rows.boot_min (aa (aF aW (pv 2) ai (λ_ _=>U)) (aa (au (fF U) U bl.sum_ PyProof.Rows.boot_sum (aa (pv 1) af)) af))) af))) af)))))
  aH)
  (ay (aQ (PW.pt (nq (PW.pt (gn (aI cx (pv 0) aS (aP _)) (eP (aI hU (au aq U bl.len_ boot_len (aa (pv 1) af)) ai (aP _))))) (lH (PW.pt (gn (aI cx (pv 0) aS (aP _)) (eP (aI pV (au (fJ U) U bl.min_ PyProof.Rows.boot_min (aa (pv 1) af)) (au (fK U) U bl.max_ PyProof.Rows.boot_max (aa (pv 1) af)) (aP _))))))))
  (ag (aG (aZ (aa aS (aa ai af)))))
  aH)
  (ag (aG (aZ (aa aS (aa (aF aL (pv 1) ai (λ_ _=>U)) af))))))))))),?_⟩
 refine⟨_,U,c,_,U,.inl (hS),U,_,U,?_⟩;cases ns with
 |nil=>exact eA U ⟨bp,λt ht=>q t _ (ah ht _) ae⟩
 |cons n ns =>
 refine bR (by simp;lia) ?_;have hml:((n :: ns).map V.int).length=ns.length+1:=by simp
 have u6:∀(m:Int)(e:wf i p.lo p.hi (n :: ns)=say m)(t:Addr),H t=none->Q (.ref t) (upd H t (.tup [.str (Str.ofString "say"),.int m])):=λm e t ht=>by
  refine q t _ (ah ht _) ?_;rw[ae];show _=some (HO.tup (tp (wf i p.lo p.hi (n :: ns))));rw[e];rfl
 match i,hwy with
 |0,hwy =>
  cases hwy;exact⟨_,U,U,_,U,eA U ⟨_,U,c,_,_,_,U,U,hS,at0 n ns,bp,λt ht=>u6 n U t ht⟩⟩
 |1,hwy =>
  cases hwy;refine⟨_,U,U,_,U,bR (by decide+kernel) ⟨_,U,U,_,U,bR (by decide+kernel) ⟨_,U,U,_,U,bR (by decide+kernel) ⟨_,U,U,_,U,bR (by decide+kernel) ?_⟩⟩⟩⟩;refine⟨_,U,U,_,U,eA U ⟨_,U,c,_,U,.inl (hS),_,_,U,U,_,U,?_⟩⟩;refine di (λg=>?_) (λg=>?_)
  ·refine ee ⟨bp,λt ht=>q t _ (ah ht _) ?_⟩;rw[ae];show _=some (HO.tup (tp (j4 (n :: ns))));unfold j4;rw[if_neg (by have:=nH g;rw[length_cons];rw[hml]at this;lia)];rfl
  ·refine⟨_,U,U,_,U,bR (by decide+kernel) (bV ⟨_,U,c,_,_,_,U,U,hS,at0 n ns,bp,λt ht=>u6 n ?_ t ht⟩)⟩;show j4 (n :: ns)=say n;unfold j4;rw[if_pos (by have:=tm g;rw[length_cons];rw[hml]at this;lia)];rfl
 |2,hwy =>
  cases hwy;refine⟨_,U,U,_,U,bR (by decide+kernel) ⟨_,U,U,_,U,bR (by decide+kernel) ⟨_,U,U,_,U,bR (by decide+kernel) ⟨_,U,U,_,U,bR (by decide+kernel) ?_⟩⟩⟩⟩;refine⟨_,U,U,_,U,bR (by decide+kernel) (bV ⟨_,U,U,_,U,eA U ⟨_,U,c,_,U,hS,succ_pos _,λm h1 h2=>⟨_,U,c,_,U,hS,succ_pos _,λm' h1' h2'=>⟨U,_,U,?_⟩⟩⟩⟩)⟩;rw[mr h1 h2,mx h1' h2'];by_cases hg:least (n :: ns)=great (n :: ns)
  ·refine tj (by rw[hg]) ⟨_,U,c,_,_,_,U,U,hS,at0 n ns,bp,λt ht=>u6 n ?_ t ht⟩;show j3 (n :: ns)=say n;unfold j3;rw[if_pos hg,n6 (kH.mpr hg)]
  ·refine yr (λz=>hg (by injection z)) ⟨bp,λt ht=>q t _ (ah ht _) ?_⟩;rw[ae];show _=some (HO.tup (tp (j3 (n :: ns))));unfold j3;rw[if_neg hg];rfl
 |3,hwy =>
  cases hwy;refine⟨_,U,U,_,U,bR (by decide+kernel) ⟨_,U,U,_,U,eA U ⟨_,U,c,_,U,hS,succ_pos _,λm h1 h2=>⟨bp,λt ht=>u6 m (by rw[mr h1 h2];rfl) t ht⟩⟩⟩⟩
 |4,hwy =>
  cases hwy;refine⟨_,U,U,_,U,bR (by decide+kernel) ⟨_,U,U,_,U,bR (by decide+kernel) ⟨_,U,U,_,U,eA U ⟨_,U,c,_,U,hS,succ_pos _,λm h1 h2=>⟨bp,λt ht=>u6 m (by rw[mx h1 h2];rfl) t ht⟩⟩⟩⟩⟩
 |5,hwy =>
  cases hwy;refine⟨_,U,U,_,U,bR (by decide+kernel) ⟨_,U,U,_,U,bR (by decide+kernel) ⟨_,U,U,_,U,bR (by decide+kernel) ⟨_,U,U,_,U,eA U ⟨_,U,r,_,_,_,U,U,SqT.of er,U,_,U,r,_,_,_,U,U,SqT.of er,U,_,U,c,_,U,hS,_,_,U,_,_,U,bp,λt ht=>u6 _ ?_ t ht⟩⟩⟩⟩⟩;show say (near p.lo p.hi (n :: ns).sum)=say _
  congr 1
  unfold near;generalize (n :: ns).sum=t;split <;> split <;> split <;> first|rfl|lia|(split <;> lia)
 |k+6,hwy=>exact absurd (zD hwy) (by lia)
theorem CP(F:Fun K "_law_point" "_law_point" Y62 f fd) (bl:Bl K mg Y)  : aN P w K mg base CX0 1 f fd ["plan","cell"] (gx K Y):=by
 refine F.okA Z62 λcdv A outer s H vs Q E hr h=>?_
 obtain⟨r,cell,zs,ds,ts,fN,rfl,hPl,ok,h32,ht4,q⟩:=h
 refine⟨_,(av (gY (pv 0) (dh U (aJ (aD (i:=2) Z62.nd U (Or.inl U)) (aJ (aD (i:=3) Z62.nd U (Or.inl U)) (aJ (aD (i:=4) Z62.nd U (Or.inl U)) bJ)))))
  (av (d8 (i:=5) Z62.nd U (Or.inl U) (aO (pv 2)) (bD U (by decide+kernel) (by decide+kernel) (by decide+kernel) U) U (λ_ _ _ _=>aV) (λ_ _ _ _=>(bz af)))
  (av (bf PassesOwn.never U (aO (pv 4)) (aD (i:=6) Z62.nd U (Or.inl U))
  (ag (bf PassesOwn.never U (aO (aF aW (pv 6) ai (λ_ _=>U))) (aD (i:=7) Z62.nd U (Or.inl U))
  (ag (bf PassesOwn.never U (br U bl.range_ (aa (au aq U bl.len_ boot_len (aa (aF aW (pv 6) ai (λ_ _=>U)) af)) af)) (aD (i:=8) Z62.nd U (Or.inl U))
  (av (aK (i:=9) Z62.nd U (Or.inl U) (aF aL (aF aW (pv 7) ai (λ_ _=>U)) (pv 8) (λ_ _=>U)))
  (av (aT (d9 PySem.F.plainAttrs_list PySem.F.slot_list_extend PySem.F.type_list_extend kx (aF aL (pv 5) (aF aL (aF aW (pv 6) ai (λ_ _=>U)) (pv 8) (λ_ _=>U)) (λ_ _=>U)) (aa (bF (aO (pv 9)) (bD U (by decide+kernel) (by decide+kernel) (by decide+kernel) U) U (λ_ _ _ _=>aV) (λ_ _ _ _=>(aF (dM (K:=K) U) (pv 0) ai (λ_ _=>U)))) af)))
  (ag (aT (d9 PySem.F.plainAttrs_list PySem.F.slot_list_extend PySem.F.type_list_extend kx (aF aL (pv 5) (aF aL (aF aW (pv 6) ai (λ_ _=>U)) (pv 8) (λ_ _=>U)) (λ_ _=>U)) (aa (bF (aO (pv 9)) (bD U (by decide+kernel) (by decide+kernel) (by decide+kernel) U) U (λ_ _ _ _=>aV) (λ_ _ _ _=>(aE bG (aF (dM (K:=K) U) (pv 0) ai (λ_ _=>U)) ai))) af)))))))))))
  (av (aK (i:=10) Z62.nd U (Or.inl U) (bz af))
  (ay (bf PassesOwn.never U (br U bl.range_ (aa (aE ck (au aq U bl.len_ boot_len (aa (pv 2) af)) (au aq U bl.len_ boot_len (aa (pv 4) af))) af)) (aD (i:=11) Z62.nd U (Or.inl U))
  (av (aK (i:=12) Z62.nd U (Or.inl U) (aF aW (aF aL (pv 3) (pv 11) (λ_ _=>U)) ai (λ_ _=>U)))
  (av (aK (i:=13) Z62.nd U (Or.inl U) (aF aW (aF aL (pv 3) (pv 11) (λ_ _=>U)) ai (λ_ _=>U)))
  (av (aK (i:=14) Z62.nd U (Or.inl U) (aE bG (pv 12) (aE bu (aE bE (pv 1) (aE bG (pv 11) ai)) (aE bG (aE ck (pv 13) (pv 12)) ai))))
  (av (aQ (PW.pt (gn (aI hU (au aq U bl.len_ boot_len (aa (aF aL (pv 5) (pv 11) (λ_ _=>U)) af)) ai (aP _)) (eP (aI hU (aE bu (aE bE (pv 1) (aE bG ai (pv 11))) ai) ai (aP _)))))
  (ag (aK (i:=14) Z62.nd U (Or.inl U) (aE ck (aF aL (aF aL (pv 5) (pv 11) (λ_ _=>U)) (aE bu (aE bE (pv 1) ai) (au aq U bl.len_ boot_len (aa (aF aL (pv 5) (pv 11) (λ_ _=>U)) af))) (λ_ _=>U)) (aE bu (aE bE (pv 1) ai) ai))))
  aH)
  (ag (aT (d9 PySem.F.plainAttrs_list PySem.F.slot_list_append PySem.F.type_list_append bS (pv 10) (aa (au (iK U) U bl.max_ PyProof.Rows.boot_max (aa (pv 12) (aa (au (fU U) U bl.min_ PyProof.Rows.boot_min (aa (pv 13) (aa (pv 14) af))) af))) af)))))))))
  (ag (aG (pv 10)))))))),?_⟩
 obtain⟨nl,dl,tl_,dv,tv,er,enl,edl,hdv,etl,htv⟩:=id hPl;have hzl:(zs.map V.str).length=zs.length:=length_map _;have hl1:=ok.len;have hl2:=ok.tab;have h7:=ok.n7;have htl:tv.length=ts.length:=htv.1;refine⟨λσ' H'=>H'=H/\σ'=[some (.ref r),some (.int cell),some (.ref nl),some (.ref dl),some (.ref tl_),none,none,none,none,none,none,none,none,none,none],⟨_,U,r,_,U,SqT.of er,U,_,_,U,_,_,U,_,_,U,U,U,U⟩,?_⟩;rintro σ1 H1 ⟨e1_,rfl⟩;subst e1_;refine⟨λσ' H'=>ao H1 H'/\∃ea:Addr,EnA H1 H' ea zs.length 0/\σ'=[some (.ref r),some (.int cell),some (.ref nl),some (.ref dl),some (.ref tl_),some (.ref ea),none,none,none,none,none,none,none,none,none],?_,?_⟩
 ·refine⟨_,U,nl,U,⟨_,SqL.of enl⟩,bh (xs:=zs.map V.str) (λD i ys H'=>ao H1 H'/\H' D=some (.lst ys)/\ys.length=i/\∀(j:Nat)(x:V),ys[j]?=some x->∃l:Addr,x=.ref l/\l≠D/\H1 l=none/\H' l=some (.lst [])) (λD hD=>⟨ah hD _,ae,U,λj x e=>by simp at e⟩) (λD i ys H' hD _ h=>SqL.of (h.1 _ _ enl)) (λD i y ys H' hD e h=>?_) (λD ys H' hD h=>?_)⟩
  ·obtain⟨sm,eD,hyl,hy⟩:=h;have hi:i<(zs.map V.str).length:=(EW.mp e).1;refine⟨zero_le _,λl hl=>?_⟩;have u:=ah hl (.lst []);have el:upd H' l (.lst []) l=some (.lst []):=ae;have nlD:l≠D:=λz=>by rw[z,eD]at hl;cases hl
   generalize upd H' l (.lst [])=H2 at u el⊢;have eD2:=u _ _ eD;refine bT.mk hi eD2 (aC (by lia)) ⟨(sm.trans u).upd hD,ae,by rw[length_append,hyl];rfl,λj x ex=>?_⟩;by_cases hj:j<ys.length
   ·rw[getElem?_append_left hj]at ex;obtain⟨l',a1,a2,a3,a4⟩:=hy j x ex;exact⟨l',a1,a2,a3,(ar a2).trans (u _ _ a4)⟩
   ·have hj2:j-ys.length=0:=by
     have:=(EW.mp ex).1;rw[length_append,length_singleton]at this;lia
    rw[getElem?_append_right (by lia),hj2]at ex;cases ex;exact⟨l,U,nlD,sm.free hl,(ar nlD).trans el⟩
  ·obtain⟨sm,eD,hyl,hy⟩:=h;rw[hzl]at hyl;exact⟨sm,D,⟨hD,ys,eD,hyl,λj x e=>let ⟨l,a1,a2,a3,a4⟩:=hy j x e;⟨l,[],a1,a2,a3,a4,le_refl _⟩⟩,U⟩
 rintro σ2 H2 ⟨s2,ea,hE2,rfl⟩;have szl:∀n:Nat,n<=2000->n<=sizeLine:=λn h=>le_trans h (by decide)
 refine⟨λσ' H'=>ao H1 H'/\EnA H1 H' ea zs.length 1600/\∃c6 c7 c8 c9:Option V,σ'=[some (.ref r),some (.int cell),some (.ref nl),some (.ref dl),some (.ref tl_),some (.ref ea),c6,c7,c8,c9,none,none,none,none,none],?_,?_⟩
 ·refine⟨_,U,tl_,U,⟨_,SqL.of (s2 _ _ etl)⟩,bg (xs:=tv) (λi σ H'=>ao H1 H'/\EnA H1 H' ea zs.length (384*i)/\∃c6 c7 c8 c9:Option V,σ=[some (.ref r),some (.int cell),some (.ref nl),some (.ref dl),some (.ref tl_),some (.ref ea),c6,c7,c8,c9,none,none,none,none,none]) ⟨s2,hE2,_,_,_,_,U⟩ (λi σ H' _ h=>SqL.of (h.1 _ _ etl)) (λi y σ H' e h=>?_) (λσ H' h=>?_)⟩
  ·obtain⟨sm,hE,c6,c7,c8,c9,rfl⟩:=h;obtain⟨ta,t,rfl,et,cl,rl,rx,g1,g2,g3,g4⟩:=az.get htv e;have hi:i<ts.length:=(EW.mp et).1;have tok:=ok.tabs i t et;have hc3:t.cols.length<=3:=tok.ok.few;have EL:=h32 t (EY et);have hrl:rx.length=t.rows.length:=g4.1;have hvl:(vN t.cols).length=t.cols.length:=cC _;refine⟨_,U,ta,_,_,_,U,U,SqT.of (sm _ _ g1),U,rl,U,⟨_,SqL.of (sm _ _ g3)⟩,bg (xs:=rx) (λii σ H'=>ao H1 H'/\EnA H1 H' ea zs.length (384*i+12*ii)/\∃c7 c8 c9:Option V,σ=[some (.ref r),some (.int cell),some (.ref nl),some (.ref dl),some (.ref tl_),some (.ref ea),some (.ref ta),c7,c8,c9,none,none,none,none,none]) ⟨sm,hE,_,_,_,U⟩ (λii σ H' _ h=>SqL.of (h.1 _ _ g3)) (λii y σ H' e h=>?_) (λσ H' h=>?_)⟩
   ·obtain⟨sn,hEn,c7,c8,c9,rfl⟩:=h;obtain⟨ro,w_,rfl,ew,ce,cv,q1,_,q2,q3⟩:=az.get g4 e;have hii:ii<t.rows.length:=(EW.mp ew).1;have fit:=tok.rows w_ (EY ew);refine⟨_,U,ta,_,_,_,U,U,SqT.of (sn _ _ g1),U,cl,_,U,.inl (SqL.of (sn _ _ g2)),_,U,(by lia),(by lia),dG (λjj σ H'=>ao H1 H'/\EnA H1 H' ea zs.length (384*i+12*ii+4*jj)/\∃c8 c9:Option V,σ=[some (.ref r),some (.int cell),some (.ref nl),some (.ref dl),some (.ref tl_),some (.ref ea),some (.ref ta),some (.ref ro),c8,c9,none,none,none,none,none]) ⟨sn,hEn,_,_,U⟩ (λjj σ H' hjj h=>?_) (λσ H' h=>?_)⟩
    ·obtain⟨so,hEo,c8,c9,rfl⟩:=h;rw[toNat_natCast,cC]at hjj;rw[show(0:Int)+(jj:Int)=(jj:Int) by lia];have ecj:=EV hjj;generalize t.cols[jj]=cj at ecj;have hcj:cj<zs.length:=by
      have:=tok.ok.lt cj (EY ecj);lia
     have hcw:jj<w_.1.length:=by rw[fit.len];exact hjj
     have eps:=EV hcw;generalize w_.1[jj]=ps at eps;obtain⟨lc,elc,_,yv,eyv,hyv⟩:=q3.2 jj ps eps;have Bd:=fit.few ps (EY eps);have hyl:=hyv.length;refine⟨λσ' H''=>H''=H'/\σ'=[some (.ref r),some (.int cell),some (.ref nl),some (.ref dl),some (.ref tl_),some (.ref ea),some (.ref ta),some (.ref ro),some (.int (jj:Int)),some (.ref lc),none,none,none,none,none],⟨_,U,ro,_,_,_,U,U,SqT.of (so _ _ q1),U,_,U,ce,_,_,_,U,U,SqL.of (so _ _ q2),aM elc,U,U⟩,?_⟩;rintro σa Ha ⟨ea_,rfl⟩;subst ea_;have one:∀{HX:Hp}{m:Nat},ao H1 HX->EnA H1 HX ea zs.length m->∃(ev:List V)(l:Addr)(xs:List Int),HX ea=some (.lst ev)/\ev[cj]?=some (.ref l)/\l≠ea/\H1 l=none/\HX l=some (.lst (xs.map V.int))/\xs.length<=m:=λsX hX=>by
      obtain⟨h0,ev,h1,h2,h3⟩:=hX;have ex:=EV (l:=ev) (i:=cj) (by lia);obtain⟨l,xs,a1,a2,a3,a4,a5⟩:=h3 cj _ ex;rw[a1]at ex;exact⟨ev,l,xs,h1,ex,a2,a3,a4,a5⟩
     refine⟨λσ' H''=>ao H1 H''/\EnA H1 H'' ea zs.length (384*i+12*ii+4*jj+2)/\σ'=[some (.ref r),some (.int cell),some (.ref nl),some (.ref dl),some (.ref tl_),some (.ref ea),some (.ref ta),some (.ref ro),some (.int (jj:Int)),some (.ref lc),none,none,none,none,none],?_,?_⟩
     ·obtain⟨ev,l,xs,b1,b2,b3,b4,b5,b6⟩:=one so hEo;refine⟨_,U,_,U,ta,_,_,_,U,U,SqT.of (so _ _ g1),U,_,U,cl,_,_,_,U,U,SqL.of (so _ _ g2),aM (wx ecj),ea,_,_,_,U,U,SqL.of b1,aM b2,.inl ⟨U,_,SqL.of b5⟩,_,U,lc,U,⟨_,SqL.of (so _ _ eyv)⟩,bh (xs:=yv) (λD k ys H''=>ao Ha H''/\H'' D=some (.lst ys)/\ys=((ps.take k).map λy=>y.1).map V.int) (λD hD=>⟨ah hD _,ae,U⟩) (λD k ys H'' hD _ h=>SqL.of ((so.trans h.1) _ _ eyv)) (λD k yy ys H'' hD e h=>?_) (λD ys H'' hD h=>?_)⟩
      ·obtain⟨sq,eD',rfl⟩:=h;obtain⟨pr,rp,epr,rfl,erp⟩:=(hyv.mono (so.trans sq).tups).get e;have hk':k<yv.length:=(EW.mp e).1;refine⟨_,U,rp,_,_,_,U,U,SqT.of erp,U,bT.mk hk' eD' (aC (by rw[length_map,length_map,length_take];lia)) ⟨sq.upd hD,ae,?_⟩⟩;rw[take_snoc epr,map_append,map_append];rfl
      ·obtain⟨sq,eD',rfl⟩:=h;rw[hyl,take_length]at eD';exact⟨l,D,_,_,U,U,sq _ _ b5,eD',szl _ (by rw[length_map,length_map,length_map];lia),(so.trans sq).upd b4,(hEo.same sq).ext b3 (sq _ _ b5) b6 (by rw[length_map];exact Bd),U⟩
     rintro σb Hb ⟨sb,hEb,rfl⟩;obtain⟨ev,l,xs,b1,b2,b3,b4,b5,b6⟩:=one sb hEb;refine⟨_,U,_,U,ta,_,_,_,U,U,SqT.of (sb _ _ g1),U,_,U,cl,_,_,_,U,U,SqL.of (sb _ _ g2),aM (wx ecj),ea,_,_,_,U,U,SqL.of b1,aM b2,.inl ⟨U,_,SqL.of b5⟩,_,U,lc,U,⟨_,SqL.of (sb _ _ eyv)⟩,bh (xs:=yv) (λD k ys H''=>ao Hb H''/\H'' D=some (.lst ys)/\ys=((ps.take k).map λy=>y.2+1).map V.int) (λD hD=>⟨ah hD _,ae,U⟩) (λD k ys H'' hD _ h=>SqL.of ((sb.trans h.1) _ _ eyv)) (λD k yy ys H'' hD e h=>?_) (λD ys H'' hD h=>?_)⟩
     ·obtain⟨sq,eD',rfl⟩:=h;obtain⟨pr,rp,epr,rfl,erp⟩:=(hyv.mono (sb.trans sq).tups).get e;have hk':k<yv.length:=(EW.mp e).1;refine⟨_,U,rp,_,_,_,U,U,SqT.of erp,U,_,_,U,U,bT.mk hk' eD' (aC (by rw[length_map,length_map,length_take];lia)) ⟨sq.upd hD,ae,?_⟩⟩;rw[take_snoc epr,map_append,map_append];rfl
     ·obtain⟨sq,eD',rfl⟩:=h;rw[hyl,take_length]at eD';exact⟨l,D,_,_,U,U,sq _ _ b5,eD',szl _ (by rw[length_map,length_map,length_map];lia),(sb.trans sq).upd b4,((hEb.same sq).ext b3 (sq _ _ b5) b6 (ys:=ps.map λy=>y.2+1) (k:=2) (by rw[length_map];exact Bd)).le (by lia),_,_,U⟩
    ·obtain⟨so,hEo,c8,c9,rfl⟩:=h;rw[toNat_natCast,cC]at hEo;exact⟨so,hEo.le (by lia),_,_,_,U⟩
   ·obtain⟨sn,hEn,c7,c8,c9,rfl⟩:=h;exact⟨sn,hEn.le (by lia),_,_,_,_,U⟩
  ·obtain⟨sm,hE,c6,c7,c8,c9,rfl⟩:=h;exact⟨sm,hE.le (by lia),_,_,_,_,U⟩
 rintro σ3 H3 ⟨s3,hE3,c6,c7,c8,c9,rfl⟩;refine⟨λσ' H'=>ao H3 H'/\∃ca:Addr,H3 ca=none/\H' ca=some (.lst (([]:List Int).map V.int))/\σ'=[some (.ref r),some (.int cell),some (.ref nl),some (.ref dl),some (.ref tl_),some (.ref ea),c6,c7,c8,c9,some (.ref ca),none,none,none,none],⟨zero_le _,λl hl=>⟨ah hl _,l,hl,ae,U⟩⟩,?_⟩;rintro σ4 H4 ⟨s4,ca,nca,eca,rfl⟩;have s34:=s3.trans s4;have CQ:=s3.free nca;have uC:((((zs.map V.str).length:Nat):Int)-((tv.length:Nat):Int)).toNat=fN:=by lia
 refine⟨_,U,nl,_,U,.inl (SqL.of (s34 _ _ enl)),_,U,tl_,_,U,.inl (SqL.of (s34 _ _ etl)),_,_,U,U,_,U,(by lia),(by lia),dG (λi σ H'=>ao H3 H'/\∃cd:List Int,H' ca=some (.lst (cd.map V.int))/\cd.length=i/\(∀(f:Nat)(p:PD),f<i->ds[f]?=some p->p.lo<=cd.getD f 0/\cd.getD f 0<=p.hi)/\∃c11 c12 c13 c14:Option V,σ=[some (.ref r),some (.int cell),some (.ref nl),some (.ref dl),some (.ref tl_),some (.ref ea),c6,c7,c8,c9,some (.ref ca),c11,c12,c13,c14]) ⟨s4,[],eca,U,(λf p hf=>by lia),_,_,_,_,U⟩ (λi σ H' hi h=>?_) (λσ H' h=>?_)⟩
 ·obtain⟨sm0,cd,ecd,hcl,hcb,c11,c12,c13,c14,rfl⟩:=h;have sm:=s3.trans sm0;have hE:=hE3.same sm0;rw[uC]at hi;rw[show(0:Int)+(i:Int)=(i:Int) by lia];have ep:=EV (l:=ds) (i:=i) (by lia);generalize ds[i]=p at ep;obtain⟨da,eda,wl,_,_,e1,e2⟩:=hdv.2 i p ep;have pok:=ok.doms p (EY ep);have hle:=pok.le;refine⟨λσ' H''=>H''=H'/\σ'=[some (.ref r),some (.int cell),some (.ref nl),some (.ref dl),some (.ref tl_),some (.ref ea),c6,c7,c8,c9,some (.ref ca),some (.int (i:Int)),some (.int p.lo),c13,c14],⟨_,U,_,U,dl,_,_,_,U,U,SqL.of (sm _ _ edl),aM eda,da,_,_,_,U,U,SqT.of (sm _ _ e1),U,U,U⟩,?_⟩;rintro σa Ha ⟨ea_,rfl⟩;subst ea_;refine⟨λσ' H''=>H''=Ha/\σ'=[some (.ref r),some (.int cell),some (.ref nl),some (.ref dl),some (.ref tl_),some (.ref ea),c6,c7,c8,c9,some (.ref ca),some (.int (i:Int)),some (.int p.lo),some (.int p.hi),c14],⟨_,U,_,U,dl,_,_,_,U,U,SqL.of (sm _ _ edl),aM eda,da,_,_,_,U,U,SqT.of (sm _ _ e1),U,U,U⟩,?_⟩;rintro σb Hb ⟨eb_,rfl⟩;subst eb_;refine⟨λσ' H''=>H''=Hb/\∃co:Int,σ'=[some (.ref r),some (.int cell),some (.ref nl),some (.ref dl),some (.ref tl_),some (.ref ea),c6,c7,c8,c9,some (.ref ca),some (.int (i:Int)),some (.int p.lo),some (.int p.hi),some (.int co)],⟨_,U,_,U,_,U,_,_,U,U,_,_,U,U,eX (by lia) (by lia),_,U,_,U,_,_,U,U,_,_,U,U,_,_,U,U,(by show(0:Int)<p.hi-p.lo+1;lia),_,_,U,U,U,_,U⟩,?_⟩;rintro σc Hc ⟨ec_,co,rfl⟩;subst ec_;obtain⟨h0,ev,eev,EM,hev⟩:=id hE;have ex:=EV (l:=ev) (i:=i) (by lia);obtain⟨l,xs,hx1,hx2,hx3,hx4,hx5⟩:=hev i _ ex;rw[hx1]at ex;have hxm:(xs.map V.int).length=xs.length:=length_map _;refine⟨λσ' H''=>H''=Hc/\∃co:Int,σ'=[some (.ref r),some (.int cell),some (.ref nl),some (.ref dl),some (.ref tl_),some (.ref ea),c6,c7,c8,c9,some (.ref ca),some (.int (i:Int)),some (.int p.lo),some (.int p.hi),some (.int co)],?_,?_⟩
  ·refine⟨_,U,_,U,ea,_,_,_,U,U,SqL.of eev,aM ex,l,_,U,.inl (SqL.of hx4),_,_,U,U,_,U,di (λg=>?_) (λg=>⟨U,co,U⟩)⟩;have g:=of_decide_eq_true g;rw[hxm]at g;refine⟨_,U,_,U,_,_,U,U,_,_,U,U,eX (by lia) (by lia),_,_,U,U,(by show(0:Int)<3;decide),_,_,U,U,_,U,di (λg2=>?_) (λg2=>⟨U,co,U⟩)⟩;have j0:=emod_nonneg (cell / 7) (show((xs.length:Nat):Int)≠0 by lia);have j1:=emod_lt_of_pos (cell / 7) (show(0:Int)<((xs.length:Nat):Int) by lia);obtain⟨v,ev2⟩:∃v,xs[(cell / 7%((xs.length:Nat):Int)).toNat]?=some v:=⟨_,EV (by lia)⟩;have ix:atI (xs.map V.int) (cell / 7%(((xs.map V.int).length:Nat):Int))=some (.int v):=by
    have:=aM (get_map ev2);rw[toNat_of_nonneg j0]at this;rw[hxm];exact this
   refine⟨_,U,_,U,ea,_,_,_,U,U,SqL.of eev,aM ex,_,U,_,_,U,U,⟨by decide,by decide⟩,_,U,_,U,ea,_,_,_,U,U,SqL.of eev,aM ex,l,_,U,.inl (SqL.of hx4),_,_,U,U,(by rw[hxm];lia),l,_,_,_,U,U,SqL.of hx4,ix,_,U,_,_,U,U,⟨by decide,by decide⟩,_,_,U,U,(by show(0:Int)<2;decide),_,_,U,U,U,_,U⟩
  rintro σd Hd ⟨ed_,co2,rfl⟩;subst ed_;refine⟨_,U,.inl ⟨U,_,SqL.of ecd⟩,_,U,_,U,_,U,_,_,U,_,_,U,ca,_,_,U,U,ecd,aC (by rw[length_map];lia),sm0.upd nca,cd++[_],by rw[ae,map_append];rfl,by rw[length_append,hcl];rfl,λf p' hf ep'=>?_,_,_,_,_,U⟩;by_cases hfi:f<i
  ·have:=hcb f p' hfi ep';rw[getD_eq_getElem?_getD,getElem?_append_left (by lia),←getD_eq_getElem?_getD];exact this
  ·have:f=i:=by lia
   subst this;rw[ep]at ep';cases ep';rw[getD_eq_getElem?_getD,getElem?_append_right (by lia),hcl,sub_self];simp only[List.getElem?_cons_zero,Option.getD_some];split <;> split <;> constructor <;> lia
 ·obtain⟨sm0,cd,ecd,hcl,hcb,c11,c12,c13,c14,rfl⟩:=h;rw[uC]at hcl hcb;exact⟨_,U,q ca cd H' (s3.trans sm0) CQ ecd hcl hcb⟩
theorem CS(F:Fun K "_law_worth" "_law_worth" Y68 f fd) (bl:Bl K mg Y)  : aN P w K mg base CX0 1 f fd ["domain","code"] (gy K Y):=by
 refine F.okA Z68 λcdv A outer s H vs Q E hr h=>?_
 obtain⟨r,p,c,rfl,⟨l,_,_,er,el⟩,ok,h1,h2,q⟩:=h
 refine⟨_,(ay (aQ (aI hU (au aq U bl.len_ boot_len (aa (aF aW (pv 0) ai (λ_ _=>U)) af)) ai (aP _))
  (ag (aG (aF aL (aF aW (pv 0) ai (λ_ _=>U)) (pv 1) (λ_ _=>U))))
  aH)
  (ag (aG (pv 1)))),?_⟩
 unfold wvP at q;have hml:(p.ws.map V.str).length=p.ws.length:=length_map _;refine⟨_,U,r,_,_,_,U,U,SqT.of er,U,l,_,U,.inl (SqL.of el),_,_,U,U,_,U,?_⟩;by_cases hw:p.ws=[]
 ·rw[if_pos hw]at q;refine bR (by rw[hw];decide) ⟨_,U,q⟩
 ·rw[if_neg hw]at q;obtain⟨g,e0,e1⟩:=ok.wd hw;have ze:0<p.ws.length:=List.length_pos_iff.mpr hw;unfold hiW at e1;have ec:c=((c.toNat:Nat):Int):=by lia
  have ix:=EV (l:=p.ws) (i:=c.toNat) (by lia);rw[getD_eq_getElem?_getD,ix]at q;have hat:atI (p.ws.map V.str) ((c.toNat:Nat):Int)=some (.str (p.ws[c.toNat]'(by lia))):=aM (eV ix);rw[←ec]at hat;refine eA (by show(0:Int)<(((p.ws.map V.str).length:Nat):Int);lia) ⟨_,U,r,_,_,_,U,U,SqT.of er,U,_,U,l,_,_,_,U,U,SqL.of el,hat,q⟩
theorem CT(F:Fun K "__init__" "Way.__init__" Y23 f fd) (bl:Bl K mg Y)  : aN P w K mg base CX0 1 f fd ["self","called"] (cJ K Y):=by
 refine F.okA Z23 λcdv A outer s H vs Q E hr h=>?_
 obtain⟨x,dx,z,rfl,hx,q⟩:=h;refine⟨_,(ag (cz (pv 0) (pv 1) U)),?_⟩;exact⟨_,U,_,U,x,_,dx,_,U,hx,bl.k_First,bl.na_First_called,(by show 0<1000;decide),q⟩
theorem CU(F:Fun K "__init__" "Way.__init__" Y27 f fd) (bl:Bl K mg Y)  : aN P w K mg base CX0 1 f fd ["self","called"] (cS K Y):=by
 refine F.okA Z27 λcdv A outer s H vs Q E hr h=>?_
 obtain⟨x,dx,z,rfl,hx,q⟩:=h;refine⟨_,(ag (cz (pv 0) (pv 1) U)),?_⟩;exact⟨_,U,_,U,x,_,dx,_,U,hx,bl.k_Only,bl.na_Only_called,(by show 0<1000;decide),q⟩
theorem CV(F:Fun K "__init__" "Way.__init__" Y25 f fd) (bl:Bl K mg Y)  : aN P w K mg base CX0 1 f fd ["self","called"] (cU K Y):=by
 refine F.okA Z25 λcdv A outer s H vs Q E hr h=>?_
 obtain⟨x,dx,z,rfl,hx,q⟩:=h;refine⟨_,(ag (cz (pv 0) (pv 1) U)),?_⟩;exact⟨_,U,_,U,x,_,dx,_,U,hx,bl.k_Like,bl.na_Like_called,(by show 0<1000;decide),q⟩
theorem CW(F:Fun K "__init__" "Way.__init__" Y26 f fd) (bl:Bl K mg Y)  : aN P w K mg base CX0 1 f fd ["self","called"] (dk K Y):=by
 refine F.okA Z26 λcdv A outer s H vs Q E hr h=>?_
 obtain⟨x,dx,z,rfl,hx,q⟩:=h;refine⟨_,(ag (cz (pv 0) (pv 1) U)),?_⟩;exact⟨_,U,_,U,x,_,dx,_,U,hx,bl.k_Low,bl.na_Low_called,(by show 0<1000;decide),q⟩
theorem CY(F:Fun K "__init__" "Way.__init__" Y24 f fd) (bl:Bl K mg Y)  : aN P w K mg base CX0 1 f fd ["self","called"] (cV K Y):=by
 refine F.okA Z24 λcdv A outer s H vs Q E hr h=>?_
 obtain⟨x,dx,z,rfl,hx,q⟩:=h;refine⟨_,(ag (cz (pv 0) (pv 1) U)),?_⟩;exact⟨_,U,_,U,x,_,dx,_,U,hx,bl.k_High,bl.na_High_called,(by show 0<1000;decide),q⟩
theorem CZ(F:Fun K "__init__" "Way.__init__" Y28 f fd) (bl:Bl K mg Y)  : aN P w K mg base CX0 1 f fd ["self","called"] (dn K Y):=by
 refine F.okA Z28 λcdv A outer s H vs Q E hr h=>?_
 obtain⟨x,dx,z,rfl,hx,q⟩:=h;refine⟨_,(ag (cz (pv 0) (pv 1) U)),?_⟩;exact⟨_,U,_,U,x,_,dx,_,U,hx,bl.k_Sum,bl.na_Sum_called,(by show 0<1000;decide),q⟩
theorem O_1(F:Fun K "__init__" "Domain.__init__" Y1 f fd) (bl:Bl K mg Y)  : aN P w K mg base CX0 1 f fd ["self","low","high"] (bU K Y):=by
 refine F.okA Z1 λcdv A outer s H vs Q E hr h=>?_
 obtain⟨x,dx,lo,hi,rfl,hx,q⟩:=h
 refine⟨_,(ay (cz (pv 0) (pv 1) U)
  (ag (cz (pv 0) (pv 2) U))),?_⟩
 refine⟨_,U,_,U,x,_,dx,_,U,hx,bl.k_Numbers,bl.na_Numbers_low,(by show 0<1000;decide),_,U,_,U,x,_,dx,_,U,ae,bl.k_Numbers,bl.na_Numbers_high,(by show 1<1000;decide),?_⟩;show Q .non (upd (upd H x (.ins Y.k dx [("low",.int lo)])) x (.ins Y.k dx (bC "high" (.int hi) [("low",.int lo)])));rw[put2];exact q
theorem O_2(F:Fun K "__init__" "Domain.__init__" Y2 f fd) (bl:Bl K mg Y)  : aN P w K mg base CX0 1 f fd ["self","low","high"] (b7 K Y):=by
 refine F.okA Z2 λcdv A outer s H vs Q E hr h=>?_
 obtain⟨x,dx,lo,hi,rfl,hx,q⟩:=h
 refine⟨_,(ay (cz (pv 0) (pv 1) U)
  (ag (cz (pv 0) (pv 2) U))),?_⟩
 refine⟨_,U,_,U,x,_,dx,_,U,hx,bl.k_Words,bl.na_Words_low,(by show 0<1000;decide),_,U,_,U,x,_,dx,_,U,ae,bl.k_Words,bl.na_Words_high,(by show 1<1000;decide),?_⟩;show Q .non (upd (upd H x (.ins Y.l dx [("low",.int lo)])) x (.ins Y.l dx (bC "high" (.int hi) [("low",.int lo)])));rw[put2];exact q
theorem C0(F:Fun K "borne_code" "Numbers.borne_code" Y17 f fd) (bl:Bl K mg Y)  : aN P w K mg base CX0 1 f fd ["self","value"] (bM K Y):=by
 refine F.okA Z17 λcdv A outer s H vs Q E hr h=>?_
 obtain⟨a,v,rfl,q⟩:=h;refine⟨_,(ag (aG (pv 1))),?_⟩;exact⟨_,U,q⟩
theorem C3(F:Fun K "borne_code" "Words.borne_code" Y37 f fd) (bl:Bl K mg Y)  : aN P w K mg base CX0 1 f fd ["self","value"] (bW K Y):=by
 refine F.okA Z37 λcdv A outer s H vs Q E hr h=>?_
 obtain⟨a,zs,z,j,rfl,⟨dx,lw,ha,hw⟩,nd,ez,q⟩:=h;refine⟨_,(ag (aG (d9 PySem.F.plainAttrs_list PySem.F.slot_list_index PySem.F.type_list_index vU (aY (pv 0) U) (aa (pv 1) af)))),?_⟩;refine⟨_,U,a,_,_,_,_,U,ha,bl.k_Words,bl.na_Words_words,U,.inl ⟨U,_,SqL.of hw⟩,_,U,lw,_,_,.str z,j,U,U,SqL.of hw,U,d6 zs,eV ez,by simp[eqV],λm u hm hu=>?_,q⟩;obtain⟨y,rfl,e⟩:=dq hu;have:y≠z:=λw_=>by
  subst w_;have:=eO nd e ez;lia
 simp[eqV,this]
theorem C4(F:Fun K "bears" "Words.bears" Y36 f fd) (bl:Bl K mg Y)  : aN P w K mg base CX0 1 f fd ["self","value"] (cX K Y):=by
 refine F.okA Z36 λcdv A outer s H vs Q E hr h=>?_
 obtain⟨a,zs,z,rfl,⟨dx,lw,ha,hw⟩,hz,q⟩:=h;refine⟨_,(ag (aG (jP nE (pv 1) (aY (pv 0) U) (by with_unfolding_all rfl)))),?_⟩;refine⟨_,U,_,U,a,_,_,_,_,U,ha,bl.k_Words,bl.na_Words_words,U,lw,_,U,.inl (SqL.of hw),U,d6 zs,?_⟩;show Q (.bl (inV (.str z) (zs.map V.str))) H;rw[ir,show zs.contains z=true by simpa using hz];exact q
theorem O_8(F:Fun K "chosen" "First.chosen" Y8 f fd) (bl:Bl K mg Y)  : aN P w K mg base CX0 1 f fd ["self","codes","outcome"] (J1 K Y):=by
 refine F.ok Z8 (λvs H Q E h=>?_) (λcdv A outer s H vs Q E hr h=>?_)
 ·obtain⟨x,c,o,n,ns,b,rfl,⟨dx,z,hx⟩,ho,hle,hS,hn,q⟩:=h;rfl
 obtain⟨x,c,o,n,ns,b,rfl,⟨dx,z,hx⟩,ho,hle,hS,hn,q⟩:=h;refine⟨_,(ag (aG (aZ (aa aS (aa (aF aL (pv 1) ai (λ_ _=>U)) af))))),?_⟩;exact⟨_,U,c,_,_,_,U,U,hS,at0 n ns,bp,λt ht=>q t _ (ah ht _) (SqT.of ae)⟩
theorem C5(F:Fun K "chosen" "Only.chosen" Y19 f fd) (bl:Bl K mg Y)  : aN P w K mg base CX0 1 f fd ["self","codes","outcome"] (J9 K Y):=by
 refine F.ok Z19 (λvs H Q E h=>?_) (λcdv A outer s H vs Q E hr h=>?_)
 ·obtain⟨x,c,o,n,ns,b,rfl,⟨dx,z,hx⟩,ho,hle,hS,hn,q⟩:=h;rfl
 obtain⟨x,c,o,n,ns,b,rfl,⟨dx,z,hx⟩,ho,hle,hS,hn,q⟩:=h;refine⟨_,(ag (aG (pT (aI cx (au aq U bl.len_ boot_len (aa (pv 1) af)) ai (aP _)) (aZ (aa aS (aa (aF aL (pv 1) ai (λ_ _=>U)) af))) (cM (v:=.ref Y.p) U bl.CLASH_ U)))),?_⟩;refine⟨_,U,c,_,U,.inl (hS),U,_,U,?_⟩;refine di (λg=>?_) (λg=>?_)
 ·have e:wf 1 b.1 b.2 (n :: ns)=say n:=by
   have g':=nH g;simp at g';show j4 _=_;unfold j4;rw[if_pos (by rw[length_cons];lia)];rfl
  rw[e]at q;exact⟨_,U,c,_,_,_,U,U,hS,at0 n ns,bp,λt ht=>q t _ (ah ht _) (SqT.of ae)⟩
 ·have e:wf 1 b.1 b.2 (n :: ns)=tO:=by
   have g':=tm g;simp at g';show j4 _=_;unfold j4;rw[if_neg (by rw[length_cons];lia)]
  rw[e]at q;exact q _ _ (ao.refl _) (bl.q_CLASH.sq _)
theorem C6(F:Fun K "chosen" "Like.chosen" Y12 f fd) (bl:Bl K mg Y)  : aN P w K mg base CX0 1 f fd ["self","codes","outcome"] (J5 K Y):=by
 refine F.ok Z12 (λvs H Q E h=>?_) (λcdv A outer s H vs Q E hr h=>?_)
 ·obtain⟨x,c,o,n,ns,b,rfl,⟨dx,z,hx⟩,ho,hle,hS,hn,q⟩:=h;rfl
 obtain⟨x,c,o,n,ns,b,rfl,⟨dx,z,hx⟩,ho,hle,hS,hn,q⟩:=h;refine⟨_,(ag (aG (pT (aI cx (au m4 U bl.len_ boot_len (aa (bx (mZ U) U bl.set_ PyProof.Rows.boot_set (aa (pv 1) af)) af)) ai (aP _)) (aZ (aa aS (aa (aF aL (pv 1) ai (λ_ _=>U)) af))) (cM (v:=.ref Y.p) U bl.CLASH_ U)))),?_⟩;refine⟨_,U,c,_,U,hS,(by rw[length_cons];lia),λl hl=>?_⟩;refine⟨l,_,U,ae,(by rw[length_cons];lia),U,_,U,?_⟩;have sl:ao H (upd H l (xq P w l (n :: ns))):=ah hl _;refine di (λg=>?_) (λg=>?_)
 ·have g':V.int _=V.int _:=nH g;have g2:cntK (n :: ns) (n :: ns).length=1:=by injection g' with g';lia
  have g3:=nS.mp g2;have e:wf 2 b.1 b.2 (n :: ns)=say n:=by
   show j3 _=_;unfold j3;rw[if_pos (kH.mp g3),n6 g3]
  rw[e]at q;exact⟨_,U,c,_,_,_,U,U,sl.seq hS,at0 n ns,bp,λt ht=>q t _ (sl.trans (ah ht _)) (SqT.of ae)⟩
 ·have g2:¬ cntK (n :: ns) (n :: ns).length=1:=λz=>(tm g) (by rw[z];rfl)
  have e:wf 2 b.1 b.2 (n :: ns)=tO:=by
   show j3 _=_;unfold j3;rw[if_neg λz=>g2 (nS.mpr (kH.mpr z))]
  rw[e]at q;exact q _ _ sl (bl.q_CLASH.sq _)
theorem C7(F:Fun K "chosen" "Low.chosen" Y14 f fd) (bl:Bl K mg Y)  : aN P w K mg base CX0 1 f fd ["self","codes","outcome"] (J7 K Y):=by
 refine F.ok Z14 (λvs H Q E h=>?_) (λcdv A outer s H vs Q E hr h=>?_)
 ·obtain⟨x,c,o,n,ns,b,rfl,⟨dx,z,hx⟩,ho,hle,hS,hn,q⟩:=h;rfl
 obtain⟨x,c,o,n,ns,b,rfl,⟨dx,z,hx⟩,ho,hle,hS,hn,q⟩:=h;refine⟨_,(ag (aG (aZ (aa aS (aa (au (fJ U) U bl.min_ PyProof.Rows.boot_min (aa (pv 1) af)) af))))),?_⟩;refine⟨_,U,c,_,U,hS,succ_pos _,λm h1 h2=>⟨bp,λt ht=>q t _ (ah ht _) (SqT.of ?_)⟩⟩;rw[ae,mr h1 h2];rfl
theorem C8(F:Fun K "chosen" "High.chosen" Y10 f fd) (bl:Bl K mg Y)  : aN P w K mg base CX0 1 f fd ["self","codes","outcome"] (J3 K Y):=by
 refine F.ok Z10 (λvs H Q E h=>?_) (λcdv A outer s H vs Q E hr h=>?_)
 ·obtain⟨x,c,o,n,ns,b,rfl,⟨dx,z,hx⟩,ho,hle,hS,hn,q⟩:=h;rfl
 obtain⟨x,c,o,n,ns,b,rfl,⟨dx,z,hx⟩,ho,hle,hS,hn,q⟩:=h;refine⟨_,(ag (aG (aZ (aa aS (aa (au (fK U) U bl.max_ PyProof.Rows.boot_max (aa (pv 1) af)) af))))),?_⟩;refine⟨_,U,c,_,U,hS,succ_pos _,λm h1 h2=>⟨bp,λt ht=>q t _ (ah ht _) (SqT.of ?_)⟩⟩;rw[ae,mx h1 h2];rfl
theorem C9(F:Fun K "chosen" "Sum.chosen" Y21 f fd) (bl:Bl K mg Y)  : aN P w K mg base CX0 1 f fd ["self","codes","outcome"] (J11 K Y):=by
 refine F.ok Z21 (λvs H Q E h=>?_) (λcdv A outer s H vs Q E hr h=>?_)
 ·obtain⟨x,c,o,n,ns,b,rfl,⟨dx,z,hx⟩,⟨C,hC,dy,fs,ho,hlo,hhi,_⟩,hle,hS,hn,q⟩:=h;rfl
 obtain⟨x,c,o,n,ns,b,rfl,⟨dx,z,hx⟩,⟨C,hC,dy,fs,ho,hlo,hhi,_⟩,hle,hS,hn,q⟩:=h;refine⟨_,(ag (aG (aZ (aa aS (aa (au (iK U) U bl.max_ PyProof.Rows.boot_max (aa (aY (pv 2) U) (aa (au (fU U) U bl.min_ PyProof.Rows.boot_min (aa (aY (pv 2) U) (aa (au (fF U) U bl.sum_ PyProof.Rows.boot_sum (aa (pv 1) af)) af))) af))) af))))),?_⟩;have hk:Cls K C/\NoAttr K C (Str.ofString "low")/\NoAttr K C (Str.ofString "high"):=by
  rcases hC with rfl|rfl
  ·exact⟨bl.k_Numbers,bl.na_Numbers_low,bl.na_Numbers_high⟩
  ·exact⟨bl.k_Words,bl.na_Words_low,bl.na_Words_high⟩
 refine⟨_,U,o,_,_,_,_,U,ho,hk.1,hk.2.1,hlo,_,U,o,_,_,_,_,U,ho,hk.1,hk.2.2,hhi,_,U,c,_,U,hS,_,_,U,_,_,U,?_⟩;refine⟨bp,λt ht=>q t _ (ah ht _) (SqT.of ?_)⟩;rw[ae];have e:near b.1 b.2 (n :: ns).sum=if (if (n :: ns).sum<b.2 then(n :: ns).sum else b.2)>b.1 then(if (n :: ns).sum<b.2 then(n :: ns).sum else b.2)else b.1:=by
  unfold near;generalize (n :: ns).sum=t;split <;> split <;> split <;> first|rfl|lia|(split <;> lia)
 show _=some (HO.tup (tp (say (near b.1 b.2 (n :: ns).sum))));rw[e];rfl
theorem Dc(F:Fun K "is_word" "is_word" Y47 f fd) (bl:Bl K mg Y)(qF:Callee P w K mg base 1 "all_among" ["text","signs"] (gu K Y)):aN P w K mg base CX0 2 f fd ["text"] (fe K Y):=by
 refine F.okA Z47 λcdv A outer s H vs Q E hr h=>?_
 obtain⟨z,rfl,hz,q⟩:=h;refine⟨_,(ag (aG (km (lK eL eL ai (au oH U bl.len_ boot_len (aa (pv 0) af)) (lV U bl.MOST_SIGNS_)) (km (jP pV (pv 0) aS (aP _)) (lI (aR qF hr U (aa (pv 0) (aa (lV U bl.SMALL_LETTERS_) af)))))))),?_⟩;refine⟨_,U,_,U,big hz,_,_,U,U,_,U,?_⟩;refine di (λg1=>?_) (λg1=>?_)
 ·refine⟨_,_,U,U,_,U,?_⟩;refine di (λg2=>?_) (λg2=>?_)
  ·refine⟨_,U,U,_,U,?_⟩;refine di (λg3=>?_) (λg3=>?_)
   ·refine⟨_,U,z,lets,U,?_⟩;have e:isw z=lW z lets:=by unfold isw;rw[g1,g2,g3];rfl
    rw[e]at q;exact q
   ·have e:isw z=false:=by unfold isw;rw[eq_false_iff.mpr g3,Bool.false_and,Bool.and_false,Bool.and_false]
    rw[e]at q;exact q
  ·have e:isw z=false:=by unfold isw;rw[eq_false_iff.mpr g2,Bool.false_and,Bool.and_false]
   rw[e]at q;exact q
 ·have e:isw z=false:=by unfold isw;rw[eq_false_iff.mpr g1,Bool.false_and]
  rw[e]at q;exact⟨_,U,bV q⟩
theorem Dd(F:Fun K "refuse_domains" "refuse_domains" Y77 f fd) (bl:Bl K mg Y)(xK:Callee P w K mg base 1 "alike" ["one","other"] (mK K Y)):aN P w K mg base CX0 2 f fd ["facts","tables"] (dQ K Y):=by
 refine F.okA Z77 λcdv A outer s H vs Q E hr h=>?_
 obtain⟨fa,ma,fv,mv,zs,ds,ts,fN,L,rfl,efa,ema,hB,q⟩:=h
 refine⟨_,(av (aK (i:=2) Z77.nd U (Or.inl U) (bx (jn U) U bl.dict_ PyProof.Rows.boot_dict (aa (aE ky (pv 0) (bF (aO (pv 1)) (bD U (by decide+kernel) (by decide+kernel) (by decide+kernel) U) U (λ_ _ _ _=>aV) (λ_ _ _ _=>(aZ (aa (jV (K:=K) U (pv 0) U) (aa (jV (K:=K) U (pv 0) U) af)))))) af)))
  (ag (bf PassesOwn.never U (aO (pv 1)) (aD (i:=3) Z77.nd U (Or.inl U))
  (ag (bf PassesOwn.never U (rM U bl.zip_ (aa (aY (pv 3) U) (aa (aY (pv 3) U) af))) (dh U (aJ (aD (i:=4) Z77.nd U (Or.inl U)) (aJ (aD (i:=5) Z77.nd U (Or.inl U)) bJ)))
  (ag (aQ (cP (dg (aR xK hr U (aa (pv 5) (aa (aF xv (pv 2) (pv 4) (λ_ _=>U)) af)))))
  (ag bc)
  aH))))))),?_⟩
 obtain⟨b1,b2,b3⟩:=hB.few;have hfl:fv.length=fN:=by rw[hB.facts.1,length_range]
 have hml:mv.length=L.length:=hB.tabs.1;have hzd:=hB.ok.len;refine⟨λσ' H'=>ao H H'/\∃(da:Addr)(kvs:List (Str×V)),H' da=some (.dK (kvT kvs))/\Cu Y.k Y.l H' zs ds kvs/\σ'=[some (.ref fa),some (.ref ma),some (.ref da),none,none,none],?_,?_⟩
 ·refine⟨_,U,_,U,ma,U,⟨_,SqL.of ema⟩,bh (xs:=mv) (λD i ys H'=>ao H H'/\H' D=some (.lst ys)/\ys.length=i/\∀(j k:Nat),j<i->L[j]?=some k->∃(t:Addr)(po:PD)(d:Addr),ys[j]?=some (.ref t)/\ds[fN+k]?=some po/\H' t=some (.tup [.str (tnm zs fN k),.ref d])/\iR Y.k Y.l H d po.k) (λD hD=>⟨ah hD _,ae,U,λj k hj=>by lia⟩) (λD i ys H' hD _ h=>SqL.of (h.1 _ _ ema)) (λD i y ys H' hD e h=>?_) (λD ys H' hD h=>?_)⟩
  ·obtain⟨sm,eD,hl,hy⟩:=h;obtain⟨t_,k,rfl,ek,tt,nm,po,ou,dv,g1,g2,g3,g4,g5,g6⟩:=az.get hB.tabs e;obtain⟨rl,dx,na,dl,fs,xs,ht,f1,f2,f3,f4,f5,f6,ena,edl,erl,hR,iT⟩:=g4;have hi:i<mv.length:=(EW.mp e).1;refine⟨_,U,t_,_,_,_,_,U,sm _ _ ht,bl.k_Table,bl.na_Table_name,f2,_,U,t_,_,_,_,_,U,sm _ _ ht,bl.k_Table,bl.na_Table_outcome,f4,bp,λp hp=>?_⟩;have u:=ah hp (.tup [.str nm,.ref ou]);have ep:upd H' p (.tup [.str nm,.ref ou]) p=some (.tup [.str nm,.ref ou]):=ae;generalize upd H' p (.tup [.str nm,.ref ou])=H2 at u ep⊢;have eD2:=u _ _ eD;refine bT.mk hi eD2 (aC (by lia)) ⟨(sm.trans u).upd hD,ae,by rw[length_append,hl];rfl,λj k' hj ek'=>?_⟩;by_cases hji:j<i
   ·obtain⟨t,po',d,h1,h2,h3,h4⟩:=hy j k' hji ek';have h3':=u _ _ h3;exact⟨t,po',d,by rw[getElem?_append_left (by lia)];exact h1,h2,(ar (cg h3' eD2 (by intro z;cases z))).trans h3',h4⟩
   ·have hj2:j=i:=by lia
    subst hj2;rw[ek]at ek';cases ek';refine⟨p,po,ou,by rw[getElem?_append_right (by lia),hl,sub_self];rfl,g3,?_,g6⟩;rw[dF g2];exact(ar (cg ep eD2 (by intro z;cases z))).trans ep
  ·obtain⟨sm,eD,hl,hy⟩:=h;rw[hml]at hl;refine⟨fa,D,_,_,U,U,sm _ _ efa,eD,le_of_lt (aC (by lia)),λp hp=>?_⟩;have u:=ah hp (.lst (fv++ys));have ep:upd H' p (.lst (fv++ys)) p=some (.lst (fv++ys)):=ae;generalize upd H' p (.lst (fv++ys))=H2 at u ep⊢;have s2:=sm.trans u;obtain⟨kvs,hkl,hkv⟩:=lB (P:=λj (a:Str×V)=>∃(t:Addr)(d:Addr)(po:PD),(fv++ys)[j]?=some (.ref t)/\H2 t=some (.tup [.str a.1,.ref d])/\a.2=.ref d/\(bnm zs fN L)[j]?=some a.1/\iR Y.k Y.l H2 d po.k/\∀(i:Nat),zs[i]?=some a.1->ds[i]?=some po) (fN+L.length) λj hj=>by
    by_cases hjf:j<fN
    ·obtain⟨r,er,nm,po,d,h1,h2,h3,h4⟩:=hB.facts.2 j j (getElem?_range hjf);refine⟨(nm,.ref d),r,d,po,by rw[getElem?_append_left (by lia)];exact er,s2 _ _ h3,U,?_,h4.same s2,λi ei=>?_⟩
     ·unfold bnm;rw[getElem?_append_left (by rw[length_take];lia),getElem?_take,if_pos hjf];exact h1
     ·rw[eO hB.ok.nd ei h1];exact h2
    ·have hjl:j-fN<L.length:=by lia
     have ek:=EV hjl;obtain⟨t,po,d,h1,h2,h3,h4⟩:=hy (j-fN) _ (by lia) ek;have htn:=hB.tn (EY ek);refine⟨(tnm zs fN L[j-fN],.ref d),t,d,po,by rw[getElem?_append_right (by lia),hfl];exact h1,u _ _ h3,U,?_,h4.same s2,λi ei=>?_⟩
     ·unfold bnm;rw[getElem?_append_right (by rw[length_take];lia),length_take,show j-min fN zs.length=j-fN by lia,getElem?_map,ek];rfl
     ·rw[eO hB.ok.nd ei htn];exact h2
   have mh:kvs.map (·.1)=bnm zs fN L:=by
    refine ext_getElem? λj=>?_
    rw[getElem?_map];cases e:kvs[j]? with
    |none =>
     have hlj:kvs.length<=j:=by rw[List.getElem?_eq_none_iff]at e;exact e
     rw[getElem?_eq_none (by unfold bnm;rw[length_append,length_take,length_map];lia)];rfl
    |some a =>
     obtain⟨t,d,po,_,_,_,e4,_⟩:=hkv j a e;rw[e4];rfl
   refine⟨p,fv++ys,kvs,U,ep,by rw[length_append,hkl];lia,λj a ea=>?_,by rw[mh];exact hB.bnd_,λda hda=>?_⟩
   ·obtain⟨t,d,po,e1,e2,e3,_⟩:=hkv j a ea;exact⟨t,e1,by rw[e3];exact e2⟩
   ·have u2:=ah hda (.dK (kvT kvs));refine⟨s2.trans u2,da,kvs,ae,λj z po ez ed=>?_,U⟩;have hm:=hB.has (EY ez);rw[←mh]at hm;obtain⟨a,ha,rfl⟩:=mem_map.mp hm;obtain⟨i,ei⟩:=getElem?_of_mem ha;obtain⟨t,d,po',e1,e2,e3,e4,e5,e6⟩:=hkv i a ei;have:=e6 j ez;rw[ed]at this;cases this;refine⟨d,?_,e5.same u2⟩;rw[←e3];exact o9 (by rw[mh];exact hB.bnd_) ei
 rintro σ1 H1 ⟨s1,da,kvs,eda,De,rfl⟩;refine⟨_,U,ma,U,⟨_,SqL.of (s1 _ _ ema)⟩,bg (xs:=mv) (λi σ H'=>ao H1 H'/\∃c3 c4 c5:Option V,σ=[some (.ref fa),some (.ref ma),some (.ref da),c3,c4,c5]) ⟨ao.refl _,_,_,_,U⟩ (λi σ H' _ h=>SqL.of (h.1 _ _ (s1 _ _ ema))) (λi y σ H' e h=>?_) (λσ H' h=>q H' (s1.trans h.1))⟩;obtain⟨sm,c3,c4,c5,rfl⟩:=h;obtain⟨t_,k,rfl,ek,tt,nm,po,ou,dv,g1,g2,g3,g4,g5,g6⟩:=az.get hB.tabs e;obtain⟨rl,dx,na,dl,fs,xs,ht,f1,f2,f3,f4,f5,f6,ena,edl,erl,hR,iT⟩:=g4;have sA:=s1.trans sm;have hlt:=hB.ok.lt g1;have ltz:∀j∈tt.cols,j<zs.length:=λj hj=>by rw[hzd];exact hlt j hj
 have gz:=bZ (os:=tt.cols) (xs:=zs) ltz;have gk:=bZ (os:=tt.cols) (xs:=ds.map PD.k) λj hj=>by rw[length_map];exact hlt j hj
 refine⟨_,U,t_,_,_,_,_,U,sA _ _ ht,bl.k_Table,bl.na_Table_names,f5,_,U,t_,_,_,_,_,U,sA _ _ ht,bl.k_Table,bl.na_Table_domains,f6,na,dl,U,⟨_,SqL.of (sA _ _ ena)⟩,⟨_,SqL.of (sA _ _ edl)⟩,oN (xs:=(prm tt.cols zs).map V.str) (ys:=dv) (λi σ H2=>ao H' H2/\∃c4 c5:Option V,σ=[some (.ref fa),some (.ref ma),some (.ref da),some (.ref t_),c4,c5]) ⟨ao.refl _,_,_,U⟩ (λi σ H2 h=>⟨SqL.of ((sA.trans h.1) _ _ ena),SqL.of ((sA.trans h.1) _ _ edl)⟩) (λi x y σ H2 T ex ey h hT=>?_) (λσ H2 h=>⟨sm.trans h.1,let ⟨c4,c5,e⟩:=h.2;⟨_,c4,c5,e⟩⟩)⟩;obtain⟨s2,d4,d5,rfl⟩:=h;obtain⟨z,rfl,ez⟩:=dq ex;obtain⟨a,kk,rfl,ekk,ha⟩:=az.get g5 ey;have hi:i<tt.cols.length:=by rw[←gz.1];exact(EW.mp ez).1
 have ec:=EV hi;rw[gz.2 i _ ec]at ez;rw[gk.2 i _ ec,getElem?_map]at ekk;obtain⟨p,ep⟩:∃p,ds[tt.cols[i]]?=some p:=⟨_,EV (hlt _ (EY ec))⟩;rw[ep]at ekk;cases ekk;obtain⟨d,hd1,hd2⟩:=De _ z p ez ep;have u:=ah hT (.tup [.str z,.ref a]);have eT:upd H2 T (.tup [.str z,.ref a]) T=some (.tup [.str z,.ref a]):=ae;generalize upd H2 T (.tup [.str z,.ref a])=H3 at u eT⊢;have sB:=(sm.trans s2).trans u;refine⟨T,_,U,SqT.of eT,U,_,_,U,_,_,U,U,?_⟩;exact⟨_,U,_,U,_,U,da,kvs,z,.ref d,U,U,sB _ _ eda,hd1,a,d,p.k,U,(ha.same s1).same sB,hd2.same sB,_,U,bV ⟨s2.trans u,_,_,U⟩⟩
theorem Df(F:Fun K "refuse_rings" "refuse_rings" Y80 f fd) (bl:Bl K mg Y)(fQ:Callee P w K mg base 1 "named_among" ["table","names"] (dP K Y)):aN P w K mg base CX0 2 f fd ["tables"] (eE K Y):=by
 refine F.okA Z80 λcdv A outer s H vs Q E hr h=>?_
 obtain⟨ma,mv,zs,ds,ts,fN,L,rfl,ema,ok,hm,hlt,h7,q⟩:=h
 refine⟨_,(ay (aK (i:=1) Z80.nd U (Or.inl U) (pv 0))
  (ag (vk PassesOwn.never (dJ (pv 1) (by intro _;rfl))
  (av (aK (i:=2) Z80.nd U (Or.inr U) (bF (aO (pv 1)) (bD U (by decide+kernel) (by decide+kernel) (by decide+kernel) U) U (λ_ _ _ _=>aV) (λ_ _ _ _=>(jV (K:=K) U (pv 0) U))))
  (av (d8 (i:=3) Z80.nd U (Or.inl U) (aO (pv 1)) (aU (N:=["table","names"]) (fr:=[2]) (cl:=[("names",s.heap.objs.size+1)]) U U (by decide+kernel) (by decide+kernel) U (by decide+kernel) U U U (forall_mem_cons.mpr ⟨U,forall_mem_nil _⟩) U) U (λ_ _ _ _=>(fu (nW (K:=K) U (aR fQ hr U (aa (pv 0) (aa (pv 1) af)))))) (λ_ _ _ _=>(pv 0)))
  (ay (aQ (aI cx (au aq U bl.len_ boot_len (aa (pv 3) af)) (au aq U bl.len_ boot_len (aa (pv 1) af)) (aP _))
  (ag bc)
  aH)
  (ag (aK (i:=1) Z80.nd U (Or.inl U) (pv 3))))))))),?_⟩
 refine⟨_,U,?_⟩;refine⟨λm σ H'=>ao H H'/\∃(la:Addr)(lv:List V)(L':List Nat)(c2 c3:Option V),H' la=some (.lst lv)/\az lv L' (TbA Y.m Y.k Y.l H zs ds ts fN)/\(∀k∈L',k<ts.length)/\L'.length=m/\m<=7/\σ=[some (.ref ma),some (.ref la),c2,c3],⟨_,ao.refl _,ma,mv,L,_,_,ema,hm,hlt,U,h7,U⟩,?_⟩;rintro m σ H1 ⟨s1,la,lv,L',c2,c3,ela,hv,Be,hlen,hm7,rfl⟩;have hvl:lv.length=L'.length:=hv.1;by_cases hne:L'=[]
 ·have elv:lv=[]:=length_eq_zero_iff.mp (by rw[hvl,hne];rfl);subst elv;exact⟨_,U,false,.inl ⟨_,SqL.of ela,U⟩,bV (q H1 s1)⟩
 have hb:(!lv.isEmpty)=true:=by
  cases lv with
  |nil=>exact absurd (length_eq_zero_iff.mp hvl.symm) hne
  |cons=>rfl
 refine⟨_,U,true,.inl ⟨_,SqL.of ela,hb.symm⟩,ee ⟨λσ' H'=>∃m',m'<m/\ao H H'/\∃(la:Addr)(lv:List V)(L':List Nat)(c2 c3:Option V),H' la=some (.lst lv)/\az lv L' (TbA Y.m Y.k Y.l H zs ds ts fN)/\(∀k∈L',k<ts.length)/\L'.length=m'/\m'<=7/\σ'=[some (.ref ma),some (.ref la),c2,c3],λ_ _ h=>h,?_⟩⟩;refine⟨λσ' H'=>ao H1 H'/\∃na:Addr,H' na=some (.lst ((L'.map (tnm zs fN)).map V.str))/\σ'=[some (.ref ma),some (.ref la),some (.ref na),c3],?_,?_⟩
 ·refine⟨_,U,la,U,⟨_,SqL.of ela⟩,bh (xs:=lv) (λD2 i ys H2=>ao H1 H2/\H2 D2=some (.lst ys)/\ys=((L'.take i).map (tnm zs fN)).map V.str) (λD2 hD2=>⟨ah hD2 _,ae,U⟩) (λD2 i ys H2 hD2 _ h=>SqL.of (h.1 _ _ ela)) (λD2 i y ys H2 hD2 e h=>?_) (λD2 ys H2 hD2 h=>?_)⟩
  ·obtain⟨s2,eD2,rfl⟩:=h;obtain⟨t_,k,rfl,ek,tt,nm,po,ou,dv,g1,g2,g3,g4,g5,g6⟩:=az.get hv e;obtain⟨rl,dx,na,dl,fs,xs,ht,f1,f2,f3,f4,f5,f6,ena,edl,erl,hR,iT⟩:=g4;have hi:i<lv.length:=(EW.mp e).1;refine⟨_,U,t_,_,_,_,_,U,(s1.trans s2) _ _ ht,bl.k_Table,bl.na_Table_name,f2,bT.mk hi eD2 (aC (by rw[length_map,length_map,length_take];lia)) ⟨s2.upd hD2,ae,?_⟩⟩;rw[take_snoc ek,map_append,map_append];show _++[V.str nm]=_++[V.str (tnm zs fN k)];rw[dF g2]
  ·obtain⟨s2,eD2,rfl⟩:=h;rw[hvl,take_length]at eD2;exact⟨s2,D2,eD2,U⟩
 rintro σ2 H2 ⟨s2,na,ena,rfl⟩;have s12:=s1.trans s2;refine⟨λσ' H'=>ao H2 H'/\∃(wa:Addr)(wv:List V),H' wa=some (.lst wv)/\az wv (L'.filter (wts ts fN L')) (TbA Y.m Y.k Y.l H zs ds ts fN)/\σ'=[some (.ref ma),some (.ref la),some (.ref na),some (.ref wa)],?_,?_⟩
 ·refine⟨_,U,la,U,⟨_,SqL.of (s2 _ _ ela)⟩,bh (xs:=lv) (λD2 i ys H3=>ao H2 H3/\H3 D2=some (.lst ys)/\az ys ((L'.take i).filter (wts ts fN L')) (TbA Y.m Y.k Y.l H zs ds ts fN)) (λD2 hD2=>⟨ah hD2 _,ae,az.nil⟩) (λD2 i ys H3 hD2 _ h=>SqL.of ((s2.trans h.1) _ _ ela)) (λD2 i y ys H3 hD2 e h=>?_) (λD2 ys H3 hD2 h=>?_)⟩
  ·obtain⟨s3,eD2,hy⟩:=h;obtain⟨t_,k,rfl,ek,hT⟩:=az.get hv e;obtain⟨tt,nm,po,ou,dv,g1,g2,g3,g4,g5,g6⟩:=id hT;have hi:i<lv.length:=(EW.mp e).1;have sA:=s12.trans s3;have hcl:=(ok.tabs k tt g1).ok.few;have hcl:tt.cols.length<=3:=hcl;have hpl:(prm tt.cols zs).length=tt.cols.length:=(bZ (os:=tt.cols) (xs:=zs) λj hj=>by rw[ok.len];exact ok.lt g1 j hj).1;refine⟨_,U,_,U,t_,na,ou,nm,tt.way,prm tt.cols zs,L'.map (tnm zs fN),dv,tt.rows,U,g4.same sA,s3 _ _ ena,by lia,λl H4 s4 nl el=>?_⟩;have hw:=uY ok Be g1;have eD4:=s4 _ _ eD2;have hfl:((L'.take i).filter (wts ts fN L')).length<=i:=le_trans (length_filter_le ..) (by rw[length_take];lia);have hf:((L'.take (i+1)).filter (wts ts fN L'))=((L'.take i).filter (wts ts fN L'))++(if wts ts fN L' k then[k] else[]):=by
    rw[take_snoc ek,filter_append]
    congr 1
    cases h:wts ts fN L' k with
    |true=>rw[filter_cons_of_pos h,filter_nil];rfl
    |false=>rw[filter_cons_of_neg (by rw[h];exact Bool.false_ne_true),filter_nil];rfl
   refine⟨wts ts fN L' k,.inl ⟨_,SqL.of el,?_⟩,?_⟩
   ·rw[←hw];cases (prm tt.cols zs).filter λz=>(L'.map (tnm zs fN)).contains z <;> rfl
   cases hc:wts ts fN L' k with
   |true =>
    rw[hc]at hf;refine ee ⟨_,U,bT.mk hi eD4 (aC (by rw[hy.1];lia)) ⟨(s3.trans s4).upd hD2,ae,?_⟩⟩;rw[hf];exact az.snoc hy hT
   |false =>
    rw[hc]at hf;refine bV (eM.mk (zs:=ys) hi ⟨s3.trans s4,eD4,?_⟩);rw[hf];simpa using hy
  ·obtain⟨s3,eD2,hy⟩:=h;rw[hvl,take_length]at hy;exact⟨s3,D2,ys,eD2,hy,U⟩
 rintro σ3 H3 ⟨s3,wa,wv,ewa,hw,rfl⟩;have Bf:=wH ok hne;have hwl:wv.length=(L'.filter (wts ts fN L')).length:=hw.1;refine⟨_,U,wa,_,U,.inl (SqL.of ewa),_,U,la,_,U,.inl (SqL.of (s3 _ _ (s2 _ _ ela))),U,_,U,bR (λz=>by injection z with z;lia) ?_⟩;exact⟨_,U,_,by rw[←hlen];exact Bf,s12.trans s3,wa,wv,_,_,_,ewa,hw,(λk hk=>Be k (mem_filter.mp hk).1),U,by lia,U⟩
theorem Dg(F:Fun K "asks" "asks" Y42 f fd) (bl:Bl K mg Y)(fQ:Callee P w K mg base 1 "named_among" ["table","names"] (dP K Y)) (jv:bK P w K mg base 1 "table_of" ["book","name"] (fC K Y)):aN P w K mg base (CX1 P w) 2 f fd ["book","name"] (pe K Y):=by
 refine F.okEA Z42 λcdv A outer s H vs Q E hr h=>?_
 obtain⟨b,nm,zs,ds,ts,fN,mv,L,rfl,hB,hs,q,qE⟩:=h;refine⟨_,(ag (aG (aR fQ hr U (aa (eU jv nQ hr U (aa (pv 0) (aa (pv 1) af))) (aa (bF (aO (aY (pv 0) U)) (bD U (by decide+kernel) (by decide+kernel) (by decide+kernel) U) U (λ_ _ _ _=>aV) (λ_ _ _ _=>(jV (K:=K) U (pv 0) U))) af))))),?_⟩;obtain⟨dx,fs,ta,fb,gv,hb,ft,eta,_⟩:=hB.bk;have hml:mv.length=L.length:=hB.tabs.1;have h7:=hB.few;refine⟨_,U,_,U,b,nm,zs,ds,ts,fN,mv,L,U,hB,hs,λa k _ _ _ hk hn hT=>?_,qE⟩;obtain⟨tt,nm2,po,ou,dv,g1,g2,g3,g4,g5,g6⟩:=id hT;have hcl:tt.cols.length<=3:=(hB.ok.tabs k tt g1).ok.few;have hpl:(prm tt.cols zs).length=tt.cols.length:=(bZ (os:=tt.cols) (xs:=zs) λj hj=>by rw[hB.ok.len];exact hB.ok.lt g1 j hj).1;refine⟨_,U,b,_,_,_,_,U,hb,bl.k_Book,bl.na_Book_tables,ft,ta,U,⟨_,SqL.of eta⟩,bh (xs:=mv) (λD2 i ys H2=>ao H H2/\H2 D2=some (.lst ys)/\ys=((L.take i).map (tnm zs fN)).map V.str) (λD2 hD2=>⟨ah hD2 _,ae,U⟩) (λD2 i ys H2 hD2 _ h=>SqL.of (h.1 _ _ eta)) (λD2 i y ys H2 hD2 e h=>?_) (λD2 ys H2 hD2 h=>?_)⟩
 ·obtain⟨s2,eD2,rfl⟩:=h;obtain⟨t_,k,rfl,ek,tt,nm,po,ou,dv,g1,g2,g3,g4,g5,g6⟩:=az.get hB.tabs e;obtain⟨rl,dx,na,dl,fs,xs,ht,f1,f2,f3,f4,f5,f6,ena,edl,erl,hR,iT⟩:=g4;have hi:i<mv.length:=(EW.mp e).1;refine⟨_,U,t_,_,_,_,_,U,s2 _ _ ht,bl.k_Table,bl.na_Table_name,f2,bT.mk hi eD2 (aC (by rw[length_map,length_map,length_take];lia)) ⟨s2.upd hD2,ae,?_⟩⟩;rw[take_snoc ek,map_append,map_append];show _++[V.str nm]=_++[V.str (tnm zs fN k)];rw[dF g2]
 ·obtain⟨s2,eD2,rfl⟩:=h;rw[hml,take_length]at eD2;exact⟨a,D2,ou,nm2,tt.way,prm tt.cols zs,L.map (tnm zs fN),dv,tt.rows,U,g4.same s2,eD2,by lia,λl H4 s4 nl el=>q k tt l H4 hk hn g1 (s2.trans s4) (s2.free nl) el⟩
theorem Dh(F:Fun K "fits" "fits" Y44 f fd) (bl:Bl K mg Y)(xM:Callee P w K mg base 1 "holds" ["spans","number"] (mL K Y)):aN P w K mg base CX0 2 f fd ["table","k","codes"] (ph K Y):=by
 refine F.okA Z44 λcdv A outer s H vs Q E hr h=>?_
 obtain⟨t,rl,c,dx,fs,xs,rws,k,w_,cs,rfl,ht,hf,hl,hR,ek,hS,hlen,q⟩:=h
 refine⟨_,(ay (aK (i:=3) Z44.nd U (Or.inl U) (aF aW (aF aL (aY (pv 0) U) (pv 1) (λ_ _=>U)) ai (λ_ _=>U)))
  (ay (bf PassesOwn.never U (rM U bl.zip_ (aa (pv 3) (aa (pv 2) af))) (dh U (aJ (aD (i:=4) Z44.nd U (Or.inl U)) (aJ (aD (i:=5) Z44.nd U (Or.inl U)) bJ)))
  (ag (aQ (cP (dg (aR xM hr U (aa (pv 4) (aa (pv 5) af)))))
  (ag (aG fT))
  aH)))
  (ag (aG fT)))),?_⟩
 obtain⟨r,er,ce,cv,e1,_,e2,hcl⟩:=hR.2 k w_ ek;refine⟨_,U,t,_,_,_,_,U,ht,bl.k_Table,bl.na_Table_rows,hf,_,U,rl,_,_,_,U,U,SqL.of hl,aM er,r,_,_,_,U,U,SqT.of e1,U,?_⟩;refine⟨_,U,_,U,ce,c,U,⟨_,SqL.of e2⟩,⟨_,hS⟩,oN (xs:=cv) (ys:=cs.map V.int) (λi σ H'=>ao H H'/\(∀j,j<i->inP (w_.1.getD j []) (cs.getD j 0)=true)/\∃c4 c5:Option V,σ=[some (.ref t),some (.int k),some (.ref c),some (.ref ce),c4,c5]) ⟨ao.refl _,(λj h=>absurd h (not_lt_zero j)),_,_,U⟩ (λi σ H' h=>⟨SqL.of (h.1 _ _ e2),h.1.seq hS⟩) (λi x y σ H' T ex ey h hT=>?_) (λσ H' h=>?_)⟩
 ·obtain⟨sm,cI,c4,c5,rfl⟩:=h;have s2:=sm.trans (ah hT (.tup [x,y]));have eT:upd H' T (.tup [x,y]) T=some (.tup [x,y]):=ae;generalize upd H' T (.tup [x,y])=H2 at s2 eT⊢;obtain⟨l,ps,rfl,ep,hl'⟩:=az.get hcl ex;obtain⟨_,ys,el,hp⟩:=hl'.same s2;obtain⟨n,rfl,en⟩:=of_map ey;refine⟨T,_,U,SqT.of eT,U,_,_,U,_,_,U,U,?_⟩;refine⟨_,U,_,U,l,ys,ps,n,U,SqL.of el,hp,_,U,?_⟩;have g1:w_.1.getD i []=ps:=by rw[getD_eq_getElem?_getD,ep];rfl
  have g2:cs.getD i 0=n:=by rw[getD_eq_getElem?_getD,en];rfl
  cases hin:inP ps n with
  |true =>
   refine bV ⟨s2,λj hj=>?_,_,_,U⟩;by_cases hji:j<i
   ·exact cI j hji
   ·have:j=i:=by lia
    subst this;rw[g1,g2];exact hin
  |false =>
   refine ee ?_;have e:m7 w_.1 cs=false:=by
    unfold m7;rw[List.all_eq_false];refine⟨i,mem_range.mpr (EW.mp en).1,?_⟩;rw[g1,g2,hin];decide
   have q2:=q H2 s2;rw[e]at q2;exact q2
 ·obtain⟨sm,cI,c4,c5,rfl⟩:=h;have e:m7 w_.1 cs=true:=by
   unfold m7;rw[all_eq_true];intro j hj;refine cI j ?_;have h1:=hcl.1;rw[length_map];have:=mem_range.mp hj;lia
  have q2:=q H' sm;rw[e]at q2;exact q2
theorem Di(F:Fun K "_law_domain" "_law_domain" Y54 f fd) (bl:Bl K mg Y)(gD:Callee P w K mg base 1 "_law_words" ["cell","count"] (eQ K Y)):aN P w K mg base CX0 2 f fd ["cell"] (fL K Y):=by
 refine F.okA Z54 λcdv A outer s H vs Q E hr h=>?_
 obtain⟨c,rfl,q⟩:=h
 refine⟨_,(av (aK (i:=1) Z54.nd U (Or.inl U) (aE ck (aE bu (aE bE (pv 0) ai) (aE lJ ai ai)) (aE gZ ai (aE lJ ai ai))))
  (av (aK (i:=2) Z54.nd U (Or.inl U) (aE bu (aE bE (pv 0) ai) (aE lJ ai ai)))
  (ay (aQ (aI cx (aE bu (pv 0) ai) ai (aP _))
  (ay (aK (i:=3) Z54.nd U (Or.inl U) (aR gD hr U (aa (aE bE (pv 0) ai) (aa (aE bG ai (aE bu (aE bE (pv 0) ai) ai)) af))))
  (ag (aG (aZ (aa ai (aa (aE ck (au aq U bl.len_ boot_len (aa (pv 3) af)) ai) (aa (pv 3) af)))))))
  aH)
  (av (aQ (aI cx (aE bu (pv 0) ai) ai (aP _))
  (ag (aK (i:=2) Z54.nd U (Or.inl U) (aE bu (aE bE (pv 0) ai) ai)))
  aH)
  (ag (aG (aZ (aa (pv 1) (aa (aE bG (pv 1) (pv 2)) (aa (bz af) af)))))))))),?_⟩
 have k1:(10^30:Nat)*10=10^31:=by decide
 have k2:(10^29:Nat)*100=10^31:=by decide
 have k3:(1000:Nat)<=10^31:=by decide
 refine⟨λσ' H'=>H'=H/\∃lo:Int,-(5*((10^29:Nat):Int))<=lo/\lo<((10^30:Nat):Int)/\σ'=[some (.int c),some (.int lo),none,none],?_,?_⟩
 ·have x0:=emod_nonneg (c / 3) (Int.ne_of_gt (p10 (30:Int).toNat));have x1:=emod_lt_of_pos (c / 3) (p10 (30:Int).toNat);refine⟨_,U,_,_,U,U,⟨by decide,by decide⟩,_,_,U,U,⟨by decide,by decide,by decide⟩,_,_,U,U,p10 _,_,_,U,U,⟨by decide,by decide,by decide⟩,_,_,U,U,.inl ⟨by decide,by decide⟩,_,_,U,U,U,_,?_,?_,U⟩
  ·rw[p30]at x0 x1⊢;rw[p29];generalize ((10^30:Nat):Int)=A at x0 x1⊢;generalize ((10^29:Nat):Int)=B at *
   lia
  ·rw[p30]at x0 x1⊢;rw[p29];have:(0:Int)<=((10^29:Nat):Int):=natCast_nonneg _;generalize ((10^30:Nat):Int)=A at x0 x1⊢;generalize ((10^29:Nat):Int)=B at *
   lia
 rintro σ1 H1 ⟨rfl,lo,g0,g1,rfl⟩;refine⟨λσ' H'=>H'=H1/\∃w:Int,0<=w/\w<((10^30:Nat):Int)/\σ'=[some (.int c),some (.int lo),some (.int w),none],?_,?_⟩
 ·have x0:=emod_nonneg (c / 7) (Int.ne_of_gt (p10 (30:Int).toNat));have x1:=emod_lt_of_pos (c / 7) (p10 (30:Int).toNat);refine⟨_,U,_,_,U,U,⟨by decide,by decide⟩,_,_,U,U,⟨by decide,by decide,by decide⟩,_,_,U,U,p10 _,U,_,x0,?_,U⟩;rw[p30]at x1⊢;exact x1
 rintro σ2 H2 ⟨rfl,w,w0,w1,rfl⟩;refine⟨_,U,_,_,U,U,(by show(0:Int)<3;decide),U,_,U,?_⟩;refine di (λ_=>?_) (λ_=>?_)
 ·have y0:=emod_nonneg (c / 3) (show(6:Int)≠0 by decide);have y1:=emod_lt_of_pos (c / 3) (show(0:Int)<6 by decide);obtain⟨n,en⟩:∃n:Nat,1+c / 3%6=(n:Int):=⟨_,(toNat_of_nonneg (by lia)).symm⟩;refine⟨_,U,_,_,U,U,⟨by decide,by decide⟩,_,U,_,_,U,U,⟨by decide,by decide⟩,_,_,U,U,(by show(0:Int)<6;decide),_,_,U,U,c / 18,n,by rw[←en],by lia,λl H3 s3 nl el=>?_⟩;have hg:=wC (c:=c / 18) (n:=n) (by lia) (by lia);have hl:=j6 (c / 18) n;generalize lws (c / 18) n=zs at el hg hl;have hm:(zs.map V.str).length=zs.length:=length_map _;refine⟨_,U,l,_,U,.inl (SqL.of el),_,_,U,U,_,U,(by show 3<=sizeLine;decide),λr hr=>?_⟩;refine q r ⟨0,((zs.map V.str).length:Int)-1,zs,[]⟩ _ (s3.trans (ah hr _)) ⟨l,s3.free hr,nl,ae,ah hr _ _ _ el⟩ ⟨by show(0:Int)<=((zs.map V.str).length:Int)-1;lia,λ_=>⟨hg,U,by show((zs.map V.str).length:Int)-1=hiW zs;unfold hiW;rw[hm]⟩,λx x0 x1=>?_⟩;have x0:0<=x:=x0;have x1:x<=((zs.map V.str).length:Int)-1:=x1;exact A9 x0 (by lia)
 refine⟨λσ' H'=>H'=H2/\∃w:Int,0<=w/\w<((10^30:Nat):Int)/\σ'=[some (.int c),some (.int lo),some (.int w),none],?_,?_⟩
 ·refine⟨_,U,_,_,U,U,(by show(0:Int)<3;decide),U,_,U,?_⟩;refine di (λ_=>?_) (λ_=>⟨U,w,w0,w1,U⟩);have x0:=emod_nonneg (c / 7) (show(9:Int)≠0 by decide);have x1:=emod_lt_of_pos (c / 7) (show(0:Int)<9 by decide);refine⟨_,U,_,_,U,U,⟨by decide,by decide⟩,_,_,U,U,(by show(0:Int)<9;decide),U,_,x0,?_,U⟩;have:(9:Int)<=((10^30:Nat):Int):=by decide
  exact Int.lt_of_lt_of_le x1 this
 clear w0 w1 w;rintro σ3 H3 ⟨rfl,w,w0,w1,rfl⟩;refine⟨_,U,_,U,_,U,_,_,U,U,(by show 0<=sizeLine;decide),λl hl=>?_⟩;have u1:=ah hl (.lst []);have e1:upd H3 l (.lst []) l=some (.lst []):=ae;generalize upd H3 l (.lst [])=H4 at u1 e1⊢;refine⟨(by show 3<=sizeLine;decide),λr hr=>?_⟩;refine q r ⟨lo,lo+w,[],[]⟩ _ (u1.trans (ah hr _)) ⟨l,u1.free hr,hl,ae,ah hr _ _ _ e1⟩ ⟨by show lo<=lo+w;lia,λh=>absurd U h,λx x0 x1=>?_⟩;have x0:lo<=x:=x0;have x1:x<=lo+w:=x1;refine Ba ?_ ?_
 ·generalize (10^30:Nat)=A at *
  generalize (10^29:Nat)=B at *
  generalize (10^31:Nat)=C at *
  lia
 ·generalize (10^30:Nat)=A at *
  generalize (10^29:Nat)=B at *
  generalize (10^31:Nat)=C at *
  lia
theorem Dj(F:Fun K "_law_row" "_law_row" Y64 f fd) (bl:Bl K mg Y)(pB:Callee P w K mg base 1 "_law_spans" ["kind","one","two","domain"] (gw K Y)):aN P w K mg base CX0 2 f fd ["columns","domains","pools","own","number"] (ju K Y):=by
 refine F.okA Z64 λcdv A outer s H vs Q E hr h=>?_
 obtain⟨cl,dl,pl,ow,n,cols,dv,pvs,ds,rfl,hcl,hdl,hds,hpl,hps,hlt,how,h10,q⟩:=h
 refine⟨_,(av (aK (i:=5) Z64.nd U (Or.inl U) (bz af))
  (av (bf PassesOwn.never U (aO (pv 0)) (aD (i:=6) Z64.nd U (Or.inl U))
  (av (aK (i:=7) Z64.nd U (Or.inl U) (au aq U bl.len_ boot_len (aa (aF aL (pv 2) (pv 6) (λ_ _=>U)) af)))
  (av (aK (i:=8) Z64.nd U (Or.inl U) (aF aL (aF aL (pv 2) (pv 6) (λ_ _=>U)) (aE bu (pv 4) (pv 7)) (λ_ _=>U)))
  (av (aK (i:=9) Z64.nd U (Or.inl U) (aF aL (aF aL (pv 2) (pv 6) (λ_ _=>U)) (aE bu (aE bE (pv 4) (pv 7)) (pv 7)) (λ_ _=>U)))
  (av (aK (i:=4) Z64.nd U (Or.inl U) (aE bE (aE bE (pv 4) (pv 7)) (pv 7)))
  (ay (aT (d9 PySem.F.plainAttrs_list PySem.F.slot_list_append PySem.F.type_list_append bS (pv 5) (aa (aR pB hr U (aa (aE bu (pv 4) ai) (aa (au (fU U) U bl.min_ PyProof.Rows.boot_min (aa (pv 8) (aa (pv 9) af))) (aa (au (iK U) U bl.max_ PyProof.Rows.boot_max (aa (pv 8) (aa (pv 9) af))) (aa (aF aL (pv 1) (pv 6) (λ_ _=>U)) af))))) af)))
  (ag (aK (i:=4) Z64.nd U (Or.inl U) (aE bE (pv 4) ai)))))))))
  (ag (aG (aZ (aa (pv 5) (aa (aF aL (aF aL (pv 2) (pv 3) (λ_ _=>U)) (aE bu (pv 4) (au aq U bl.len_ boot_len (aa (aF aL (pv 2) (pv 3) (λ_ _=>U)) af))) (λ_ _=>U)) af))))))),?_⟩
 refine⟨λσ' H'=>ao H H'/\∃pa:Addr,H pa=none/\H' pa=some (.lst [])/\σ'=[some (.ref cl),some (.ref dl),some (.ref pl),some (.int (ow:Int)),some (.int n),some (.ref pa),none,none,none,none],⟨(by show 0<=sizeLine;decide),λl hl=>⟨ah hl _,l,hl,ae,U⟩⟩,?_⟩;rintro σ2 H2 ⟨s2,pa,npa,epa,rfl⟩;refine⟨λσ' H'=>ao H H'/\∃(zs:List V)(pss:List Prs)(n:Int)(c6 c7 c8 c9:Option V),H' pa=some (.lst zs)/\CL (Fr H pa) H' zs pss/\pss.length=cols.length/\(∀(j k:Nat)(ps:Prs)(p:PD),pss[j]?=some ps->cols[j]?=some k->ds[k]?=some p->∀x∈ps,(p.lo<=x.1/\x.1<=x.2/\x.2<=p.hi)/\EdP p x)/\(∀ps∈pss,ps.length<=2)/\σ'=[some (.ref cl),some (.ref dl),some (.ref pl),some (.int (ow:Int)),some (.int n),some (.ref pa),c6,c7,c8,c9],?_,?_⟩
 ·refine⟨_,U,cl,U,⟨_,SqL.of (s2 _ _ hcl)⟩,bg (xs:=vN cols) (λi σ H'=>ao H H'/\∃(zs:List V)(pss:List Prs)(n:Int)(c6 c7 c8 c9:Option V),H' pa=some (.lst zs)/\CL (Fr H pa) H' zs pss/\pss.length=i/\(∀(j k:Nat)(ps:Prs)(p:PD),pss[j]?=some ps->cols[j]?=some k->ds[k]?=some p->∀x∈ps,(p.lo<=x.1/\x.1<=x.2/\x.2<=p.hi)/\EdP p x)/\(∀ps∈pss,ps.length<=2)/\σ=[some (.ref cl),some (.ref dl),some (.ref pl),some (.int (ow:Int)),some (.int n),some (.ref pa),c6,c7,c8,c9]) ⟨s2,[],[],n,_,_,_,_,epa,az.nil,U,(λj k ps p e=>by simp at e),(λps h=>by cases h),U⟩ (λi σ H' _ h=>SqL.of (h.1 _ _ hcl)) (λi y σ H' ey hh=>?_) (λσ H' hh=>?_)⟩
  ·obtain⟨sm,zs,pss,n,c6,c7,c8,c9,ez,hz,hl,hin,rn,rfl⟩:=hh;obtain⟨k,rfl,ek⟩:=mz ey;have hk:=hlt k (EY ek);have hi:i<cols.length:=(EW.mp ek).1;have ep:=EV hk;obtain⟨pa_,e1,hpo⟩:=hps.2 k _ ep;obtain⟨da,e2,hpd⟩:=hds.2 k _ ep;generalize ds[k]=p at ep hpo hpd;have hpo:=hpo.same sm;have hpd:=hpd.same sm;obtain⟨_,epo,hp1,hp3,hpb⟩:=id hpo;have zP:(p.pool.map V.int).length=p.pool.length:=length_map _;have hsp:(0:Int)<((p.pool.length:Nat):Int):=by lia
   have hss:((p.pool.length:Nat):Int)<1073741824:=by lia
   refine⟨λσ' H''=>H''=H'/\σ'=[some (.ref cl),some (.ref dl),some (.ref pl),some (.int (ow:Int)),some (.int n),some (.ref pa),some (.int (k:Int)),some (.int ((p.pool.length:Nat):Int)),c8,c9],?_,?_⟩
   ·refine⟨_,U,_,U,pl,_,_,_,U,U,SqL.of (sm _ _ hpl),aM e1,pa_,_,U,.inl (SqL.of epo),U,?_⟩;rw[←zP];rfl
   rintro σ3 H3 ⟨e3,rfl⟩;subst e3;obtain⟨one,q1,q2,a1,a2⟩:=hpo.pick n;refine⟨λσ' H''=>H''=H3/\σ'=[some (.ref cl),some (.ref dl),some (.ref pl),some (.int (ow:Int)),some (.int n),some (.ref pa),some (.int (k:Int)),some (.int ((p.pool.length:Nat):Int)),some (.int one),c9],⟨_,U,_,U,pl,_,_,_,U,U,SqL.of (sm _ _ hpl),aM e1,_,U,_,U,_,_,U,U,hsp,pa_,_,_,_,U,U,SqL.of epo,q1,U,U⟩,?_⟩;rintro σ4 H4 ⟨e4,rfl⟩;subst e4;obtain⟨two,q3,q4,b1,b2⟩:=hpo.pick (n / ((p.pool.length:Nat):Int));refine⟨λσ' H''=>H''=H4/\σ'=[some (.ref cl),some (.ref dl),some (.ref pl),some (.int (ow:Int)),some (.int n),some (.ref pa),some (.int (k:Int)),some (.int ((p.pool.length:Nat):Int)),some (.int one),some (.int two)],⟨_,U,_,U,pl,_,_,_,U,U,SqL.of (sm _ _ hpl),aM e1,_,U,_,U,_,_,U,U,⟨hsp,hss⟩,_,U,_,_,U,U,hsp,pa_,_,_,_,U,U,SqL.of epo,q3,U,U⟩,?_⟩;rintro σ5 H5 ⟨e5,rfl⟩;subst e5;refine⟨λσ' H''=>H''=H5/\∃n:Int,σ'=[some (.ref cl),some (.ref dl),some (.ref pl),some (.int (ow:Int)),some (.int n),some (.ref pa),some (.int (k:Int)),some (.int ((p.pool.length:Nat):Int)),some (.int one),some (.int two)],⟨_,U,_,U,_,_,U,U,⟨hsp,hss⟩,_,U,_,_,U,U,⟨hsp,hss⟩,U,_,U⟩,?_⟩;rintro σ6 H6 ⟨e6,n2,rfl⟩;subst e6;refine⟨_,U,.inl ⟨U,_,SqL.of ez⟩,_,U,_,_,U,U,(by show(0:Int)<8;decide),_,U,_,U,_,_,U,_,U,_,U,_,_,U,_,U,_,U,dl,_,_,_,U,U,SqL.of (sm _ _ hdl),aM e2,_,_,_,da,p,U,hpd,?_,?_,?_,λl ps H7 s7 Bg hb hl2 hE=>?_⟩
   ·split <;> lia
   ·split <;> split <;> lia
   ·split <;> lia
   have ez5:=s7 _ _ ez;have n4:H6 l=none:=Bg.1;have nl:l≠pa:=λz=>by rw[z,ez]at n4;cases n4
   have hz2:CL (Fr H pa) H7 (zs++[.ref l]) (pss++[ps]):=az.snoc (hz.same s7) ⟨⟨sm.free n4,nl⟩,Bg.2⟩;have zQ:(if two<one then two else one)∈p.pool:=by split <;> assumption
   have zR:(if two>one then two else one)∈p.pool:=by split <;> assumption
   refine⟨pa,_,_,U,U,ez5,aC (by rw[hz.1];lia),_,U,_,_,U,U,⟨by decide,by decide⟩,(sm.trans s7).upd npa,zs++[.ref l],pss++[ps],_,_,_,_,_,ae,hz2.updN Fr.out ez5,by rw[length_append,hl];rfl,λj k' ps' p' f1 f2 f3=>?_,λps' h'=>?_,U⟩
   ·by_cases hj:j<pss.length
    ·rw[getElem?_append_left hj]at f1;exact hin j k' ps' p' f1 f2 f3
    ·have hj2:j=pss.length:=by have:=(EW.mp f1).1;simp at this;lia
     subst hj2;simp at f1;subst f1;rw[hl,ek]at f2;cases f2;rw[ep]at f3;cases f3;intro x hx;refine⟨hb x hx,?_⟩;obtain⟨E1,E2⟩:=hE x hx;constructor
     ·rcases E1 with E1|E1|E1|E1
      ·exact .inl E1
      ·exact .inr (.inl (by rw[E1];exact zQ))
      ·exact .inr (.inl (by rw[E1];exact zR))
      ·exact .inr (.inr (by rw[E1,Int.add_sub_cancel];exact zR))
     ·rcases E2 with E2|E2|E2|E2
      ·exact .inl E2
      ·exact .inr (.inl (by rw[E2];exact zQ))
      ·exact .inr (.inl (by rw[E2];exact zR))
      ·exact .inr (.inr (by rw[E2,Int.sub_add_cancel];exact zQ))
   ·rcases mem_append.mp h' with h' | h'
    ·exact rn ps' h'
    ·rw[show ps'=ps by simpa using h'];exact hl2
  ·obtain⟨sm,zs,pss,n,c6,c7,c8,c9,ez,hz,hl,hin,rn,rfl⟩:=hh;exact⟨sm,zs,pss,n,_,_,_,_,ez,hz,by rw[hl,cC],hin,rn,U⟩
 rintro σ5 H5 ⟨s5,zs,pss,n,c6,c7,c8,c9,ez,hz,hl,hin,rn,rfl⟩;have epw:=EV how;obtain⟨po,e1,hpo⟩:=hps.2 ow _ epw;have hpo:=hpo.same s5;obtain⟨_,epo,hp1,hp3,hpb⟩:=id hpo;have zP:((ds[ow]).pool.map V.int).length=(ds[ow]).pool.length:=length_map _;have hsp:(0:Int)<((((ds[ow]).pool.map V.int).length:Nat):Int):=by lia
 obtain⟨x,q1,_,q3,q4⟩:=hpo.pick n;rw[←zP]at q1;refine⟨_,U,_,U,_,U,pl,_,_,_,U,U,SqL.of (s5 _ _ hpl),aM e1,_,U,_,U,_,U,pl,_,_,_,U,U,SqL.of (s5 _ _ hpl),aM e1,po,_,U,.inl (SqL.of epo),_,_,U,U,hsp,po,_,_,_,U,U,SqL.of epo,q1,bp,λr hr=>?_⟩;have u:=ah hr (.tup [.ref pa,.int x]);exact q r (pss,x) _ (s5.trans u) ⟨pa,zs,ae,npa,u _ _ ez,(hz.same u).wk λa h=>h.1⟩ ⟨hl,(λj k ps p f1 f2 f3 y hy=>(hin j k ps p f1 f2 f3 y hy).1),rn,(λp ep=>by rw[epw]at ep;cases ep;exact⟨q3,q4⟩),(λj k ps p f1 f2 f3 y hy=>(hin j k ps p f1 f2 f3 y hy).2)⟩
theorem O_7(F:Fun K "__init__" "First.__init__" Y7 f fd) (bl:Bl K mg Y)(iA:cc CX0 P w K mg base 1 "Way" "__init__" ["self","called"] (cJ K Y)):aN P w K mg base CX0 2 f fd ["self"] (J0 K Y):=by
 refine F.ok Z7 (λvs H Q E h=>?_) (λcdv A outer s H vs Q E hr h=>?_)
 ·obtain⟨x,dx,rfl,hx,q⟩:=h;rfl
 obtain⟨x,dx,rfl,hx,q⟩:=h;refine⟨_,(ag (aT (fw iA bN hr U (aa (pv 0) (aa aS af))))),?_⟩;exact⟨_,U,x,dx,_,U,hx,q⟩
theorem Dl(F:Fun K "__init__" "Only.__init__" Y18 f fd) (bl:Bl K mg Y)(iU:cc CX0 P w K mg base 1 "Way" "__init__" ["self","called"] (cS K Y)):aN P w K mg base CX0 2 f fd ["self"] (J8 K Y):=by
 refine F.ok Z18 (λvs H Q E h=>?_) (λcdv A outer s H vs Q E hr h=>?_)
 ·obtain⟨x,dx,rfl,hx,q⟩:=h;rfl
 obtain⟨x,dx,rfl,hx,q⟩:=h;refine⟨_,(ag (aT (fw iU bN hr U (aa (pv 0) (aa aS af))))),?_⟩;exact⟨_,U,x,dx,_,U,hx,q⟩
theorem Dm(F:Fun K "__init__" "Like.__init__" Y11 f fd) (bl:Bl K mg Y)(iV:cc CX0 P w K mg base 1 "Way" "__init__" ["self","called"] (cU K Y)):aN P w K mg base CX0 2 f fd ["self"] (J4 K Y):=by
 refine F.ok Z11 (λvs H Q E h=>?_) (λcdv A outer s H vs Q E hr h=>?_)
 ·obtain⟨x,dx,rfl,hx,q⟩:=h;rfl
 obtain⟨x,dx,rfl,hx,q⟩:=h;refine⟨_,(ag (aT (fw iV bN hr U (aa (pv 0) (aa aS af))))),?_⟩;exact⟨_,U,x,dx,_,U,hx,q⟩
theorem Dn(F:Fun K "__init__" "Low.__init__" Y13 f fd) (bl:Bl K mg Y)(jw:cc CX0 P w K mg base 1 "Way" "__init__" ["self","called"] (dk K Y)):aN P w K mg base CX0 2 f fd ["self"] (J6 K Y):=by
 refine F.ok Z13 (λvs H Q E h=>?_) (λcdv A outer s H vs Q E hr h=>?_)
 ·obtain⟨x,dx,rfl,hx,q⟩:=h;rfl
 obtain⟨x,dx,rfl,hx,q⟩:=h;refine⟨_,(ag (aT (fw jw bN hr U (aa (pv 0) (aa aS af))))),?_⟩;exact⟨_,U,x,dx,_,U,hx,q⟩
theorem O_9(F:Fun K "__init__" "High.__init__" Y9 f fd) (bl:Bl K mg Y)(iW:cc CX0 P w K mg base 1 "Way" "__init__" ["self","called"] (cV K Y)):aN P w K mg base CX0 2 f fd ["self"] (J2 K Y):=by
 refine F.ok Z9 (λvs H Q E h=>?_) (λcdv A outer s H vs Q E hr h=>?_)
 ·obtain⟨x,dx,rfl,hx,q⟩:=h;rfl
 obtain⟨x,dx,rfl,hx,q⟩:=h;refine⟨_,(ag (aT (fw iW bN hr U (aa (pv 0) (aa aS af))))),?_⟩;exact⟨_,U,x,dx,_,U,hx,q⟩
theorem Dp(F:Fun K "__init__" "Sum.__init__" Y20 f fd) (bl:Bl K mg Y)(jx:cc CX0 P w K mg base 1 "Way" "__init__" ["self","called"] (dn K Y)):aN P w K mg base CX0 2 f fd ["self"] (J10 K Y):=by
 refine F.ok Z20 (λvs H Q E h=>?_) (λcdv A outer s H vs Q E hr h=>?_)
 ·obtain⟨x,dx,rfl,hx,q⟩:=h;rfl
 obtain⟨x,dx,rfl,hx,q⟩:=h;refine⟨_,(ag (aT (fw jx bN hr U (aa (pv 0) (aa aS af))))),?_⟩;exact⟨_,U,x,dx,_,U,hx,q⟩
theorem O_5(F:Fun K "has_code" "Domain.has_code" Y5 f fd) (bl:Bl K mg Y)(jy:Callee P w K mg base 1 "is_whole" ["value"] (fB K Y)):aN P w K mg base CX0 2 f fd ["self","value"] (bB K Y):=by
 refine F.okA Z5 λcdv A outer s H vs Q E hr h=>?_
 obtain⟨a,b,i,rfl,⟨dx,fs,ha,hl,hh,_⟩,h1,h2,q⟩:=h;refine⟨_,(ag (aG (km (aR jy hr U (aa (pv 1) af)) (lI (lK eL eL (aY (pv 0) U) (pv 1) (aY (pv 0) U)))))),?_⟩;refine⟨_,U,i,U,_,U,ee ?_⟩;refine⟨_,U,a,_,_,_,_,U,ha,bl.k_Numbers,bl.na_Numbers_low,hl,_,U,_,_,U,U,_,U,eA h1 ?_⟩;refine⟨_,U,a,_,_,_,_,U,ha,bl.k_Numbers,bl.na_Numbers_high,hh,_,_,U,U,?_⟩;show Q (.bl (decide (i<=b.2))) H;rw[decide_eq_true h2];exact q
theorem O_6(F:Fun K "has_code" "Domain.has_code" Y6 f fd) (bl:Bl K mg Y)(jy:Callee P w K mg base 1 "is_whole" ["value"] (fB K Y)):aN P w K mg base CX0 2 f fd ["self","value"] (b8 K Y):=by
 refine F.okA Z6 λcdv A outer s H vs Q E hr h=>?_
 obtain⟨a,b,i,rfl,⟨dx,fs,ha,hl,hh,_⟩,h1,h2,q⟩:=h;refine⟨_,(ag (aG (km (aR jy hr U (aa (pv 1) af)) (lI (lK eL eL (aY (pv 0) U) (pv 1) (aY (pv 0) U)))))),?_⟩;refine⟨_,U,i,U,_,U,ee ?_⟩;refine⟨_,U,a,_,_,_,_,U,ha,bl.k_Words,bl.na_Words_low,hl,_,U,_,_,U,U,_,U,eA h1 ?_⟩;refine⟨_,U,a,_,_,_,_,U,ha,bl.k_Words,bl.na_Words_high,hh,_,_,U,U,?_⟩;show Q (.bl (decide (i<=b.2))) H;rw[decide_eq_true h2];exact q
theorem Dq(F:Fun K "__init__" "Numbers.__init__" Y15 f fd) (bl:Bl K mg Y)(fi:cc CX0 P w K mg base 1 "Domain" "__init__" ["self","low","high"] (bU K Y)):aN P w K mg base CX0 2 f fd ["self","low","high"] (bO K Y):=by
 refine F.okA Z15 λcdv A outer s H vs Q E hr h=>?_
 obtain⟨x,dx,lo,hi,rfl,hx,hle,q⟩:=h
 refine⟨_,(ay (aQ (aI hU (pv 1) (pv 2) (aP _))
  (ag bc)
  aH)
  (ag (aT (fw fi bN hr U (aa (pv 0) (aa (pv 1) (aa (pv 2) af))))))),?_⟩
 exact⟨_,U,_,U,_,_,U,U,_,U,bR (by lia) ⟨_,U,_,U,_,U,x,dx,lo,hi,U,hx,q⟩⟩
theorem O_4(F:Fun K "code" "Domain.code" Y4 f fd) (bl:Bl K mg Y)(fR:aX CX0 P w K mg base 1 Y.l "borne_code" ["self","value"] (bW K Y)) (iX:aX CX0 P w K mg base 1 Y.l "bears" ["self","value"] (cX K Y)):aN P w K mg base CX0 2 f fd ["self","value"] (cY K Y):=by
 refine F.okA Z4 λcdv A outer s H vs Q E hr h=>?_
 obtain⟨a,zs,z,j,rfl,hW,nd,ez,q⟩:=h
 refine⟨_,(ay (aQ (cP (dg (ib iX bN bl.k_Words hr (pv 0) (aa (pv 1) af))))
  (ag bc)
  aH)
  (ag (aG (ib fR bN bl.k_Words hr (pv 0) (aa (pv 1) af))))),?_⟩
 obtain⟨dx,lw,ha,hw⟩:=id hW;refine⟨_,U,a,_,_,U,ha,U,_,U,a,zs,z,U,hW,EY ez,_,U,bV ?_⟩;exact⟨_,U,a,_,_,U,ha,U,_,U,a,zs,z,j,U,hW,nd,ez,q⟩
theorem Dr(F:Fun K "verdict" "Way.verdict" Y29 f fd) (bl:Bl K mg Y)(iB:aX CX0 P w K mg base 1 Y.d "chosen" ["self","codes","outcome"] (J1 K Y)):aN P w K mg base CX0 2 f fd ["self","codes","outcome"] (J12 K Y):=by
 refine F.ok Z29 (λvs H Q E h=>?_) (λcdv A outer s H vs Q E hr h=>?_)
 ·obtain⟨x,c,o,ns,b,rfl,⟨dx,z,hx⟩,ho,hle,hS,hn,q⟩:=h;rfl
 obtain⟨x,c,o,ns,b,rfl,⟨dx,z,hx⟩,ho,hle,hS,hn,q⟩:=h
 refine⟨_,(ay (aQ (cP (dJ (pv 1) (by intro _;rfl)))
  (ag (aG (cM (v:=.ref Y.o) U bl.NONE_ U)))
  aH)
  (ag (aG (ib iB bN bl.k_First hr (pv 0) (aa (pv 1) (aa (pv 2) af)))))),?_⟩
 refine⟨_,U,!(ns.map V.int).isEmpty,.inl ⟨_,hS,U⟩,?_⟩;cases ns with
 |nil=>exact ee (q _ _ (ao.refl _) (bl.q_NONE.sq _))
 |cons n ns=>exact bV ⟨_,U,x,_,_,U,hx,U,_,U,_,U,x,c,o,n,ns,b,U,⟨dx,z,hx⟩,ho,hle,hS,lt_of_succ_lt hn,q⟩
theorem Ds(F:Fun K "verdict" "Way.verdict" Y33 f fd) (bl:Bl K mg Y)(jz:aX CX0 P w K mg base 1 Y.e "chosen" ["self","codes","outcome"] (J9 K Y)):aN P w K mg base CX0 2 f fd ["self","codes","outcome"] (J16 K Y):=by
 refine F.ok Z33 (λvs H Q E h=>?_) (λcdv A outer s H vs Q E hr h=>?_)
 ·obtain⟨x,c,o,ns,b,rfl,⟨dx,z,hx⟩,ho,hle,hS,hn,q⟩:=h;rfl
 obtain⟨x,c,o,ns,b,rfl,⟨dx,z,hx⟩,ho,hle,hS,hn,q⟩:=h
 refine⟨_,(ay (aQ (cP (dJ (pv 1) (by intro _;rfl)))
  (ag (aG (cM (v:=.ref Y.o) U bl.NONE_ U)))
  aH)
  (ag (aG (ib jz bN bl.k_Only hr (pv 0) (aa (pv 1) (aa (pv 2) af)))))),?_⟩
 refine⟨_,U,!(ns.map V.int).isEmpty,.inl ⟨_,hS,U⟩,?_⟩;cases ns with
 |nil=>exact ee (q _ _ (ao.refl _) (bl.q_NONE.sq _))
 |cons n ns=>exact bV ⟨_,U,x,_,_,U,hx,U,_,U,_,U,x,c,o,n,ns,b,U,⟨dx,z,hx⟩,ho,hle,hS,lt_of_succ_lt hn,q⟩
theorem Dt(F:Fun K "verdict" "Way.verdict" Y31 f fd) (bl:Bl K mg Y)(jA:aX CX0 P w K mg base 1 Y.f "chosen" ["self","codes","outcome"] (J5 K Y)):aN P w K mg base CX0 2 f fd ["self","codes","outcome"] (J14 K Y):=by
 refine F.ok Z31 (λvs H Q E h=>?_) (λcdv A outer s H vs Q E hr h=>?_)
 ·obtain⟨x,c,o,ns,b,rfl,⟨dx,z,hx⟩,ho,hle,hS,hn,q⟩:=h;rfl
 obtain⟨x,c,o,ns,b,rfl,⟨dx,z,hx⟩,ho,hle,hS,hn,q⟩:=h
 refine⟨_,(ay (aQ (cP (dJ (pv 1) (by intro _;rfl)))
  (ag (aG (cM (v:=.ref Y.o) U bl.NONE_ U)))
  aH)
  (ag (aG (ib jA bN bl.k_Like hr (pv 0) (aa (pv 1) (aa (pv 2) af)))))),?_⟩
 refine⟨_,U,!(ns.map V.int).isEmpty,.inl ⟨_,hS,U⟩,?_⟩;cases ns with
 |nil=>exact ee (q _ _ (ao.refl _) (bl.q_NONE.sq _))
 |cons n ns=>exact bV ⟨_,U,x,_,_,U,hx,U,_,U,_,U,x,c,o,n,ns,b,U,⟨dx,z,hx⟩,ho,hle,hS,lt_of_succ_lt hn,q⟩
theorem Du(F:Fun K "verdict" "Way.verdict" Y32 f fd) (bl:Bl K mg Y)(kL:aX CX0 P w K mg base 1 Y.g "chosen" ["self","codes","outcome"] (J7 K Y)):aN P w K mg base CX0 2 f fd ["self","codes","outcome"] (J15 K Y):=by
 refine F.ok Z32 (λvs H Q E h=>?_) (λcdv A outer s H vs Q E hr h=>?_)
 ·obtain⟨x,c,o,ns,b,rfl,⟨dx,z,hx⟩,ho,hle,hS,hn,q⟩:=h;rfl
 obtain⟨x,c,o,ns,b,rfl,⟨dx,z,hx⟩,ho,hle,hS,hn,q⟩:=h
 refine⟨_,(ay (aQ (cP (dJ (pv 1) (by intro _;rfl)))
  (ag (aG (cM (v:=.ref Y.o) U bl.NONE_ U)))
  aH)
  (ag (aG (ib kL bN bl.k_Low hr (pv 0) (aa (pv 1) (aa (pv 2) af)))))),?_⟩
 refine⟨_,U,!(ns.map V.int).isEmpty,.inl ⟨_,hS,U⟩,?_⟩;cases ns with
 |nil=>exact ee (q _ _ (ao.refl _) (bl.q_NONE.sq _))
 |cons n ns=>exact bV ⟨_,U,x,_,_,U,hx,U,_,U,_,U,x,c,o,n,ns,b,U,⟨dx,z,hx⟩,ho,hle,hS,lt_of_succ_lt hn,q⟩
theorem Dv(F:Fun K "verdict" "Way.verdict" Y30 f fd) (bl:Bl K mg Y)(jB:aX CX0 P w K mg base 1 Y.h "chosen" ["self","codes","outcome"] (J3 K Y)):aN P w K mg base CX0 2 f fd ["self","codes","outcome"] (J13 K Y):=by
 refine F.ok Z30 (λvs H Q E h=>?_) (λcdv A outer s H vs Q E hr h=>?_)
 ·obtain⟨x,c,o,ns,b,rfl,⟨dx,z,hx⟩,ho,hle,hS,hn,q⟩:=h;rfl
 obtain⟨x,c,o,ns,b,rfl,⟨dx,z,hx⟩,ho,hle,hS,hn,q⟩:=h
 refine⟨_,(ay (aQ (cP (dJ (pv 1) (by intro _;rfl)))
  (ag (aG (cM (v:=.ref Y.o) U bl.NONE_ U)))
  aH)
  (ag (aG (ib jB bN bl.k_High hr (pv 0) (aa (pv 1) (aa (pv 2) af)))))),?_⟩
 refine⟨_,U,!(ns.map V.int).isEmpty,.inl ⟨_,hS,U⟩,?_⟩;cases ns with
 |nil=>exact ee (q _ _ (ao.refl _) (bl.q_NONE.sq _))
 |cons n ns=>exact bV ⟨_,U,x,_,_,U,hx,U,_,U,_,U,x,c,o,n,ns,b,U,⟨dx,z,hx⟩,ho,hle,hS,lt_of_succ_lt hn,q⟩
theorem Dw(F:Fun K "verdict" "Way.verdict" Y34 f fd) (bl:Bl K mg Y)(kM:aX CX0 P w K mg base 1 Y.i "chosen" ["self","codes","outcome"] (J11 K Y)):aN P w K mg base CX0 2 f fd ["self","codes","outcome"] (J17 K Y):=by
 refine F.ok Z34 (λvs H Q E h=>?_) (λcdv A outer s H vs Q E hr h=>?_)
 ·obtain⟨x,c,o,ns,b,rfl,⟨dx,z,hx⟩,ho,hle,hS,hn,q⟩:=h;rfl
 obtain⟨x,c,o,ns,b,rfl,⟨dx,z,hx⟩,ho,hle,hS,hn,q⟩:=h
 refine⟨_,(ay (aQ (cP (dJ (pv 1) (by intro _;rfl)))
  (ag (aG (cM (v:=.ref Y.o) U bl.NONE_ U)))
  aH)
  (ag (aG (ib kM bN bl.k_Sum hr (pv 0) (aa (pv 1) (aa (pv 2) af)))))),?_⟩
 refine⟨_,U,!(ns.map V.int).isEmpty,.inl ⟨_,hS,U⟩,?_⟩;cases ns with
 |nil=>exact ee (q _ _ (ao.refl _) (bl.q_NONE.sq _))
 |cons n ns=>exact bV ⟨_,U,x,_,_,U,hx,U,_,U,_,U,x,c,o,n,ns,b,U,⟨dx,z,hx⟩,ho,hle,hS,lt_of_succ_lt hn,q⟩
theorem Dx(F:Fun K "refuse_names" "refuse_names" Y78 f fd) (bl:Bl K mg Y)(f9:Callee P w K mg base 2 "is_word" ["text"] (fe K Y)):aN P w K mg base CX0 3 f fd ["facts","tables"] (cK K Y):=by
 refine F.okA Z78 λcdv A outer s H vs Q E hr h=>?_
 obtain⟨fa,ma,fv,mv,zs,ds,ts,fN,L,rfl,efa,ema,hB,q⟩:=h
 refine⟨_,(av (bf PassesOwn.never U (aO (pv 0)) (dh U (aJ (aD (i:=2) Z78.nd U (Or.inl U)) (aJ (aD (i:=3) Z78.nd U (Or.inl U)) bJ)))
  (ag (aQ (cP (dg (aR f9 hr U (aa (pv 2) af))))
  (ag bc)
  aH)))
  (av (aK (i:=4) Z78.nd U (Or.inl U) (aE ky (fX (aO (pv 0)) (cZ (N:=["name","domain"]) (k:=2) U U (by decide+kernel) (by decide+kernel) (by decide+kernel)) U (λ_ _ _ _=>(nJ (K:=K) (n:=2) U U (aJ (aD (i:=0) (show(["name","domain"]:List Str).Nodup by decide+kernel) U (Or.inl U) (Or.inr U)) (aJ (aD (i:=1) (show(["name","domain"]:List Str).Nodup by decide+kernel) U (Or.inl U) (Or.inr U)) bJ)))) (λ_ _ _ _=>aV) (λ_ _ _ _=>(pv 0))) (bF (aO (pv 1)) (bD U (by decide+kernel) (by decide+kernel) (by decide+kernel) U) U (λ_ _ _ _=>aV) (λ_ _ _ _=>(jV (K:=K) U (pv 0) U)))))
  (ay (aQ (aI kS (au fI U bl.len_ boot_len (aa (bx (fG U) U bl.set_ PyProof.Rows.boot_set (aa (pv 4) af)) af)) (au aq U bl.len_ boot_len (aa (pv 4) af)) (aP _))
  (ag bc)
  aH)
  (ag (bf PassesOwn.never U (aO (pv 1)) (aD (i:=5) Z78.nd U (Or.inl U))
  (ag (bf PassesOwn.never U (aO (aY (pv 5) U)) (aD (i:=2) Z78.nd U (Or.inl U))
  (ag (aQ (aI jS (pv 2) (pv 4) (by with_unfolding_all rfl))
  (ag bc)
  aH))))))))),?_⟩
 obtain⟨b1,b2,b3⟩:=hB.few;have hfl:fv.length=fN:=by rw[hB.facts.1,length_range]
 have hml:mv.length=L.length:=hB.tabs.1;refine⟨λσ' H'=>H'=H/\∃c2 c3:Option V,σ'=[some (.ref fa),some (.ref ma),c2,c3,none,none],?_,?_⟩
 ·refine⟨_,U,fa,U,⟨_,SqL.of efa⟩,bg (xs:=fv) (λi σ H'=>H'=H/\∃c2 c3:Option V,σ=[some (.ref fa),some (.ref ma),c2,c3,none,none]) ⟨U,_,_,U⟩ (λi σ H' _ h=>by rw[h.1];exact SqL.of efa) (λi y σ H' e h=>?_) (λσ H' h=>h)⟩;obtain⟨e0,c2,c3,rfl⟩:=h;rw[e0];obtain⟨r,k,rfl,ek,nm,po,d,h1,h2,h3,h4⟩:=az.get hB.facts e;have hw:=hB.ok.words nm (EY h1);refine⟨r,_,U,SqT.of h3,U,_,_,U,_,_,U,U,?_⟩;refine⟨_,U,nm,U,le_trans (tS hw) (by decide),_,U,?_⟩;rw[hw];exact bV ⟨U,_,_,U⟩
 rintro σ1 H1 ⟨e1,c2,c3,rfl⟩;rw[e1];clear e1;refine⟨λσ' H'=>ao H H'/\∃na:Addr,H' na=some (.lst ((bnm zs fN L).map V.str))/\σ'=[some (.ref fa),some (.ref ma),c2,c3,some (.ref na),none],?_,?_⟩
 ·refine⟨_,U,fa,U,⟨_,SqL.of efa⟩,dY (xs:=fv) (λD i ys H'=>ao H H'/\H' D=some (.lst ys)/\ys=(zs.take i).map V.str) (λD hD=>⟨ah hD _,ae,U⟩) (λD i ys H' hD _ h=>SqL.of (h.1 _ _ efa)) (λD i y ys H' hD e h ts_ hts=>?_) (λD ys H' hD h=>?_)⟩
  ·obtain⟨sm,eD,rfl⟩:=h;obtain⟨r,k,rfl,ek,nm,po,d,h1,h2,h3,h4⟩:=az.get hB.facts e;obtain⟨rfl,hi⟩:=o8 ek;obtain⟨t0,t1,rfl⟩:∃t0 t1,ts_=[t0,t1]:=by
    match ts_,hts with
    | [t0,t1],_=>exact⟨t0,t1,U⟩
   refine⟨r,_,U,SqT.of (sm _ _ h3),U,_,_,U,_,_,U,U,⟨[some (.str nm),some (.ref d)],U,U⟩,?_⟩;refine⟨_,U,bT.mk (by lia) eD (aC (by rw[length_map,length_take];lia)) ⟨sm.upd hD,ae,?_⟩⟩;rw[take_snoc h1,map_append];rfl
  ·obtain⟨sm,eD,rfl⟩:=h;rw[hfl]at eD;refine⟨_,U,ma,U,⟨_,SqL.of (sm _ _ ema)⟩,bh (xs:=mv) (λD2 i ys H2=>ao H' H2/\H2 D2=some (.lst ys)/\ys=((L.take i).map (tnm zs fN)).map V.str) (λD2 hD2=>⟨ah hD2 _,ae,U⟩) (λD2 i ys H2 hD2 _ h=>SqL.of (h.1 _ _ (sm _ _ ema))) (λD2 i y ys H2 hD2 e h=>?_) (λD2 ys H2 hD2 h=>?_)⟩
   ·obtain⟨s2,eD2,rfl⟩:=h;obtain⟨t_,k,rfl,ek,tt,nm,po,ou,dv,g1,g2,g3,g4,g5,g6⟩:=az.get hB.tabs e;obtain⟨rl,dx,na,dl,fs,xs,ht,f1,f2,f3,f4,f5,f6,ena,edl,erl,hR,iT⟩:=g4;have hi:i<mv.length:=(EW.mp e).1;have sA:=sm.trans s2;refine⟨_,U,t_,_,_,_,_,U,sA _ _ ht,bl.k_Table,bl.na_Table_name,f2,bT.mk hi eD2 (aC (by rw[length_map,length_map,length_take];lia)) ⟨s2.upd hD2,ae,?_⟩⟩;rw[take_snoc ek,map_append,map_append];show _++[V.str nm]=_++[V.str (tnm zs fN k)];rw[dF g2]
   ·obtain⟨s2,eD2,rfl⟩:=h;rw[hml,take_length]at eD2;refine⟨D,D2,_,_,U,U,s2 _ _ eD,eD2,le_of_lt (aC (by rw[length_map,length_map,length_map,length_take];lia)),λp hp=>⟨(sm.trans s2).trans (ah hp _),p,?_,U⟩⟩;rw[ae];unfold bnm;rw[map_append]
 rintro σ2 H2 ⟨s2,na,ena,rfl⟩;have hbl:(bnm zs fN L).length<=14:=by unfold bnm;rw[length_append,length_take,length_map];lia
 have hnl:((bnm zs fN L).map V.str).length=(bnm zs fN L).length:=length_map _;refine⟨_,U,na,bnm zs fN L,U,SqL.of ena,by lia,λl hl2=>⟨l,bnm zs fN L,U,ae,by lia,_,U,na,_,U,.inl (SqL.of (ah hl2 _ _ _ ena)),_,_,U,U,_,U,?_⟩⟩;have cf:=iL (bnm zs fN L) (bnm zs fN L).length (le_refl _);rw[take_length]at cf;refine bR (by rw[hnl,cf.mpr hB.bnd_];lia) ?_;have s3:=s2.trans (ah hl2 (lj P w l (bnm zs fN L)));have Dy:=ah hl2 (lj P w l (bnm zs fN L)) _ _ ena;refine⟨_,U,ma,U,⟨_,SqL.of (s3 _ _ ema)⟩,bg (xs:=mv) (λi σ H'=>ao H H'/\H' na=some (.lst ((bnm zs fN L).map V.str))/\∃c2 c5:Option V,σ=[some (.ref fa),some (.ref ma),c2,c3,some (.ref na),c5]) ⟨s3,Dy,_,_,U⟩ (λi σ H' _ h=>SqL.of (h.1 _ _ ema)) (λi y σ H' e h=>?_) (λσ H' h=>q H' h.1)⟩;obtain⟨s4,Bh,d2,d5,rfl⟩:=h;obtain⟨t_,k,rfl,ek,tt,nm,po,ou,dv,g1,g2,g3,g4,g5,g6⟩:=az.get hB.tabs e;obtain⟨rl,dx,na2,dl,fs,xs,ht,f1,f2,f3,f4,f5,f6,Bi,edl,erl,hR,iT⟩:=g4;refine⟨_,U,t_,_,_,_,_,U,s4 _ _ ht,bl.k_Table,bl.na_Table_names,f5,na2,U,⟨_,SqL.of (s4 _ _ Bi)⟩,bg (xs:=(prm tt.cols zs).map V.str) (λi σ H2=>H2=H'/\∃c2:Option V,σ=[some (.ref fa),some (.ref ma),c2,c3,some (.ref na),some (.ref t_)]) ⟨U,_,U⟩ (λi σ H2 _ h=>by rw[h.1];exact SqL.of (s4 _ _ Bi)) (λi y σ H2 e h=>?_) (λσ H2 h=>by rw[h.1];exact⟨s4,Bh,let ⟨c,e⟩:=h.2;⟨c,_,e⟩⟩)⟩;obtain⟨e0,d2',rfl⟩:=h;rw[e0];obtain⟨z,rfl,ez⟩:=dq e;have hz:=hB.has (tR (EY ez));refine⟨_,U,_,U,na,_,U,.inl (SqL.of Bh),U,d6 _,_,U,?_⟩;rw[show(if true=true then !inV (V.str z) ((bnm zs fN L).map V.str)else inV (V.str z) ((bnm zs fN L).map V.str))=false by rw[if_pos U,ir];simpa using hz];exact bV ⟨U,_,U⟩
theorem Dz(F:Fun K "refuse_names" "refuse_names" Y79 f fd) (bl:Bl K mg Y)(f9:Callee P w K mg base 2 "is_word" ["text"] (fe K Y)):aN P w K mg base CX0 3 f fd ["names"] (cE K Y):=by
 refine F.okA Z79 λcdv A outer s H vs Q E hr h=>?_
 obtain⟨p,zs,rfl,hS,hw,hn,hl,q⟩:=h
 refine⟨_,(av (bf PassesOwn.never U (aO (pv 0)) (aD (i:=1) Z79.nd U (Or.inl U))
  (ag (aQ (cP (dg (aR f9 hr U (aa (pv 1) af))))
  (ag bc)
  aH)))
  (ag (aQ (aI kS (au fI U bl.len_ boot_len (aa (bx (fG U) U bl.set_ PyProof.Rows.boot_set (aa (pv 0) af)) af)) (au aq U bl.len_ boot_len (aa (pv 0) af)) (aP _))
  (ag bc)
  aH))),?_⟩
 have hlen:(zs.map V.str).length=zs.length:=length_map _;refine⟨λσ' H'=>H'=H/\∃c1:Option V,σ'=[some (.ref p),c1],?_,?_⟩
 ·refine⟨_,U,p,U,⟨_,hS⟩,bg (xs:=zs.map V.str) (λi σ H'=>H'=H/\∃c1:Option V,σ=[some (.ref p),c1]) ⟨U,_,U⟩ (λi σ H' _ h=>by rw[h.1];exact hS) (λi y σ H' e h=>?_) (λσ H' h=>h)⟩;obtain⟨e0,c1,rfl⟩:=h;rw[e0];obtain⟨z,rfl,ez⟩:=dq e;have hz1:=hw z (EY ez);have hz:z.length<=1000:=by
   have hw2:=hz1;unfold isw at hw2;simp only[and_eq_true,decide_eq_true_eq]at hw2;lia
  refine⟨_,U,z,U,hz,_,U,?_⟩;rw[hz1];exact bV ⟨U,_,U⟩
 rintro σ2 H2 ⟨e2,c1,rfl⟩;rw[e2];refine⟨_,U,p,zs,U,hS,by lia,λl hl2=>⟨l,zs,U,ae,by lia,_,U,p,_,U,.inl ((ah hl2 _).seq hS),_,_,U,U,_,U,?_⟩⟩;have cf:=iL zs zs.length (le_refl _);rw[take_length]at cf;exact bR (by rw[hlen,cf.mpr hn];lia) (q _ (ah hl2 _))
theorem DA(F:Fun K "refuse_row" "refuse_row" Y81 f fd) (bl:Bl K mg Y)(bX:aX CX0 P w K mg base 2 Y.k "has_code" ["self","value"] (bB K Y)) (gb:aX CX0 P w K mg base 2 Y.l "has_code" ["self","value"] (b8 K Y)):aN P w K mg base CX0 3 f fd ["domains","outcome","cells","code"] (fM K Y):=by
 refine F.okA Z81 λcdv A outer s H vs Q E hr h=>?_
 obtain⟨dl,ou,cl,dv,xs,bs,o,w_,rfl,hD,hdv,hO,hC,hcl,ok,q⟩:=h
 refine⟨_,(ay (aQ (aI pV (au aq U bl.len_ boot_len (aa (pv 2) af)) (au aq U bl.len_ boot_len (aa (pv 0) af)) (aP _))
  (ag bc)
  aH)
  (av (bf PassesOwn.never U (rM U bl.zip_ (aa (pv 0) (aa (pv 2) af))) (dh U (aJ (aD (i:=4) Z81.nd U (Or.inl U)) (aJ (aD (i:=5) Z81.nd U (Or.inl U)) bJ)))
  (ag (bf PassesOwn.never U (aO (pv 5)) (dh U (aJ (aD (i:=6) Z81.nd U (Or.inl U)) (aJ (aD (i:=7) Z81.nd U (Or.inl U)) bJ)))
  (ag (aQ (PW.pt (nq (aI kS (pv 6) (aY (pv 4) U) (aP _)) (lH (aI hU (pv 7) (aY (pv 4) U) (aP _)))))
  (ag bc)
  aH)))))
  (ag (aQ (cP (dg (rL (m5 bX bl.k_Numbers (m5 gb bl.k_Words zk)) bN hr (pv 1) (aa (pv 3) af))))
  (ag bc)
  aH)))),?_⟩
 have hdf:∀(C:Addr),(C=Y.k\/C=Y.l)->Cls K C/\NoAttr K C (Str.ofString "low")/\NoAttr K C (Str.ofString "high"):=λC h=>by
  rcases h with rfl|rfl
  ·exact⟨bl.k_Numbers,bl.na_Numbers_low,bl.na_Numbers_high⟩
  ·exact⟨bl.k_Words,bl.na_Words_low,bl.na_Words_high⟩
 have hlen:xs.length=dv.length:=by rw[hcl.1,ok.len,hdv.1]
 refine⟨_,U,cl,_,U,.inl (SqL.of hC),_,U,dl,_,U,.inl (hD),U,_,U,tj (by rw[hlen]) ?_⟩;refine⟨λσ' H'=>ao H H'/\∃c4 c5 c6 c7:Option V,σ'=[some (.ref dl),some (.ref ou),some (.ref cl),some (.int w_.2),c4,c5,c6,c7],?_,?_⟩
 ·refine⟨_,U,_,U,dl,cl,U,⟨_,hD⟩,⟨_,SqL.of hC⟩,oN (xs:=dv) (ys:=xs) (λi σ H'=>ao H H'/\∃c4 c5 c6 c7:Option V,σ=[some (.ref dl),some (.ref ou),some (.ref cl),some (.int w_.2),c4,c5,c6,c7]) ⟨ao.refl _,_,_,_,_,U⟩ (λi σ H' h=>⟨h.1.seq hD,SqL.of (h.1 _ _ hC)⟩) (λi x y σ H' T ex ey h hT=>?_) (λσ H' h=>h)⟩;obtain⟨sm,c4,c5,c6,c7,rfl⟩:=h;have s2:=sm.trans (ah hT (.tup [x,y]));have eT:upd H' T (.tup [x,y]) T=some (.tup [x,y]):=ae;generalize upd H' T (.tup [x,y])=H2 at s2 eT⊢;obtain⟨a,b,rfl,eb,hb⟩:=hdv.get ex;obtain⟨l,ps,rfl,ep,hl⟩:=az.get hcl ey;obtain⟨C,hC',dx,fs,ha,f1,f2,_⟩:=hb.same s2;obtain⟨k1,k2,k3⟩:=hdf C hC';obtain⟨_,ys,el,hp⟩:=hl.same s2;refine⟨T,_,U,SqT.of eT,U,_,_,U,_,_,U,U,?_⟩;refine⟨_,U,l,U,⟨_,SqL.of el⟩,bg (xs:=ys) (λj σ H'=>H'=H2/\∃c6 c7:Option V,σ=[some (.ref dl),some (.ref ou),some (.ref cl),some (.int w_.2),some (.ref a),some (.ref l),c6,c7]) ⟨U,_,_,U⟩ (λj σ H' _ h=>by rw[h.1];exact SqL.of el) (λj y σ H' e h=>?_) (λσ H' h=>?_)⟩
  ·obtain⟨e0,c6,c7,rfl⟩:=h;rw[e0];obtain⟨p,r,e1,rfl,hr'⟩:=hp.get e;obtain⟨i1,i2⟩:=ok.inn i ps b ep eb p (EY e1);refine⟨r,_,U,SqT.of hr',U,_,_,U,_,_,U,U,?_⟩;refine⟨_,U,_,U,a,_,_,_,_,U,ha,k1,k2,f1,_,_,U,U,_,U,bR (by lia) ?_⟩;exact⟨_,U,_,U,a,_,_,_,_,U,ha,k1,k3,f2,_,_,U,U,_,U,bR (by lia) ⟨U,_,_,U⟩⟩
  ·obtain⟨e0,c6,c7,rfl⟩:=h;rw[e0];exact⟨s2,_,_,_,_,U⟩
 rintro σ3 H3 ⟨s3,c4,c5,c6,c7,rfl⟩;obtain⟨C,hC',hd⟩:=hO.same s3;obtain⟨dx,fs,ha,f1,f2,f3⟩:=id hd;rcases hC' with rfl|rfl
 ·exact⟨_,U,ou,_,dx,fs,U,.head _,ha,f3,_,U,ou,o,w_.2,U,hd,ok.lo,ok.hi,_,U,bV (q _ s3)⟩
 ·exact⟨_,U,ou,_,dx,fs,U,.tail _ (.head _),ha,f3,_,U,ou,o,w_.2,U,hd,ok.lo,ok.hi,_,U,bV (q _ s3)⟩
theorem DB(F:Fun K "mask" "mask" Y69 f fd) (bl:Bl K mg Y)(zS:Callee P w K mg base 2 "fits" ["table","k","codes"] (ph K Y)):aN P w K mg base CX0 3 f fd ["table","codes"] (pj K Y):=by
 refine F.okA Z69 λcdv A outer s H vs Q E hr h=>?_
 obtain⟨t,c,rws,wi,o,cs,rfl,⟨rl,ou,dx,fs,xs,wy,ht,hf,hfw,hfo,erl,hR,hwi,hou,hole,iT⟩,hS,hlen,q⟩:=h;refine⟨_,(ag (aG (au (fF U) U bl.sum_ PyProof.Rows.boot_sum (aa (bF (br U bl.range_ (aa (au aq U bl.len_ boot_len (aa (aY (pv 0) U) af)) af)) (aU (N:=["k","table","codes"]) (fr:=[0,1]) (cl:=[("table",s.heap.objs.size+1),("codes",s.heap.objs.size+1+1)]) U U (by decide+kernel) (by decide+kernel) U (by decide+kernel) U U U (forall_mem_cons.mpr ⟨U,forall_mem_cons.mpr ⟨U,forall_mem_nil _⟩⟩) U) U (λ_ _ _ _=>(fu (dg (aR zS hr U (aa (pv 1) (aa (pv 0) (aa (pv 2) af))))))) (λ_ _ _ _=>(aE yO ai (pv 0)))) af)))),?_⟩;have hxl:xs.length=rws.length:=hR.1
 refine⟨_,U,t,_,_,_,_,U,ht,bl.k_Table,bl.na_Table_rows,hf,rl,_,U,.inl (SqL.of erl),_,U,(by show -(2^62)<=((xs.length:Nat):Int);lia),(by show((xs.length:Nat):Int)<2^62;lia),bH (λD i zs H'=>ao H H'/\H' D=some (.lst zs)/\∃ys:List Int,zs=ys.map V.int/\ys.sum=((msk (eW rws cs) i:Nat):Int)/\ys.length<=i)
  (λD hD=>⟨ah hD _,ae,[],U,U,zero_le _⟩) (λD i zs H' hD hi h=>?_) (λD zs H' hD h=>?_)⟩
 ·obtain⟨sm,eD,ys,rfl,pC,hl⟩:=h;have hi2:i<rws.length:=by first|lia|(rw[←hxl];lia)
  obtain⟨w_,ew⟩:∃w_,rws[i]?=some w_:=⟨_,EV hi2⟩;have hg:rws.getD i ([],0)=w_:=getD_at ew;refine⟨_,U,_,U,_,U,t,rl,c,dx,fs,xs,rws,i,w_,cs,by rw[zero_add],sm _ _ ht,hf,sm _ _ erl,hR.same sm,ew,sm.seq hS,hlen w_ (EY ew),λH3 s3=>⟨_,U,?_⟩⟩;have sA:=sm.trans s3;have eD3:=s3 _ _ eD;cases hb:m7 w_.1 cs with
  |true =>
   refine ee ⟨_,U,_,_,U,U,⟨by lia,by lia,by decide⟩,bT.mk hi eD3 (aC (by rw[length_map];lia)) ⟨sA.upd hD,ae,ys++[1*2^(0+(i:Int)).toNat],by simp,?_,by simp;lia⟩⟩;have e2:(0+(i:Int)).toNat=i:=by lia
   rw[e2,sum_append,pC,my,show eW rws cs i=true by unfold eW;rw[hg];exact hb];simp;lia
  |false =>
   refine bV (eM.mk (zs:=ys.map V.int) hi ⟨sA,eD3,ys,U,?_,by lia⟩);rw[pC,my,show eW rws cs i=false by unfold eW;rw[hg];exact hb];simp
 ·obtain⟨sm,eD,ys,rfl,pC,hl⟩:=h;rw[toNat_natCast]at pC;refine⟨D,ys,U,SqL.of eD,?_⟩;have q2:=q H' sm;rw[←hxl,←pC]at q2;exact q2
theorem DC(F:Fun K "_law_book" "_law_book" Y53 f fd) (bl:Bl K mg Y)(mO:Callee P w K mg base 2 "_law_numbers" ["script","most"] (eZ K Y)) (m9:Callee P w K mg base 2 "_law_domain" ["cell"] (fL K Y)) (qG:Callee P w K mg base 2 "_law_pool" ["domain","cell","most"] (iu K Y)) (dI:Callee P w K mg base 2 "_law_at" ["script","k"] (iN K Y)) (gD:Callee P w K mg base 2 "_law_words" ["cell","count"] (eQ K Y)) (sC:Callee P w K mg base 2 "_law_row" ["columns","domains","pools","own","number"] (ju K Y)):aN P w K mg base CX0 3 f fd ["script"] (iy K Y):=by
 refine F.okA Z53 λcdv A outer s H vs Q E hr h=>?_
 obtain⟨a,ns,rfl,hS,h63,q⟩:=h
 refine⟨_,(av (aK (i:=1) Z53.nd U (Or.inr U) (aE bG ai (aE bu (aR dI hr U (aa (pv 0) (aa ai af))) ai)))
  (av (aK (i:=2) Z53.nd U (Or.inl U) (aE bG (aE bG (pv 1) ai) (aE bu (aE bE (aR dI hr U (aa (pv 0) (aa ai af))) ai) (aF aL (bz (aa ai (aa ai (aa ai af)))) (aE ck (pv 1) ai) (λ_ _=>U)))))
  (av (aK (i:=3) Z53.nd U (Or.inr U) (bF (br U bl.range_ (aa (pv 2) af)) (aU (N:=["k","script"]) (fr:=[0]) (cl:=[("script",s.heap.objs.size+1)]) U U (by decide+kernel) (by decide+kernel) U (by decide+kernel) U U U (forall_mem_cons.mpr ⟨U,forall_mem_nil _⟩) U) U (λ_ _ _ _=>aV) (λ_ _ _ _=>(aR m9 hr U (aa (aR dI hr U (aa (pv 1) (aa (aE bG ai (pv 0)) af))) af)))))
  (av (aK (i:=4) Z53.nd U (Or.inr U) (aE ky (bF (br U bl.range_ (aa (pv 1) af)) (aU (N:=["k","facts"]) (fr:=[1]) (cl:=[("facts",s.heap.objs.size+1+1)]) U U (by decide+kernel) (by decide+kernel) U (by decide+kernel) U U U (forall_mem_cons.mpr ⟨U,forall_mem_nil _⟩) U) U (λ_ _ _ _=>aV) (λ_ _ _ _=>(aF (cQ (K:=K) U) (bz (aa ai (aa ai (aa ai af)))) (aE ck (pv 1) ai) (λ_ _=>U)))) (bF (br U bl.range_ (aa (aE ck (pv 2) (pv 1)) af)) (bD U (by decide+kernel) (by decide+kernel) (by decide+kernel) U) U (λ_ _ _ _=>aV) (λ_ _ _ _=>ai))))
  (av (d8 (i:=5) Z53.nd U (Or.inl U) (br U bl.range_ (aa (pv 2) af)) (aU (N:=["k","script","domains","sizes"]) (fr:=[0,3,4]) (cl:=[("sizes",s.heap.objs.size+1+1+1+1),("script",s.heap.objs.size+1),("domains",s.heap.objs.size+1+1+1)]) U U (by decide+kernel) (by decide+kernel) U (by decide+kernel) U U U (forall_mem_cons.mpr ⟨U,forall_mem_cons.mpr ⟨U,forall_mem_cons.mpr ⟨U,forall_mem_nil _⟩⟩⟩) U) U (λ_ _ _ _=>aV) (λ_ _ _ _=>(aR qG hr U (aa (aF (cQ (K:=K) U) (pv 2) (pv 0) (λ_ _=>U)) (aa (aR dI hr U (aa (pv 1) (aa (aE bG ai (pv 0)) af))) (aa (aF (cQ (K:=K) U) (pv 3) (pv 0) (λ_ _=>U)) af))))))
  (av (aK (i:=6) Z53.nd U (Or.inl U) (bz af))
  (av (bf PassesOwn.never U (ko U bl.range_ (aa (pv 1) (aa (pv 2) af))) (aD (i:=7) Z53.nd U (Or.inr U))
  (av (aK (i:=8) Z53.nd U (Or.inr U) (aR dI hr U (aa (pv 0) (aa (aE ck (aE bG ai (pv 7)) (pv 1)) af))))
  (av (d8 (i:=9) Z53.nd U (Or.inl U) (br U bl.range_ (aa (au (fU U) U bl.min_ PyProof.Rows.boot_min (aa (aE bG ai (aE bu (pv 8) ai)) (aa (pv 7) af))) af)) (aU (N:=["j","own","cell"]) (fr:=[7,8]) (cl:=[("own",s.heap.objs.size+1+1+1+1+1),("cell",s.heap.objs.size+1+1+1+1+1+1)]) U U (by decide+kernel) (by decide+kernel) U (by decide+kernel) U U U (forall_mem_cons.mpr ⟨U,forall_mem_cons.mpr ⟨U,forall_mem_nil _⟩⟩) U) U (λ_ _ _ _=>aV) (λ_ _ _ _=>(aE bu (aE bG (aE bE (pv 2) ai) (pv 0)) (pv 1))))
  (av (aK (i:=10) Z53.nd U (Or.inl U) (aF aL (bz (aa aS (aa aS (aa aS (aa aS (aa aS (aa aS af))))))) (aE bu (aE bE (pv 8) ai) ai) (λ_ _=>U)))
  (av (aQ (PW.pt (gn (aI cx (pv 10) aS (aP _)) (eP (aI hU (au aq U bl.len_ boot_len (aa (aF aW (aF aL (pv 3) (pv 7) (λ_ _=>U)) ai (λ_ _=>U)) af)) ai (aP _)))))
  (ag (aK (i:=10) Z53.nd U (Or.inl U) aS))
  aH)
  (ag (aT (d9 PySem.F.plainAttrs_list PySem.F.slot_list_append PySem.F.type_list_append bS (pv 6) (aa (aZ (aa (pv 9) (aa (pv 10) (aa (bz af) af)))) af)))))))))
  (av (aK (i:=11) Z53.nd U (Or.inl U) (aR mO hr U (aa (pv 0) (aa (aE gZ (au aq U bl.len_ boot_len (aa (pv 6) af)) (aF aL (bz (aa ai (aa ai (aa ai af)))) (aE ck (pv 1) ai) (λ_ _=>U))) af))))
  (av (bf PassesOwn.never U (br U bl.range_ (aa (au aq U bl.len_ boot_len (aa (pv 11) af)) af)) (aD (i:=12) Z53.nd U (Or.inl U))
  (av (aK (i:=13) Z53.nd U (Or.inl U) (aF aL (pv 6) (aE bu (pv 12) (au aq U bl.len_ boot_len (aa (pv 6) af))) (λ_ _=>U)))
  (ag (aT (d9 PySem.F.plainAttrs_list PySem.F.slot_list_append PySem.F.type_list_append bS (aF aW (pv 13) ai (λ_ _=>U)) (aa (aR sC hr U (aa (aF aW (pv 13) ai (λ_ _=>U)) (aa (pv 3) (aa (pv 5) (aa (aE bG (pv 1) (aE bu (pv 12) (au aq U bl.len_ boot_len (aa (pv 6) af)))) (aa (aF aL (pv 11) (pv 12) (λ_ _=>U)) af)))))) af))))))
  (ag (aG (aZ (aa (aR gD hr U (aa (aR dI hr U (aa (pv 0) (aa ai af))) (aa (pv 2) af))) (aa (pv 3) (aa (pv 6) af))))))))))))))),?_⟩
 refine⟨λσ' H'=>H'=H/\∃fN:Nat,1<=fN/\fN<=3/\σ'=[some (.ref a),some (.int (fN:Int)),none,none,none,none,none,none,none,none,none,none,none,none],⟨_,U,a,ns,0,U,hS,Int.le_refl _,λr=>⟨_,_,U,U,(by show(0:Int)<3;decide),_,_,U,U,U,(1+r%3).toNat,?_,?_,?_⟩⟩,?_⟩
 ·have:=emod_nonneg r (show(3:Int)≠0 by decide);lia
 ·have:=emod_lt_of_pos r (show(0:Int)<3 by decide);lia
 ·rw[toNat_of_nonneg (by have:=emod_nonneg r (show(3:Int)≠0 by decide);lia)];rfl
 rintro σ1 H1 ⟨rfl,fN,hf1,hf3,rfl⟩;refine⟨λσ' H'=>ao H1 H'/\∃tN:Nat,fN<tN/\tN<=fN+4/\σ'=[some (.ref a),some (.int (fN:Int)),some (.int (tN:Int)),none,none,none,none,none,none,none,none,none,none,none],?_,?_⟩
 ·refine⟨_,U,_,_,U,U,_,U,a,ns,0,U,hS,Int.le_refl _,λr=>⟨_,_,U,U,⟨by decide,by decide⟩,(by show 3<=sizeLine;decide),λl3 hl3=>?_⟩⟩;obtain⟨v,ev,hv1,hv4⟩:=r9 (x:=4) (y:=3) (z:=2) hf1 hf3 (by decide) (by decide) (by decide);refine⟨_,U,_,_,U,U,l3,_,_,_,U,U,SqL.of ae,ev,_,_,U,U,(by show(0:Int)<v;lia),_,_,U,U,ah hl3 _,((fN:Int)+1+r / 3%v).toNat,?_,?_,?_⟩
  ·have:=emod_nonneg (r / 3) (show v≠0 by lia);lia
  ·have:=emod_lt_of_pos (r / 3) (show(0:Int)<v by lia);lia
  ·rw[toNat_of_nonneg (by have:=emod_nonneg (r / 3) (show v≠0 by lia);lia)];rfl
 rintro σ2 H2 ⟨s12,tN,ht1,ht4,rfl⟩;replace hS:=s12.seq hS
 refine⟨λσ' H'=>ao H2 H'/\∃(dl:Addr)(dv:List V)(ds:List PD),H' dl=some (.lst dv)/\az dv ds (PDA NT H')/\ds.length=tN/\(∀p∈ds,oZ p)/\σ'=[some (.ref a),some (.int (fN:Int)),some (.int (tN:Int)),some (.ref dl),none,none,none,none,none,none,none,none,none,none],?_,?_⟩
 ·refine⟨_,U,_,U,(by lia),(by lia),bH (λD i zs H'=>ao H2 H'/\H' D=some (.lst zs)/\∃ds:List PD,az zs ds (PDA (· ≠ D) H')/\ds.length=i/\∀p∈ds,oZ p) (λD hD=>⟨ah hD _,ae,[],az.nil,U,(λp hp=>by cases hp)⟩) (λD i zs H' hD hi hh=>?_) (λD zs H' hD hh=>?_)⟩
  ·obtain⟨sm,eD,ds,hz,hl,hok⟩:=hh;refine⟨_,U,_,U,_,_,U,U,a,ns,_,U,sm.seq hS,(by show 0<=2+(0+(i:Int));lia),λr=>⟨r,U,λl p H3 s3 hp ok=>?_⟩⟩;have eD3:=s3 _ _ eD;have hp2:PDA (· ≠ D) H3 l p:=hp.wk λx hx z=>by rw[z,eD]at hx;cases hx
   have hz2:az (zs++[.ref l]) (ds++[p]) (PDA (· ≠ D) H3):=az.snoc (az.mono hz λ_ _ p=>p.same s3) hp2;refine bT.mk hi eD3 (aC (by have:=hz.1;lia)) ⟨(sm.trans s3).upd hD,ae,ds++[p],az.mono hz2 λ_ _ p=>p.updN (λz=>z U) eD3,by rw[length_append,hl];rfl,λp' hp'=>?_⟩;rcases mem_append.mp hp' with hp' | hp'
   ·exact hok p' hp'
   ·rw[show p'=p by simpa using hp'];exact ok
  ·obtain⟨sm,eD,ds,hz,hl,hok⟩:=hh;rw[toNat_natCast]at hl;exact⟨sm,D,zs,ds,eD,az.mono hz (λ_ _ p=>p.wk λ_ _=>trivial),hl,hok,U⟩
 rintro σ3 H3 ⟨s3,dl,dv,ds,edl,hds,hdn,wQ,rfl⟩;refine⟨λσ' H'=>ao H3 H'/\∃(sz:Addr)(sn:List Nat),H' sz=some (.lst (vN sn))/\sn.length=tN/\(∀x∈sn,1<=x/\x<=3)/\σ'=[some (.ref a),some (.int (fN:Int)),some (.int (tN:Int)),some (.ref dl),some (.ref sz),none,none,none,none,none,none,none,none,none],?_,?_⟩
 ·obtain⟨v,ev,hv1,hv3⟩:=r9 (x:=3) (y:=3) (z:=2) hf1 hf3 (by decide) (by decide) (by decide);obtain⟨k,rfl⟩:∃k:Nat,v=(k:Int):=⟨v.toNat,by lia⟩;refine⟨_,U,_,U,(by lia),(by lia),bH (λD i zs H'=>ao H3 H'/\H' D=some (.lst zs)/\zs=vN (List.replicate i k)) (λD hD=>⟨ah hD _,ae,U⟩) (λD i zs H' hD hi hh=>?_) (λD zs H' hD hh=>?_)⟩
  ·obtain⟨sm,eD,rfl⟩:=hh;rw[toNat_natCast]at hi;refine⟨(by show 3<=sizeLine;decide),λl3 hl3=>?_⟩;have u3:=ah hl3 (.lst [.int 3,.int 3,.int 2]);refine⟨_,U,_,_,U,U,l3,_,_,_,U,U,SqL.of ae,ev,bT.mk (by rw[toNat_natCast];exact hi) (u3 _ _ eD) (aC (by rw[cC,length_replicate];lia)) ⟨(sm.trans u3).upd hD,ae,?_⟩⟩;rw[List.replicate_succ',←oV];rfl
  ·obtain⟨sm,eD,rfl⟩:=hh;rw[toNat_natCast]at eD;refine⟨_,U,_,U,_,_,U,U,_,U,(by lia),(by lia),bH (λD2 i zs H2'=>ao H' H2'/\H2' D2=some (.lst zs)/\zs=vN (List.replicate i 3)) (λD2 hD2=>⟨ah hD2 _,ae,U⟩) (λD2 i zs H2' hD2 hi hh=>?_) (λD2 zs H2' hD2 hh=>?_)⟩
   ·obtain⟨sm2,eD2,rfl⟩:=hh;refine bT.mk hi eD2 (aC (by rw[cC,length_replicate];lia)) ⟨sm2.upd hD2,ae,?_⟩;rw[List.replicate_succ',←oV];rfl
   ·obtain⟨sm2,eD2,rfl⟩:=hh;rw[show((tN:Int)-(fN:Int)).toNat=tN-fN by lia]at eD2;refine⟨D,D2,_,_,U,U,sm2 _ _ eD,eD2,le_of_lt (aC (by rw[cC,cC,length_replicate,length_replicate];lia)),λp hp=>⟨(sm.trans sm2).trans (ah hp _),p,List.replicate fN k++List.replicate (tN-fN) 3,by rw[ae,oV],by rw[length_append,length_replicate,length_replicate];lia,λx hx=>?_,U⟩⟩;rcases mem_append.mp hx with hx|hx
    ·rw[(List.mem_replicate.mp hx).2];lia
    ·rw[(List.mem_replicate.mp hx).2];lia
 rintro σs Hs ⟨ss,sz,sn,esz,hsl,hsn,rfl⟩;replace s3:=s3.trans ss
 replace edl:=ss _ _ edl
 replace hds:az dv ds (PDA NT Hs):=az.mono hds λ_ _ p=>p.same ss
 clear ss;refine⟨λσ' H'=>ao Hs H'/\∃(po:Addr)(pvs:List V)(ds2:List PD),H' po=some (.lst pvs)/\az pvs ds2 (PoB NT H')/\az dv ds2 (PDA NT H')/\ds2.length=tN/\(∀p∈ds2,oZ p)/\σ'=[some (.ref a),some (.int (fN:Int)),some (.int (tN:Int)),some (.ref dl),some (.ref sz),some (.ref po),none,none,none,none,none,none,none,none],?_,?_⟩
 ·refine⟨_,U,_,U,(by lia),(by lia),bH (λD i zs H'=>ao Hs H'/\H' D=some (.lst zs)/\∃pls:List (List Int),az zs pls (PlB (· ≠ D) H')/\pls.length=i/\∀(j:Nat)(P:List Int)(p:PD),pls[j]?=some P->ds[j]?=some p->1<=P.length/\P.length<=3/\∀x∈P,p.lo<=x/\x<=p.hi) (λD hD=>⟨ah hD _,ae,[],az.nil,U,(λj P p e=>by simp at e)⟩) (λD i zs H' hD hi hh=>?_) (λD zs H' hD hh=>?_)⟩
  ·obtain⟨sm,eD,pls,hz,hpl,hpb⟩:=hh;rw[toNat_natCast]at hi;have ep:=EV (l:=ds) (i:=i) (by lia);obtain⟨da,e2,hpd⟩:=hds.2 i _ ep;generalize ds[i]=p at ep hpd;have en:=EV (l:=sn) (i:=i) (by lia);have hn:=hsn _ (EY en);generalize sn[i]=nn at en hn;have ix:atI dv (0+(i:Int))=some (.ref da):=by rw[zero_add];exact aM e2
   have ix2:atI (vN sn) (0+(i:Int))=some (.int (nn:Int)):=by rw[zero_add];exact aM (wx en)
   refine⟨_,U,_,U,dl,_,_,_,U,U,SqL.of (sm _ _ edl),ix,_,U,_,U,_,_,U,U,a,ns,_,U,(s3.trans sm).seq hS,(by show 0<=9+(0+(i:Int));lia),λr=>⟨_,U,_,U,sz,_,_,_,U,U,SqL.of (sm _ _ esz),ix2,da,p,r,nn,U,hpd.same sm,wQ p (EY ep),hn.2,λl xs H4 s4 nl el hl hx=>?_⟩⟩;have eD4:=s4 _ _ eD;have nD:l≠D:=λz=>by rw[z,eD]at nl;cases nl
   have hz2:az (zs++[.ref l]) (pls++[xs]) (PlB (· ≠ D) H4):=az.snoc (az.mono hz λ_ _ p=>⟨p.1,s4 _ _ p.2⟩) ⟨nD,el⟩;refine bT.mk (by rw[toNat_natCast];exact hi) eD4 (aC (by have:=hz.1;lia)) ⟨(sm.trans s4).upd hD,ae,pls++[xs],az.mono hz2 (λ_ _ p=>⟨p.1,(ar p.1).trans p.2⟩),by rw[length_append,hpl];rfl,λj P p' f1 f2=>?_⟩;by_cases hj:j<pls.length
   ·rw[getElem?_append_left hj]at f1;exact hpb j P p' f1 f2
   ·have hj2:j=pls.length:=by have:=(EW.mp f1).1;simp at this;lia
    subst hj2;simp at f1;subst f1;rw[hpl,ep]at f2;cases f2;exact⟨by lia,by lia,hx⟩
  ·obtain⟨sm,eD,pls,hz,hpl,hpb⟩:=hh;rw[toNat_natCast]at hpl;have hl2:pls.length=ds.length:=by lia
   refine⟨sm,D,zs,List.zipWith (λ(p:PD) P=>{ p with pool:=P }) ds pls,eD,?_,?_,by rw[length_zipWith];lia,?_,U⟩
   ·refine⟨by rw[length_zipWith,hz.1];lia,λj p e=>?_⟩;obtain⟨p0,P,e1,e2,rfl⟩:=mI e;obtain⟨l,el,nl,hl⟩:=hz.2 j P e2;obtain⟨g1,g2,g3⟩:=hpb j P p0 e2 e1;exact⟨l,el,trivial,hl,g1,g2,g3⟩
   ·refine⟨by rw[length_zipWith,hds.1];lia,λj p e=>?_⟩;obtain⟨p0,P,e1,e2,rfl⟩:=mI e;obtain⟨l,el,hl⟩:=hds.2 j p0 e1;exact⟨l,el,hl.same sm⟩
   ·intro p hp;obtain⟨j,e⟩:=getElem?_of_mem hp;obtain⟨p0,P,e1,e2,rfl⟩:=mI e;have h:=wQ p0 (EY e1);exact⟨h.1,h.2,h.3⟩
 clear hds hdn wQ;rintro σ4 H4 ⟨s4,po,pvs,ds,epo,hpo,hds,hdn,wQ,rfl⟩;have s14:=s3.trans s4;refine⟨λσ' H'=>ao H4 H'/\∃tb:Addr,H4 tb=none/\H' tb=some (.lst [])/\σ'=[some (.ref a),some (.int (fN:Int)),some (.int (tN:Int)),some (.ref dl),some (.ref sz),some (.ref po),some (.ref tb),none,none,none,none,none,none,none],⟨(by show 0<=sizeLine;decide),λl hl=>⟨ah hl _,l,hl,ae,U⟩⟩,?_⟩;rintro σ5 H5 ⟨s5,tb,ntb,etb,rfl⟩;have s25:=s14.trans s5;refine⟨λσ' H'=>ao H4 H'/\∃(tv:List V)(ts:List ((List Nat×Str)×Addr))(c6 c7 c8 c9:Option V),H' tb=some (.lst tv)/\az tv ts (TT (hideL H' (tb :: rls ts)))/\ts.length=tN-fN/\(rls ts).Nodup/\(∀x∈rls ts,H4 x=none/\x≠tb/\H' x=some (.lst []))/\(∀(j:Nat)(t:(List Nat×Str)×Addr),ts[j]?=some t->zI fN ds j t.1)/\σ'=[some (.ref a),some (.int (fN:Int)),some (.int (tN:Int)),some (.ref dl),some (.ref sz),some (.ref po),some (.ref tb),c6,c7,c8,c9,none,none,none],?_,?_⟩
 ·refine⟨_,U,_,U,_,_,U,⟨by lia,by lia,by lia,by lia⟩,dG (λi σ H'=>ao H4 H'/\∃(tv:List V)(ts:List ((List Nat×Str)×Addr))(c6 c7 c8 c9:Option V),H' tb=some (.lst tv)/\az tv ts (TT (hideL H' (tb :: rls ts)))/\ts.length=i/\(rls ts).Nodup/\(∀x∈rls ts,H4 x=none/\x≠tb/\H' x=some (.lst []))/\(∀(j:Nat)(t:(List Nat×Str)×Addr),ts[j]?=some t->zI fN ds j t.1)/\σ=[some (.ref a),some (.int (fN:Int)),some (.int (tN:Int)),some (.ref dl),some (.ref sz),some (.ref po),some (.ref tb),c6,c7,c8,c9,none,none,none]) ⟨s5,[],[],_,_,_,_,etb,az.nil,U,nodup_nil,(λx hx=>by cases hx),(λj t e=>by simp at e),U⟩ (λi σ H' hi hh=>?_) (λσ H' hh=>?_)⟩
  ·obtain⟨sm,tv,ts,c6,c7,c8,c9,etv,htv,htl,hnd,hrl,xN,rfl⟩:=hh;have hi2:i<tN-fN:=by lia
   obtain⟨ow,how⟩:∃ow:Nat,(fN:Int)+(i:Int)=(ow:Int):=⟨fN+i,by lia⟩;have EN:ow=fN+i:=by lia
   rw[how];refine⟨λσ' H''=>H''=H'/\∃c:Int,σ'=[some (.ref a),some (.int (fN:Int)),some (.int (tN:Int)),some (.ref dl),some (.ref sz),some (.ref po),some (.ref tb),some (.int (ow:Int)),some (.int c),c8,c9,none,none,none],⟨_,U,_,U,_,_,U,U,_,U,_,_,U,U,a,ns,_,U,(s14.trans sm).seq hS,(by show 0<=16+(ow:Int)-(fN:Int);lia),λr=>⟨U,r,U⟩⟩,?_⟩;rintro σa Ha ⟨rfl,c,rfl⟩;obtain⟨m,em,m1,m3,mo⟩:=xH (c:=c) (ow:=ow) (by lia);refine⟨λσ' H''=>ao Ha H''/\∃cl:Addr,Ha cl=none/\H'' cl=some (.lst (vN (clm c ow m)))/\σ'=[some (.ref a),some (.int (fN:Int)),some (.int (tN:Int)),some (.ref dl),some (.ref sz),some (.ref po),some (.ref tb),some (.int (ow:Int)),some (.int c),some (.ref cl),c9,none,none,none],?_,?_⟩
   ·refine⟨_,U,_,_,U,U,(by show(0:Int)<3;decide),_,_,U,U,_,U,_,_,U,_,U,(by rw[em];lia),(by rw[em];lia),bH (λD i zs H''=>ao Ha H''/\H'' D=some (.lst zs)/\zs=vN (clm c ow i)) (λD hD=>⟨ah hD _,ae,U⟩) (λD i zs H'' hD hi hh=>?_) (λD zs H'' hD hh=>?_)⟩
    ·obtain⟨sm2,eD,rfl⟩:=hh;rw[em,toNat_natCast]at hi;have v0:=emod_nonneg (c / 3+(0+(i:Int))) (show(ow:Int)≠0 by lia);refine⟨_,U,_,_,U,U,⟨by decide,by decide⟩,_,U,_,_,U,U,_,U,_,_,U,U,(by show(0:Int)<(ow:Int);lia),bT.mk (by rw[em,toNat_natCast];exact hi) eD (aC (by rw[cC,o7];lia)) ⟨sm2.upd hD,ae,?_⟩⟩;rw[wD,toNat_of_nonneg v0]
    ·obtain⟨sm2,eD,rfl⟩:=hh;rw[em,toNat_natCast]at eD;exact⟨sm2,D,hD,eD,U⟩
   rintro σb Hb ⟨sb,cl,ncl,ecl,rfl⟩;refine⟨λσ' H''=>ao Hb H''/\∃wy:Str,wy∈six/\σ'=[some (.ref a),some (.int (fN:Int)),some (.int (tN:Int)),some (.ref dl),some (.ref sz),some (.ref po),some (.ref tb),some (.int (ow:Int)),some (.int c),some (.ref cl),some (.str wy),none,none,none],?_,?_⟩
   ·refine⟨(by show 6<=sizeLine;decide),λp6 hp6=>?_⟩;have w0:=emod_nonneg (c / 50) (show(6:Int)≠0 by decide);have w1:=emod_lt_of_pos (c / 50) (show(0:Int)<6 by decide);obtain⟨k,ek⟩:∃k:Nat,c / 50%6=(k:Int):=⟨_,(toNat_of_nonneg w0).symm⟩;have hk:k<six.length:=by show k<6;lia
    have e6:=EV hk;have ex:atI [V.str (Str.ofString "first"),.str (Str.ofString "only"),.str (Str.ofString "like"),.str (Str.ofString "low"),.str (Str.ofString "high"),.str (Str.ofString "sum")] (c / 50%6)=some (.str six[k]):=by
     rw[ek];exact aM (xs:=six.map V.str) (by rw[getElem?_map,e6];rfl)
    exact⟨_,U,_,_,U,U,⟨by decide,by decide⟩,_,_,U,U,(by show(0:Int)<6;decide),p6,_,_,_,U,U,SqL.of ae,ex,ah hp6 _,_,EY e6,U⟩
   rintro σc Hc ⟨sc,wy0,hw6,rfl⟩;have sac:=sb.trans sc;have ep:=EV (l:=ds) (i:=ow) (by lia);obtain⟨da,e2,hpd⟩:=hds.2 ow _ ep;generalize ds[ow]=p at ep hpd;have s3c:=(s4.trans sm).trans sac;obtain⟨wl,_,_,f1,f2⟩:=hpd.same (sm.trans sac);refine⟨λσ' H''=>H''=Hc/\∃wy:Str,wy∈six/\(wy=Str.ofString "sum" -> p.ws=[])/\σ'=[some (.ref a),some (.int (fN:Int)),some (.int (tN:Int)),some (.ref dl),some (.ref sz),some (.ref po),some (.ref tb),some (.int (ow:Int)),some (.int c),some (.ref cl),some (.str wy),none,none,none],?_,?_⟩
   ·refine⟨_,U,U,_,U,?_⟩;refine di (λg=>?_) (λg=>?_)
    ·refine⟨_,U,_,U,dl,_,_,_,U,U,SqL.of (s3c _ _ edl),aM e2,da,_,_,_,U,U,SqT.of f1,U,wl,_,U,.inl (SqL.of f2),_,_,U,U,_,U,?_⟩;refine di (λg2=>?_) (λg2=>?_)
     ·exact⟨U,Str.ofString "high",by unfold six;simp,(λz=>absurd z (by decide+kernel)),U⟩
     ·refine⟨U,wy0,hw6,λ_=>?_,U⟩;have:¬ ((0:Int)<(((p.ws.map V.str).length:Nat):Int)):=λh=>g2 (decide_eq_true h)
      rw[length_map]at this;exact length_eq_zero_iff.mp (by lia)
    ·refine⟨U,wy0,hw6,λz=>absurd ?_ g,U⟩;rw[z];exact decide_eq_true U
   rintro σd Hd ⟨rfl,wy,hwy,pC,rfl⟩;have etd:=sac _ _ etv;refine⟨_,U,.inl ⟨U,_,SqL.of etd⟩,_,U,_,U,(by show 0<=sizeLine;decide),λx hx=>?_⟩;have u1:=ah hx (.lst []);have ex:upd Hd x (.lst []) x=some (.lst []):=ae;generalize upd Hd x (.lst [])=He at u1 ex⊢;refine⟨(by show 3<=sizeLine;decide),λr hr=>?_⟩;have u2:=ah hr (.tup [.ref cl,.str wy,.ref x]);have er:upd He r (.tup [.ref cl,.str wy,.ref x]) r=some (.tup [.ref cl,.str wy,.ref x]):=ae;generalize upd He r (.tup [.ref cl,.str wy,.ref x])=Hf at u2 er⊢;have saf:=(sac.trans u1).trans u2;have etf:=saf _ _ etv;refine⟨tb,_,_,U,U,etf,aC (by have:=htv.1;lia),?_⟩;have nxa:Ha x=none:=sac.free hx;have nx4:H4 x=none:=sm.free nxa;have nxt:x≠tb:=λz=>by rw[z,etv]at nxa;cases nxa
   have clx:cl≠x:=λz=>by rw[←z,sc _ _ ecl]at hx;cases hx
   have old:∀b∈tb :: rls ts,∃zs,Ha b=some (.lst zs):=λb hb=>by
    rcases mem_cons.mp hb with rfl|hb
    ·exact⟨_,etv⟩
    ·exact⟨_,(hrl b hb).2.2⟩
   have Bj:cl ∉ tb :: rls ts:=λhm=>by obtain⟨zs,e⟩:=old cl hm;rw[e]at ncl;cases ncl
   have nxF:x ∉ tb :: rls ts:=λhm=>by obtain⟨zs,e⟩:=old x hm;rw[e]at nxa;cases nxa
   have nrF:r ∉ tb :: rls ts:=λhm=>by obtain⟨zs,e⟩:=old r hm;have:=saf _ _ e;rw[er]at this;cases this
   have nrx:r≠x:=λz=>by have:=u2 _ _ ex;rw[←z,er]at this;cases this
   have eF:rls (ts++[((clm c ow m,wy),x)])=rls ts++[x]:=wF ..;have inF:∀b,b ∉ tb :: rls ts->b≠x->b ∉ tb :: (rls ts++[x]):=λb h1 h2 hm=>by
    rcases mem_cons.mp hm with z|hm
    ·exact h1 (by rw[z];exact mem_cons_self)
    ·rcases mem_append.mp hm with hm|hm
     ·exact h1 (mem_cons_of_mem _ hm)
     ·exact h2 (by simpa using hm)
   have gr:ao (hideL Ha (tb :: rls ts)) (hideL (upd Hf tb (.lst (tv++[.ref r]))) (tb :: (rls ts++[x]))):=oi λb o hb e=>by
    refine⟨(ar λz=>hb (by rw[z];exact mem_cons_self)).trans (saf _ _ e),inF b hb λz=>?_⟩;rw[z,nxa]at e;cases e
   have hT:TT (hideL (upd Hf tb (.lst (tv++[.ref r]))) (tb :: (rls ts++[x]))) r ((clm c ow m,wy),x):=by
    refine⟨cl,dr ((ar λz=>nrF (by rw[z];exact mem_cons_self)).trans er) (inF r nrF nrx),dr ((ar λz=>Bj (by rw[z];exact mem_cons_self)).trans (u2 _ _ (u1 _ _ (sc _ _ ecl)))) (inF cl Bj clx)⟩
   refine⟨(sm.trans saf).upd ntb,tv++[.ref r],ts++[((clm c ow m,wy),x)],_,_,_,_,ae,?_,by rw[length_append,htl];rfl,?_,λy hy=>?_,λj t e=>?_,U⟩
   ·rw[eF];exact az.snoc (az.mono htv λ_ _ p=>p.same gr) hT
   ·rw[eF];refine nodup_append.mpr ⟨hnd,by simp,λy hy z hz=>?_⟩;rw[show z=x by simpa using hz];exact λe=>nxF (by rw[←e];exact mem_cons_of_mem _ hy)
   ·rw[eF]at hy;rcases mem_append.mp hy with hy|hy
    ·obtain⟨y1,y2,y3⟩:=hrl y hy;exact⟨y1,y2,(ar y2).trans (saf _ _ y3)⟩
    ·rw[show y=x by simpa using hy];exact⟨nx4,nxt,(ar nxt).trans (u2 _ _ ex)⟩
   ·by_cases hj:j<ts.length
    ·rw[getElem?_append_left hj]at e;exact xN j t e
    ·have hj2:j=ts.length:=by have:=(EW.mp e).1;simp at this;lia
     subst hj2;simp at e;subst e;have eo:fN+ts.length=ow:=by lia
     refine⟨by show 1<=(clm c ow m).length;rw[o7];exact m1,by show(clm c ow m).length<=3;rw[o7];exact m3,λk hk=>?_,zK (by lia) mo,hwy,λz p' ep'=>?_⟩
     ·rw[eo];exact zJ (by lia) k hk
     ·rw[eo,ep]at ep';cases ep';exact pC z
  ·obtain⟨sm,tv,ts,c6,c7,c8,c9,r⟩:=hh;rw[show((tN:Int)-(fN:Int)).toNat=tN-fN by lia]at r;exact⟨sm,tv,ts,c6,c7,c8,c9,r⟩
 rintro σ6 H6o ⟨s6o,tv,ts,c6,c7,c8,c9,Bm,Bo,htl,hnd,Bp,xN,rfl⟩;have hn1:1<=ts.length:=by lia
 have DD:tv.length=ts.length:=Bo.1;refine⟨λσ' H'=>ao H6o H'/\∃(nu:Addr)(ms:List Int),H6o nu=none/\H' nu=some (.lst (ms.map V.int))/\ms.length<=32/\σ'=[some (.ref a),some (.int (fN:Int)),some (.int (tN:Int)),some (.ref dl),some (.ref sz),some (.ref po),some (.ref tb),c6,c7,c8,c9,some (.ref nu),none,none],?_,?_⟩
 ·refine⟨_,U,_,U,tb,_,U,.inl (SqL.of Bm),(by show 3<=sizeLine;decide),λl3 hl3=>?_⟩;obtain⟨v,ev,hv1,hv8⟩:=r9 (x:=8) (y:=6) (z:=5) hf1 hf3 (by decide) (by decide) (by decide);obtain⟨k,rfl⟩:∃k:Nat,v=(k:Int):=⟨v.toNat,by lia⟩;have u3:=ah hl3 (.lst [.int 8,.int 6,.int 5]);have hm1:1<=tv.length*k:=Nat.mul_pos (by lia) (by lia);have hm2:tv.length*k<=4*8:=Nat.mul_le_mul (by lia) (by lia);refine⟨_,U,_,_,U,U,l3,_,_,_,U,U,SqL.of ae,ev,_,_,U,U,.inr ⟨by lia,by lia⟩,a,ns,tv.length*k,(by rw[Int.natCast_mul]),((s14.trans s6o).trans u3).seq hS,h63,hm1,by lia,λl ms H' s nl el hl=>⟨u3.trans s,l,ms,u3.free nl,el,by lia,U⟩⟩
 rintro σ6 H6 ⟨s6n,nu,ms,nnu,enu,hms,rfl⟩;have s6:=s6o.trans s6n;have etv:=s6n _ _ Bm;have hrl:∀x∈rls ts,H4 x=none/\x≠tb/\H6 x=some (.lst []):=λx hx=>let ⟨h1,h2,h3⟩:=Bp x hx;⟨h1,h2,s6n _ _ h3⟩
 have htv:az tv ts (TT (hideL H6 (tb :: rls ts))):=az.mono Bo λ_ _ p=>p.same (gs s6n)
 have hF4:∀x∈rls ts,H4 x=none:=λx hx=>(hrl x hx).1
 have hB4:ao H4 (hideL H6 (rls ts)):=r6 s6 hF4;have ntF:tb ∉ rls ts:=λhm=>(hrl tb hm).2.1 U
 have etB:hideL H6 (rls ts) tb=some (.lst tv):=dr etv ntF;have htB:az tv ts (TT (hideL H6 (rls ts))):=az.mono htv λ_ _ p=>p.same (oi λb o hb e=>⟨e,λhm=>hb (mem_cons_of_mem _ hm)⟩)
 have nuF:nu ∉ rls ts:=λhm=>by have:=(Bp nu hm).2.2;rw[nnu]at this;cases this
 have enB:hideL H6 (rls ts) nu=some (.lst (ms.map V.int)):=dr enu nuF;generalize hB:hideL H6 (rls ts)=B at hB4 etB htB enB;refine⟨λσ' H'=>ao H4 H'/\ao B (hideL H' (rls ts))/\∃(rss:List (List Rw))(c6 c7 c8 c9 c10 c11:Option V),RwI H' (rls ts) fN ds ts rss 32/\σ'=[some (.ref a),some (.int (fN:Int)),some (.int (tN:Int)),some (.ref dl),some (.ref sz),some (.ref po),some (.ref tb),c6,c7,c8,c9,some (.ref nu),c10,c11],?_,?_⟩
 ·have Bq:(ms.map V.int).length=ms.length:=length_map _;refine⟨_,U,nu,_,U,.inl (SqL.of enu),_,U,(by lia),(by lia),dG (λi σ H'=>ao H4 H'/\ao B (hideL H' (rls ts))/\∃(rss:List (List Rw))(c6 c7 c8 c9 c10 c11:Option V),RwI H' (rls ts) fN ds ts rss i/\σ=[some (.ref a),some (.int (fN:Int)),some (.int (tN:Int)),some (.ref dl),some (.ref sz),some (.ref po),some (.ref tb),c6,c7,c8,c9,some (.ref nu),c10,c11]) ⟨s6,by rw[hB];exact ao.refl B,List.replicate ts.length [],_,_,_,_,_,_,⟨by rw[length_replicate],λj t rs e1 e2=>?_⟩,U⟩ (λi σ H' hi hh=>?_) (λσ H' hh=>?_)⟩
  ·rw[List.getElem?_replicate]at e2;split at e2
   ·cases e2;exact⟨⟨[],(hrl t.2 (lF e1)).2.2,az.nil⟩,(λw hw=>by cases hw),zero_le _⟩
   ·cases e2
  ·obtain⟨sm,sB,rss,c6,c7,c8,c9,c10,c11,hrw,rfl⟩:=hh;rw[toNat_natCast,Bq]at hi;rw[show(0:Int)+(i:Int)=(i:Int) by lia];have zT:=eB _ _ _ _ (sB _ _ etB);have xO:(0:Int)<((tv.length:Nat):Int):=by lia
   obtain⟨jj,ejj⟩:∃jj:Nat,(i:Int)%((tv.length:Nat):Int)=(jj:Int):=⟨_,(toNat_of_nonneg (emod_nonneg _ (Int.ne_of_gt xO))).symm⟩;have hjj:jj<ts.length:=by have:=emod_lt_of_pos (i:Int) xO;lia
   have et:=EV hjj;obtain⟨r,er,hT⟩:=htB.2 jj _ et;obtain⟨rs,ers⟩:∃rs,rss[jj]?=some rs:=⟨_,EV (by rw[hrw.1];exact hjj)⟩;generalize ts[jj]=t at et hT;have hT':=(hT.same sB).same (eB _ _);obtain⟨cl,g1,g2⟩:=hT';obtain⟨⟨zs,ez,hzr⟩,Br,hlen⟩:=hrw.2 jj t rs et ers;have tok:=xN jj t et;have ix:atI tv ((i:Int)%((tv.length:Nat):Int))=some (.ref r):=by rw[ejj];exact aM er
   refine⟨λσ' H''=>H''=H'/\σ'=[some (.ref a),some (.int (fN:Int)),some (.int (tN:Int)),some (.ref dl),some (.ref sz),some (.ref po),some (.ref tb),c6,c7,c8,c9,some (.ref nu),some (.int (i:Int)),some (.ref r)],⟨_,U,_,U,_,U,tb,_,U,.inl (SqL.of zT),_,_,U,U,xO,tb,_,_,_,U,U,SqL.of zT,ix,U,U⟩,?_⟩;rintro σb Hb ⟨eb_,rfl⟩;subst eb_;have s4b:=hB4.trans (sB.trans (eB _ _));have es:=EV hi;have ixs:atI (ms.map V.int) (i:Int)=some (.int ms[i]):=aM (get_map es);have enb:=eB _ _ _ _ (sB _ _ enB);have eow:(fN:Int)+(i:Int)%((tv.length:Nat):Int)=((fN+jj:Nat):Int):=by rw[ejj];lia
   refine⟨_,U,r,_,_,_,U,U,SqT.of g1,U,.inl ⟨U,_,SqL.of ez⟩,_,U,r,_,_,_,U,U,SqT.of g1,U,_,U,_,U,_,U,_,U,_,U,tb,_,U,.inl (SqL.of zT),_,_,U,U,xO,_,_,U,U,_,U,_,U,nu,_,_,_,U,U,SqL.of enb,ixs,cl,dl,po,fN+jj,_,t.1.1,dv,pvs,ds,(by rw[←eow]),g2,s4b _ _ (s4 _ _ edl),az.mono hds (λ_ _ p=>p.same s4b),s4b _ _ epo,az.mono hpo (λ_ _ p=>p.same s4b),(λk hk=>by have:=tok.lt k hk;lia),by lia,by have:=tok.few;lia,λr2 w H2' s2 wR hf2=>?_⟩;have hFl:∀D∈rls ts,∃zs,Hb D=some (.lst zs):=λD hD=>by
    obtain⟨j,ej⟩:=getElem?_of_mem hD;have hjl:j<ts.length:=by have:=(EW.mp ej).1;unfold rls at this;rwa [length_map]at this
    have et':=EV hjl;have er':=EV (l:=rss) (i:=j) (by rw[hrw.1];exact hjl);obtain⟨⟨zs',f1,_⟩,_⟩:=hrw.2 j _ _ et' er';have:=lE et';rw[ej]at this;cases this;exact⟨zs',f1⟩
   have Bs:=wR.hideL hFl s2;have hzl:zs.length=rs.length:=hzr.1;refine⟨t.2,_,_,U,U,s2 _ _ ez,aC (by lia),(sm.trans s2).upd (hF4 _ (lF et)),?_,rss.set jj (rs++[w]),_,_,_,_,_,_,hrw.grow hnd s2 et ers ez hzr Bs hf2,U⟩;rw[oh (lF et)];exact sB.trans (gs s2)
  ·obtain⟨sm,sB,rss,c6,c7,c8,c9,c10,c11,hrw,rfl⟩:=hh;rw[toNat_natCast,Bq]at hrw;exact⟨sm,sB,rss,_,_,_,_,_,_,⟨hrw.1,λj t rs e1 e2=>let ⟨b1,b2,b3⟩:=hrw.2 j t rs e1 e2;⟨b1,b2,by lia⟩⟩,U⟩
 rintro σ7 H7 ⟨s7,sB,rss,c6',c7',c8',c9',c10,c11,hrw,rfl⟩;have sB7:=sB.trans (eB H7 (rls ts));have s47:=hB4.trans sB7;refine⟨_,U,a,ns,1,U,(s14.trans s7).seq hS,by decide,λc=>⟨_,U,c,tN,U,by lia,λnl H8 s8 _ enl=>⟨_,U,_,U,(by show 3<=sizeLine;decide),λr hr=>?_⟩⟩⟩;have u:=ah hr (.tup [.ref nl,.ref dl,.ref tb]);have zU:∀(j:Nat)(t:PT),(List.zipWith mkT ts rss)[j]?=some t->t.rows.length<=32:=λj t e=>by
  rw[getElem?_zipWith]at e;cases e1:ts[j]? with
  |none=>rw[e1]at e;cases e
  |some t0 =>
   cases e2:rss[j]? with
   |none=>rw[e1,e2]at e;cases e
   |some rs =>
    rw[e1,e2]at e;have e:some (mkT t0 rs)=some t:=e;cases e;obtain⟨_,_,h3⟩:=hrw.2 j _ _ e1 e2;exact h3
 have sE:=s8.trans u;have s4E:=s47.trans sE;refine q r (lws c tN) ds (List.zipWith mkT ts rss) fN _ (s12.trans ((s14.trans s47).trans sE)) ⟨nl,dl,tb,dv,tv,ae,u _ _ enl,s4E _ _ (s4 _ _ edl),az.mono hds (λ_ _ p=>p.same s4E),sE _ _ (sB7 _ _ etB),?_⟩ ⟨(λz hz=>tT hz),og (by lia),by rw[j6,hdn],by lia,?_,?_,wQ,λj t e=>?_⟩ (λp hp=>by obtain⟨j,e⟩:=getElem?_of_mem hp;obtain⟨_,_,_,_,_,h3,_⟩:=hpo.2 j p e;exact h3) (λt ht=>by obtain⟨j,e⟩:=getElem?_of_mem ht;exact zU j t e) (by rw[length_zipWith,hrw.1];lia) hf1 wJ zM
 ·refine⟨by rw[length_zipWith,hrw.1,DD];lia,λj t e=>?_⟩;rw[getElem?_zipWith]at e;cases e1:ts[j]? with
  |none=>rw[e1]at e;cases e
  |some t0 =>
   cases e2:rss[j]? with
   |none=>rw[e1,e2]at e;cases e
   |some rs =>
    rw[e1,e2]at e;have e:some (mkT t0 rs)=some t:=e;cases e;obtain⟨r',er,hT⟩:=htB.2 j _ e1;obtain⟨⟨zs,ez,hzr⟩,_⟩:=hrw.2 j _ _ e1 e2;obtain⟨cl,g1,g2⟩:=hT.same sB7;exact⟨r',er,cl,t0.2,zs,sE _ _ g1,sE _ _ g2,sE _ _ ez,(hzr.same (eB _ _)).same sE⟩
 ·rw[length_zipWith,hrw.1];lia
 ·rw[length_zipWith,hrw.1];lia
 ·rw[getElem?_zipWith]at e;cases e1:ts[j]? with
  |none=>rw[e1]at e;cases e
  |some t0 =>
   cases e2:rss[j]? with
   |none=>rw[e1,e2]at e;cases e
   |some rs =>
    rw[e1,e2]at e;have e:some (mkT t0 rs)=some t:=e;cases e;obtain⟨_,h2,h3⟩:=hrw.2 j _ _ e1 e2;exact⟨xN j t0 e1,h2,by show rs.length<=200;lia⟩
theorem DE(F:Fun K "__init__" "Words.__init__" Y35 f fd) (bl:Bl K mg Y)(gc:cc CX0 P w K mg base 2 "Domain" "__init__" ["self","low","high"] (b7 K Y)) (f9:Callee P w K mg base 2 "is_word" ["text"] (fe K Y)):aN P w K mg base CX0 3 f fd ["self","words"] (cn K Y):=by
 refine F.okA Z35 λcdv A outer s H vs Q E hr h=>?_
 obtain⟨x,dx,p,zs,rfl,hx,hP,hg,q⟩:=h
 refine⟨_,(ay (aQ (cP (lL eL eL ai (au aq U bl.len_ boot_len (aa (pv 1) af)) (lV U bl.MOST_WORDS_)))
  (ag bc)
  aH)
  (av (bf PassesOwn.never U (aO (pv 1)) (aD (i:=2) Z35.nd U (Or.inl U))
  (ag (aQ (cP (dg (aR f9 hr U (aa (pv 2) af))))
  (ag bc)
  aH)))
  (ay (aQ (aI kS (au fI U bl.len_ boot_len (aa (bx (fG U) U bl.set_ PyProof.Rows.boot_set (aa (pv 1) af)) af)) (au aq U bl.len_ boot_len (aa (pv 1) af)) (aP _))
  (ag bc)
  aH)
  (ay (aT (fw gc bN hr U (aa (pv 0) (aa ai (aa (aE ck (au aq U bl.len_ boot_len (aa (pv 1) af)) ai) af)))))
  (ag (cz (pv 0) (bx cA U bl.list_ PyProof.Rows.boot_list (aa (pv 1) af)) U)))))),?_⟩
 have hS:SqL K H p (zs.map V.str):=SqL.of hP;have hpx:p≠x:=cg hP hx (by intro z;cases z);have hlen:(zs.map V.str).length=zs.length:=length_map _;have h1:=hg.some_;have h40:=hg.few;refine⟨_,U,p,_,U,.inl hS,_,_,U,U,_,U,eA (by rw[hlen];lia) ?_⟩;refine⟨_,_,U,U,_,U,?_⟩;rw[decide_eq_true (show(((zs.map V.str).length:Nat):Int)<=40 by rw[hlen];lia)];refine bV ?_;refine⟨λσ' H'=>H'=H/\∃c2:Option V,σ'=[some (.ref x),some (.ref p),c2],?_,?_⟩
 ·refine⟨_,U,p,U,⟨_,hS⟩,bg (xs:=zs.map V.str) (λi σ H'=>H'=H/\∃c2:Option V,σ=[some (.ref x),some (.ref p),c2]) ⟨U,_,U⟩ (λi σ H' _ h=>by rw[h.1];exact hS) (λi y σ H' e h=>?_) (λσ H' h=>h)⟩;obtain⟨e0,c2,rfl⟩:=h;rw[e0];obtain⟨z,rfl,ez⟩:=dq e;have hw:=hg.words z (EY ez);have hz:z.length<=1000:=by
   have hw2:=hw;unfold isw at hw2;simp only[and_eq_true,decide_eq_true_eq]at hw2;lia
  refine⟨_,U,z,U,hz,_,U,?_⟩;rw[hw];exact bV ⟨U,_,U⟩
 rintro σ2 H2 ⟨e2,c2,rfl⟩;rw[e2];refine⟨_,U,p,zs,U,hS,by lia,λl hl=>⟨l,zs,U,ae,by lia,_,U,p,_,U,.inl ((ah hl _).seq hS),_,_,U,U,_,U,?_⟩⟩;have s1:=ah hl (lj P w l zs);have cf:=iL zs zs.length (le_refl _);rw[take_length]at cf;refine bR (by rw[hlen,cf.mpr hg.once];lia) ?_;have hx1:=s1 _ _ hx;have hP1:=s1 _ _ hP;refine⟨_,U,_,U,p,_,U,.inl (SqL.of hP1),_,_,U,U,x,dx,0,_,U,hx1,?_⟩;have e1:mkd Y.l (upd H l (lj P w l zs)) x dx 0 ((((zs.map V.str).length:Nat):Int)-1) x=some (.ins Y.l dx [("low",.int 0),("high",.int ((((zs.map V.str).length:Nat):Int)-1))]):=ae;have e2:mkd Y.l (upd H l (lj P w l zs)) x dx 0 ((((zs.map V.str).length:Nat):Int)-1) p=some (.lst (zs.map V.str)):=by unfold mkd;rw[ar hpx,ar hpx];exact hP1
 have e3:∀b o,b≠x->H b=some o->mkd Y.l (upd H l (lj P w l zs)) x dx 0 ((((zs.map V.str).length:Nat):Int)-1) b=some o:=λb o hb h=>by unfold mkd;rw[ar hb,ar hb];exact s1 b o h
 have eh:(((zs.map V.str).length:Nat):Int)-1=hiW zs:=by rw[hlen];rfl
 refine⟨_,U,p,_,U,.inl (SqL.of e2),λl2 hl2=>⟨_,U,x,_,dx,_,U,jo e1 hl2,bl.k_Words,bl.na_Words_words,(by show 2<1000;decide),?_⟩⟩;show Q .non (upd (upd (mkd Y.l (upd H l (lj P w l zs)) x dx 0 ((((zs.map V.str).length:Nat):Int)-1)) l2 (.lst (zs.map V.str))) x (.ins Y.l dx (bC (Str.ofString "words") (.ref l2) [(Str.ofString "low",.int 0),(Str.ofString "high",.int ((((zs.map V.str).length:Nat):Int)-1))])));rw[put3];have hl3:mkd Y.l (upd H l (lj P w l zs)) x dx 0 ((((zs.map V.str).length:Nat):Int)-1) l2=none:=hl2;clear hl2;generalize mkd Y.l (upd H l (lj P w l zs)) x dx 0 ((((zs.map V.str).length:Nat):Int)-1)=H2 at e1 e2 e3 hl3⊢;rw[eh];have nl:l2≠x:=(bj e1 hl3).symm;exact q _ l2 (λb o hb h=>(ar hb).trans (jo (e3 b o hb h) hl3)) ae ((ar nl).trans ae) (by cases q_:H l2 with|none=>rfl|some o=>rw[e3 l2 o nl q_]at hl3;cases hl3)
theorem DF(F:Fun K "bears" "Numbers.bears" Y16 f fd) (bl:Bl K mg Y)(bX:aX CX0 P w K mg base 2 Y.k "has_code" ["self","value"] (bB K Y)):aN P w K mg base CX0 3 f fd ["self","value"] (b9 K Y):=by
 refine F.okA Z16 λcdv A outer s H vs Q E hr h=>?_
 obtain⟨a,lo,hi,i,rfl,⟨dx,ha⟩,h1,h2,q⟩:=h;refine⟨_,(ag (aG (ib bX bN bl.k_Numbers hr (pv 0) (aa (pv 1) af)))),?_⟩;exact⟨_,U,a,_,_,U,ha,U,_,U,a,(lo,hi),i,U,⟨dx,_,ha,U,U,U⟩,h1,h2,q⟩
theorem DG(F:Fun K "way_by" "way_by" Y87 f fd) (bl:Bl K mg Y)(k_First:bA CX0 P w K mg base 2 "First" Y.d ["self"] (J0 K Y)) (k_Only:bA CX0 P w K mg base 2 "Only" Y.e ["self"] (J8 K Y)) (k_Like:bA CX0 P w K mg base 2 "Like" Y.f ["self"] (J4 K Y)) (k_Low:bA CX0 P w K mg base 2 "Low" Y.g ["self"] (J6 K Y)) (k_High:bA CX0 P w K mg base 2 "High" Y.h ["self"] (J2 K Y)) (k_Sum:bA CX0 P w K mg base 2 "Sum" Y.i ["self"] (J10 K Y)):aN P w K mg base CX0 4 f fd ["name"] (iO K Y):=by
 refine F.okA Z87 λcdv A outer s H vs Q E hr h=>?_
 obtain⟨z,rfl,hz,q⟩:=h
 refine⟨_,(ay (bf PassesOwn.never U (aO (bz (aa (kC k_First bN hr U) (aa (kC k_Only bN hr U) (aa (kC k_Like bN hr U) (aa (kC k_Low bN hr U) (aa (kC k_High bN hr U) (aa (kC k_Sum bN hr U) af)))))))) (aD (i:=1) Z87.nd U (Or.inl U))
  (ag (aQ (aI cx (aY (pv 1) U) (pv 0) (aP _))
  (ag (aG (pv 1)))
  aH)))
  (ag bc)),?_⟩
 refine λw0 d0 hw hdw hnw=>⟨w0,d0,U,ae,U,?_⟩
 have t0:ao H (upd (upd (upd H d0 (.own w0)) w0 (.ins Y.d d0 [])) w0 (.ins Y.d d0 [("called",.str (Str.ofString "first"))])):=((ah hdw _).upd hw).upd hw;have y0:WyN Y.d (upd (upd (upd H d0 (.own w0)) w0 (.ins Y.d d0 [])) w0 (.ins Y.d d0 [("called",.str (Str.ofString "first"))])) w0 (Str.ofString "first"):=⟨d0,ae⟩;generalize upd (upd (upd H d0 (.own w0)) w0 (.ins Y.d d0 [])) w0 (.ins Y.d d0 [("called",.str (Str.ofString "first"))])=H0 at t0 y0⊢;clear hw hdw hnw;refine λw1 d1 hw hdw hnw=>⟨w1,d1,U,ae,U,?_⟩
 have t1:ao H0 (upd (upd (upd H0 d1 (.own w1)) w1 (.ins Y.e d1 [])) w1 (.ins Y.e d1 [("called",.str (Str.ofString "only"))])):=((ah hdw _).upd hw).upd hw;have y1:WyN Y.e (upd (upd (upd H0 d1 (.own w1)) w1 (.ins Y.e d1 [])) w1 (.ins Y.e d1 [("called",.str (Str.ofString "only"))])) w1 (Str.ofString "only"):=⟨d1,ae⟩;generalize upd (upd (upd H0 d1 (.own w1)) w1 (.ins Y.e d1 [])) w1 (.ins Y.e d1 [("called",.str (Str.ofString "only"))])=H1 at t1 y1⊢;clear hw hdw hnw;have y0:=y0.same t1;refine λw2 d2 hw hdw hnw=>⟨w2,d2,U,ae,U,?_⟩
 have t2:ao H1 (upd (upd (upd H1 d2 (.own w2)) w2 (.ins Y.f d2 [])) w2 (.ins Y.f d2 [("called",.str (Str.ofString "like"))])):=((ah hdw _).upd hw).upd hw;have y2:WyN Y.f (upd (upd (upd H1 d2 (.own w2)) w2 (.ins Y.f d2 [])) w2 (.ins Y.f d2 [("called",.str (Str.ofString "like"))])) w2 (Str.ofString "like"):=⟨d2,ae⟩;generalize upd (upd (upd H1 d2 (.own w2)) w2 (.ins Y.f d2 [])) w2 (.ins Y.f d2 [("called",.str (Str.ofString "like"))])=H2 at t2 y2⊢;clear hw hdw hnw;have y0:=y0.same t2;have y1:=y1.same t2;refine λw3 d3 hw hdw hnw=>⟨w3,d3,U,ae,U,?_⟩
 have t3:ao H2 (upd (upd (upd H2 d3 (.own w3)) w3 (.ins Y.g d3 [])) w3 (.ins Y.g d3 [("called",.str (Str.ofString "low"))])):=((ah hdw _).upd hw).upd hw;have y3:WyN Y.g (upd (upd (upd H2 d3 (.own w3)) w3 (.ins Y.g d3 [])) w3 (.ins Y.g d3 [("called",.str (Str.ofString "low"))])) w3 (Str.ofString "low"):=⟨d3,ae⟩;generalize upd (upd (upd H2 d3 (.own w3)) w3 (.ins Y.g d3 [])) w3 (.ins Y.g d3 [("called",.str (Str.ofString "low"))])=H3 at t3 y3⊢;clear hw hdw hnw;have y0:=y0.same t3;have y1:=y1.same t3;have y2:=y2.same t3;refine λw4 d4 hw hdw hnw=>⟨w4,d4,U,ae,U,?_⟩
 have t4:ao H3 (upd (upd (upd H3 d4 (.own w4)) w4 (.ins Y.h d4 [])) w4 (.ins Y.h d4 [("called",.str (Str.ofString "high"))])):=((ah hdw _).upd hw).upd hw;have y4:WyN Y.h (upd (upd (upd H3 d4 (.own w4)) w4 (.ins Y.h d4 [])) w4 (.ins Y.h d4 [("called",.str (Str.ofString "high"))])) w4 (Str.ofString "high"):=⟨d4,ae⟩;generalize upd (upd (upd H3 d4 (.own w4)) w4 (.ins Y.h d4 [])) w4 (.ins Y.h d4 [("called",.str (Str.ofString "high"))])=H4 at t4 y4⊢;clear hw hdw hnw;have y0:=y0.same t4;have y1:=y1.same t4;have y2:=y2.same t4;have y3:=y3.same t4;refine λw5 d5 hw hdw hnw=>⟨w5,d5,U,ae,U,?_⟩
 have t5:ao H4 (upd (upd (upd H4 d5 (.own w5)) w5 (.ins Y.i d5 [])) w5 (.ins Y.i d5 [("called",.str (Str.ofString "sum"))])):=((ah hdw _).upd hw).upd hw;have y5:WyN Y.i (upd (upd (upd H4 d5 (.own w5)) w5 (.ins Y.i d5 [])) w5 (.ins Y.i d5 [("called",.str (Str.ofString "sum"))])) w5 (Str.ofString "sum"):=⟨d5,ae⟩;generalize upd (upd (upd H4 d5 (.own w5)) w5 (.ins Y.i d5 [])) w5 (.ins Y.i d5 [("called",.str (Str.ofString "sum"))])=H5 at t5 y5⊢;clear hw hdw hnw;have y0:=y0.same t5;have y1:=y1.same t5;have y2:=y2.same t5;have y3:=y3.same t5;have y4:=y4.same t5;have s5:ao H H5:=((((t0.trans t1).trans t2).trans t3).trans t4).trans t5;refine⟨(by show 6<=sizeLine;decide),λl hl=>?_⟩;have sl:ao H5 (upd H5 l (.lst [V.ref w0,.ref w1,.ref w2,.ref w3,.ref w4,.ref w5])):=ah hl _;have el:upd H5 l (.lst [V.ref w0,.ref w1,.ref w2,.ref w3,.ref w4,.ref w5]) l=some (.lst [V.ref w0,.ref w1,.ref w2,.ref w3,.ref w4,.ref w5]):=ae;generalize upd H5 l (.lst [V.ref w0,.ref w1,.ref w2,.ref w3,.ref w4,.ref w5])=H6 at sl el⊢;have y0:=y0.same sl;have y1:=y1.same sl;have y2:=y2.same sl;have y3:=y3.same sl;have y4:=y4.same sl;have y5:=y5.same sl;have sA:=s5.trans sl;have key:∀(i:Nat)(x:V),[V.ref w0,.ref w1,.ref w2,.ref w3,.ref w4,.ref w5][i]?=some x->∃(a C:Addr)(y:Str),x=.ref a/\(cl6 Y.d Y.e Y.f Y.g Y.h Y.i)[i]?=some C/\six[i]?=some y/\WyN C H6 a y/\Cls K C/\NoAttr K C (Str.ofString "called"):=λi x e=>by
  match i,e with
  |0,e=>cases e;exact⟨w0,Y.d,_,U,U,U,y0,bl.k_First,bl.na_First_called⟩
  |1,e=>cases e;exact⟨w1,Y.e,_,U,U,U,y1,bl.k_Only,bl.na_Only_called⟩
  |2,e=>cases e;exact⟨w2,Y.f,_,U,U,U,y2,bl.k_Like,bl.na_Like_called⟩
  |3,e=>cases e;exact⟨w3,Y.g,_,U,U,U,y3,bl.k_Low,bl.na_Low_called⟩
  |4,e=>cases e;exact⟨w4,Y.h,_,U,U,U,y4,bl.k_High,bl.na_High_called⟩
  |5,e=>cases e;exact⟨w5,Y.i,_,U,U,U,y5,bl.k_Sum,bl.na_Sum_called⟩
  |n+6,e=>simp at e
 refine⟨l,U,⟨_,SqL.of el⟩,bg (xs:=[V.ref w0,.ref w1,.ref w2,.ref w3,.ref w4,.ref w5]) (λi σ H'=>(∃c1:Option V,σ=[some (.str z),c1])/\H'=H6/\∀j:Nat,j<i->six[j]?≠some z) ⟨⟨_,U⟩,U,(λj h=>absurd h (not_lt_zero j))⟩ (λi σ H' _ h=>by rw[h.2.1];exact SqL.of el) (λi x σ H' e h=>?_) (λσ H' h=>?_)⟩
 ·obtain⟨⟨c1,rfl⟩,e0,hno⟩:=h;rw[e0];obtain⟨a,C,y,rfl,eC,ey,⟨dx,ha⟩,hc,hn⟩:=key i x e;refine⟨_,U,a,_,_,_,_,U,ha,hc,hn,U,_,U,U,_,U,?_⟩;refine di (λg=>?_) (λg=>?_)
  ·have g':V.str y=V.str z:=nH g;injection g' with g';subst g';exact⟨_,U,q i ey a C H6 sA eC ⟨dx,ha⟩⟩
  ·refine⟨⟨_,U⟩,U,λj hj=>?_⟩;by_cases hji:j<i
   ·exact hno j hji
   ·have:j=i:=by lia
    subst this;rw[ey];intro q2;exact(tm g) (by injection q2 with q2;rw[q2])
 ·obtain⟨⟨c1,rfl⟩,e0,hno⟩:=h;rw[e0];obtain⟨j,hj,ej⟩:=List.getElem_of_mem hz;exact absurd (by rw[EV hj,ej]) (hno j hj)
theorem O_0(F:Fun K "__init__" "Book.__init__" Y0 f fd) (bl:Bl K mg Y)(gP:Callee P w K mg base 3 "refuse_counts_books" ["facts","tables"] (cD K Y)) (iC:Callee P w K mg base 3 "refuse_names_books" ["facts","tables"] (cK K Y)) (kN:Callee P w K mg base 3 "refuse_domains" ["facts","tables"] (dQ K Y)) (mP:Callee P w K mg base 3 "refuse_rings" ["tables"] (eE K Y)):aN P w K mg base CX0 4 f fd ["self","facts","tables"] (cL K Y):=by
 refine F.okA Z0 λcdv A outer s H vs Q E hr h=>?_
 obtain⟨x,dx,fa,ma,fv,mv,zs,ds,ts,fN,L,P,rfl,hx,efa,ema,hB,hfP,q⟩:=h
 refine⟨_,(ay (aT (aR gP hr U (aa (pv 1) (aa (pv 2) af))))
  (ay (aT (aR iC hr U (aa (pv 1) (aa (pv 2) af))))
  (ay (aT (aR kN hr U (aa (pv 1) (aa (pv 2) af))))
  (ay (aT (aR mP hr U (aa (pv 2) af)))
  (ay (cz (pv 0) (fX (aO (pv 1)) (cZ (N:=["name","domain"]) (k:=2) U U (by decide+kernel) (by decide+kernel) (by decide+kernel)) U (λ_ _ _ _=>(nJ (K:=K) (n:=2) U U (aJ (aD (i:=0) (show(["name","domain"]:List Str).Nodup by decide+kernel) U (Or.inl U) (Or.inr U)) (aJ (aD (i:=1) (show(["name","domain"]:List Str).Nodup by decide+kernel) U (Or.inl U) (Or.inr U)) bJ)))) (λ_ _ _ _=>aV) (λ_ _ _ _=>(aZ (aa (pv 0) (aa (pv 1) af))))) U)
  (ag (cz (pv 0) (bx cA U bl.list_ PyProof.Rows.boot_list (aa (pv 2) af)) U))))))),?_⟩
 obtain⟨b1,b2,b3⟩:=hB.few;have hfl:fv.length=fN:=by rw[hB.facts.1,length_range]
 have hml:mv.length=L.length:=hB.tabs.1;refine⟨_,U,_,U,fa,ma,fv,mv,U,efa,ema,by lia,by lia,?_⟩;refine⟨_,U,_,U,fa,ma,fv,mv,zs,ds,ts,fN,L,U,efa,ema,hB,λH1 s1=>?_⟩;refine⟨_,U,_,U,fa,ma,fv,mv,zs,ds,ts,fN,L,U,s1 _ _ efa,s1 _ _ ema,hB.same s1,λH2 s2=>?_⟩;have s12:=s1.trans s2;refine⟨_,U,ma,mv,zs,ds,ts,fN,L,U,s12 _ _ ema,hB.ok,(hB.same s12).tabs,hB.lt,by lia,λH3 s3=>?_⟩;have s13:=s12.trans s3;have Bt:=s13 _ _ efa;have hB3:=hB.same s13;refine⟨_,U,fa,U,⟨_,SqL.of Bt⟩,dY (xs:=fv) (λD i ys H'=>ao H3 H'/\H' D=some (.lst ys)/\az ys (List.range i) (FcT P H' zs)) (λD hD=>⟨ah hD _,ae,az.nil⟩) (λD i ys H' hD _ h=>SqL.of (h.1 _ _ Bt)) (λD i y ys H' hD e h ts' hts=>?_) (λD ys H' hD h=>?_)⟩
 ·obtain⟨sm,eD,hy⟩:=h;obtain⟨r,k,rfl,ek,nm,po,d,z1,z2,g1,g2⟩:=az.get hB3.facts e;have hi:i<fv.length:=(EW.mp e).1;obtain⟨t0,t1,rfl⟩:∃t0 t1,ts'=[t0,t1]:=by
   match ts',hts with
   | [t0,t1],_=>exact⟨t0,t1,U⟩
  refine⟨r,_,U,SqT.of (sm _ _ g1),U,_,_,U,_,_,U,U,⟨[some (.str nm),some (.ref d)],U,U⟩,?_⟩;refine⟨_,U,_,U,(by show 2<=sizeLine;decide),λtp htp=>?_⟩;have u:=ah htp (.tup [.str nm,.ref d]);have eT:upd H' tp (.tup [.str nm,.ref d]) tp=some (.tup [.str nm,.ref d]):=ae;generalize upd H' tp (.tup [.str nm,.ref d])=H9 at u eT⊢;have eD9:=u _ _ eD;obtain⟨r2,k2,er2,ek2,nm2,d2,y1,y2,y3⟩:=az.get hfP e;cases er2;rw[ek]at ek2;cases ek2;have y3':=s13 _ _ y3;rw[g1]at y3';cases y3';obtain⟨rfl,hlt⟩:=o8 ek;have hyl:ys.length=k:=by rw[hy.1,length_range]
  refine bT.mk hi eD9 (aC (by lia)) ⟨(sm.trans u).upd hD,ae,?_⟩;rw[range_succ];exact az.mono (az.snoc (az.mono hy λ_ _ p=>p.tups u.tups) ⟨nm,d,z1,y2,eT⟩) λ_ _ p=>p.tups (om eD9)
 ·obtain⟨sm,eD,hy⟩:=h;have hx3:H3 x=some (.ins Y.n dx []):=s13 _ _ hx;refine⟨_,U,x,_,dx,_,U,sm _ _ hx3,bl.k_Book,bl.na_Book_facts,(by show 0<1000;decide),?_⟩;have nDx:D≠x:=λz=>by rw[z,hx3]at hD;cases hD
  have nmx:ma≠x:=λz=>by rw[z,hx]at ema;cases ema
  have g1:upd H' x (.ins Y.n dx (bC (Str.ofString "facts") (V.ref D) []))=upd H' x (.ins Y.n dx [(Str.ofString "facts",V.ref D)]):=rfl;rw[g1];have e2:upd H' x (.ins Y.n dx [(Str.ofString "facts",V.ref D)]) ma=some (.lst mv):=(ar nmx).trans (sm _ _ (s13 _ _ ema));have x2:upd H' x (.ins Y.n dx [(Str.ofString "facts",V.ref D)]) x=some (.ins Y.n dx [(Str.ofString "facts",V.ref D)]):=ae;have k2:∀b o,b≠x->H b=some o->upd H' x (.ins Y.n dx [(Str.ofString "facts",V.ref D)]) b=some o:=λb o hb e=>(ar hb).trans (sm _ _ (s13 _ _ e))
  have d2:upd H' x (.ins Y.n dx [(Str.ofString "facts",V.ref D)]) D=some (.lst ys):=(ar nDx).trans eD;rw[hfl]at hy;have y2:az ys (List.range fN) (FcT P (upd H' x (.ins Y.n dx [(Str.ofString "facts",V.ref D)])) zs):=az.mono hy λ_ _ p=>p.tups (oo (sm _ _ hx3))
  generalize upd H' x (.ins Y.n dx [(Str.ofString "facts",V.ref D)])=H4 at e2 x2 k2 d2 y2⊢;refine⟨_,U,ma,mv,U,.inl (SqL.of e2),λc hc=>?_⟩;have u:=ah hc (.lst mv);have ec:upd H4 c (.lst mv) c=some (.lst mv):=ae;generalize upd H4 c (.lst mv)=H5 at u ec⊢;refine⟨_,U,x,_,dx,_,U,u _ _ x2,bl.k_Book,bl.na_Book_tables,(by show 1<1000;decide),?_⟩;have ncx:c≠x:=λz=>by rw[z,x2]at hc;cases hc
  exact q _ _ c D ys (λb o hb e=>(ar hb).trans (u _ _ (k2 b o hb e))) ae U ((ar ncx).trans ec) U ((ar nDx).trans (u _ _ d2)) (az.mono (az.mono y2 λ_ _ p=>p.tups u.tups) λ_ _ p=>p.tups (oo (u _ _ x2)))
theorem O_3(F:Fun K "code" "Domain.code" Y3 f fd) (bl:Bl K mg Y)(eJ:aX CX0 P w K mg base 3 Y.k "borne_code" ["self","value"] (bM K Y)) (gf:aX CX0 P w K mg base 3 Y.k "bears" ["self","value"] (b9 K Y)):aN P w K mg base CX0 4 f fd ["self","value"] (cF K Y):=by
 refine F.okA Z3 λcdv A outer s H vs Q E hr h=>?_
 obtain⟨a,lo,hi,i,rfl,⟨dx,ha⟩,h1,h2,q⟩:=h
 refine⟨_,(ay (aQ (cP (dg (ib gf bN bl.k_Numbers hr (pv 0) (aa (pv 1) af))))
  (ag bc)
  aH)
  (ag (aG (ib eJ bN bl.k_Numbers hr (pv 0) (aa (pv 1) af))))),?_⟩
 exact⟨_,U,a,_,_,U,ha,U,_,U,a,lo,hi,i,U,⟨dx,ha⟩,h1,h2,_,U,bV ⟨_,U,a,_,_,U,ha,U,_,U,a,.int i,U,q⟩⟩
theorem DH(F:Fun K "refuse_way" "refuse_way" Y82 f fd) (bl:Bl K mg Y)(mQ:Callee P w K mg base 4 "way_by" ["name"] (iO K Y)):aN P w K mg base CX0 5 f fd ["way","outcome"] (fO K Y):=by
 refine F.okA Z82 λcdv A outer s H vs Q E hr h=>?_
 obtain⟨z,ou,rfl,hz,hne,q⟩:=h
 refine⟨_,(ag (aQ (PW.pt (gn (aI cx (aY (aR mQ hr U (aa (pv 0) af)) U) aS (aP _)) (eP (dg (au dH U bl.isinstance_ PyProof.Rows.boot_isinstance (aa (pv 1) (aa (cM (v:=.ref Y.l) U bl.Words_ U) af)))))))
  (ag bc)
  aH)),?_⟩
 refine⟨_,U,z,U,hz,λi ei x C H' s' eC hw=>?_⟩;have hF:Cls K C/\NoAttr K C (Str.ofString "called"):=by
  match i,eC with
  |0,eC=>cases eC;exact⟨bl.k_First,bl.na_First_called⟩
  |1,eC=>cases eC;exact⟨bl.k_Only,bl.na_Only_called⟩
  |2,eC=>cases eC;exact⟨bl.k_Like,bl.na_Like_called⟩
  |3,eC=>cases eC;exact⟨bl.k_Low,bl.na_Low_called⟩
  |4,eC=>cases eC;exact⟨bl.k_High,bl.na_High_called⟩
  |5,eC=>cases eC;exact⟨bl.k_Sum,bl.na_Sum_called⟩
  |n+6,eC=>simp[cl6]at eC
 obtain⟨dx,hx⟩:=hw;refine⟨x,_,_,_,_,U,hx,hF.1,hF.2,U,U,_,U,?_⟩;by_cases hs:z=Str.ofString "sum"
 ·obtain⟨dy,fs,ho⟩:=hne hs;exact eA (by rw[hs]) ⟨_,U,_,_,_,_,false,U,.ref _,bl.t_Numbers.ty (s' _ _ ho),bl.f_nw,_,U,bV (q _ s')⟩
 ·exact bR (λe=>by injection e with e;exact hs e) (bV (q _ s'))
theorem DI(F:Fun K "judged" "judged" Y48 f fd) (bl:Bl K mg Y)(iY:aX CX0 P w K mg base 4 Y.d "verdict" ["self","codes","outcome"] (J12 K Y)) (jC:aX CX0 P w K mg base 4 Y.e "verdict" ["self","codes","outcome"] (J16 K Y)) (jD:aX CX0 P w K mg base 4 Y.f "verdict" ["self","codes","outcome"] (J14 K Y)) (kg:aX CX0 P w K mg base 4 Y.g "verdict" ["self","codes","outcome"] (J15 K Y)) (jE:aX CX0 P w K mg base 4 Y.h "verdict" ["self","codes","outcome"] (J13 K Y)) (kh:aX CX0 P w K mg base 4 Y.i "verdict" ["self","codes","outcome"] (J17 K Y)) (mQ:Callee P w K mg base 4 "way_by" ["name"] (iO K Y)):aN P w K mg base CX0 5 f fd ["table","rows"] (kK K Y):=by
 refine F.okA Z48 λcdv A outer s H vs Q E hr h=>?_
 obtain⟨t,rws,wi,o,m,rfl,⟨rl,ou,dx,fs,xs,wy,ht,hf,hfw,hfo,erl,hR,hwi,hou,hole,iT⟩,q⟩:=h
 refine⟨_,(ay (qp (i:=2) Z48.nd U (Or.inl U) (xu U bl.enumerate_ (aa (aY (pv 0) U) af)) (kY (N:=["k","row","rows"]) (k:=2) (fr:=[1]) (cl:=[("rows",s.heap.objs.size+1)]) U U (by decide+kernel) (by decide+kernel) U U (forall_mem_cons.mpr ⟨U,forall_mem_nil _⟩) U) U (λ_ _ _ _=>(nJ (K:=K) (n:=2) U U (aJ (aD (i:=0) (show(["k","row","rows"]:List Str).Nodup by decide+kernel) U (Or.inl U) (Or.inr U)) (aJ (aD (i:=1) (show(["k","row","rows"]:List Str).Nodup by decide+kernel) U (Or.inl U) (Or.inr U)) bJ)))) (λ_ _ _ _=>(fu (nW (K:=K) U (aE yQ (aE yP (pv 2) (pv 0)) ai)))) (λ_ _ _ _=>(aF (dM (K:=K) U) (pv 1) ai (λ_ _=>U))))
  (ag (aG (rL (m5 iY bl.k_First (m5 jC bl.k_Only (m5 jD bl.k_Like (m5 kg bl.k_Low (m5 jE bl.k_High (m5 kh bl.k_Sum zk)))))) bN hr (aR mQ hr U (aa (aY (pv 0) U) af)) (aa (pv 2) (aa (aY (pv 0) U) af)))))),?_⟩
 have hxl:xs.length=rws.length:=hR.1
 refine⟨_,U,t,_,_,_,_,U,ht,bl.k_Table,bl.na_Table_rows,hf,rl,U,⟨_,SqL.of erl⟩,rO (xs:=xs) (λD i zs H'=>ao H H'/\H' D=some (.lst zs)/\zs=(pkF rws (ip m) i).map V.int)
  (λD hD=>⟨ah hD _,ae,U⟩) (λD i zs H' hD _ h=>SqL.of (h.1 _ _ erl)) (λD i x zs H' T hD ex h hT ts hts=>?_) (λD zs H' hD h=>?_)⟩
 ·obtain⟨sm,eD,rfl⟩:=h;have s2:=sm.trans (ah hT (.tup [.int i,x]));have eT:upd H' T (.tup [.int i,x]) T=some (.tup [.int i,x]):=ae;have eD2:=ah hT (.tup [.int i,x]) _ _ eD;generalize upd H' T (.tup [.int i,x])=H2 at s2 eT eD2⊢;obtain⟨r,w_,rfl,ew,ce,cv,g1,_,g2,g3⟩:=az.get (hR.same s2) ex;have hi:i<xs.length:=(EW.mp ex).1;have hg:rws.getD i ([],0)=w_:=getD_at ew;have hpl:=tQ rws (ip m) i;obtain⟨t0,t1,rfl⟩:∃t0 t1,ts=[t0,t1]:=by
   match ts,hts with
   | [t0,t1],_=>exact⟨t0,t1,U⟩
  refine⟨T,_,U,SqT.of eT,U,_,_,U,_,_,U,U,⟨[some (.int i),some (.ref r)],U,U⟩,?_⟩;refine⟨_,U,_,U,_,_,U,U,natCast_nonneg _,_,_,U,U,ip m i,U,?_⟩;have hs:=qu rws (ip m) i;rw[hg]at hs;cases hb:ip m i with
  |true =>
   rw[hb]at hs;refine ee ⟨_,U,r,_,_,_,U,U,SqT.of g1,U,bT.mk hi eD2 (aC (by rw[length_map];lia)) ⟨s2.upd hD,ae,?_⟩⟩;rw[hs,map_append];rfl
  |false =>
   rw[hb]at hs;refine bV (eM.mk (zs:=(pkF rws (ip m) i).map V.int) hi ⟨s2,eD2,?_⟩);rw[hs];simp
 ·obtain⟨sm,eD,rfl⟩:=h;rw[hxl]at eD;have hwy:wy∈six:=EY hwi;refine⟨_,U,t,_,_,_,_,U,sm _ _ ht,bl.k_Table,bl.na_Table_way,hfw,wy,U,hwy,λi2 ei2 x C H2 s2 eC hw=>?_⟩;have ii:i2=wi:=xC ei2 hwi;subst ii;have sA:=sm.trans s2;obtain⟨dw,hx⟩:=hw;have hpl:=tQ rws (ip m) rws.length;have key:(C,j5 K C Y.k Y.l i2)∈[(Y.d,j5 K Y.d Y.k Y.l 0),(Y.e,j5 K Y.e Y.k Y.l 1),(Y.f,j5 K Y.f Y.k Y.l 2),(Y.g,j5 K Y.g Y.k Y.l 3),(Y.h,j5 K Y.h Y.k Y.l 4),(Y.i,j5 K Y.i Y.k Y.l 5)]:=by
   match i2,eC with
   |0,eC=>cases eC;exact .head _
   |1,eC=>cases eC;exact .tail _ (.head _)
   |2,eC=>cases eC;exact .tail _ (.tail _ (.head _))
   |3,eC=>cases eC;exact .tail _ (.tail _ (.tail _ (.head _)))
   |4,eC=>cases eC;exact .tail _ (.tail _ (.tail _ (.tail _ (.head _))))
   |5,eC=>cases eC;exact .tail _ (.tail _ (.tail _ (.tail _ (.tail _ (.head _)))))
   |n+6,eC=>simp[cl6]at eC
  refine⟨x,(C,j5 K C Y.k Y.l i2),dw,_,U,key,hx,U,_,U,_,U,t,_,_,_,_,U,sA _ _ ht,bl.k_Table,bl.na_Table_outcome,hfo,x,D,ou,_,o,U,⟨dw,_,hx⟩,hou.same sA,hole,SqL.of (s2 _ _ eD),by lia,λr H3 s3 h3=>q r H3 (sA.trans s3) h3⟩
theorem DJ(F:Fun K "_law_made" "_law_made" Y59 f fd) (bl:Bl K mg Y)(k_Numbers:bA CX0 P w K mg base 3 "Numbers" Y.k ["self","low","high"] (bO K Y)) (k_Words:bA CX0 P w K mg base 3 "Words" Y.l ["self","words"] (cn K Y)):aN P w K mg base CX0 5 f fd ["domain"] (fD K Y):=by
 refine F.okA Z59 λcdv A outer s H vs Q E hr h=>?_
 obtain⟨r,p,rfl,⟨wl,_,_,er,ewl⟩,ok,q⟩:=h
 refine⟨_,(ay (aQ (aI hU (au aq U bl.len_ boot_len (aa (aF aW (pv 0) ai (λ_ _=>U)) af)) ai (aP _))
  (ag (aG (tu k_Words bN hr U (aa (bx cA U bl.list_ PyProof.Rows.boot_list (aa (aF aW (pv 0) ai (λ_ _=>U)) af)) af))))
  aH)
  (ag (aG (tu k_Numbers bN hr U (aa (aF aW (pv 0) ai (λ_ _=>U)) (aa (aF aW (pv 0) ai (λ_ _=>U)) af)))))),?_⟩
 have hlm:(p.ws.map V.str).length=p.ws.length:=length_map _;refine⟨_,U,r,_,_,_,U,U,SqT.of er,U,wl,_,U,.inl (SqL.of ewl),_,_,U,U,_,U,?_⟩;refine di (λg=>?_) (λg=>?_)
 ·have hne:p.ws≠[]:=λz=>by
   have:=of_decide_eq_true g;rw[z]at this;exact absurd this (by decide)
  obtain⟨hg,h0,h1⟩:=ok.wd hne;refine⟨_,U,r,_,_,_,U,U,SqT.of er,U,wl,_,U,.inl (SqL.of ewl),λc hc=>?_⟩;have u1:=ah hc (.lst (p.ws.map V.str));have ec:upd H c (.lst (p.ws.map V.str)) c=some (.lst (p.ws.map V.str)):=ae;generalize upd H c (.lst (p.ws.map V.str))=H1 at u1 ec⊢;intro x dx hx hdx EO;have s3:ao H1 (upd (upd H1 dx (.own x)) x (.ins Y.l dx [])):=(ah hdx _).upd hx;refine⟨x,dx,c,p.ws,U,ae,s3 _ _ ec,hg,λH4 l4 k1 k2 k3 k4=>⟨U,q x H4 (λb o e=>k1 b o (bj (u1 _ _ e) hx) (s3 _ _ (u1 _ _ e))) ?_⟩⟩;rw[PD.k_some hne];exact⟨⟨dx,l4,u1.free (s3.free k4),k2,k3⟩,h0,h1,hg⟩
 ·have he:p.ws=[]:=by
   have:¬ ((0:Int)<(((p.ws.map V.str).length:Nat):Int)):=λh=>g (decide_eq_true h)
   rw[hlm]at this;exact length_eq_zero_iff.mp (by lia)
  refine⟨_,U,r,_,_,_,U,U,SqT.of er,U,_,U,r,_,_,_,U,U,SqT.of er,U,λx dx hx hdx hne=>⟨x,dx,p.lo,p.hi,U,ae,ok.le,U,q x _ ?_ ?_⟩⟩
  ·unfold mkd;exact(((ah hdx _).upd hx).upd hx).upd hx
  ·rw[PD.k_none he];exact⟨dx,ae⟩
theorem DK(F:Fun K "judged_step" "judged_step" Y49 f fd) (bl:Bl K mg Y)(zV:Callee P w K mg base 5 "mask" ["table","codes"] (pj K Y)) (wU:Callee P w K mg base 5 "judged" ["table","rows"] (kK K Y)):aN P w K mg base CX0 6 f fd ["table","columns"] (fg K Y):=by
 refine F.okA Z49 λcdv A outer s H vs Q E hr h=>?_
 obtain⟨a,l,k,zs,ds,ts,fN,xs,cvs,t,p,nm,rfl,hT,et,enm,ep,tok,pok,hl,hxs,hcl,q⟩:=h
 refine⟨_,(av (d8 (i:=2) Z49.nd U (Or.inl U) (aO (pv 1)) (bD U (by decide+kernel) (by decide+kernel) (by decide+kernel) U) U (λ_ _ _ _=>(fu (aI pV (aF (dM (K:=K) U) (pv 0) ai (λ_ _=>U)) aS (aP _)))) (λ_ _ _ _=>(pv 0)))
  (ay (aQ (dJ (pv 2) (by intro _;rfl))
  (ag (aG (aZ (aa (aY (pv 0) U) (aa vh (aa ai (aa (aF aL (pv 2) ai (λ_ _=>U)) af)))))))
  aH)
  (av (d8 (i:=3) Z49.nd U (Or.inl U) (aO (pv 1)) (bD U (by decide+kernel) (by decide+kernel) (by decide+kernel) U) U (λ_ _ _ _=>aV) (λ_ _ _ _=>(aF (dM (K:=K) U) (pv 0) ai (λ_ _=>U))))
  (av (aK (i:=4) Z49.nd U (Or.inl U) (aR zV hr U (aa (pv 0) (aa (pv 3) af))))
  (ag (aG (aZ (aa (aY (pv 0) U) (aa (pv 3) (aa (pv 4) (aa (aR wU hr U (aa (pv 0) (aa (pv 4) af))) af))))))))))),?_⟩
 obtain⟨t',nm',po',ou,dv,g1,g2,g3,g4,g5,g6⟩:=id hT;rw[et]at g1;cases g1;rw[enm]at g2;cases g2;rw[ep]at g3;cases g3;obtain⟨rl,dx,na,dl,fs,xs2,ht,f1,f2,f3,f4,f5,f6,ena,edl,erl,hR,iT⟩:=id g4;have hwy:six[ixF six t.way]?=some t.way:=sr tok.ok.way;have Bu:Tbl Y.m Y.k Y.l H a t.rows (ixF six t.way) (p.lo,p.hi):=g4.tbl hwy g6.dom pok.le;have hc3:t.cols.length<=3:=tok.ok.few;refine⟨λσ' H'=>ao H H'/\∃(sa:Addr)(sv:List V),H' sa=some (.lst sv)/\az sv (cvs.filter λv=>!cR v) (λr v=>SqT K H r (tp v))/\σ'=[some (.ref a),some (.ref l),some (.ref sa),none,none],?_,?_⟩
 ·refine⟨_,U,l,U,⟨_,hl⟩,bh (xs:=xs) (λD i ys H'=>ao H H'/\H' D=some (.lst ys)/\az ys ((cvs.take i).filter λv=>!cR v) (λr v=>SqT K H r (tp v))) (λD hD=>⟨ah hD _,ae,az.nil⟩) (λD i ys H' hD _ h=>h.1.seq hl) (λD i y ys H' hD e h=>?_) (λD ys H' hD h=>?_)⟩
  ·obtain⟨sm,eD,hy⟩:=h;obtain⟨r,v,rfl,ev,hv⟩:=az.get hxs e;have hi:i<xs.length:=(EW.mp e).1;have hyl:ys.length<=3:=by
    have h1:=hy.1;have h2:=length_filter_le (λv:SI=>!cR v) (cvs.take i);rw[length_take]at h2;lia
   refine⟨_,U,r,_,_,_,U,U,sm.seqT hv,U,U,_,U,?_⟩;by_cases hs:v.1=Str.ofString "say"
   ·have hs':cR v=true:=decide_eq_true hs;refine tj (by rw[hs]) (eM.mk (zs:=ys) hi ⟨sm,eD,?_⟩);rw[take_snoc ev,filter_append,filter_cons_of_neg (by simp[hs']),filter_nil,append_nil];exact hy
   ·have hs':cR v=false:=decide_eq_false hs;refine yr (λz=>hs (by injection z)) ⟨_,U,bT.mk hi eD (aC (by lia)) ⟨sm.upd hD,ae,?_⟩⟩;rw[take_snoc ev,filter_append,filter_cons_of_pos (by simp[hs']),filter_nil];exact az.snoc hy hv
  ·obtain⟨sm,eD,hy⟩:=h;rw[hxs.1,take_length]at hy;exact⟨sm,D,ys,eD,hy,U⟩
 rintro σ1 H1 ⟨s1,sa,sv,esa,hsv,rfl⟩;have wV:4<=sizeLine:=by decide
 refine⟨_,U,_,.inl ⟨sv,SqL.of esa,U⟩,?_⟩;cases hfl:cvs.filter λv=>!cR v with
 |cons v vs =>
  rw[hfl]at hsv;obtain⟨r0,e0,hr0⟩:=hsv.2 0 v U;have hne:sv.isEmpty=false:=by
   cases sv with
   |nil=>simp at e0
   |cons x y=>rfl
  rw[hne];have hst:kJ p t cvs=v:=by
   unfold kJ;rw[←List.head?_filter,hfl];rfl
  have cI:cvs.all cR=false:=by
   have hm:v∈cvs.filter λv=>!cR v:=by rw[hfl];exact mem_cons_self
   obtain⟨h1,h2⟩:=mem_filter.mp hm;rw[List.all_eq_false];exact⟨v,h1,by simpa using h2⟩
  refine ee ⟨_,U,a,_,_,_,_,U,s1 _ _ ht,bl.k_Table,bl.na_Table_name,f2,_,U,sa,_,_,_,U,U,SqL.of esa,aM (j:=0) e0,wV,λtp_ htp=>q tp_ _ (s1.trans (ah htp _)) ⟨.non,0,r0,ae,?_,.inl ⟨cI,U,U⟩⟩⟩;rw[hst];exact(s1.trans (ah htp _)).seqT hr0
 |nil =>
  rw[hfl]at hsv;have DL:sv=[]:=length_eq_zero_iff.mp hsv.1;rw[DL];have nc:∀v∈cvs,cR v=true:=λv hv=>by
   have:=List.filter_eq_nil_iff.mp hfl v hv;simpa using this
  have cI:cvs.all cR=true:=all_eq_true.mpr nc;refine bV ?_;refine⟨λσ' H'=>ao H1 H'/\∃ca:Addr,H1 ca=none/\H' ca=some (.lst ((cvs.map (·.2)).map V.int))/\σ'=[some (.ref a),some (.ref l),some (.ref sa),some (.ref ca),none],?_,?_⟩
  ·refine⟨_,U,l,U,⟨_,s1.seq hl⟩,bh (xs:=xs) (λD i ys H'=>ao H1 H'/\H' D=some (.lst ys)/\ys=((cvs.take i).map (·.2)).map V.int) (λD hD=>⟨ah hD _,ae,U⟩) (λD i ys H' hD _ h=>h.1.seq (s1.seq hl)) (λD i y ys H' hD e h=>?_) (λD ys H' hD h=>?_)⟩
   ·obtain⟨sm,eD,rfl⟩:=h;obtain⟨r,v,rfl,ev,hv⟩:=az.get hxs e;have hi:i<xs.length:=(EW.mp e).1;have hxl:=hxs.1;refine⟨_,U,r,_,_,_,U,U,(s1.trans sm).seqT hv,U,bT.mk hi eD (aC (by rw[length_map,length_map,length_take];lia)) ⟨sm.upd hD,ae,?_⟩⟩;rw[take_snoc ev,map_append,map_append];rfl
   ·obtain⟨sm,eD,rfl⟩:=h;rw[hxs.1,take_length]at eD;exact⟨sm,D,hD,eD,U⟩
  rintro σ2 H2 ⟨s2,ca,nca,eca,rfl⟩;have s12:=s1.trans s2;refine⟨λσ' H'=>ao H2 H'/\σ'=[some (.ref a),some (.ref l),some (.ref sa),some (.ref ca),some (.int ((msk (eW t.rows (cvs.map (·.2))) t.rows.length:Nat):Int))],?_,?_⟩
  ·exact⟨_,U,_,U,a,ca,t.rows,_,_,cvs.map (·.2),U,Bu.same s12,SqL.of eca,(λw_ hw=>by rw[length_map,hcl];exact(tok.rows w_ hw).len),λH3 s3=>⟨s3,U⟩⟩
  rintro σ3 H3 ⟨s3,rfl⟩;have s13:=s12.trans s3;refine⟨_,U,a,_,_,_,_,U,s13 _ _ ht,bl.k_Table,bl.na_Table_name,f2,_,U,_,U,_,U,_,U,a,t.rows,_,_,_,U,Bu.same s13,λr H4 s4 hr4=>⟨wV,λtp_ htp=>q tp_ _ ((s13.trans s4).trans (ah htp _)) ⟨.ref ca,_,r,ae,?_,.inr ⟨cI,ca,U,s1.free nca,((s3.trans s4).trans (ah htp _)) _ _ eca,U⟩⟩⟩⟩;rw[xD,wu]at hr4;rw[qC nc];exact(ah htp _).seqT hr4
theorem DM(F:Fun K "_law_facts" "_law_facts" Y57 f fd) (bl:Bl K mg Y)(fE:Callee P w K mg base 5 "_law_made" ["domain"] (fD K Y)):aN P w K mg base CX0 6 f fd ["plan"] (gA K Y):=by
 refine F.okA Z57 λcdv A outer s H vs Q E hr h=>?_
 obtain⟨r,zs,ds,ts,fN,rfl,hPl,ok,q⟩:=h
 refine⟨_,(av (gY (pv 0) (dh U (aJ (aD (i:=1) Z57.nd U (Or.inr U)) (aJ (aD (i:=2) Z57.nd U (Or.inr U)) (aJ (aD (i:=3) Z57.nd U (Or.inl U)) bJ)))))
  (ag (aG (bF (br U bl.range_ (aa (aE ck (au aq U bl.len_ boot_len (aa (pv 1) af)) (au aq U bl.len_ boot_len (aa (pv 3) af))) af)) (aU (N:=["k","names","domains"]) (fr:=[1,2]) (cl:=[("names",s.heap.objs.size+1),("domains",s.heap.objs.size+1+1)]) U U (by decide+kernel) (by decide+kernel) U (by decide+kernel) U U U (forall_mem_cons.mpr ⟨U,forall_mem_cons.mpr ⟨U,forall_mem_nil _⟩⟩) U) U (λ_ _ _ _=>aV) (λ_ _ _ _=>(aZ (aa (aF (cQ (K:=K) U) (pv 1) (pv 0) (λ_ _=>U)) (aa (aR fE hr U (aa (aF (cQ (K:=K) U) (pv 2) (pv 0) (λ_ _=>U)) af)) af)))))))),?_⟩
 obtain⟨nl,dl,tl_,dv,tv,er,enl,edl,hdv,etl,htv⟩:=id hPl;have hzl:(zs.map V.str).length=zs.length:=length_map _;have hl1:=ok.len;have hl2:=ok.tab;have h7:=ok.n7;have htl:tv.length=ts.length:=htv.1;refine⟨λσ' H'=>H'=H/\σ'=[some (.ref r),some (.ref nl),some (.ref dl),some (.ref tl_)],⟨_,U,r,_,U,SqT.of er,U,_,_,U,_,_,U,_,_,U,U,U,U⟩,?_⟩;rintro σ1 H1 ⟨rfl,rfl⟩;have eN:(((zs.map V.str).length:Nat):Int)-((tv.length:Nat):Int)=(fN:Int):=by lia
 refine⟨_,U,nl,_,U,.inl (SqL.of enl),_,U,tl_,_,U,.inl (SqL.of etl),_,_,U,U,_,U,(by rw[eN];lia),(by rw[eN];lia),bH (λD i ys H'=>ao H1 H'/\H' D=some (.lst ys)/\az ys (List.range i) (FcN (Fr H1 D) Y.k Y.l H' zs ds)) (λD hD=>⟨ah hD _,ae,az.nil⟩) (λD i ys H' hD hi h=>?_) (λD ys H' hD h=>?_)⟩
 ·obtain⟨sm,eD,hz⟩:=h;rw[eN,toNat_natCast]at hi;have ez:=EV (l:=zs) (i:=i) (by lia);have ed:=EV (l:=ds) (i:=i) (by lia);obtain⟨da,e2,hpd⟩:=hdv.2 i _ ed;have okd:=ok.doms _ (EY ed);generalize ds[i]=p at ed hpd okd;generalize zs[i]=nm at ez;have ix1:atI (zs.map V.str) (0+(i:Int))=some (.str nm):=by rw[zero_add];exact aM (eV ez)
  have ix2:atI dv (0+(i:Int))=some (.ref da):=by rw[zero_add];exact aM e2
  refine⟨_,U,_,U,nl,_,_,_,U,U,SqL.of (sm _ _ enl),ix1,_,U,_,U,dl,_,_,_,U,U,SqL.of (sm _ _ edl),ix2,da,p,U,hpd.same sm,okd,λx H6 s6 hx=>⟨bp,λtt_ htt=>?_⟩⟩;have u7:=ah htt (.tup [.str nm,.ref x]);have eT:upd H6 tt_ (.tup [.str nm,.ref x]) tt_=some (.tup [.str nm,.ref x]):=ae;generalize upd H6 tt_ (.tup [.str nm,.ref x])=H7 at u7 eT⊢;have sA:=s6.trans u7;have eD7:=sA _ _ eD;have hz2:az (ys++[.ref tt_]) (List.range i++[i]) (FcN (Fr H1 D) Y.k Y.l H7 zs ds):=az.snoc (az.mono hz λ_ _ p=>p.same sA) ⟨nm,p,x,ez,ed,eT,(hx.wk λa h=>⟨sm.free h,λz=>by rw[z,eD]at h;cases h⟩).same u7⟩;refine bT.mk (by rw[eN,toNat_natCast];exact hi) eD7 (aC (by rw[hz.1,length_range];lia)) ⟨(sm.trans sA).upd hD,ae,?_⟩;rw[range_succ];exact az.mono hz2 λ_ _ p=>p.upd Fr.out eD7
 ·obtain⟨sm,eD,hz⟩:=h;rw[eN,toNat_natCast]at hz;exact q D ys H' sm eD (az.mono hz λ_ _ p=>p.fc)
theorem DN(F:Fun K "__init__" "Table.__init__" Y22 f fd) (bl:Bl K mg Y)(gQ:Callee P w K mg base 5 "refuse_names_tables" ["names"] (cE K Y)) (gE:Callee P w K mg base 5 "refuse_counts_tables" ["names","rows"] (cm K Y)) (pD:Callee P w K mg base 5 "refuse_way" ["way","outcome"] (fO K Y)) (pE:Callee P w K mg base 5 "refuse_row" ["domains","outcome","cells","code"] (fM K Y)) (u9:Callee P w K mg base 5 "own_row" ["cells","code"] (jr K Y)):aN P w K mg base CX0 6 f fd ["self","name","names","domains","outcome","way","rows"] (cq K Y):=by
 refine F.okA Z22 λcdv A outer s H vs Q E hr h=>?_
 obtain⟨x,dx,na,dl,ou,rl,nm,wy,zs,dv,rx,bs,o,rws,rfl,hx,hna,hw,hnd,h1,h4,hwy,hws,hdl,hdv,hou,hrl,hR,iT,hb4,hok,q⟩:=h
 refine⟨_,(ay (aT (aR gQ hr U (aa (aE ky (bz (aa (pv 1) af)) (pv 2)) af)))
  (ay (aT (aR gE hr U (aa (pv 2) (aa (pv 6) af))))
  (ay (aT (aR pD hr U (aa (pv 5) (aa (pv 4) af))))
  (av (bf PassesOwn.never U (aO (pv 6)) (dh U (aJ (aD (i:=7) Z22.nd U (Or.inl U)) (aJ (aD (i:=8) Z22.nd U (Or.inl U)) bJ)))
  (ag (aT (aR pE hr U (aa (pv 3) (aa (pv 4) (aa (pv 7) (aa (pv 8) af))))))))
  (ay (cz (pv 0) (pv 1) U)
  (ay (cz (pv 0) (bx cA U bl.list_ PyProof.Rows.boot_list (aa (pv 2) af)) U)
  (ay (cz (pv 0) (bx cA U bl.list_ PyProof.Rows.boot_list (aa (pv 3) af)) U)
  (ay (cz (pv 0) (pv 4) U)
  (ay (cz (pv 0) (pv 5) U)
  (ag (cz (pv 0) (fX (aO (pv 6)) (cZ (N:=["cells","code"]) (k:=2) U U (by decide+kernel) (by decide+kernel) (by decide+kernel)) U (λ_ _ _ _=>(nJ (K:=K) (n:=2) U U (aJ (aD (i:=0) (show(["cells","code"]:List Str).Nodup by decide+kernel) U (Or.inl U) (Or.inr U)) (aJ (aD (i:=1) (show(["cells","code"]:List Str).Nodup by decide+kernel) U (Or.inl U) (Or.inr U)) bJ)))) (λ_ _ _ _=>aV) (λ_ _ _ _=>(aR u9 hr U (aa (pv 0) (aa (pv 1) af))))) U))))))))))),?_⟩
 have hzl:(zs.map V.str).length=zs.length:=length_map _;refine⟨_,U,(by show 1<=sizeLine;decide),λl1 hl1=>?_⟩;have s1:=ah hl1 (.lst [.str nm]);have e1:upd H l1 (.lst [.str nm]) l1=some (.lst [.str nm]):=ae;generalize upd H l1 (.lst [.str nm])=H1 at s1 e1⊢;refine⟨_,U,l1,na,_,_,U,U,e1,s1 _ _ hna,(by rw[hzl];show 1+zs.length<=sizeLine;exact big (by lia)),λl2 hl2=>?_⟩;have s2:=s1.trans (ah hl2 (.lst ([V.str nm]++zs.map V.str)));have e2:upd H1 l2 (.lst ([V.str nm]++zs.map V.str)) l2=some (.lst ((nm :: zs).map V.str)):=ae;generalize upd H1 l2 (.lst ([V.str nm]++zs.map V.str))=H2 at s2 e2⊢;refine⟨l2,nm :: zs,U,SqL.of e2,hw,hnd,by rw[length_cons];lia,λH3 t3=>?_⟩;have s3:=s2.trans t3;refine⟨_,U,_,U,na,rl,_,_,U,SqL.of (s3 _ _ hna),SqL.of (s3 _ _ hrl),by rw[hzl];exact h1,by rw[hzl];exact h4,iT,?_⟩;refine⟨_,U,_,U,wy,ou,U,hwy,(λz=>let ⟨dx',fs',e'⟩:=hws z;⟨dx',fs',s3 _ _ e'⟩),λH4 t4=>?_⟩;have s4:=s3.trans t4;refine⟨λσ' H'=>ao H H'/\∃c7 c8:Option V,σ'=[some (.ref x),some (.str nm),some (.ref na),some (.ref dl),some (.ref ou),some (.str wy),some (.ref rl),c7,c8],?_,?_⟩
 ·refine⟨_,U,rl,U,⟨_,SqL.of (s4 _ _ hrl)⟩,bg (xs:=rx) (λi σ H'=>ao H H'/\∃c7 c8:Option V,σ=[some (.ref x),some (.str nm),some (.ref na),some (.ref dl),some (.ref ou),some (.str wy),some (.ref rl),c7,c8]) ⟨s4,_,_,U⟩ (λi σ H' _ h=>SqL.of (h.1 _ _ hrl)) (λi y σ H' e h=>?_) (λσ H' h=>h)⟩;obtain⟨sm,c7,c8,rfl⟩:=h;obtain⟨r,w_,rfl,ew,ce,cv,g1,_,g2,g3⟩:=az.get (hR.same sm) e;refine⟨r,_,U,SqT.of g1,U,_,_,U,_,_,U,U,?_⟩;exact⟨_,U,_,U,_,U,_,U,dl,ou,ce,dv,cv,bs,o,w_,U,SqL.of (sm _ _ hdl),az.mono hdv λ_ _ p=>p.same sm,hou.same sm,g2,g3,hok w_ (EY ew),λH2 t2=>⟨sm.trans t2,_,_,U⟩⟩
 rintro σ5 H5 ⟨s5,c7,c8,rfl⟩;have x5:=s5 _ _ hx;have nax:na≠x:=cg hna hx (by intro z;cases z);have dlx:dl≠x:=cg hdl hx (by intro z;cases z);have rlx:rl≠x:=cg hrl hx (by intro z;cases z);have k5:∀b o,b≠x->H b=some o->H5 b=some o:=λb o _ e=>s5 b o e
 have R5:=RL.hide x5 (hR.same s5);refine⟨_,U,_,U,x,_,dx,_,U,x5,bl.k_Table,bl.na_Table_name,(by show 0<1000;decide),?_⟩;have k6:∀b o,b≠x->H5 b=some o->upd H5 x (.ins Y.m dx [(Str.ofString "name",.str nm)]) b=some o:=λb o hb e=>(ar hb).trans e
 have x6:upd H5 x (.ins Y.m dx [(Str.ofString "name",.str nm)]) x=some (.ins Y.m dx [(Str.ofString "name",.str nm)]):=ae;have g6:upd H5 x (.ins Y.m dx (bC (Str.ofString "name") (.str nm) []))=upd H5 x (.ins Y.m dx [(Str.ofString "name",.str nm)]):=rfl;rw[g6];clear g6;generalize upd H5 x (.ins Y.m dx [(Str.ofString "name",.str nm)])=H6 at k6 x6⊢;refine⟨_,U,na,_,U,.inl (SqL.of (k6 _ _ nax (s5 _ _ hna))),λm1 hm1=>⟨_,U,x,_,dx,_,U,jo x6 hm1,bl.k_Table,bl.na_Table_names,(by show 1<1000;decide),?_⟩⟩;have g7:upd (upd H6 m1 (.lst (zs.map V.str))) x (.ins Y.m dx (bC (Str.ofString "names") (V.ref m1) [(Str.ofString "name",V.str nm)]))=upd (upd H6 m1 (.lst (zs.map V.str))) x (.ins Y.m dx [(Str.ofString "name",V.str nm),(Str.ofString "names",V.ref m1)]):=by rw[pf1]
 rw[g7];clear g7;have k7:∀b o,b≠x->H5 b=some o->upd (upd H6 m1 (.lst (zs.map V.str))) x (.ins Y.m dx [(Str.ofString "name",V.str nm),(Str.ofString "names",V.ref m1)]) b=some o:=λb o hb e=>(ar hb).trans (jo (k6 b o hb e) hm1)
 have x7:upd (upd H6 m1 (.lst (zs.map V.str))) x (.ins Y.m dx [(Str.ofString "name",V.str nm),(Str.ofString "names",V.ref m1)]) x=some (.ins Y.m dx [(Str.ofString "name",V.str nm),(Str.ofString "names",V.ref m1)]):=ae;have m1x:m1≠x:=λz=>by rw[z,x6]at hm1;cases hm1
 have j7:upd (upd H6 m1 (.lst (zs.map V.str))) x (.ins Y.m dx [(Str.ofString "name",V.str nm),(Str.ofString "names",V.ref m1)]) m1=some (.lst (zs.map V.str)):=(ar m1x).trans ae;generalize upd (upd H6 m1 (.lst (zs.map V.str))) x (.ins Y.m dx [(Str.ofString "name",V.str nm),(Str.ofString "names",V.ref m1)])=H7 at k7 x7 j7⊢;refine⟨_,U,dl,_,U,.inl (SqL.of (k7 _ _ dlx (s5 _ _ hdl))),λm2 hm2=>⟨_,U,x,_,dx,_,U,jo x7 hm2,bl.k_Table,bl.na_Table_domains,(by show 2<1000;decide),?_⟩⟩;have g8:upd (upd H7 m2 (.lst dv)) x (.ins Y.m dx (bC (Str.ofString "domains") (V.ref m2) [(Str.ofString "name",V.str nm),(Str.ofString "names",V.ref m1)]))=upd (upd H7 m2 (.lst dv)) x (.ins Y.m dx [(Str.ofString "name",V.str nm),(Str.ofString "names",V.ref m1),(Str.ofString "domains",V.ref m2)]):=by rw[pf2]
 rw[g8];clear g8;have k8:∀b o,b≠x->H5 b=some o->upd (upd H7 m2 (.lst dv)) x (.ins Y.m dx [(Str.ofString "name",V.str nm),(Str.ofString "names",V.ref m1),(Str.ofString "domains",V.ref m2)]) b=some o:=λb o hb e=>(ar hb).trans (jo (k7 b o hb e) hm2)
 have x8:upd (upd H7 m2 (.lst dv)) x (.ins Y.m dx [(Str.ofString "name",V.str nm),(Str.ofString "names",V.ref m1),(Str.ofString "domains",V.ref m2)]) x=some (.ins Y.m dx [(Str.ofString "name",V.str nm),(Str.ofString "names",V.ref m1),(Str.ofString "domains",V.ref m2)]):=ae;have m2x:m2≠x:=λz=>by rw[z,x7]at hm2;cases hm2
 have j8:upd (upd H7 m2 (.lst dv)) x (.ins Y.m dx [(Str.ofString "name",V.str nm),(Str.ofString "names",V.ref m1),(Str.ofString "domains",V.ref m2)]) m1=some (.lst (zs.map V.str)):=(ar m1x).trans (jo j7 hm2);have i8:upd (upd H7 m2 (.lst dv)) x (.ins Y.m dx [(Str.ofString "name",V.str nm),(Str.ofString "names",V.ref m1),(Str.ofString "domains",V.ref m2)]) m2=some (.lst dv):=(ar m2x).trans ae;generalize upd (upd H7 m2 (.lst dv)) x (.ins Y.m dx [(Str.ofString "name",V.str nm),(Str.ofString "names",V.ref m1),(Str.ofString "domains",V.ref m2)])=H8 at k8 x8 j8 i8⊢;refine⟨_,U,_,U,x,_,dx,_,U,x8,bl.k_Table,bl.na_Table_outcome,(by show 3<1000;decide),?_⟩;have g9:upd H8 x (.ins Y.m dx (bC (Str.ofString "outcome") (V.ref ou) [(Str.ofString "name",V.str nm),(Str.ofString "names",V.ref m1),(Str.ofString "domains",V.ref m2)]))=upd H8 x (.ins Y.m dx [(Str.ofString "name",V.str nm),(Str.ofString "names",V.ref m1),(Str.ofString "domains",V.ref m2),(Str.ofString "outcome",V.ref ou)]):=by rw[pf3]
 rw[g9];clear g9;have k9:∀b o,b≠x->H5 b=some o->upd H8 x (.ins Y.m dx [(Str.ofString "name",V.str nm),(Str.ofString "names",V.ref m1),(Str.ofString "domains",V.ref m2),(Str.ofString "outcome",V.ref ou)]) b=some o:=λb o hb e=>(ar hb).trans (k8 b o hb e)
 have x9:upd H8 x (.ins Y.m dx [(Str.ofString "name",V.str nm),(Str.ofString "names",V.ref m1),(Str.ofString "domains",V.ref m2),(Str.ofString "outcome",V.ref ou)]) x=some (.ins Y.m dx [(Str.ofString "name",V.str nm),(Str.ofString "names",V.ref m1),(Str.ofString "domains",V.ref m2),(Str.ofString "outcome",V.ref ou)]):=ae;have j9:upd H8 x (.ins Y.m dx [(Str.ofString "name",V.str nm),(Str.ofString "names",V.ref m1),(Str.ofString "domains",V.ref m2),(Str.ofString "outcome",V.ref ou)]) m1=some (.lst (zs.map V.str)):=(ar m1x).trans j8;have i9:upd H8 x (.ins Y.m dx [(Str.ofString "name",V.str nm),(Str.ofString "names",V.ref m1),(Str.ofString "domains",V.ref m2),(Str.ofString "outcome",V.ref ou)]) m2=some (.lst dv):=(ar m2x).trans i8;generalize upd H8 x (.ins Y.m dx [(Str.ofString "name",V.str nm),(Str.ofString "names",V.ref m1),(Str.ofString "domains",V.ref m2),(Str.ofString "outcome",V.ref ou)])=H9 at k9 x9 j9 i9⊢;refine⟨_,U,_,U,x,_,dx,_,U,x9,bl.k_Table,bl.na_Table_way,(by show 4<1000;decide),?_⟩;have g10:upd H9 x (.ins Y.m dx (bC (Str.ofString "way") (V.str wy) [(Str.ofString "name",V.str nm),(Str.ofString "names",V.ref m1),(Str.ofString "domains",V.ref m2),(Str.ofString "outcome",V.ref ou)]))=upd H9 x (.ins Y.m dx [(Str.ofString "name",V.str nm),(Str.ofString "names",V.ref m1),(Str.ofString "domains",V.ref m2),(Str.ofString "outcome",V.ref ou),(Str.ofString "way",V.str wy)]):=by rw[pf4]
 rw[g10];clear g10;have k10:∀b o,b≠x->H5 b=some o->upd H9 x (.ins Y.m dx [(Str.ofString "name",V.str nm),(Str.ofString "names",V.ref m1),(Str.ofString "domains",V.ref m2),(Str.ofString "outcome",V.ref ou),(Str.ofString "way",V.str wy)]) b=some o:=λb o hb e=>(ar hb).trans (k9 b o hb e)
 have x10:upd H9 x (.ins Y.m dx [(Str.ofString "name",V.str nm),(Str.ofString "names",V.ref m1),(Str.ofString "domains",V.ref m2),(Str.ofString "outcome",V.ref ou),(Str.ofString "way",V.str wy)]) x=some (.ins Y.m dx [(Str.ofString "name",V.str nm),(Str.ofString "names",V.ref m1),(Str.ofString "domains",V.ref m2),(Str.ofString "outcome",V.ref ou),(Str.ofString "way",V.str wy)]):=ae;have j10:upd H9 x (.ins Y.m dx [(Str.ofString "name",V.str nm),(Str.ofString "names",V.ref m1),(Str.ofString "domains",V.ref m2),(Str.ofString "outcome",V.ref ou),(Str.ofString "way",V.str wy)]) m1=some (.lst (zs.map V.str)):=(ar m1x).trans j9;have i10:upd H9 x (.ins Y.m dx [(Str.ofString "name",V.str nm),(Str.ofString "names",V.ref m1),(Str.ofString "domains",V.ref m2),(Str.ofString "outcome",V.ref ou),(Str.ofString "way",V.str wy)]) m2=some (.lst dv):=(ar m2x).trans i9;generalize upd H9 x (.ins Y.m dx [(Str.ofString "name",V.str nm),(Str.ofString "names",V.ref m1),(Str.ofString "domains",V.ref m2),(Str.ofString "outcome",V.ref ou),(Str.ofString "way",V.str wy)])=H10 at k10 x10 j10 i10⊢;have R10:RL NT H10 rx rws:=RL.same R5 (kG k10);have yt:=k10 _ _ rlx (s5 _ _ hrl)
 refine⟨_,U,rl,U,⟨_,SqL.of yt⟩,dY (xs:=rx) (λD i zs H'=>ao H10 H'/\H' D=some (.lst zs)/\RL (Fr H10 D) H' zs (rws.take i))
  (λD hD=>⟨ah hD _,ae,az.nil⟩) (λD i zs H' hD _ h=>SqL.of (h.1 _ _ yt)) (λD i y zs H' hD e h ts hts=>?_) (λD zs H' hD h=>?_)⟩
 ·obtain⟨sm,eD,hz⟩:=h;obtain⟨r,w_,rfl,ew,ce,cv,g1,_,g2,g3⟩:=az.get (R10.same sm) e;have hi:i<rx.length:=(EW.mp e).1;obtain⟨t0,t1,rfl⟩:∃t0 t1,ts=[t0,t1]:=by
   match ts,hts with
   | [t0,t1],_=>exact⟨t0,t1,U⟩
  refine⟨r,_,U,SqT.of g1,U,_,_,U,_,_,U,U,⟨[some (.ref ce),some (.int w_.2)],U,U⟩,?_⟩;refine⟨_,U,_,U,ce,cv,w_,U,g2,g3,by rw[(hok w_ (EY ew)).len];lia,λr2 H2 t2 hr2 wR=>?_⟩;have eD2:=t2 _ _ eD;have hlz:zs.length<=200:=by
   have:=hz.1;rw[length_take]at this;lia
  refine bT.mk hi eD2 (aC (by lia)) ⟨(sm.trans t2).upd hD,ae,?_⟩;rw[take_snoc ew];exact RL.updN (az.snoc (hz.same t2) (wR.wk λa h=>⟨sm.free h,λz=>by rw[z,eD]at h;cases h⟩)) Fr.out eD2
 ·obtain⟨sm,eD,hz⟩:=h;rw[hR.1,take_length]at hz;refine⟨_,U,x,_,dx,_,U,sm _ _ x10,bl.k_Table,bl.na_Table_rows,(by show 5<1000;decide),?_⟩;have g11:upd H' x (.ins Y.m dx (bC (Str.ofString "rows") (V.ref D) [(Str.ofString "name",V.str nm),(Str.ofString "names",V.ref m1),(Str.ofString "domains",V.ref m2),(Str.ofString "outcome",V.ref ou),(Str.ofString "way",V.str wy)]))=upd H' x (.ins Y.m dx [(Str.ofString "name",V.str nm),(Str.ofString "names",V.ref m1),(Str.ofString "domains",V.ref m2),(Str.ofString "outcome",V.ref ou),(Str.ofString "way",V.str wy),(Str.ofString "rows",V.ref D)]):=by rw[pf5]
  rw[g11];have nDx:D≠x:=λz=>by rw[z,x10]at hD;cases hD
  refine q _ _ D zs (λb o hb e=>(ar hb).trans (sm _ _ (k10 b o hb (s5 _ _ e)))) ae U U U U ⟨m1,m2,s5.free (iM k6 x6 hm1),s5.free (iM k7 x7 hm2),U,U,(ar m1x).trans (sm _ _ j10),(ar m2x).trans (sm _ _ i10)⟩ (s5.free (iM k10 x10 hD)) ((ar nDx).trans eD) ?_;exact RL.same (RL.hideN (sm _ _ x10) (az.mono hz λ_ _ p=>p.wk λa h=>s5.free (iM k10 x10 h.1))) (kG λb o hb e=>(ar hb).trans e)
theorem DO(F:Fun K "steps" "steps" Y83 f fd) (bl:Bl K mg Y)(ng:Callee P w K mg base 6 "judged_step" ["table","columns"] (fg K Y)):aN P w K mg base CX0 7 f fd ["tables","codes"] (kc K Y):=by
 refine F.okA Z83 λcdv A outer s H vs Q E hr h=>?_
 obtain⟨tl_,d,tv,zs,ds,ts,fN,cd,od,kvs,rfl,hd,etl,htv,ok,htd,DP,hk7,hkn,hF,hin,q⟩:=h
 refine⟨_,(av (aK (i:=2) Z83.nd U (Or.inr U) (bx (jn U) U bl.dict_ PyProof.Rows.boot_dict (aa (fX (wm (pv 1)) (cZ (N:=["fact","code"]) (k:=2) U U (by decide+kernel) (by decide+kernel) (by decide+kernel)) U (λ_ _ _ _=>(nJ (K:=K) (n:=2) U U (aJ (aD (i:=0) (show(["fact","code"]:List Str).Nodup by decide+kernel) U (Or.inl U) (Or.inr U)) (aJ (aD (i:=1) (show(["fact","code"]:List Str).Nodup by decide+kernel) U (Or.inl U) (Or.inr U)) bJ)))) (λ_ _ _ _=>aV) (λ_ _ _ _=>(aZ (aa (pv 0) (aa (aZ (aa aS (aa (pv 1) af))) af))))) af)))
  (av (aK (i:=3) Z83.nd U (Or.inl U) (bz af))
  (av (bf PassesOwn.never U (aO (pv 0)) (aD (i:=4) Z83.nd U (Or.inl U))
  (av (aK (i:=5) Z83.nd U (Or.inl U) (aR ng hr U (aa (pv 4) (aa (bF (aO (aY (pv 4) U)) (aU (N:=["column","told"]) (fr:=[2]) (cl:=[("told",s.heap.objs.size+1)]) U U (by decide+kernel) (by decide+kernel) U (by decide+kernel) U U U (forall_mem_cons.mpr ⟨U,forall_mem_nil _⟩) U) U (λ_ _ _ _=>aV) (λ_ _ _ _=>(aF ml (pv 1) (pv 0) (λ_ _=>U)))) af))))
  (ay (oQ hr (pv 2) (aY (pv 4) U) (aF aW (pv 5) ai (λ_ _=>U)) U)
  (ag (aT (d9 PySem.F.plainAttrs_list PySem.F.slot_list_append PySem.F.type_list_append bS (pv 3) (aa (pv 5) af)))))))
  (ag (aG (pv 3)))))),?_⟩
 have h7:=ok.n7;have hl1:=ok.len;have hl2:=ok.tab;have hod:=htd.len;have qH:∀(k:Nat)(t:PT),ts[k]?=some t->∀c∈t.cols,c<fN+k:=λk t et c hc=>(ok.tabs k t et).ok.lt c hc
 refine⟨λσ' H'=>ao (hide H d) H'/\∃(dt:Addr)(kv:List (Key×V)),hide H d dt=none/\H' dt=some (.dK kv)/\kv.length<=7/\TIv K H' zs ds ts fN cd kv (λc=>c<fN/\∀z,zs[c]?=some z->z∈kvs.map (·.1))/\σ'=[some (.ref tl_),some (.ref d),some (.ref dt),none,none,none],?_,?_⟩
 ·refine⟨_,U,d,kvT kvs,U,hd,λo=>?_⟩;have s0:ao (hide H d) (upd H d (.frz o (.dK (kvT kvs)))):=kG λb u hb e=>(ar hb).trans e
  have e0:upd H d (.frz o (.dK (kvT kvs))) d=some (.frz o (.dK (kvT kvs))):=ae;generalize upd H d (.frz o (.dK (kvT kvs)))=H1 at s0 e0⊢;have hkl:(kvT kvs).length=kvs.length:=by unfold kvT;exact length_map _
  refine qr (kvs:=kvT kvs) (λD i ys H'=>ao H1 H'/\H' D=some (.lst ys)/\∃ks:List (Str×V),TdA H' ys ks (kvs.take i)) (λD hD=>⟨ah hD _,ae,[],⟨U,U,λj p e=>by simp at e⟩⟩) (λD i ys H' hD _ h=>h.1 _ _ e0) (λD i kv ys H' T hD ekv h hT ts' hts=>?_) (λD ys H' hD h=>?_)
  ·obtain⟨sm,eD,ks,hks⟩:=h;obtain⟨pz,epz,rfl⟩:=oP ekv;obtain⟨z,v⟩:=pz;obtain⟨f,hf,ef,ev⟩:=hF _ (EY epz);have ev:v=.int (cd.getD f 0):=ev;subst ev;have hi:i<(kvT kvs).length:=(EW.mp ekv).1;obtain⟨t0,t1,rfl⟩:∃t0 t1,ts'=[t0,t1]:=by
    match ts',hts with
    | [t0,t1],_=>exact⟨t0,t1,U⟩
   have u1:=ah hT (.tup [kV (Sum.inr z),.int (cd.getD f 0)]);have eT:upd H' T (.tup [kV (Sum.inr z),.int (cd.getD f 0)]) T=some (.tup [.str z,.int (cd.getD f 0)]):=ae;generalize upd H' T (.tup [kV (Sum.inr z),.int (cd.getD f 0)])=H2 at u1 eT⊢;refine⟨T,_,U,SqT.of eT,U,_,_,U,_,_,U,U,⟨[some (.str z),some (.int (cd.getD f 0))],U,U⟩,?_⟩;refine⟨_,U,_,U,bp,λS hS=>⟨bp,λT2 hT2=>?_⟩⟩;have u2:=ah hS (.tup [.str (Str.ofString "say"),.int (cd.getD f 0)]);have eS:upd H2 S (.tup [.str (Str.ofString "say"),.int (cd.getD f 0)]) S=some (.tup (tp (say (cd.getD f 0)))):=ae;generalize upd H2 S (.tup [.str (Str.ofString "say"),.int (cd.getD f 0)])=H3 at u2 eS hT2⊢;have u3:=ah hT2 (.tup [.str z,.ref S]);have eT2:upd H3 T2 (.tup [.str z,.ref S]) T2=some (.tup [.str z,.ref S]):=ae;generalize upd H3 T2 (.tup [.str z,.ref S])=H4 at u3 eT2⊢;have u13:=(u1.trans u2).trans u3;have eD4:=u13 _ _ eD;have hyl:ys.length<=7:=by
    have h1:=congrArg List.length hks.keys;rw[length_map,length_map,length_take]at h1;rw[hks.len];lia
   refine bT.mk hi eD4 (aC (by lia)) ⟨(sm.trans u13).upd hD,ae,ks++[(z,.ref S)],?_⟩;rw[take_snoc epz];exact((hks.tups u13.tups).snoc eT2 (u3 _ _ eS)).tups (om eD4)
  ·obtain⟨sm,eD,ks,hks⟩:=h;rw[hkl,take_length]at hks;have Bv:ks.length=kvs.length:=by have:=congrArg List.length hks.keys;simpa using this
   refine⟨D,ys,ks,U,eD,hks.len,λj p_ ep=>?_,by rw[hks.keys];exact hkn,λdt hdt=>?_⟩
   ·obtain⟨T,S,c,h1,h2,h3,_⟩:=hks.at_ j p_ ep;exact⟨T,h1,by rw[h3];exact h2⟩
   ·have u:=ah hdt (.dK (kvT ks));refine⟨(s0.trans sm).trans u,dt,kvT ks,(s0.trans sm).free hdt,ae,by unfold kvT;rw[length_map];lia,(hks.tups u.tups).tiv ok.nd hkn hF,U⟩
 rintro σ1 H1 ⟨s1,dt,kv0,ndt,edt,ER,DQ,rfl⟩;refine⟨λσ' H'=>ao H1 H'/\∃tk:Addr,H1 tk=none/\H' tk=some (.lst [])/\σ'=[some (.ref tl_),some (.ref d),some (.ref dt),some (.ref tk),none,none],⟨zero_le _,λl hl=>⟨ah hl _,l,hl,ae,U⟩⟩,?_⟩;rintro σ2 H2 ⟨s2,tk,ntk,etk,rfl⟩;have s12:=s1.trans s2;have DR:=s1.free ntk;have DS:=s2 _ _ edt;have ndk:dt≠tk:=λz=>by rw[z,ntk]at edt;cases edt
 refine⟨λσ' H'=>ao (hide H d) H'/\∃xs:List V,H' tk=some (.lst xs)/\az xs od (StK NT K H' zs ds ts fN cd)/\∃c4 c5:Option V,σ'=[some (.ref tl_),some (.ref d),some (.ref dt),some (.ref tk),c4,c5],?_,?_⟩
 ·refine⟨_,U,tl_,U,⟨_,SqL.of (s12 _ _ etl)⟩,bg (xs:=tv) (λi σ H'=>ao (hide H d) H'/\∃(kv:List (Key×V))(xs:List V),H' dt=some (.dK kv)/\kv.length<=7+i/\TIv K H' zs ds ts fN cd kv (λc=>(c<fN/\∀z,zs[c]?=some z->z∈kvs.map (·.1))\/(fN<=c/\c-fN∈od.take i))/\H' tk=some (.lst xs)/\az xs (od.take i) (StK (λx=>x≠tk) K H' zs ds ts fN cd)/\∃c4 c5:Option V,σ=[some (.ref tl_),some (.ref d),some (.ref dt),some (.ref tk),c4,c5]) ⟨s12,kv0,[],DS,by lia,(λc z e p=>(DQ.same s2) c z e (by rcases p with p|⟨_,p⟩;exact p;cases p)),etk,az.nil,_,_,U⟩ (λi σ H' _ h=>SqL.of (h.1 _ _ etl)) (λi y σ H' e h=>?_) (λσ H' h=>?_)⟩
  ·obtain⟨sm,kv,xs,edk,hkl,hti,exk,hxs,c4,c5,rfl⟩:=h;obtain⟨a,j,rfl,ej,hT⟩:=az.get htv e;have hi:i<od.length:=(EW.mp ej).1;have hjt:=htd.lt j (EY ej);have hT':=hT.same sm;obtain⟨t,nm,p,ou,dv,et,enm,ep,g4,g5,g6⟩:=id hT';obtain⟨rl,dx,na,dl,fs,xs2,ht,f1,f2,f3,f4,f5,f6,ena,edl,erl,hR,iT⟩:=g4;have tok:=ok.tabs j t et;have pok:=ok.doms p (EY ep);have hc3:t.cols.length<=3:=tok.ok.few;have hlt:∀k∈t.cols,k<zs.length:=λk hk=>by
    have:=tok.ok.lt k hk;lia
   obtain⟨hpl,hpg⟩:=bZ hlt;refine⟨λσ' H''=>ao H' H''/\∃r:Addr,StA (λx=>H' x=none) K H'' r nm t p (t.cols.map (cvo ts ds fN cd))/\σ'=[some (.ref tl_),some (.ref d),some (.ref dt),some (.ref tk),some (.ref a),some (.ref r)],?_,?_⟩
   ·refine⟨_,U,_,U,a,_,_,_,_,U,ht,bl.k_Table,bl.na_Table_names,f5,na,U,⟨_,SqL.of ena⟩,bh (xs:=(prm t.cols zs).map V.str) (λD m ys H''=>ao H' H''/\H'' D=some (.lst ys)/\az ys ((t.cols.take m).map (cvo ts ds fN cd)) (λr v=>SqT K H' r (tp v))) (λD hD=>⟨ah hD _,ae,az.nil⟩) (λD m ys H'' hD _ h=>SqL.of (h.1 _ _ ena)) (λD m y ys H'' hD e h=>?_) (λD ys H'' hD h=>?_)⟩
    ·obtain⟨sn,eD,hy⟩:=h;obtain⟨z,rfl,ez⟩:=dq e;have hm:m<((prm t.cols zs).map V.str).length:=(EW.mp e).1;have hm2:m<t.cols.length:=by rw[length_map,hpl]at hm;exact hm
     have ecm:=EV hm2;generalize t.cols[m]=c at ecm;have ezc:zs[c]?=some z:=by rw[←hpg m c ecm];exact ez
     have hcm:=EY ecm;obtain⟨rr,DT,hrr⟩:=hti c z ezc (by
      by_cases hcf:c<fN
      ·exact .inl ⟨hcf,λz' ez'=>hin j (EY ej) t et c hcm hcf z' ez'⟩
      ·refine .inr ⟨by lia,DP i j ej (c-fN) ?_⟩;unfold akT;rw[et];exact mem_map.mpr ⟨c,mem_filter.mpr ⟨hcm,decide_eq_true (by lia)⟩,U⟩)
     have hyl:ys.length<=3:=by
      have h1:=hy.1;rw[length_map,length_take]at h1;lia
     refine⟨_,U,_,U,dt,kv,z,.ref rr,U,U,sn _ _ edk,DT,bT.mk hm eD (aC (by lia)) ⟨sn.upd hD,ae,?_⟩⟩;rw[take_snoc ecm,map_append];exact az.snoc hy hrr
    ·obtain⟨sn,eD,hy⟩:=h;rw[length_map,hpl,take_length]at hy;exact⟨a,D,j,zs,ds,ts,fN,ys,_,t,p,nm,U,hT'.same sn,et,enm,ep,tok,pok,SqL.of eD,az.mono hy (λ_ _ h=>sn.seqT h),length_map _,λr H3 s3 hr3=>⟨sn.trans s3,r,hr3.wk (λx hx=>sn.free hx),U⟩⟩
   rintro σ3 H3 ⟨s3,r,hr3,rfl⟩;obtain⟨cv,mm,r3,er,DU,EB⟩:=id hr3;have zW:=s3 _ _ edk;have DV:=s3 _ _ exk;have ekn:dt≠tk:=ndk;refine⟨_,U,r,_,_,_,U,U,SqT.of er,U,_,U,_,U,a,_,_,_,_,U,s3 _ _ ht,bl.k_Table,bl.na_Table_name,f2,dt,kv,nm,U,U,zW,lt_of_le_of_lt hkl (lt_of_le_of_lt (show 7+i<=100 by lia) (by decide)),?_⟩;have e4k:upd H3 dt (.dK (putK kv (Sum.inr nm) (.ref r3))) tk=some (.lst xs):=(ar ndk.symm).trans DV;refine⟨_,U,.inl ⟨U,_,SqL.of e4k⟩,_,U,tk,_,_,U,U,e4k,aC (by have:=hxs.1;rw[length_take]at this;lia),?_⟩;have DW:TIv K H3 zs ds ts fN cd (putK kv (Sum.inr nm) (.ref r3)) (λc=>(c<fN/\∀z,zs[c]?=some z->z∈kvs.map (·.1))\/(fN<=c/\c-fN∈od.take (i+1))):=by
    refine(hti.same s3).put ok.nd (c0:=fN+j) enm ?_ λc hc=>?_
    ·unfold cvo;rw[if_neg (by lia),show fN+j-fN=j by lia,tZ qH et ep];exact DU
    ·rcases hc with hc|⟨h1,h2⟩
     ·exact .inr (.inl hc)
     ·rw[take_snoc ej]at h2;rcases mem_append.mp h2 with h2|h2
      ·exact .inr (.inr ⟨h1,h2⟩)
      ·have:=mem_singleton.mp h2;exact .inl (by lia)
   have hx3:az xs (od.take i) (StK (λx=>x≠tk) K H3 zs ds ts fN cd):=az.mono hxs λ_ _ p=>p.same s3
   have jZ:StK (λx=>x≠tk) K H3 zs ds ts fN cd r j:=⟨t,p,nm,et,ep,enm,hr3.wk λx hx z=>by rw[z,exk]at hx;cases hx⟩;refine⟨((sm.trans s3).upd ndt).upd DR,putK kv (Sum.inr nm) (.ref r3),xs++[.ref r],(ar ndk).trans ae,?_,(DW.updX zW (λ_ z=>by cases z) (λ_ _ z=>by cases z)).updX e4k (λ_ z=>by cases z) (λ_ _ z=>by cases z),ae,?_,_,_,U⟩
   ·have:=fA kv (Sum.inr nm:Key) (.ref r3);lia
   ·rw[take_snoc ej];exact az.mono (az.mono (az.snoc hx3 jZ) λ_ _ p=>p.updD zW) λ_ _ p=>p.updL e4k (λz=>z U)
  ·obtain⟨sm,kv,xs,edk,hkl,hti,exk,hxs,c4,c5,rfl⟩:=h;rw[htv.1,take_length]at hxs;exact⟨sm,xs,exk,az.mono hxs λ_ _ p=>p.wk λ_ _=>trivial,c4,c5,U⟩
 rintro σ3 H3 ⟨s3,xs,exk,hxs,c4,c5,rfl⟩;exact⟨_,U,q tk xs H3 s3 exk hxs⟩
theorem DX(F:Fun K "last_verdict" "last_verdict" Y50 f fd) (bl:Bl K mg Y)(pF:Callee P w K mg base 7 "steps" ["tables","codes"] (kc K Y)):aN P w K mg base CX0 8 f fd ["tables","facts","codes"] (eG K Y):=by
 refine F.okA Z50 λcdv A outer s H vs Q E hr h=>?_
 obtain⟨tl_,fa,ca,tv,zs,ds,ts,fN,k,cd,js,rfl,etl,htv,ok,hk,efa,eca,hpw,lu,q⟩:=h;refine⟨_,(ag (aG (aF aW (aF aL (aR pF hr U (aa (pv 0) (aa (rW U U bl.dict_ U bl.zip_ (aa (pv 1) (aa (pv 2) af))) af))) (xY vp ai) (λ_ _=>U)) ai (λ_ _=>U)))),?_⟩;have hak:=iq ok;have h7:=ok.n7;have hl2:=ok.tab;have qH:∀(k:Nat)(t:PT),ts[k]?=some t->∀c∈t.cols,c<fN+k:=λk t et c hc=>(ok.tabs k t et).ok.lt c hc
 obtain⟨hnl,hnj⟩:=Bc ok hpw lu;have hnd:((zs.take fN).filter (cy ts zs fN k)).Nodup:=(ok.nd.sublist (take_sublist _ _)).sublist filter_sublist;have hfl:=length_filter_le (cy ts zs fN k) (zs.take fN);rw[length_take]at hfl;refine⟨_,U,_,U,_,U,fa,ca,_,_,U,SqL.of efa,SqL.of eca,by rw[length_map,length_map,hnl],hnd,λD hD=>?_⟩;have sD:ao H (hide (upd H D (.dK (kvT (((zs.take fN).filter (cy ts zs fN k)).zip ((js.map λf=>cd.getD f 0).map V.int))))) D):=kI (ah hD _) hD;have hkk:(((zs.take fN).filter (cy ts zs fN k)).zip ((js.map λf=>cd.getD f 0).map V.int)).map (·.1)=(zs.take fN).filter (cy ts zs fN k):=List.map_fst_zip (by rw[length_map,length_map,hnl];exact le_refl _);refine⟨tl_,D,tv,zs,ds,ts,fN,cd,odr (akT ts fN) k [],_,U,ae,sD _ _ etl,az.mono htv (λ_ _ p=>p.same sD),ok,Tld.odr hak Tld.nil hk,(ua hak k [] ub).1,?_,by rw[hkk];exact hnd,λp hp=>?_,λj hj t et c hc hcf z ez=>?_,λl xs H' s' el hxs=>?_⟩
 ·rw[length_zip];lia
 ·obtain⟨i,ei⟩:=getElem?_of_mem hp;rw[List.getElem?_zip_eq_some]at ei;obtain⟨e1,e2⟩:=ei;obtain⟨f,ef,ez⟩:=hnj i p.1 e1;rw[getElem?_map,getElem?_map,ef]at e2;exact⟨f,((lu f).mp (EY ef)).lt,ez,(Option.some.inj e2).symm⟩
 ·rw[hkk];refine mem_filter.mpr ⟨EY (i:=c) (by rw[getElem?_take,if_pos hcf];exact ez),?_⟩;unfold cy;rw[any_eq_true];refine⟨j,hj,?_⟩;unfold nmT;rw[et];have tok:=(ok.tabs j t et).ok;obtain⟨m,em⟩:=getElem?_of_mem hc;have hlt:∀k∈t.cols,k<zs.length:=λk hk=>by
   have:=tok.lt k hk;have:=(EW.mp et).1;have:=ok.len;lia
  have:=(bZ hlt).2 m c em;rw[ez]at this;simpa using EY this
 obtain⟨od,hod⟩:=ue hak k;rw[hod]at hxs;obtain⟨rp,ix,t,p,nm',et,ep,DY,cv',m',r3,erp,hr3,_⟩:=oy hxs;rw[←tZ qH et ep]at hr3;exact⟨_,U,l,_,_,_,U,U,SqL.of el,ix,rp,_,_,_,U,U,SqT.of erp,U,q r3 H' (sD.trans s') hr3⟩
theorem DZ(F:Fun K "_law_table" "_law_table" Y66 f fd) (bl:Bl K mg Y)(k_Table:bA CX0 P w K mg base 6 "Table" Y.m ["self","name","names","domains","outcome","way","rows"] (cq K Y)) (fE:Callee P w K mg base 7 "_law_made" ["domain"] (fD K Y)):aN P w K mg base CX0 8 f fd ["plan","k"] (gB K Y):=by
 refine F.okA Z66 λcdv A outer s H vs Q E hr h=>?_
 obtain⟨r,k,zs,ds,ts,fN,t,nm,po,rfl,hPl,ok,et,enm,epo,q⟩:=h
 refine⟨_,(av (gY (pv 0) (dh U (aJ (aD (i:=2) Z66.nd U (Or.inr U)) (aJ (aD (i:=3) Z66.nd U (Or.inr U)) (aJ (aD (i:=4) Z66.nd U (Or.inl U)) bJ)))))
  (av (aK (i:=5) Z66.nd U (Or.inl U) (aE bG (aE ck (au aq U bl.len_ boot_len (aa (pv 2) af)) (au aq U bl.len_ boot_len (aa (pv 4) af))) (pv 1)))
  (av (aK (i:=6) Z66.nd U (Or.inl U) (aF aW (aF aL (pv 4) (pv 1) (λ_ _=>U)) ai (λ_ _=>U)))
  (av (qp (i:=7) Z66.nd U (Or.inl U) (aO (aF aW (aF aL (pv 4) (pv 1) (λ_ _=>U)) ai (λ_ _=>U))) (cZ (N:=["row"]) (k:=1) U U (by decide+kernel) (by decide+kernel) (by decide+kernel)) U (λ_ C1 _ _=>(aD (i:=0) (show(["row"]:List Str).Nodup by decide+kernel) U (Or.inl U) (Or.inr U))) (λ_ C1 _ _=>aV) (λ_ C1 _ _=>(aZ (aa (fX (vZ (K:=K) U (aF (dM (K:=K) U) (pv 0) ai (λ_ _=>U))) (cZ (N:=["spans"]) (k:=1) U U (by decide+kernel) (by decide+kernel) (by decide+kernel)) U (λ_ C2 _ _=>(aD (i:=0) (show(["spans"]:List Str).Nodup by decide+kernel) U (Or.inl U) (Or.inr U))) (λ_ C2 _ _=>aV) (λ_ C2 _ _=>(bx (je (K:=K) U) U bl.list_ PyProof.Rows.boot_list (aa (pv 0) af)))) (aa (aF (dM (K:=K) U) (pv 0) ai (λ_ _=>U)) af)))))
  (av (d8 (i:=8) Z66.nd U (Or.inl U) (aO (pv 6)) (aU (N:=["j","names"]) (fr:=[2]) (cl:=[("names",s.heap.objs.size+1)]) U U (by decide+kernel) (by decide+kernel) U (by decide+kernel) U U U (forall_mem_cons.mpr ⟨U,forall_mem_nil _⟩) U) U (λ_ _ _ _=>aV) (λ_ _ _ _=>(aF (cQ (K:=K) U) (pv 1) (pv 0) (λ_ _=>U))))
  (av (d8 (i:=9) Z66.nd U (Or.inl U) (aO (pv 6)) (aU (N:=["j","domains"]) (fr:=[3]) (cl:=[("domains",s.heap.objs.size+1+1)]) U U (by decide+kernel) (by decide+kernel) U (by decide+kernel) U U U (forall_mem_cons.mpr ⟨U,forall_mem_nil _⟩) U) U (λ_ _ _ _=>aV) (λ_ _ _ _=>(aR fE hr U (aa (aF (cQ (K:=K) U) (pv 1) (pv 0) (λ_ _=>U)) af))))
  (ag (aG (tu k_Table bN hr U (aa (aF aL (pv 2) (pv 5) (λ_ _=>U)) (aa (pv 8) (aa (pv 9) (aa (aR fE hr U (aa (aF aL (pv 3) (pv 5) (λ_ _=>U)) af)) (aa (aF aW (aF aL (pv 4) (pv 1) (λ_ _=>U)) ai (λ_ _=>U)) (aa (pv 7) af))))))))))))))),?_⟩
 obtain⟨nl,dl,tl_,dv,tv,er,enl,edl,hdv,etl,htv⟩:=id hPl;obtain⟨ta,eta,cl,rl,rx,g1,g2,g3,g4⟩:=htv.2 k t et;have hzl:(zs.map V.str).length=zs.length:=length_map _;have hl1:=ok.len;have hl2:=ok.tab;have htl:tv.length=ts.length:=htv.1;have h7:=ok.n7;have tok:=ok.tabs k t et;have hlt:=ok.lt et;have ES:=ok.own et;have hc3:t.cols.length<=3:=tok.ok.few;have hc1:1<=t.cols.length:=tok.ok.some_;have yu:=tok.few;have hvl:(vN t.cols).length=t.cols.length:=cC _;refine⟨λσ' H'=>H'=H/\σ'=[some (.ref r),some (.int (k:Int)),some (.ref nl),some (.ref dl),some (.ref tl_),none,none,none,none,none],⟨_,U,r,_,U,SqT.of er,U,_,_,U,_,_,U,_,_,U,U,U,U⟩,?_⟩;rintro σ1 H1 ⟨rfl,rfl⟩;refine⟨λσ' H'=>H'=H1/\σ'=[some (.ref r),some (.int (k:Int)),some (.ref nl),some (.ref dl),some (.ref tl_),some (.int ((fN+k:Nat):Int)),none,none,none,none],⟨_,U,nl,_,U,.inl (SqL.of enl),_,U,tl_,_,U,.inl (SqL.of etl),_,_,U,U,_,U,_,_,U,U,U,?_⟩,?_⟩
 ·rw[show((fN+k:Nat):Int)=(((zs.map V.str).length:Nat):Int)-((tv.length:Nat):Int)+(k:Int) by lia];rfl
 rintro σ2 H2 ⟨rfl,rfl⟩;refine⟨λσ' H'=>H'=H2/\σ'=[some (.ref r),some (.int (k:Int)),some (.ref nl),some (.ref dl),some (.ref tl_),some (.int ((fN+k:Nat):Int)),some (.ref cl),none,none,none],⟨_,U,_,U,tl_,_,_,_,U,U,SqL.of etl,aM eta,ta,_,_,_,U,U,SqT.of g1,U,U,U⟩,?_⟩;rintro σ3 H3 ⟨rfl,rfl⟩;refine⟨λσ' H'=>ao H3 H'/\∃(ro:Addr)(zx:List V),H' ro=some (.lst zx)/\RL NT H' zx t.rows/\σ'=[some (.ref r),some (.int (k:Int)),some (.ref nl),some (.ref dl),some (.ref tl_),some (.int ((fN+k:Nat):Int)),some (.ref cl),some (.ref ro),none,none],?_,?_⟩
 ·refine⟨_,U,_,U,tl_,_,_,_,U,U,SqL.of etl,aM eta,ta,_,_,_,U,U,SqT.of g1,U,rl,U,⟨_,SqL.of g3⟩,dY (xs:=rx) (λD i ys H'=>ao H3 H'/\H' D=some (.lst ys)/\RL NT (hide H' D) ys (t.rows.take i)) (λD hD=>⟨ah hD _,ae,az.nil⟩) (λD i ys H' hD _ h=>SqL.of (h.1 _ _ g3)) (λD i y ys H' hD e h ts_ hts=>?_) (λD ys H' hD h=>?_)⟩
  ·obtain⟨sm,eD,hz⟩:=h;obtain⟨r0,w,rfl,ew,ce,cs,f1,_,f2,f3⟩:=az.get g4 e;have hi:i<rx.length:=(EW.mp e).1;have hrl:rx.length=t.rows.length:=g4.1;obtain⟨u0,rfl⟩:∃u0,ts_=[u0]:=by
    match ts_,hts with
    | [u0],_=>exact⟨u0,U⟩
   have fit:=tok.rows w (EY ew);have zX:cs.length=w.1.length:=f3.1;have hwl:=fit.len;refine⟨⟨[some (.ref r0)],U,U⟩,?_⟩;refine⟨_,U,r0,_,_,_,U,U,SqT.of (sm _ _ f1),U,ce,U,⟨_,SqL.of (sm _ _ f2)⟩,dY (xs:=cs) (λD2 j ws H4=>ao H' H4/\H4 D2=some (.lst ws)/\CL (Fr H' D2) H4 ws (w.1.take j)) (λD2 hD2=>⟨ah hD2 _,ae,az.nil⟩) (λD2 j ws H4 hD2 _ h=>SqL.of (h.1 _ _ (sm _ _ f2))) (λD2 j y2 ws H4 hD2 e2 h ts2 D1=>?_) (λD2 ws H4 hD2 h=>?_)⟩
   ·obtain⟨s4,eD2,hw⟩:=h;obtain⟨l,ps,rfl,eps,_,yl,el,hpl⟩:=az.get f3 e2;have hj:j<cs.length:=(EW.mp e2).1;obtain⟨v0,rfl⟩:∃v0,ts2=[v0]:=by
     match ts2,D1 with
     | [v0],_=>exact⟨v0,U⟩
    have sA:=sm.trans s4;refine⟨⟨[some (.ref l)],U,U⟩,_,U,l,_,U,.inl (SqL.of (sA _ _ el)),λp hp=>?_⟩;have u1:=ah hp (.lst yl);have ep:upd H4 p (.lst yl) p=some (.lst yl):=ae;have nD2:p≠D2:=λz=>by rw[z,eD2]at hp;cases hp
    have hp':H' p=none:=s4.free hp;generalize upd H4 p (.lst yl)=H5 at u1 ep⊢;have eD5:=u1 _ _ eD2;have hw2:CL (Fr H' D2) H5 (ws++[.ref p]) (w.1.take j++[ps]):=az.snoc (hw.same u1) ⟨⟨hp',nD2⟩,yl,ep,hpl.mono (sA.trans u1).tups⟩;refine bT.mk hj eD5 (aC (by have:=hw.1;rw[length_take]at this;lia)) ⟨(s4.trans u1).upd hD2,ae,?_⟩;rw[take_snoc eps];exact hw2.updN Fr.out eD5
   ·obtain⟨s4,eD2,hw⟩:=h;rw[zX,take_length]at hw;have nD2:D2≠D:=λz=>by rw[z,eD]at hD2;cases hD2
    refine⟨_,U,r0,_,_,_,U,U,SqT.of ((sm.trans s4) _ _ f1),U,bp,λtt_ htt=>?_⟩;have u5:=ah htt (.tup [.ref D2,.int w.2]);have eT:upd H4 tt_ (.tup [.ref D2,.int w.2]) tt_=some (.tup [.ref D2,.int w.2]):=ae;generalize upd H4 tt_ (.tup [.ref D2,.int w.2])=H5 at u5 eT⊢;have uA:=s4.trans u5;have eD5:=uA _ _ eD;have wR:fY NT (hide H5 D) tt_ w:=⟨D2,ws,oj eD5 _ _ eT,trivial,de (u5 _ _ eD2) nD2,az.mono (hw.same u5) λl ps ⟨⟨n1,_⟩,yl,el,hpl⟩=>⟨trivial,yl,de el (λz=>by rw[z,eD]at n1;cases n1),hpl.mono (oj eD5)⟩⟩;refine bT.mk hi eD5 (aC (by have:=hz.1;rw[length_take]at this;lia)) ⟨(sm.trans uA).upd hD,ae,?_⟩;rw[qw,take_snoc ew];exact az.snoc (az.mono hz λ_ _ p=>p.same (n8 uA)) wR
  ·obtain⟨sm,eD,hz⟩:=h;rw[g4.1,take_length]at hz;exact⟨sm,D,ys,eD,az.mono hz (λ_ _ p=>p.same (lC H' D)),U⟩
 rintro σ4 H4 ⟨s4,ro,zx,ero,hro,rfl⟩;refine⟨λσ' H'=>ao H4 H'/\∃ha:Addr,H' ha=some (.lst ((prm t.cols zs).map V.str))/\σ'=[some (.ref r),some (.int (k:Int)),some (.ref nl),some (.ref dl),some (.ref tl_),some (.int ((fN+k:Nat):Int)),some (.ref cl),some (.ref ro),some (.ref ha),none],?_,?_⟩
 ·refine⟨_,U,cl,U,⟨_,SqL.of (s4 _ _ g2)⟩,bh (xs:=vN t.cols) (λD i ys H'=>ao H4 H'/\H' D=some (.lst ys)/\ys=(prm (t.cols.take i) zs).map V.str) (λD hD=>⟨ah hD _,ae,U⟩) (λD i ys H' hD _ h=>SqL.of (h.1 _ _ (s4 _ _ g2))) (λD i y ys H' hD e h=>?_) (λD ys H' hD h=>?_)⟩
  ·obtain⟨sm,eD,rfl⟩:=h;obtain⟨j,rfl,ej⟩:=mz e;have hj:=hlt j (EY ej);have ez:=EV (l:=zs) (i:=j) (by lia);have hi:i<(vN t.cols).length:=(EW.mp e).1;refine⟨_,U,_,U,nl,_,_,_,U,U,SqL.of ((s4.trans sm) _ _ enl),aM (eV ez),bT.mk hi eD (aC ?_) ⟨sm.upd hD,ae,?_⟩⟩
   ·rw[length_map,(bZ (os:=t.cols.take i) (xs:=zs) λj hj=>by rw[hl1];exact hlt j (mem_of_mem_take hj)).1,length_take];lia
   ·rw[take_snoc ej,wz ez,map_append];rfl
  ·obtain⟨sm,eD,rfl⟩:=h;rw[hvl,take_length]at eD;exact⟨sm,D,eD,U⟩
 rintro σ5 H5 ⟨s5,ha,eha,rfl⟩;have s35:=s4.trans s5;refine⟨λσ' H'=>ao H5 H'/\∃(ka:Addr)(kv:List V),H' ka=some (.lst kv)/\az kv (prm t.cols (ds.map PD.k)) (gO (λa=>H5 a=none) Y.k Y.l H')/\σ'=[some (.ref r),some (.int (k:Int)),some (.ref nl),some (.ref dl),some (.ref tl_),some (.int ((fN+k:Nat):Int)),some (.ref cl),some (.ref ro),some (.ref ha),some (.ref ka)],?_,?_⟩
 ·refine⟨_,U,cl,U,⟨_,SqL.of (s35 _ _ g2)⟩,bh (xs:=vN t.cols) (λD i ys H'=>ao H5 H'/\H' D=some (.lst ys)/\az ys (prm (t.cols.take i) (ds.map PD.k)) (gO (Fr H5 D) Y.k Y.l H')) (λD hD=>⟨ah hD _,ae,az.nil⟩) (λD i ys H' hD _ h=>SqL.of (h.1 _ _ (s35 _ _ g2))) (λD i y ys H' hD e h=>?_) (λD ys H' hD h=>?_)⟩
  ·obtain⟨sm,eD,hz⟩:=h;obtain⟨j,rfl,ej⟩:=mz e;have hj:=hlt j (EY ej);have ed:=EV (l:=ds) (i:=j) hj;obtain⟨da,e2,hpd⟩:=hdv.2 j _ ed;have okd:=ok.doms _ (EY ed);generalize ds[j]=p at ed hpd okd;have hi:i<(vN t.cols).length:=(EW.mp e).1;have sA:=s35.trans sm;have ez:(ds.map PD.k)[j]?=some p.k:=by rw[getElem?_map,ed];rfl
   refine⟨_,U,_,U,dl,_,_,_,U,U,SqL.of (sA _ _ edl),aM e2,da,p,U,hpd.same sA,okd,λx H6 s6 hx=>?_⟩;have eD6:=s6 _ _ eD;have hz2:az (ys++[.ref x]) (prm (t.cols.take i) (ds.map PD.k)++[p.k]) (gO (Fr H5 D) Y.k Y.l H6):=az.snoc (az.mono hz λ_ _ p=>p.same s6) (hx.wk λa h=>⟨sm.free h,λz=>by rw[z,eD]at h;cases h⟩);refine bT.mk hi eD6 (aC ?_) ⟨(sm.trans s6).upd hD,ae,?_⟩
   ·rw[hz.1,(bZ (os:=t.cols.take i) (xs:=ds.map PD.k) λj hj=>by rw[length_map];exact hlt j (mem_of_mem_take hj)).1,length_take];lia
   ·rw[take_snoc ej,uX ez];exact az.mono hz2 λ_ _ p=>p.upd Fr.out eD6
  ·obtain⟨sm,eD,hz⟩:=h;rw[hvl,take_length]at hz;exact⟨sm,D,ys,eD,az.mono hz (λ_ _ p=>p.wk λa h=>h.1),U⟩
 rintro σ6 H6 ⟨s6,ka,kv,eka,hkv,rfl⟩;have s36:=s35.trans s6;obtain⟨da,e2,hpd⟩:=hdv.2 (fN+k) po epo;have okp:=ok.doms po (EY epo);refine⟨_,U,_,U,nl,_,_,_,U,U,SqL.of (s36 _ _ enl),aM (eV enm),_,U,_,U,_,U,_,U,dl,_,_,_,U,U,SqL.of (s36 _ _ edl),aM e2,da,po,U,hpd.same s36,okp,λou H7 s7 hou=>?_⟩;have s37:=s36.trans s7;have D3:=hou;have hou:=hou.dom;refine⟨_,U,_,U,tl_,_,_,_,U,U,SqL.of (s37 _ _ etl),aM eta,ta,_,_,_,U,U,SqT.of (s37 _ _ g1),U,_,U,λx dx hx hdx hne=>?_⟩;have s8:ao H7 (upd (upd H7 dx (.own x)) x (.ins Y.m dx [])):=(ah hdx _).upd hx;have s68:=s7.trans s8;have ltz:∀j∈t.cols,j<zs.length:=λj hj=>by rw[hl1];exact hlt j hj
 have gz:=bZ (os:=t.cols) (xs:=zs) ltz;have nzs:nm ∉ prm t.cols zs:=λhm=>by
  obtain⟨j,ej⟩:=getElem?_of_mem hm;have hj:j<t.cols.length:=by rw[←gz.1];exact(EW.mp ej).1
  have ec:=EV hj;rw[gz.2 j _ ec]at ej;have:=eO ok.nd ej enm;have h9:=tok.ok.lt _ (EY ec);lia
 refine⟨x,dx,ha,ka,ou,ro,nm,t.way,prm t.cols zs,kv,zx,prm t.cols (ds.map λp=>(p.lo,p.hi)),(po.lo,po.hi),t.rows,U,ae,s68 _ _ (s6 _ _ eha),?_,nodup_cons.mpr ⟨nzs,uV tok.ok.nd ok.nd ltz⟩,by rw[gz.1];exact hc1,by rw[gz.1];lia,tok.ok.way,λz=>?_,s68 _ _ eka,?_,?_,s68 _ _ ((s5.trans s6) _ _ ero),hro.same ((s5.trans s6).trans s68),by rw[hro.1];exact yu,?_,ok.rows et epo,λH' fs rl' xs' k1 k2 k3 k3a k3b k3c ⟨na',dl',fn,fd,k3d,k3e,k3f,k3g⟩ fr k4 k5=>?_⟩
 ·intro z hz;rcases mem_cons.mp hz with rfl|hz
  ·exact ok.words _ (EY enm)
  ·exact ok.words z (tR hz)
 ·have he:=tok.ok.sum z po epo;rw[PD.k_none he]at hou;obtain⟨dx2,e⟩:=hou;exact⟨dx2,_,s8 _ _ e⟩
 ·have e:prm t.cols (ds.map λp=>(p.lo,p.hi))=(prm t.cols (ds.map PD.k)).map (·.2):=by
   rw[←xF,map_map];rfl
  rw[e];refine⟨by rw[length_map];exact hkv.1,λj b eb=>?_⟩;rw[getElem?_map]at eb;cases ec:(prm t.cols (ds.map PD.k))[j]? with
  |none=>rw[ec]at eb;cases eb
  |some kk =>
   rw[ec]at eb;cases eb;obtain⟨r1,e1,p1⟩:=hkv.2 j kk ec;exact⟨r1,e1,(p1.dom.same s68).dom⟩
 ·exact(hou.same s8).dom
 ·rw[(bZ (os:=t.cols) (xs:=ds.map λp=>(p.lo,p.hi)) λj hj=>by rw[length_map];exact hlt j hj).1];lia
 ·have s9:ao H7 H':=λb u e=>k1 b u (bj e hx) (s8 _ _ e)
  have sF:∀{a:Addr},upd (upd H7 dx (.own x)) x (.ins Y.m dx []) a=none->H3 a=none:=λh=>(s37.trans s8).free h
  exact⟨U,q x H' (s37.trans s9) ⟨t,nm,po,ou,kv,rl',dx,na',dl',fs,xs',et,enm,epo,k2,k3,k3c,k3a,k3b,k3d,k3e,sF fn,sF fd,sF fr,k3f,k3g,k4,az.mono k5 (λ_ _ p=>p.wk λa h=>sF h),by rw[k5.1];exact yu,az.mono hkv (λ_ _ p=>(p.same (s7.trans s9)).wk λa h=>s35.free h),(D3.same s9).wk λa h=>s36.free h⟩⟩
theorem D4{k n:Nat}(F:Fun K "_law_needs" "_law_needs" Y60 f fd) (bl:Bl K mg Y)(gF:Callee P w K mg base k "_law_needs" ["plan","k"] (dR K Y n)):aN P w K mg base CX0 (k+1) f fd ["plan","k"] (dR K Y (n+1)):=by
 refine F.okA Z60 λcdv A outer s H vs Q E hr h=>?_
 obtain⟨r,k,zs,ds,ts,fN,rfl,hPl,ok,hk,hn,q⟩:=h
 refine⟨_,(ay (gY (pv 0) (dh U (aJ (aD (i:=2) Z60.nd U (Or.inl U)) (aJ (aD (i:=3) Z60.nd U (Or.inl U)) (aJ (aD (i:=4) Z60.nd U (Or.inl U)) bJ)))))
  (ay (aK (i:=5) Z60.nd U (Or.inl U) (aE ck (au aq U bl.len_ boot_len (aa (pv 2) af)) (au aq U bl.len_ boot_len (aa (pv 4) af))))
  (ay (aQ (aI kS (pv 1) (pv 5) (aP _))
  (ag (aG (bz (aa (pv 1) af))))
  aH)
  (ay (aK (i:=6) Z60.nd U (Or.inl U) (bz af))
  (ay (bf PassesOwn.never U (aO (aF aW (aF aL (pv 4) (aE ck (pv 1) (pv 5)) (λ_ _=>U)) ai (λ_ _=>U))) (aD (i:=7) Z60.nd U (Or.inl U))
  (ag (aK (i:=6) Z60.nd U (Or.inl U) (aE ky (pv 6) (aR gF hr U (aa (pv 0) (aa (pv 7) af)))))))
  (ag (aG (au (kD (w:=w) U U) U bl.sorted_ PyProof.Rows.boot_sorted (aa (bx (uL (w:=w) U U) U bl.set_ PyProof.Rows.boot_set (aa (pv 6) af)) af))))))))),?_⟩
 obtain⟨nl,dl,tl_,dv,tv,er,enl,edl,hdv,etl,htv⟩:=id hPl;have hzl:(zs.map V.str).length=zs.length:=length_map _;have hl1:=ok.len;have hl2:=ok.tab;have h7:=ok.n7;have htl:tv.length=ts.length:=htv.1;have eN:(((zs.map V.str).length:Nat):Int)-((tv.length:Nat):Int)=(fN:Int):=by lia
 refine⟨_,U,r,_,U,SqT.of er,U,_,_,U,_,_,U,_,_,U,U,_,U,nl,_,U,.inl (SqL.of enl),_,U,tl_,_,U,.inl (SqL.of etl),_,_,U,U,?_⟩;refine⟨_,U,_,U,_,_,U,U,_,U,di (λg=>?_) (λg=>?_)⟩
 ·have g:(k:Int)<(fN:Int):=by have:=of_decide_eq_true g;rw[eN]at this;exact this
  refine⟨_,U,(by show 1<=sizeLine;decide),λl hl=>q l [k] _ (ah hl _) hl ae (by simp) λf=>?_⟩;rw[mem_singleton];exact⟨λh=>.inl ⟨by lia,h⟩,λh=>by rcases h with⟨_,h⟩|⟨h,_⟩;exact h;lia⟩
 ·have g:fN<=k:=by
   have:¬ (k:Int)<(((zs.map V.str).length:Nat):Int)-((tv.length:Nat):Int):=λz=>g (decide_eq_true z)
   rw[eN]at this;lia
  have et:=EV (l:=ts) (i:=k-fN) (by lia);generalize ts[k-fN]=t at et;obtain⟨ta,eta,cl,rl,rx,g1,g2,g3,g4⟩:=htv.2 (k-fN) t et;have tok:=ok.tabs (k-fN) t et;have hc3:t.cols.length<=3:=tok.ok.few;have hlt:∀c∈t.cols,c<fN+(k-fN):=tok.ok.lt;have ix:atI tv ((k:Int)-((((zs.map V.str).length:Nat):Int)-((tv.length:Nat):Int)))=some (.ref ta):=by
   rw[eN,show(k:Int)-(fN:Int)=((k-fN:Nat):Int) by lia];exact aM eta
  refine⟨(by show 0<=sizeLine;decide),λl0 hl0=>?_⟩;have s0:=ah hl0 (.lst []);have e0:upd H l0 (.lst []) l0=some (.lst (vN [])):=ae;generalize upd H l0 (.lst [])=H0 at s0 e0⊢;refine⟨_,U,_,U,_,U,_,_,U,U,tl_,_,_,_,U,U,SqL.of (s0 _ _ etl),ix,ta,_,_,_,U,U,SqT.of (s0 _ _ g1),U,cl,U,⟨_,SqL.of (s0 _ _ g2)⟩,bg (xs:=vN t.cols) (λi σ H'=>ao H H'/\∃(re:Addr)(rs:List Nat)(c7:Option V),H' re=some (.lst (vN rs))/\rs.length<=7*i/\(∀f,f∈rs↔∃j∈t.cols.take i,FN ts fN j f)/\σ=[some (.ref r),some (.int (k:Int)),some (.ref nl),some (.ref dl),some (.ref tl_),some (.int ((((zs.map V.str).length:Nat):Int)-((tv.length:Nat):Int))),some (.ref re),c7]) ⟨s0,l0,[],_,e0,zero_le _,(λf=>⟨(λh=>by cases h),λ⟨j,h,_⟩=>by cases h⟩),U⟩ (λi σ H' _ h=>SqL.of (h.1 _ _ g2)) (λi y σ H' e h=>?_) (λσ H' h=>?_)⟩
  ·obtain⟨sm,re,rs,c7,ere,hrl,hrm,rfl⟩:=h;obtain⟨j,rfl,ej⟩:=mz e;have hj:=hlt j (EY ej);have hi:i<t.cols.length:=(EW.mp ej).1;refine⟨_,U,_,U,_,U,r,j,zs,ds,ts,fN,U,hPl.same sm,ok,by lia,by lia,λl js H2 s2 nl2 el pw mem=>?_⟩;have hjl:js.length<=fN:=wL pw λf hf=>((mem f).mp hf).lt
   refine⟨re,l,_,_,U,U,s2 _ _ ere,el,le_of_lt (aC (by rw[cC,cC];lia)),λp hp=>⟨(sm.trans s2).trans (ah hp _),p,rs++js,_,by rw[ae,oV],by rw[length_append];lia,λf=>?_,U⟩⟩;rw[take_snoc ej,mem_append,hrm f,mem f];constructor
   ·rintro(⟨j',hj',h⟩|h)
    ·exact⟨j',mem_append_left _ hj',h⟩
    ·exact⟨j,mem_append_right _ (mem_singleton.mpr U),h⟩
   ·rintro⟨j',hj',h⟩;rcases mem_append.mp hj' with hj' | hj'
    ·exact .inl ⟨j',hj',h⟩
    ·rw[mem_singleton.mp hj']at h;exact .inr h
  ·obtain⟨sm,re,rs,c7,ere,hrl,hrm,rfl⟩:=h;rw[cC,take_length]at hrm;rw[cC]at hrl;rw[zO]at ere;have hFN:∀f,f∈rs↔FN ts fN k f:=λf=>(hrm f).trans (zN g et).symm
   refine⟨_,U,re,rs.map λb:Nat=>(b:Int),U,SqL.of ere,(by rw[length_map];lia),λl hl'=>?_⟩;have s3:=ah hl' (xt w l (rs.map λb:Nat=>(b:Int)));refine⟨l,rs.map λb:Nat=>(b:Int),(List.range 7).map λb:Nat=>(b:Int),U,ae,by simp,(λx hx=>?_),λD2 cs hD2 pw mem=>?_⟩
   ·obtain⟨b,hb,rfl⟩:=mem_map.mp hx;exact mem_map.mpr ⟨b,mem_range.mpr (by have:=((hFN b).mp hb).lt;lia),U⟩
   ·obtain⟨js,ejs,hpj,hmj⟩:=xI (cs:=cs) (λc hc=>by obtain⟨b,_,rfl⟩:=mem_map.mp ((mem c).mp hc);exact natCast_nonneg b) pw;rw[ejs];refine q D2 js _ ((sm.trans s3).trans (ah hD2 _)) (sm.free (s3.free hD2)) ae hpj λf=>?_
    rw[hmj f,mem,←hFN f,mem_map];exact⟨λ⟨b,hb,e⟩=>by rw[←Int.ofNat.inj e];exact hb,λh=>⟨f,h,U⟩⟩
theorem D5{k n:Nat}(F:Fun K "_law_entry" "_law_entry" Y56 f fd) (bl:Bl K mg Y)(sG:Callee P w K mg base k "_law_due" ["way","outs","domain"] (jt K Y)) (gG:Callee P w K mg base k "_law_entry" ["plan","k","codes"] (dS K Y n)) (qI:Callee P w K mg base k "_law_held" ["spans","code"] (iw K Y)):aN P w K mg base CX0 (k+1) f fd ["plan","k","codes"] (dS K Y (n+1)):=by
 refine F.okA Z56 λcdv A outer s H vs Q E hr h=>?_
 obtain⟨r,ca,j,zs,ds,ts,fN,cd,rfl,hPl,ok,hj,hn,hca,hcd,q⟩:=h
 refine⟨_,(av (gY (pv 0) (dh U (aJ (aD (i:=3) Z56.nd U (Or.inl U)) (aJ (aD (i:=4) Z56.nd U (Or.inl U)) (aJ (aD (i:=5) Z56.nd U (Or.inl U)) bJ)))))
  (av (aK (i:=6) Z56.nd U (Or.inl U) (aE ck (au aq U bl.len_ boot_len (aa (pv 3) af)) (au aq U bl.len_ boot_len (aa (pv 5) af))))
  (av (gY (aF aL (pv 5) (aE ck (pv 1) (pv 6)) (λ_ _=>U)) (dh U (aJ (aD (i:=7) Z56.nd U (Or.inl U)) (aJ (aD (i:=8) Z56.nd U (Or.inl U)) (aJ (aD (i:=9) Z56.nd U (Or.inr U)) bJ)))))
  (av (aK (i:=10) Z56.nd U (Or.inr U) (bz af))
  (av (bf PassesOwn.never U (aO (pv 7)) (aD (i:=11) Z56.nd U (Or.inl U))
  (av (aK (i:=12) Z56.nd U (Or.inl U) (aZ (aa aS (aa ai af))))
  (av (aQ (aI kS (pv 11) (pv 6) (aP _))
  (ag (aT (d9 PySem.F.plainAttrs_list PySem.F.slot_list_append PySem.F.type_list_append bS (pv 10) (aa (aF aL (pv 2) (pv 11) (λ_ _=>U)) af))))
  (ay (aK (i:=12) Z56.nd U (Or.inl U) (aF aW (aR gG hr U (aa (pv 0) (aa (pv 11) (aa (pv 2) af)))) ai (λ_ _=>U)))
  (ag (aT (d9 PySem.F.plainAttrs_list PySem.F.slot_list_append PySem.F.type_list_append bS (pv 10) (aa (aF aW (pv 12) ai (λ_ _=>U)) af))))))
  (ag (aQ (aI pV (aF aW (pv 12) ai (λ_ _=>U)) aS (aP _))
  (ag (aG (aZ (aa vh (aa (bz af) (aa (pv 12) af))))))
  aH)))))
  (av (aK (i:=13) Z56.nd U (Or.inl U) (bz af))
  (av (bf PassesOwn.never U (br U bl.range_ (aa (au aq U bl.len_ boot_len (aa (pv 9) af)) af)) (aD (i:=11) Z56.nd U (Or.inl U))
  (av (aK (i:=14) Z56.nd U (Or.inr U) (aF aW (aF aL (pv 9) (pv 11) (λ_ _=>U)) ai (λ_ _=>U)))
  (ag (aQ (aI cx (au aq U bl.len_ boot_len (aa (bF (br U bl.range_ (aa (au aq U bl.len_ boot_len (aa (pv 10) af)) af)) (aU (N:=["i","own","parts"]) (fr:=[10,14]) (cl:=[("parts",s.heap.objs.size+1+1+1),("own",s.heap.objs.size+1+1)]) U U (by decide+kernel) (by decide+kernel) U (by decide+kernel) U U U (forall_mem_cons.mpr ⟨U,forall_mem_cons.mpr ⟨U,forall_mem_nil _⟩⟩) U) U (λ_ _ _ _=>(fu (dg (aR qI hr U (aa (aF (cQ (K:=K) U) (pv 2) (pv 0) (λ_ _=>U)) (aa (aF (cQ (K:=K) U) (pv 1) (pv 0) (λ_ _=>U)) af)))))) (λ_ _ _ _=>(pv 0))) af)) (au aq U bl.len_ boot_len (aa (pv 10) af)) (aP _))
  (ag (aT (d9 PySem.F.plainAttrs_list PySem.F.slot_list_append PySem.F.type_list_append bS (pv 13) (aa (pv 11) af))))
  aH))))
  (ag (aG (aZ (aa (pv 10) (aa (pv 13) (aa (aR sG hr U (aa (pv 8) (aa (bF (aO (pv 13)) (aU (N:=["j","rows"]) (fr:=[9]) (cl:=[("rows",s.heap.objs.size+1)]) U U (by decide+kernel) (by decide+kernel) U (by decide+kernel) U U U (forall_mem_cons.mpr ⟨U,forall_mem_nil _⟩) U) U (λ_ _ _ _=>aV) (λ_ _ _ _=>(aF (dM (K:=K) U) (aF (cQ (K:=K) U) (pv 1) (pv 0) (λ_ _=>U)) ai (λ_ _=>U)))) (aa (aF aL (pv 4) (pv 1) (λ_ _=>U)) af)))) af))))))))))))),?_⟩
 obtain⟨nl,dl,tl_,dv,tv,er,enl,edl,hdv,etl,htv⟩:=id hPl;have hzl:(zs.map V.str).length=zs.length:=length_map _;have hl1:=ok.len;have hl2:=ok.tab;have h7:=ok.n7;have htl:tv.length=ts.length:=htv.1;have et:=EV (l:=ts) (i:=j) hj;generalize ts[j]=t at et;have ep:=EV (l:=ds) (i:=fN+j) (by lia);generalize ds[fN+j]=p at ep;obtain⟨ta,eta,cl,rl,rx,g1,g2,g3,g4⟩:=htv.2 j t et;obtain⟨da,eda,hda⟩:=hdv.2 (fN+j) p ep;have tok:=ok.tabs j t et;have pok:=ok.doms p (EY ep);have hc3:t.cols.length<=3:=tok.ok.few;have hrl:rx.length=t.rows.length:=g4.1;have iT:=tok.few;have qH:∀(k:Nat)(t:PT),ts[k]?=some t->∀c∈t.cols,c<fN+k:=λk t et c hc=>(ok.tabs k t et).ok.lt c hc
 have hvd:=tZ (cd:=cd) qH et ep;have hcl:(t.cols.map (cvo ts ds fN cd)).length=t.cols.length:=length_map _;generalize D6:t.cols.map (cvo ts ds fN cd)=cvs at hvd hcl;refine⟨λσ' H'=>H'=H/\σ'=[some (.ref r),some (.int ((fN+j:Nat):Int)),some (.ref ca),some (.ref nl),some (.ref dl),some (.ref tl_),none,none,none,none,none,none,none,none,none],⟨_,U,r,_,U,SqT.of er,U,_,_,U,_,_,U,_,_,U,U,U,U⟩,?_⟩;rintro σ1 H1 ⟨e1_,rfl⟩;subst e1_;refine⟨λσ' H'=>H'=H1/\σ'=[some (.ref r),some (.int ((fN+j:Nat):Int)),some (.ref ca),some (.ref nl),some (.ref dl),some (.ref tl_),some (.int (fN:Int)),none,none,none,none,none,none,none,none],⟨_,U,nl,_,U,.inl (SqL.of enl),_,U,tl_,_,U,.inl (SqL.of etl),_,_,U,U,U,?_⟩,?_⟩
 ·rw[show(fN:Int)=(((zs.map V.str).length:Nat):Int)-((tv.length:Nat):Int) by lia];rfl
 rintro σ2 H2 ⟨e2_,rfl⟩;subst e2_;have ix:atI tv (((fN+j:Nat):Int)-(fN:Int))=some (.ref ta):=by
  rw[show((fN+j:Nat):Int)-(fN:Int)=(j:Int) by lia];exact aM eta
 refine⟨λσ' H'=>H'=H2/\σ'=[some (.ref r),some (.int ((fN+j:Nat):Int)),some (.ref ca),some (.ref nl),some (.ref dl),some (.ref tl_),some (.int (fN:Int)),some (.ref cl),some (.str t.way),some (.ref rl),none,none,none,none,none],⟨_,U,_,U,_,U,_,_,U,U,tl_,_,_,_,U,U,SqL.of etl,ix,ta,_,U,SqT.of g1,U,_,_,U,_,_,U,_,_,U,U,U,U⟩,?_⟩;rintro σ3 H4 ⟨e3_,rfl⟩;subst e3_;refine⟨λσ' H'=>ao H4 H'/\∃ow:Addr,H4 ow=none/\H' ow=some (.lst [])/\σ'=[some (.ref r),some (.int ((fN+j:Nat):Int)),some (.ref ca),some (.ref nl),some (.ref dl),some (.ref tl_),some (.int (fN:Int)),some (.ref cl),some (.str t.way),some (.ref rl),some (.ref ow),none,none,none,none],⟨zero_le _,λl hl=>⟨ah hl _,l,hl,ae,U⟩⟩,?_⟩;rintro σ5 H5 ⟨s5,ow,now,eow,rfl⟩;refine⟨λσ' H'=>ao H4 H'/\H' ow=some (.lst ((cvs.map (·.2)).map V.int))/\(∀v∈cvs,cR v=true)/\∃c11 c12:Option V,σ'=[some (.ref r),some (.int ((fN+j:Nat):Int)),some (.ref ca),some (.ref nl),some (.ref dl),some (.ref tl_),some (.int (fN:Int)),some (.ref cl),some (.str t.way),some (.ref rl),some (.ref ow),c11,c12,none,none],?_,?_⟩
 ·refine⟨_,U,cl,U,⟨_,SqL.of (s5 _ _ g2)⟩,bg (xs:=vN t.cols) (λi σ H'=>ao H4 H'/\H' ow=some (.lst (((cvs.take i).map (·.2)).map V.int))/\(∀v∈cvs.take i,cR v=true)/\∃c11 c12:Option V,σ=[some (.ref r),some (.int ((fN+j:Nat):Int)),some (.ref ca),some (.ref nl),some (.ref dl),some (.ref tl_),some (.int (fN:Int)),some (.ref cl),some (.str t.way),some (.ref rl),some (.ref ow),c11,c12,none,none]) ⟨s5,eow,(λv hv=>by cases hv),_,_,U⟩ (λi σ H' _ h=>SqL.of (h.1 _ _ g2)) (λi y σ H' e h=>?_) (λσ H' h=>?_)⟩
  ·obtain⟨sm,eo,nc,c11,c12,rfl⟩:=h;obtain⟨c,rfl,ec⟩:=mz e;have hcm:=EY ec;have hi:i<t.cols.length:=(EW.mp ec).1;have ET:=tok.ok.lt c hcm;have ev:cvs[i]?=some (cvo ts ds fN cd c):=by rw[←D6,getElem?_map,ec];rfl
   have hol:(((cvs.take i).map (·.2)).map V.int).length<=3:=by rw[length_map,length_map,length_take];lia
   refine⟨λσ' H''=>ao H' H''/\∃tt_:Addr,H'' tt_=some (.tup (tp (say 0)))/\σ'=[some (.ref r),some (.int ((fN+j:Nat):Int)),some (.ref ca),some (.ref nl),some (.ref dl),some (.ref tl_),some (.int (fN:Int)),some (.ref cl),some (.str t.way),some (.ref rl),some (.ref ow),some (.int (c:Int)),some (.ref tt_),none,none],⟨bp,λu hu=>⟨ah hu _,u,ae,U⟩⟩,?_⟩;rintro σa Ha ⟨sa,tt_,ett,rfl⟩;have s4a:=sm.trans sa;refine⟨λσ' H''=>ao H4 H''/\H'' ow=some (.lst (((cvs.take (i+1)).map (·.2)).map V.int))/\∃(u:Addr)(W:SI),H'' u=some (.tup (tp W))/\W.1=(cvo ts ds fN cd c).1/\(cR W=false->W=cvo ts ds fN cd c)/\σ'=[some (.ref r),some (.int ((fN+j:Nat):Int)),some (.ref ca),some (.ref nl),some (.ref dl),some (.ref tl_),some (.int (fN:Int)),some (.ref cl),some (.str t.way),some (.ref rl),some (.ref ow),some (.int (c:Int)),some (.ref u),none,none],?_,?_⟩
   ·refine⟨_,U,_,U,_,_,U,U,_,U,?_⟩;by_cases hcf:c<fN
    ·have hx:cvo ts ds fN cd c=say (cd.getD c 0):=by unfold cvo;rw[if_pos hcf]
     have exc:=EV (l:=cd) (i:=c) (by lia);have hgx:cd.getD c 0=cd[c]'(by lia):=by rw[getD_eq_getElem?_getD,exc];rfl
     have ntw:tt_≠ow:=λz=>by have:=sa _ _ eo;rw[←z,ett]at this;cases this
     refine eA (by lia) ⟨_,U,.inl ⟨U,_,SqL.of (sa _ _ eo)⟩,_,U,_,U,ca,_,_,_,U,U,SqL.of (s4a _ _ hca),aM (get_map exc),ow,_,_,U,U,sa _ _ eo,aC (by lia),s4a.upd now,?_,tt_,say 0,(ar ntw).trans ett,by rw[hx];rfl,(λz=>by cases z),U⟩;rw[ae,take_snoc ev,map_append,map_append,hx,←hgx];rfl
    ·refine bR (by lia) ?_;have hx:cvo ts ds fN cd c=vd ts ds fN cd (c-fN):=by unfold cvo;rw[if_neg hcf]
     refine⟨_,U,_,U,_,U,r,ca,c-fN,zs,ds,ts,fN,cd,by rw[show fN+(c-fN)=c by lia],hPl.same s4a,ok,by lia,by lia,s4a _ _ hca,hcd,λl d v0 v1 H3 s3 el ed=>?_⟩;have eo3:=s3 _ _ (sa _ _ eo);have ndw:d≠ow:=λz=>by rw[z,eo3]at ed;cases ed
     refine⟨l,_,_,_,U,U,SqT.of el,U,_,U,.inl ⟨U,_,SqL.of eo3⟩,_,U,d,_,_,_,U,U,SqT.of ed,U,ow,_,_,U,U,eo3,aC (by lia),(s4a.trans s3).upd now,?_,d,_,(ar ndw).trans ed,by rw[hx],λ_=>hx.symm,U⟩;rw[ae,take_snoc ev,map_append,map_append,hx];rfl
   rintro σb Hb ⟨sb,eob,u,W,eu,hW1,hW2,rfl⟩;refine⟨_,U,u,_,_,_,U,U,SqT.of eu,U,U,_,U,?_⟩;by_cases hs:W.1=Str.ofString "say"
   ·refine tj (by rw[hs]) ⟨sb,eob,λv hv=>?_,_,_,U⟩;rw[take_snoc ev]at hv;rcases mem_append.mp hv with hv|hv
    ·exact nc v hv
    ·rw[mem_singleton.mp hv];exact decide_eq_true (hW1.symm.trans hs)
   ·have hs':cR W=false:=decide_eq_false hs;have hWc:=hW2 hs';subst hWc;have D7:=xJ (p:=p) (t:=t) ev hs' nc;refine di (λ_=>?_) (λg=>absurd g (by simp[hs]));refine⟨zero_le _,λl1 D8=>⟨_,U,(by show 3<=sizeLine;decide),λl hl=>?_⟩⟩;have u1:=ah D8 (.lst []);exact q l u _ _ _ ((sb.trans u1).trans (ah hl _)) ae (by rw[hvd,D7];exact ah hl _ _ _ (u1 _ _ eu))
  ·obtain⟨sm,eo,nc,c11,c12,rfl⟩:=h;rw[cC,←hcl,take_length]at eo nc;exact⟨sm,eo,nc,c11,c12,U⟩
 rintro σ6 H6 ⟨s6,eo6,nc,c11,c12,rfl⟩;rw[qC nc]at hvd;have zX:(cvs.map (·.2)).length=t.cols.length:=by rw[length_map,hcl]
 generalize cvs.map (·.2)=cs at hvd eo6 zX;refine⟨λσ' H'=>ao H6 H'/\∃fa:Addr,H6 fa=none/\H' fa=some (.lst (vN []))/\σ'=[some (.ref r),some (.int ((fN+j:Nat):Int)),some (.ref ca),some (.ref nl),some (.ref dl),some (.ref tl_),some (.int (fN:Int)),some (.ref cl),some (.str t.way),some (.ref rl),some (.ref ow),c11,c12,some (.ref fa),none],⟨zero_le _,λl hl=>⟨ah hl _,l,hl,ae,U⟩⟩,?_⟩;rintro σ7 H7 ⟨s7,fa,nfa,efa,rfl⟩;have s47:=s6.trans s7;refine⟨λσ' H'=>ao H6 H'/\H' fa=some (.lst (vN ((List.range t.rows.length).filter (eW t.rows cs))))/\∃c15 c16:Option V,σ'=[some (.ref r),some (.int ((fN+j:Nat):Int)),some (.ref ca),some (.ref nl),some (.ref dl),some (.ref tl_),some (.int (fN:Int)),some (.ref cl),some (.str t.way),some (.ref rl),some (.ref ow),c15,c12,some (.ref fa),c16],?_,?_⟩
 ·refine⟨_,U,rl,_,U,.inl (SqL.of (s47 _ _ g3)),_,U,(by lia),(by lia),dG (λi σ H'=>ao H6 H'/\H' fa=some (.lst (vN ((List.range i).filter (eW t.rows cs))))/\∃c15 c16:Option V,σ=[some (.ref r),some (.int ((fN+j:Nat):Int)),some (.ref ca),some (.ref nl),some (.ref dl),some (.ref tl_),some (.int (fN:Int)),some (.ref cl),some (.str t.way),some (.ref rl),some (.ref ow),c15,c12,some (.ref fa),c16]) ⟨s7,efa,_,_,U⟩ (λi σ H' hi h=>?_) (λσ H' h=>?_)⟩
  ·obtain⟨sm,xP,c15,c16,rfl⟩:=h;rw[toNat_natCast,hrl]at hi;rw[show(0:Int)+(i:Int)=(i:Int) by lia];have ew:=EV hi;generalize t.rows[i]=w_ at ew;have s4m:=s6.trans sm;obtain⟨ro,ero,ce,cvv,q1,_,q2,q3⟩:=g4.2 i w_ ew;have fit:=tok.rows w_ (EY ew);refine⟨λσ' H''=>H''=H'/\σ'=[some (.ref r),some (.int ((fN+j:Nat):Int)),some (.ref ca),some (.ref nl),some (.ref dl),some (.ref tl_),some (.int (fN:Int)),some (.ref cl),some (.str t.way),some (.ref rl),some (.ref ow),some (.int (i:Int)),c12,some (.ref fa),some (.ref ce)],⟨_,U,_,U,rl,_,_,_,U,U,SqL.of (s4m _ _ g3),aM ero,ro,_,_,_,U,U,SqT.of (s4m _ _ q1),U,U,U⟩,?_⟩;rintro σa Ha ⟨ea_,rfl⟩;subst ea_;have eoa:=sm _ _ eo6;have hil:(cs.map V.int).length=cs.length:=length_map _;refine⟨_,U,ow,_,U,.inl (SqL.of eoa),_,U,(by lia),(by lia),bH (λD k ys H''=>ao Ha H''/\H'' D=some (.lst ys)/\ys.length=((List.range k).filter λj=>inP (w_.1.getD j []) (cs.getD j 0)).length) (λD hD=>⟨ah hD _,ae,U⟩) (λD k ys H'' hD hk h=>?_) (λD ys H'' hD h=>?_)⟩
   ·obtain⟨sn,eD,hyl⟩:=h;rw[toNat_natCast,hil]at hk;have eps:=EV (l:=w_.1) (i:=k) (by rw[fit.len];lia);generalize hps:w_.1[k]'(by rw[fit.len];lia)=ps at eps;obtain⟨lp,elp,_,yv,eyv,hyv⟩:=q3.2 k ps eps;have exk:=EV (l:=cs) (i:=k) (by lia);have s4n:=s4m.trans sn;have hfl:=length_filter_le (λj=>inP (w_.1.getD j []) (cs.getD j 0)) (List.range k);rw[length_range]at hfl;have hd1:w_.1.getD k []=ps:=by rw[getD_eq_getElem?_getD,eps];rfl
    have hd2:cs.getD k 0=cs[k]'(by lia):=by rw[getD_eq_getElem?_getD,exk];rfl
    rw[show(0:Int)+(k:Int)=(k:Int) by lia];refine⟨_,U,_,U,ce,_,_,_,U,U,SqL.of (s4n _ _ q2),aM elp,_,U,_,U,ow,_,_,_,U,U,SqL.of (sn _ _ eoa),aM (get_map exk),lp,yv,ps,_,U,SqL.of (s4n _ _ eyv),hyv.mono s4n.tups,_,U,?_⟩;cases hb:inP ps (cs[k]'(by lia)) with
    |true =>
     refine ee ⟨_,U,bT.mk (by rw[toNat_natCast,hil];exact hk) eD (aC (by lia)) ⟨sn.upd hD,ae,?_⟩⟩;rw[range_succ,filter_append,filter_cons_of_pos (by rw[hd1,hd2];exact hb),length_append,length_append,hyl];rfl
    |false =>
     refine bV (eM.mk (zs:=ys) (by rw[toNat_natCast,hil];exact hk) ⟨sn,eD,?_⟩);rw[range_succ,filter_append,filter_cons_of_neg (by rw[hd1,hd2,hb];exact Bool.false_ne_true),filter_nil,append_nil,hyl]
   ·obtain⟨sn,eD,hyl⟩:=h;rw[toNat_natCast,hil]at hyl;have Br:eW t.rows cs i=(List.range cs.length).all λj=>inP (w_.1.getD j []) (cs.getD j 0):=by
     unfold eW;rw[getD_at ew];rfl
    have zY:=wM (λj=>inP (w_.1.getD j []) (cs.getD j 0)) cs.length;rw[←hyl,←Br]at zY;have uf:=length_filter_le (eW t.rows cs) (List.range i);rw[length_range]at uf;have zZ:=sn _ _ xP;refine⟨D,_,U,.inl (SqL.of eD),_,U,ow,_,U,.inl (SqL.of (sn _ _ eoa)),U,_,U,?_⟩;by_cases hf:eW t.rows cs i=true
    ·have hl:=zY.mpr hf;refine eA (by rw[hil,hl]) ⟨_,U,.inl ⟨U,_,SqL.of zZ⟩,_,U,fa,_,_,U,U,zZ,aC (by rw[cC];lia),(sm.trans sn).upd nfa,?_,_,_,U⟩;rw[ae,range_succ,filter_append,filter_cons_of_pos hf];unfold vN;rw[map_append];rfl
    ·have hl:ys.length≠cs.length:=λz=>hf (zY.mp z)
     refine bR (λz=>hl (by rw[hil]at z;injection z with z;exact Int.ofNat.inj z)) ⟨sm.trans sn,?_,_,_,U⟩;rw[range_succ,filter_append,filter_cons_of_neg hf,filter_nil,append_nil];exact zZ
  ·obtain⟨sm,xP,c15,c16,rfl⟩:=h;rw[toNat_natCast,hrl]at xP;exact⟨sm,xP,c15,c16,U⟩
 rintro σ8 H8 ⟨s8,Aa,c15,c16,rfl⟩;have s48:=s6.trans s8;have uf:=length_filter_le (eW t.rows cs) (List.range t.rows.length);rw[length_range]at uf;have lu:∀(k b:Nat),((List.range t.rows.length).filter (eW t.rows cs))[k]?=some b->b<t.rows.length:=λk b e=>mem_range.mp (mem_filter.mp (EY e)).1
 have pC:=ud (eW t.rows cs) t.rows.length;have hpk:pkF t.rows (eW t.rows cs) t.rows.length=((List.range t.rows.length).filter (eW t.rows cs)).map λk=>(t.rows.getD k ([],0)).2:=rfl
 rw[wu]at hpk;generalize (List.range t.rows.length).filter (eW t.rows cs)=L at Aa uf lu pC hpk;refine⟨_,U,_,U,_,U,_,U,fa,U,⟨_,SqL.of Aa⟩,bh (xs:=vN L) (λD k ys H''=>ao H8 H''/\H'' D=some (.lst ys)/\ys=((L.take k).map λk=>(t.rows.getD k ([],0)).2).map V.int) (λD hD=>⟨ah hD _,ae,U⟩) (λD k ys H'' hD _ h=>SqL.of (h.1 _ _ Aa)) (λD k y ys H'' hD e h=>?_) (λD ys H'' hD h=>?_)⟩
 ·obtain⟨sn,eD,rfl⟩:=h;obtain⟨b,rfl,eb⟩:=mz e;have hk:k<(vN L).length:=(EW.mp e).1;have hkL:k<L.length:=by rw[cC]at hk;exact hk
  have hb:=lu k b eb;have ew:=EV hb;generalize t.rows[b]=w_ at ew;obtain⟨ro,ero,ce,cvv,q1,_,q2,q3⟩:=g4.2 b w_ ew;have s4n:=s48.trans sn;refine⟨_,U,_,U,rl,_,_,_,U,U,SqL.of (s4n _ _ g3),aM ero,ro,_,_,_,U,U,SqT.of (s4n _ _ q1),U,bT.mk hk eD (aC (by rw[length_map,length_map,length_take];lia)) ⟨sn.upd hD,ae,?_⟩⟩;rw[take_snoc eb,map_append,map_append,map_cons,map_cons,getD_at ew];rfl
 ·obtain⟨sn,eD,rfl⟩:=h;rw[cC,take_length,←hpk]at eD;have s4n:=s48.trans sn;refine⟨_,U,_,U,dl,_,_,_,U,U,SqL.of (s4n _ _ edl),aM eda,D,da,t.way,ixF six t.way,fl t.rows cs,p,U,sr tok.ok.way,SqL.of eD,hda.same s4n,pok.le,λdu H9 s9 edu=>⟨(by show 3<=sizeLine;decide),λl hl=>?_⟩⟩;rw[←hvd]at edu;exact q l du _ _ _ ((s4n.trans s9).trans (ah hl _)) ae (ah hl _ _ _ edu)
theorem D9{k n:Nat}(F:Fun K "put_behind" "put_behind" Y74 f fd) (bl:Bl K mg Y)(Ab:bK P w K mg base k "asks" ["book","name"] (pe K Y)) (gH:bK P w K mg base k "put_behind" ["book","name","order"] (dz K Y n)):aN P w K mg base (CX1 P w) (k+1) f fd ["book","name","order"] (dz K Y (n+1)):=by
 refine F.okEA Z74 λcdv A outer s H vs Q E hr h=>?_
 obtain⟨b,o,nm,zs,ds,ts,fN,mv,L,told,k,rfl,hB,cI,ho,htd,hs,hsz,hn,hq⟩:=h
 refine⟨_,(av (bf (kB U U U) U (aO (eU Ab nQ hr U (aa (pv 0) (aa (pv 1) af)))) (aD (i:=3) Z74.nd U (Or.inl U))
  (ag (aQ (aI jS (pv 3) (pv 2) (by with_unfolding_all rfl))
  (ag (aT (eU gH nQ hr U (aa (pv 0) (aa (pv 3) (aa (pv 2) af))))))
  aH)))
  (ag (aT (d9 PySem.F.plainAttrs_list PySem.F.slot_list_append PySem.F.type_list_append bS (pv 2) (aa (pv 1) af))))),?_⟩
 have hB0:=hB.same (lC H o);have ok:=hB.ok;have h16:=ok.n7;have hl2:=ok.tab;have hak:=iq ok;rcases hq with⟨hk,hnm,hkt,q⟩|⟨hno,qE⟩
 ·have et:=EV hk;generalize ts[k]=t at et;have eak:akT ts fN k=akc fN t.cols:=by unfold akT;rw[et]
  refine⟨λσ' H'=>ao (hide H o) (hide H' o)/\H' o=some (.lst ((((akT ts fN k).foldl (λt j=>odr (akT ts fN) j t) told).map (tnm zs fN)).map V.str))/\∃c3:Option V,σ'=[some (.ref b),some (.str nm),some (.ref o),c3],?_,?_⟩
  ·refine⟨_,U,_,U,b,nm,zs,ds,ts,fN,mv,L,U,hB0,hs,λk2 t2 l H1 hk2 h2 et2 s1 nl el=>?_,λh=>absurd hnm (h k (cI k hk))⟩;have:k2=k:=hB.one (hB.lt k2 hk2) hk (h2.trans hnm.symm);subst this;rw[et]at et2;cases et2;rw[hB.aks cI et,←eak]at el;have nlo:l≠o:=λz=>by rw[z,ho]at nl;cases nl
   have elh:=de el nlo;have Bw:∀j∈akT ts fN k2,j<ts.length:=λj hj=>by have:=hak k2 j hj;lia
   refine⟨l,U,⟨_,SqL.of el⟩,bg (xs:=((akT ts fN k2).map (tnm zs fN)).map V.str) (λi σ H'=>ao (hide H o) (hide H' o)/\hide H' o l=some (.lst (((akT ts fN k2).map (tnm zs fN)).map V.str))/\H' o=some (.lst (((((akT ts fN k2).take i).foldl (λt j=>odr (akT ts fN) j t) told).map (tnm zs fN)).map V.str))/\∃c3:Option V,σ=[some (.ref b),some (.str nm),some (.ref o),c3]) ⟨n8 s1,elh,s1 _ _ ho,_,U⟩ (λi σ H' _ h=>SqL.of (lC H' o _ _ h.2.1)) (λi y σ H' e h=>?_) (λσ H' h=>?_)⟩
   ·obtain⟨s2,el2,eo2,c3,rfl⟩:=h;obtain⟨z,rfl,ez⟩:=dq e;rw[getElem?_map]at ez;cases ej:(akT ts fN k2)[i]? with
    |none=>rw[ej]at ez;cases ez
    |some j =>
     rw[ej]at ez;cases ez;have hjm:=EY ej;have hjk:=hak k2 j hjm;have hjt:=Bw j hjm;have wW:Tld ts.length (((akT ts fN k2).take i).foldl (λt j=>odr (akT ts fN) j t) told):=htd.fold hak λj hj=>Bw j (mem_of_mem_take hj)
     rw[take_snoc ej,List.foldl_append];show _;generalize ((akT ts fN k2).take i).foldl (λt j=>odr (akT ts fN) j t) told=tl at eo2 wW⊢;have hin:((tl.map (tnm zs fN)).contains (tnm zs fN j))=tl.contains j:=hB.ins wW hjt;refine⟨_,U,_,U,o,_,U,.inl (SqL.of eo2),U,d6 _,_,U,?_⟩;rw[if_pos U,ir,hin];cases hc:tl.contains j with
     |true =>
      refine bV ⟨s2,el2,?_,_,U⟩;rw[eo2];show _=some (HO.lst (((odr (akT ts fN) j tl).map (tnm zs fN)).map V.str));rw[zL hak hc]
     |false =>
      refine ee ⟨_,U,_,U,_,U,b,o,tnm zs fN j,zs,ds,ts,fN,mv,L,tl,j,U,hB.same s2,cI,eo2,wW,?_,hsz,by lia,.inl ⟨hjt,U,λhm=>?_,λH3 s3 eo3=>⟨s2.trans s3,s3 _ _ el2,eo3,_,U⟩⟩⟩
      ·exact hsz _ (EY (hB.nmz hjt))
      ·have:tl.contains j=true:=by simpa using hm
       rw[this]at hc;cases hc
   ·obtain⟨s2,el2,eo2,c3,rfl⟩:=h;rw[length_map,length_map,take_length]at eo2;exact⟨s2,eo2,c3,U⟩
  rintro σ1 H1 ⟨s1,eo1,c3,rfl⟩;have wW:Tld ts.length ((akT ts fN k).foldl (λt j=>odr (akT ts fN) j t) told):=htd.fold hak λj hj=>by have:=hak k j hj;lia
  have hlen:=wW.len;refine⟨_,U,.inl ⟨U,_,SqL.of eo1⟩,_,U,o,_,_,U,U,eo1,aC (by rw[length_map,length_map];lia),q _ (by rw[qw];exact s1) ?_⟩;rw[ae,mE hak,if_neg (by simpa using hkt),map_append,map_append,←hnm];rfl
 ·refine⟨λ_ _=>False,⟨_,U,_,U,b,nm,zs,ds,ts,fN,mv,L,U,hB0,hs,λk2 t2 l H1 hk2 h2=>absurd h2 (hno k2 hk2),λ_=>qE⟩,?_⟩;rintro σ1 H1 h;exact h.elim
theorem Ea(F:Fun K "order_of" "order_of" Y72 f fd) (bl:Bl K mg Y)(gH:bK P w K mg base 15 "put_behind" ["book","name","order"] (dz K Y 13)):aN P w K mg base (CX1 P w) 16 f fd ["book","name"] (iz K Y):=by
 refine F.okEA Z72 λcdv A outer s H vs Q E hr h=>?_
 obtain⟨b,nm,zs,ds,ts,fN,mv,L,k,rfl,hB,cI,hs,hsz,iZ,hq⟩:=h
 refine⟨_,(ay (aK (i:=2) Z72.nd U (Or.inl U) (bz af))
  (ay (aT (eU gH nQ hr U (aa (pv 0) (aa (pv 1) (aa (pv 2) af)))))
  (ag (aG (pv 2))))),?_⟩
 refine⟨zero_le _,λo ho=>?_⟩;have s0:=ah ho (.lst []);have e0:upd H o (.lst []) o=some (.lst ((([]:List Nat).map (tnm zs fN)).map V.str)):=ae;have sh:ao H (hide (upd H o (.lst [])) o):=kI s0 ho;generalize upd H o (.lst [])=H0 at s0 e0 sh⊢;refine⟨_,U,_,U,_,U,b,o,nm,zs,ds,ts,fN,mv,L,[],k,U,hB.same sh,cI,e0,Tld.nil,hs,hsz,by lia,?_⟩;rcases hq with⟨hk,hnm,q⟩|⟨hno,qE⟩
 ·exact .inl ⟨hk,hnm,by simp,λH1 s1 e1=>⟨_,U,q o H1 (λx u e=>lC _ _ _ _ ((sh.trans s1) _ _ e)) ho e1⟩⟩
 ·exact .inr ⟨hno,qE _ s0⟩
theorem Eb(F:Fun K "tables_for" "tables_for" Y85 f fd) (bl:Bl K mg Y)(jv:bK P w K mg base 16 "table_of" ["book","name"] (fC K Y)) (sI:bK P w K mg base 16 "order_of" ["book","name"] (iz K Y)):aN P w K mg base (CX1 P w) 17 f fd ["book","name"] (dB K Y):=by
 refine F.okEA Z85 λcdv A outer s H vs Q E hr h=>?_
 obtain⟨b,nm,zs,ds,ts,fN,mv,L,k,rfl,hB,cI,hs,hsz,iZ,hq⟩:=h;refine⟨_,(ag (aG (bF (aO (eU sI nQ hr U (aa (pv 0) (aa (pv 1) af)))) (aU (N:=["needed","book"]) (fr:=[0]) (cl:=[("book",s.heap.objs.size+1)]) U U (by decide+kernel) (by decide+kernel) U (by decide+kernel) U U U (forall_mem_cons.mpr ⟨U,forall_mem_nil _⟩) U) U (λ_ _ _ _=>aV) (λ_ _ _ _=>(eU jv qc hr U (aa (pv 1) (aa (pv 0) af))))))),?_⟩;have h16:=hB.ok.n7;have hl2:=hB.ok.tab;have hak:=iq hB.ok;rcases hq with⟨hk,hnm,q⟩|⟨hno,qE⟩
 ·have htd:Tld ts.length (odr (akT ts fN) k []):=Tld.odr hak Tld.nil hk;have hlen:=htd.len;refine⟨_,U,_,U,b,nm,zs,ds,ts,fN,mv,L,k,U,hB,cI,hs,hsz,iZ,.inl ⟨hk,hnm,λl H1 s1 nl el=>?_⟩⟩;refine⟨l,U,⟨_,SqL.of el⟩,bh (xs:=((odr (akT ts fN) k []).map (tnm zs fN)).map V.str) (λD i ys H'=>ao H1 H'/\H' D=some (.lst ys)/\az ys ((odr (akT ts fN) k []).take i) (λr j=>∃i:Nat,mv[i]?=some (.ref r)/\L[i]?=some j)) (λD hD=>⟨ah hD _,ae,az.nil⟩) (λD i ys H' hD _ h=>SqL.of (h.1 _ _ el)) (λD i y ys H' hD e h=>?_) (λD ys H' hD h=>?_)⟩
  ·obtain⟨sm,eD,hy⟩:=h;obtain⟨z,rfl,ez⟩:=dq e;have hi:i<(((odr (akT ts fN) k []).map (tnm zs fN)).map V.str).length:=(EW.mp e).1;rw[getElem?_map]at ez;cases ej:(odr (akT ts fN) k [])[i]? with
   |none=>rw[ej]at ez;cases ez
   |some j =>
    rw[ej]at ez;cases ez;have hjt:=htd.lt j (EY ej);have hyl:ys.length<=7:=by have:=hy.1;rw[length_take]at this;lia
    refine⟨_,U,_,U,b,tnm zs fN j,zs,ds,ts,fN,mv,L,U,hB.same (s1.trans sm),hsz _ (EY (hB.nmz hjt)),λa2 k2 i2 e1 e2 hk2 h2 _=>?_,λh=>absurd U (h j (cI j hjt))⟩;have:k2=j:=hB.one (hB.lt k2 hk2) hjt h2;subst this;refine bT.mk hi eD (aC (by lia)) ⟨sm.upd hD,ae,?_⟩;rw[take_snoc ej];exact az.snoc hy ⟨i2,e1,e2⟩
  ·obtain⟨sm,eD,hy⟩:=h;rw[length_map,length_map,take_length]at hy;exact q D ys H' (s1.trans sm) (s1.free hD) eD hy
 ·exact⟨_,U,_,U,b,nm,zs,ds,ts,fN,mv,L,k,U,hB,cI,hs,hsz,iZ,.inr ⟨hno,qE⟩⟩
theorem Ec(F:Fun K "needs" "needs" Y71 f fd) (bl:Bl K mg Y)(dU:bK P w K mg base 17 "tables_for" ["book","name"] (dB K Y)):aN P w K mg base (CX1 P w) 18 f fd ["book","name"] (kf K Y):=by
 refine F.okEA Z71 λcdv A outer s H vs Q E hr h=>?_
 obtain⟨b,nm,zs,ds,ts,fN,mv,L,k,rfl,hB,cI,hs,hsz,iZ,hq⟩:=h
 refine⟨_,(av (aK (i:=2) Z71.nd U (Or.inr U) (bz af))
  (av (bf (kB U U U) U (aO (eU dU nQ hr U (aa (pv 0) (aa (pv 1) af)))) (aD (i:=3) Z71.nd U (Or.inl U))
  (ag (aT (d9 PySem.F.plainAttrs_list PySem.F.slot_list_extend PySem.F.type_list_extend kx (pv 2) (aa (aY (pv 3) U) af)))))
  (ag (aG (fX (aO (aY (pv 0) U)) (kY (N:=["fact","domain","columns"]) (k:=2) (fr:=[2]) (cl:=[("columns",s.heap.objs.size+1)]) U U (by decide+kernel) (by decide+kernel) U U (forall_mem_cons.mpr ⟨U,forall_mem_nil _⟩) U) U (λ_ _ _ _=>(nJ (K:=K) (n:=2) U U (aJ (aD (i:=0) (show(["fact","domain","columns"]:List Str).Nodup by decide+kernel) U (Or.inl U) (Or.inr U)) (aJ (aD (i:=1) (show(["fact","domain","columns"]:List Str).Nodup by decide+kernel) U (Or.inl U) (Or.inr U)) bJ)))) (λ_ _ _ _=>(fu (aI (mi (K:=K) U) (pv 0) (pv 2) (by with_unfolding_all rfl)))) (λ_ _ _ _=>(pv 0))))))),?_⟩
 have h16:=hB.ok.n7;have hl1:=hB.ok.len;have hl2:=hB.ok.tab;have hak:=iq hB.ok;refine⟨λσ' H'=>ao H H'/\∃co:Addr,H co=none/\H' co=some (.lst ((([]:List Nat).flatMap (nmT ts zs)).map V.str))/\σ'=[some (.ref b),some (.str nm),some (.ref co),none],⟨zero_le _,λco hco=>⟨ah hco _,co,hco,ae,U⟩⟩,?_⟩;rintro σ1 H1 ⟨s1,co,nco,eco,rfl⟩;rcases hq with⟨hk,hnm,q⟩|⟨hno,qE⟩
 ·have htd:Tld ts.length (odr (akT ts fN) k []):=Tld.odr hak Tld.nil hk;have hlen:=htd.len;refine⟨λσ' H'=>ao H H'/\H' co=some (.lst (((odr (akT ts fN) k []).flatMap (nmT ts zs)).map V.str))/\∃c3:Option V,σ'=[some (.ref b),some (.str nm),some (.ref co),c3],?_,?_⟩
  ·refine⟨_,U,_,U,b,nm,zs,ds,ts,fN,mv,L,k,U,hB.same s1,cI,hs,hsz,iZ,.inl ⟨hk,hnm,λl xs H2 s2 nl el hxs=>?_⟩⟩;have nlc:l≠co:=λz=>by rw[z,eco]at nl;cases nl
   refine⟨l,U,⟨_,SqL.of el⟩,bg (xs:=xs) (λi σ H'=>ao H H'/\H' l=some (.lst xs)/\H' co=some (.lst ((((odr (akT ts fN) k []).take i).flatMap (nmT ts zs)).map V.str))/\∃c3:Option V,σ=[some (.ref b),some (.str nm),some (.ref co),c3]) ⟨s1.trans s2,el,s2 _ _ eco,_,U⟩ (λi σ H' _ h=>SqL.of h.2.1) (λi y σ H' e h=>?_) (λσ H' h=>?_)⟩
   ·obtain⟨sm,el2,sJ,c3,rfl⟩:=h;obtain⟨r,j,rfl,ej,i2,e1,e2⟩:=az.get hxs e;obtain⟨r',j',er,ej',hT⟩:=az.get hB.tabs e1;cases er;rw[e2]at ej';cases ej';obtain⟨tt,nm2,po,ou,dv,g1,g2,g3,g4,g5,g6⟩:=hT;obtain⟨rl,dx,na,dl,fs,xs2,ht,f1,f2,f3,f4,f5,f6,ena,edl,erl,hR,iT⟩:=g4;have enm:nmT ts zs j=prm tt.cols zs:=by unfold nmT;rw[g1]
    have h4:=hB.nm4 j;have hfl:=mH hB.nm4 ((odr (akT ts fN) k []).take i);rw[length_take]at hfl;refine⟨_,U,.inl ⟨U,_,SqL.of sJ⟩,_,U,r,_,_,_,_,U,sm _ _ ht,bl.k_Table,bl.na_Table_names,f5,co,na,_,_,U,U,sJ,sm _ _ ena,le_of_lt (aC (by rw[←enm,length_map,length_map];lia)),sm.upd nco,(ar nlc).trans el2,?_,_,U⟩;rw[ae,take_snoc ej,pb,enm,map_append]
   ·obtain⟨sm,el2,sJ,c3,rfl⟩:=h;rw[hxs.1,take_length]at sJ;exact⟨sm,sJ,c3,U⟩
  rintro σ2 H2 ⟨s2,sJ,c3,rfl⟩;obtain⟨dx,fs,ta,fb,gv,hb,ft,eta,ff,efb,hgv⟩:=hB.bk;have hgl:gv.length=fN:=by rw[hgv.1,length_range]
  refine⟨_,U,b,_,_,_,_,U,s2 _ _ hb,bl.k_Book,bl.na_Book_facts,ff,fb,U,⟨_,SqL.of (s2 _ _ efb)⟩,dY (xs:=gv) (λD i ys H'=>ao H2 H'/\H' D=some (.lst ys)/\ys=((zs.take i).filter (cy ts zs fN k)).map V.str) (λD hD=>⟨ah hD _,ae,U⟩) (λD i ys H' hD _ h=>SqL.of ((s2.trans h.1) _ _ efb)) (λD i y ys H' hD e h ts_ hts=>?_) (λD ys H' hD h=>?_)⟩
  ·obtain⟨sm,eD,rfl⟩:=h;obtain⟨r,j,rfl,ej,z,d,ez,_,er⟩:=az.get hgv e;obtain⟨rfl,hi⟩:=o8 ej;obtain⟨t0,t1,rfl⟩:∃t0 t1,ts_=[t0,t1]:=by
    match ts_,hts with
    | [t0,t1],_=>exact⟨t0,t1,U⟩
   refine⟨r,_,U,SqT.of ((s2.trans sm) _ _ er),U,_,_,U,_,_,U,U,⟨[some (.str z),some (.ref d)],U,U⟩,?_⟩;refine⟨_,U,_,U,co,_,U,.inl (SqL.of (sm _ _ sJ)),U,d6 _,_,U,?_⟩;rw[if_neg Bool.false_ne_true,ir,u4];have hf:=length_filter_le (cy ts zs fN k) (zs.take j);rw[length_take]at hf;cases hc:cy ts zs fN k z with
   |true =>
    refine ee ⟨_,U,bT.mk (by lia) eD (aC (by rw[length_map];lia)) ⟨sm.upd hD,ae,?_⟩⟩;rw[take_snoc ez,filter_append,filter_cons_of_pos hc,filter_nil,map_append];rfl
   |false =>
    refine bV (eM.mk (zs:=((zs.take j).filter (cy ts zs fN k)).map V.str) (by lia) ⟨sm,eD,?_⟩);rw[take_snoc ez,filter_append,filter_cons_of_neg (by rw[hc];exact Bool.false_ne_true),filter_nil,append_nil]
  ·obtain⟨sm,eD,rfl⟩:=h;rw[hgl]at eD;exact q D H' (s2.trans sm) (s2.free hD) eD
 ·refine⟨λ_ _=>False,⟨_,U,_,U,b,nm,zs,ds,ts,fN,mv,L,k,U,hB.same s1,cI,hs,hsz,iZ,.inr ⟨hno,λH' s'=>qE H' (s1.trans s')⟩⟩,?_⟩;rintro σ2 H2 h;exact h.elim
theorem Ed(F:Fun K "fact_codes" "fact_codes" Y43 f fd) (bl:Bl K mg Y)(pG:bK P w K mg base 18 "needs" ["book","name"] (kf K Y)) (gR:aX CX0 P w K mg base 18 Y.k "code" ["self","value"] (cF K Y)) (i0:aX CX0 P w K mg base 18 Y.l "code" ["self","value"] (cY K Y)):aN P w K mg base CX0 19 f fd ["book","name","facts"] (fP K Y):=by
 refine F.okA Z43 λcdv A outer s H vs Q E hr h=>?_
 obtain⟨b,fd,nm,zs,ds,ts,fN,mv,L,k,fk,cd,rfl,hB,cI,hs,hsz,iZ,hk,hnm,hfd,hFa,q⟩:=h
 refine⟨_,(av (aK (i:=3) Z43.nd U (Or.inl U) (bx (jn U) U bl.dict_ PyProof.Rows.boot_dict (aa (aY (pv 0) U) af)))
  (av (aK (i:=4) Z43.nd U (Or.inl U) tL)
  (av (bf PassesOwn.never U (aO (eU pG qc hr U (aa (pv 0) (aa (pv 1) af)))) (aD (i:=5) Z43.nd U (Or.inl U))
  (ay (aQ (aI (uP hr) (pv 5) (pv 2) (by with_unfolding_all rfl))
  (ag bc)
  aH)
  (ag (oQ hr (pv 4) (pv 5) (rL (m5 gR bl.k_Numbers (m5 i0 bl.k_Words zk)) bN hr (aF ml (pv 3) (pv 5) (λ_ _=>U)) (aa (aF ml (pv 2) (pv 5) (λ_ _=>U)) af)) U))))
  (ag (aG (pv 4)))))),?_⟩
 have h7:=hB.ok.n7;have hl1:=hB.ok.len;have hl2:=hB.ok.tab;obtain⟨dx,fs,ta,fb,gv,hb,ft,eta,ff,efb,hgv⟩:=id hB.bk;have hgl:gv.length=fN:=by rw[hgv.1,length_range]
 obtain⟨ks,hkl,hks⟩:=lB (P:=λj (a:Str×V)=>∃(t d:Addr),gv[j]?=some (.ref t)/\H t=some (.tup [.str a.1,.ref d])/\a.2=.ref d/\zs[j]?=some a.1/\DmP Y.k Y.l H ds j d) fN λj hj=>by
  obtain⟨r,er,nm,d,h1,h2,h3⟩:=hgv.2 j j (getElem?_range hj);exact⟨(nm,.ref d),r,d,er,h3,U,h1,h2⟩
 have mh:ks.map (·.1)=zs.take fN:=by
  refine ext_getElem? λj=>?_
  rw[getElem?_map,getElem?_take];cases e:ks[j]? with
  |none =>
   have:ks.length<=j:=List.getElem?_eq_none_iff.mp e;rw[if_neg (by lia)];rfl
  |some a =>
   obtain⟨t,d,_,_,_,h4,_⟩:=hks j a e;have:j<ks.length:=(EW.mp e).1;rw[if_pos (by lia),h4];rfl
 have hkn:(ks.map (·.1)).Nodup:=by rw[mh];exact hB.ok.nd.sublist (take_sublist _ _)
 refine⟨λσ' H'=>ao H H'/\∃da:Addr,H' da=some (.dK (kvT ks))/\σ'=[some (.ref b),some (.str nm),some (.ref fd),some (.ref da),none,none],?_,?_⟩
 ·refine⟨_,U,b,_,_,_,_,U,hb,bl.k_Book,bl.na_Book_facts,ff,fb,gv,ks,U,efb,by lia,λj p_ ep=>?_,hkn,λd hd=>⟨ah hd _,d,ae,U⟩⟩;obtain⟨t,d,h1,h2,h3,_⟩:=hks j p_ ep;exact⟨t,h1,by rw[h3];exact h2⟩
 rintro σ1 H1 ⟨s1,da,eda,rfl⟩;refine⟨λσ' H'=>ao H1 H'/\∃ca:Addr,H1 ca=none/\H' ca=some (.dK (kvT []))/\σ'=[some (.ref b),some (.str nm),some (.ref fd),some (.ref da),some (.ref ca),none],λc hc=>⟨ah hc _,c,hc,ae,U⟩,?_⟩;rintro σ2 H2 ⟨s2,ca,nca,eca,rfl⟩;have s12:=s1.trans s2;generalize hnl:(zs.take fN).filter (cy ts zs fN k)=nl at q;have hnn:nl.Nodup:=by rw[←hnl];exact(hB.ok.nd.sublist (take_sublist _ _)).sublist filter_sublist
 have hn7:nl.length<=7:=by
  have:=length_filter_le (cy ts zs fN k) (zs.take fN);rw[hnl,length_take]at this;lia
 refine⟨λσ' H'=>ao H1 H'/\∃kvs:List (Str×V),H' ca=some (.dK (kvT kvs))/\kvs.map (·.1)=nl/\FCd zs fN cd kvs/\∃c5:Option V,σ'=[some (.ref b),some (.str nm),some (.ref fd),some (.ref da),some (.ref ca),c5],?_,?_⟩
 ·refine⟨_,U,_,U,b,nm,zs,ds,ts,fN,mv,L,k,U,hB.same s12,cI,hs,hsz,iZ,.inl ⟨hk,hnm,λl H3 s3 nl_ el=>?_⟩⟩;rw[hnl]at el;have nlc:l≠ca:=λz=>by rw[z,eca]at nl_;cases nl_
  refine⟨l,U,⟨_,SqL.of el⟩,bg (xs:=nl.map V.str) (λi σ H'=>ao H1 H'/\H' l=some (.lst (nl.map V.str))/\∃kvs:List (Str×V),H' ca=some (.dK (kvT kvs))/\kvs.map (·.1)=nl.take i/\FCd zs fN cd kvs/\∃c5:Option V,σ=[some (.ref b),some (.str nm),some (.ref fd),some (.ref da),some (.ref ca),c5]) ⟨s2.trans s3,el,[],s3 _ _ eca,U,(λp hp=>by cases hp),_,U⟩ (λi σ H' _ h=>SqL.of h.2.1) (λi y σ H' e h=>?_) (λσ H' h=>?_)⟩
  ·obtain⟨sm,el2,kvs,ek,hkk,hF,c5,rfl⟩:=h;obtain⟨z,rfl,ez⟩:=dq e;have hi:i<nl.length:=(EW.mp ez).1;have hz:z∈zs.take fN:=by
    have:=EY ez;rw[←hnl]at this;exact(mem_filter.mp this).1
   obtain⟨f,ef⟩:=getElem?_of_mem hz;have hf:f<fN:=by
    have:=(EW.mp ef).1;rw[length_take]at this;lia
   rw[getElem?_take,if_pos hf]at ef;have epo:=EV (l:=ds) (i:=f) (by lia);generalize ds[f]=po at epo;obtain⟨hv,hlo,hhi⟩:=hFa f z po hf ef epo;have sA:=s1.trans sm;have Ac:=sA _ _ hfd;have Bx:=sm _ _ eda;have ekf:=EV (l:=ks) (i:=f) (by lia);generalize ks[f]=pf at ekf;obtain⟨t,d,_,_,hp2,hp1,po',By,hD⟩:=hks f pf ekf;rw[epo]at By;cases By;rw[ef]at hp1;have hp1:z=pf.1:=Option.some.inj hp1;have yw:dj (kvT ks) (Sum.inr z)=some (.ref d):=by
    rw[mn];refine o9 hkn (j:=f) ?_;rw[ekf,hp1,←hp2]
   have jZ:z ∉ kvs.map (·.1):=λhm=>by
    rw[hkk]at hm;obtain⟨j,ej⟩:=getElem?_of_mem hm;have hj:j<i:=by
     have:=(EW.mp ej).1;rw[length_take]at this;lia
    rw[getElem?_take,if_pos hj]at ej;have:=eO hnn ej ez;lia
   have Bv:kvs.length<=7:=by
    have h1:=congrArg List.length hkk;rw[length_map,length_take]at h1;lia
   have fin:∀v:V,v=.int (cd.getD f 0)->ao H1 (upd H' ca (.dK (putK (kvT kvs) (Sum.inr z) v)))/\upd H' ca (.dK (putK (kvT kvs) (Sum.inr z) v)) l=some (.lst (nl.map V.str))/\∃kvs:List (Str×V),upd H' ca (.dK (putK (kvT (kvs:List (Str×V))) (Sum.inr z) v)) ca=some (.dK (kvT (kvs++[(z,v)]))):=λv hv=>⟨sm.upd nca,(ar nlc).trans el2,kvs,by rw[ae,uc jZ]⟩
   refine⟨_,U,_,U,fd,fk,z,U,U,Ac,_,U,?_⟩;rw[hv];refine bV ?_;have hsm:(kvT kvs).length<sizeLine:=by unfold kvT;rw[length_map];exact lt_of_le_of_lt Bv (by decide)
   have done:∀v:V,v=.int (cd.getD f 0)->(ao H1 (upd H' ca (.dK (putK (kvT kvs) (Sum.inr z) v)))/\upd H' ca (.dK (putK (kvT kvs) (Sum.inr z) v)) l=some (.lst (nl.map V.str))/\∃sL:List (Str×V),upd H' ca (.dK (putK (kvT kvs) (Sum.inr z) v)) ca=some (.dK (kvT sL))/\sL.map (·.1)=nl.take (i+1)/\FCd zs fN cd sL):=λv hv=>by
    subst hv;refine⟨sm.upd nca,(ar nlc).trans el2,kvs++[(z,.int (cd.getD f 0))],by rw[ae,uc jZ],?_,hF.snoc hf ef⟩;rw[map_append,hkk,take_snoc ez];rfl
   unfold PD.k iR at hD;unfold wvP at hv;by_cases hw:po.ws=[]
   ·rw[if_pos hw]at hv;rw[if_pos hw]at hD;obtain⟨dx2,hd2⟩:=hD;have hd3:=sA _ _ hd2;obtain⟨d1,d2,sL,d3,d4,d5⟩:=done _ U;exact⟨_,U,_,U,da,kvT ks,z,_,U,U,Bx,yw,d,_,dx2,_,U,.head _,hd3,U,_,U,_,U,fd,fk,z,_,U,U,Ac,hv,d,po.lo,po.hi,_,U,⟨dx2,hd3⟩,hlo,hhi,_,U,_,U,ca,kvT kvs,z,U,U,ek,hsm,d1,d2,sL,d3,d4,d5,_,U⟩
   ·rw[if_neg hw]at hv;rw[if_neg hw]at hD;obtain⟨⟨dx2,l2,hd2,Ee⟩,h0,h1,hg⟩:=hD;have h0:po.lo=0:=h0;have h1:po.hi=hiW po.ws:=h1;unfold hiW at h1;have hd3:=sA _ _ hd2;have hl3:=sA _ _ Ee;have ze:0<po.ws.length:=List.length_pos_iff.mpr hw;have hcn:((cd.getD f 0).toNat:Int)=cd.getD f 0:=toNat_of_nonneg (by lia);have ix:=EV (l:=po.ws) (i:=(cd.getD f 0).toNat) (by lia);rw[getD_eq_getElem?_getD,ix]at hv;obtain⟨d1,d2,sL,d3,d4,d5⟩:=done (.int (((cd.getD f 0).toNat:Nat):Int)) (by rw[hcn]);exact⟨_,U,_,U,da,kvT ks,z,_,U,U,Bx,yw,d,_,dx2,_,U,.tail _ (.head _),hd3,U,_,U,_,U,fd,fk,z,_,U,U,Ac,hv,d,po.ws,_,(cd.getD f 0).toNat,U,⟨dx2,l2,hd3,hl3⟩,hg.once,ix,_,U,_,U,ca,kvT kvs,z,U,U,ek,hsm,d1,d2,sL,d3,d4,d5,_,U⟩
  ·obtain⟨sm,el2,kvs,ek,hkk,hF,c5,rfl⟩:=h;rw[length_map,take_length]at hkk;exact⟨sm,kvs,ek,hkk,hF,c5,U⟩
 rintro σ3 H3 ⟨s3,kvs,ek,hkk,hF,c5,rfl⟩;exact⟨_,U,q ca kvs H3 (s1.trans s3) (s1.free nca) ek hkk hF⟩
theorem Ef(F:Fun K "ask_codes" "ask_codes" Y41 f fd) (bl:Bl K mg Y)(mR:Callee P w K mg base 18 "last_verdict" ["tables","facts","codes"] (eG K Y)) (dU:bK P w K mg base 18 "tables_for" ["book","name"] (dB K Y)) (pG:bK P w K mg base 18 "needs" ["book","name"] (kf K Y)):aN P w K mg base CX0 19 f fd ["book","name","codes"] (gC K Y):=by
 refine F.okA Z41 λcdv A outer s H vs Q E hr h=>?_
 obtain⟨b,ca,nm,zs,ds,ts,fN,mv,L,k,cd,js,rfl,hB,cI,hs,hsz,iZ,hk,hnm,eca,hpw,lu,q⟩:=h;refine⟨_,(ag (aG (aR mR hr U (aa (eU dU qc hr U (aa (pv 0) (aa (pv 1) af))) (aa (eU pG qc hr U (aa (pv 0) (aa (pv 1) af))) (aa (pv 2) af)))))),?_⟩;refine⟨_,U,_,U,b,nm,zs,ds,ts,fN,mv,L,k,U,hB,cI,hs,hsz,iZ,.inl ⟨hk,hnm,λl xs H1 s1 nl el hxs=>?_⟩⟩;refine⟨_,U,_,U,b,nm,zs,ds,ts,fN,mv,L,k,U,hB.same s1,cI,hs,hsz,iZ,.inl ⟨hk,hnm,λl2 H2 s2 nl2 el2=>?_⟩⟩;have s12:=s1.trans s2;refine⟨_,U,l,l2,ca,xs,zs,ds,ts,fN,k,cd,js,U,s2 _ _ el,az.mono hxs (λr j ⟨i,e1,e2⟩=>?_),hB.ok,hk,el2,s12 _ _ eca,hpw,lu,λd H' s' hd=>q d H' (s12.trans s') hd⟩;obtain⟨r',j',er,ej,hT⟩:=az.get hB.tabs e1;cases er;rw[e2]at ej;cases ej;exact hT.same s12
theorem Eg(F:Fun K "trail" "trail" Y86 f fd) (bl:Bl K mg Y)(pH:Callee P w K mg base 19 "fact_codes" ["book","name","facts"] (fP K Y)) (pF:Callee P w K mg base 19 "steps" ["tables","codes"] (kc K Y)) (dU:bK P w K mg base 19 "tables_for" ["book","name"] (dB K Y)):aN P w K mg base CX0 20 f fd ["book","name","facts"] (mM K Y):=by
 refine F.okA Z86 λcdv A outer s H vs Q E hr h=>?_
 obtain⟨b,fd,nm,zs,ds,ts,fN,mv,L,k,fk,cd,rfl,hB,cI,hs,hsz,iZ,hk,hnm,hfd,hFa,q⟩:=h
 refine⟨_,(av (aK (i:=3) Z86.nd U (Or.inl U) (aR pH hr U (aa (pv 0) (aa (pv 1) (aa (pv 2) af)))))
  (ag (aG (aR pF hr U (aa (eU dU qc hr U (aa (pv 0) (aa (pv 1) af))) (aa (pv 3) af)))))),?_⟩
 have h7:=hB.ok.n7;have hl1:=hB.ok.len;have hl2:=hB.ok.tab;have hak:=iq hB.ok;refine⟨λσ' H'=>ao H H'/\∃(d:Addr)(kvs:List (Str×V)),H d=none/\H' d=some (.dK (kvT kvs))/\kvs.map (·.1)=(zs.take fN).filter (cy ts zs fN k)/\FCd zs fN cd kvs/\σ'=[some (.ref b),some (.str nm),some (.ref fd),some (.ref d)],⟨_,U,_,U,_,U,b,fd,nm,zs,ds,ts,fN,mv,L,k,fk,cd,U,hB,cI,hs,hsz,iZ,hk,hnm,hfd,hFa,λd kvs H' s nd ed hkk hF=>⟨s,d,kvs,nd,ed,hkk,hF,U⟩⟩,?_⟩;rintro σ1 H1 ⟨s1,d,kvs,nd,ed,hkk,hF,rfl⟩;refine⟨_,U,_,U,b,nm,zs,ds,ts,fN,mv,L,k,U,hB.same s1,cI,hs,hsz,iZ,.inl ⟨hk,hnm,λl xs H2 s2 nl el hxs=>?_⟩⟩;have sH:ao H (hide H2 d):=kI (s1.trans s2) nd;have hnn:(kvs.map (·.1)).Nodup:=by rw[hkk];exact(hB.ok.nd.sublist (take_sublist _ _)).sublist filter_sublist
 have hk7:kvs.length<=7:=by
  have h1:=congrArg List.length hkk;have h2:=length_filter_le (cy ts zs fN k) (zs.take fN);rw[length_take]at h2;rw[length_map]at h1;lia
 refine⟨_,U,l,d,xs,zs,ds,ts,fN,cd,odr (akT ts fN) k [],kvs,U,s2 _ _ ed,de el (λz=>by rw[z,ed]at nl;cases nl),az.mono hxs (λr j ⟨i,e1,e2⟩=>?_),hB.ok,Tld.odr hak Tld.nil hk,(ua hak k [] ub).1,hk7,hnn,hF,λj hj t et c hc hcf z ez=>?_,λl' xs' H3 s3 el' hx=>q l' xs' H3 (sH.trans s3) el' hx⟩
 ·obtain⟨r',j',er,ej,hT⟩:=az.get hB.tabs e1;cases er;rw[e2]at ej;cases ej;exact hT.same sH
 ·rw[hkk];refine mem_filter.mpr ⟨EY (i:=c) (by rw[getElem?_take,if_pos hcf];exact ez),?_⟩;unfold cy;rw[any_eq_true];refine⟨j,hj,?_⟩;unfold nmT;rw[et];have tok:=(hB.ok.tabs j t et).ok;obtain⟨m,em⟩:=getElem?_of_mem hc;have hlt:∀k∈t.cols,k<zs.length:=λk hk=>by
   have:=tok.lt k hk;have:=(EW.mp et).1;lia
  have:=(bZ hlt).2 m c em;rw[ez]at this;simpa using EY this
theorem Eh(F:Fun K "ask" "ask" Y40 f fd) (bl:Bl K mg Y)(xQ:Callee P w K mg base 20 "trail" ["book","name","facts"] (mM K Y)):aN P w K mg base CX0 21 f fd ["book","name","facts"] (sy K Y):=by
 refine F.okA Z40 λcdv A outer s H vs Q E hr h=>?_
 obtain⟨b,fd,nm,zs,ds,ts,fN,mv,L,k,fk,cd,rfl,hB,cI,hs,hsz,iZ,hk,hnm,hfd,hFa,q⟩:=h;refine⟨_,(ag (aG (aF aW (aF aL (aR xQ hr U (aa (pv 0) (aa (pv 1) (aa (pv 2) af)))) (xY vp ai) (λ_ _=>U)) ai (λ_ _=>U)))),?_⟩;have hak:=iq hB.ok;have qH:∀(k:Nat)(t:PT),ts[k]?=some t->∀c∈t.cols,c<fN+k:=λk t et c hc=>(hB.ok.tabs k t et).ok.lt c hc
 refine⟨_,U,_,U,_,U,b,fd,nm,zs,ds,ts,fN,mv,L,k,fk,cd,U,hB,cI,hs,hsz,iZ,hk,hnm,hfd,hFa,λl xs H' s' el hxs=>?_⟩;obtain⟨od,hod⟩:=ue hak k;rw[hod]at hxs;obtain⟨rp,ix,t,p,nm',et,ep,DY,cv',m',r3,erp,hr3,_⟩:=oy hxs;rw[←tZ qH et ep]at hr3;exact⟨_,U,l,_,_,_,U,U,SqL.of el,ix,rp,_,_,_,U,U,SqT.of erp,U,q r3 H' s' hr3⟩
theorem Ei(F:Fun K "law" "law" Y51 f fd) (bl:Bl K mg Y)(qJ:Callee P w K mg base 21 "_law_book" ["script"] (iy K Y)) (k_Book:bA CX0 P w K mg base 20 "Book" Y.n ["self","facts","tables"] (cL K Y)) (pI:Callee P w K mg base 21 "_law_table" ["plan","k"] (gB K Y)) (pJ:Callee P w K mg base 21 "_law_facts" ["plan"] (gA K Y)) (pK:Callee P w K mg base 21 "_law_point" ["plan","cell"] (gx K Y)) (pL:Callee P w K mg base 21 "_law_worth" ["domain","code"] (gy K Y)) (Bz:Callee P w K mg base 21 "ask" ["book","name","facts"] (sy K Y)) (kZ:Callee P w K mg base 21 "ask_codes" ["book","name","codes"] (gC K Y)) (dI:Callee P w K mg base 21 "_law_at" ["script","k"] (iN K Y)) (gG:Callee P w K mg base 21 "_law_entry" ["plan","k","codes"] (dS K Y 8)) (gF:Callee P w K mg base 21 "_law_needs" ["plan","k"] (dR K Y 8)):aN P w K mg base CX0 22 f fd ["script"] (J18 K):=by
 refine F.ok Z51 (λvs H Q E h=>?_) (λcdv A outer s H vs Q E hr h=>?_)
 ·obtain⟨a,ns,rfl,hS,h63,q⟩:=h;rfl
 obtain⟨a,ns,rfl,hS,h63,q⟩:=h
 refine⟨_,(av (aK (i:=1) Z51.nd U (Or.inr U) (aR qJ hr U (aa (pv 0) af)))
  (av (gY (pv 1) (dh U (aJ (aD (i:=2) Z51.nd U (Or.inl U)) (aJ (aD (i:=3) Z51.nd U (Or.inl U)) (aJ (aD (i:=4) Z51.nd U (Or.inl U)) bJ)))))
  (av (aK (i:=5) Z51.nd U (Or.inl U) (aE ck (au aq U bl.len_ boot_len (aa (pv 2) af)) (au aq U bl.len_ boot_len (aa (pv 4) af))))
  (av (d8 (i:=6) Z51.nd U (Or.inl U) (br U bl.range_ (aa (au aq U bl.len_ boot_len (aa (pv 4) af)) af)) (aU (N:=["k","plan"]) (fr:=[1]) (cl:=[("plan",s.heap.objs.size+1)]) U U (by decide+kernel) (by decide+kernel) U (by decide+kernel) U U U (forall_mem_cons.mpr ⟨U,forall_mem_nil _⟩) U) U (λ_ _ _ _=>aV) (λ_ _ _ _=>(aR pI hr U (aa (pv 1) (aa (pv 0) af)))))
  (av (aQ (aI cx (aE bu (aE bE (aR dI hr U (aa (pv 0) (aa ai af))) ai) ai) ai (aP _))
  (ag (aT (yX PySem.F.plainAttrs_list PySem.F.slot_list_reverse PySem.F.type_list_reverse rz (pv 6))))
  aH)
  (av (aK (i:=7) Z51.nd U (Or.inl U) (tu k_Book bN hr U (aa (aR pJ hr U (aa (pv 1) af)) (aa (pv 6) af))))
  (av (aK (i:=8) Z51.nd U (Or.inl U) (bz af))
  (av (bf PassesOwn.never U (aO (aE ky (pY sW (pv 0) (oC ai) (oC ai)) (bz (aa ai af)))) (aD (i:=9) Z51.nd U (Or.inl U))
  (av (aK (i:=10) Z51.nd U (Or.inr U) (aR pK hr U (aa (pv 1) (aa (pv 9) af))))
  (av (aK (i:=11) Z51.nd U (Or.inl U) tL)
  (av (bf PassesOwn.never U (br U bl.range_ (aa (pv 5) af)) (aD (i:=12) Z51.nd U (Or.inl U))
  (ag (oQ hr (pv 11) (aF aL (pv 2) (pv 12) (λ_ _=>U)) (aR pL hr U (aa (aF aL (pv 3) (pv 12) (λ_ _=>U)) (aa (aF aL (pv 10) (pv 12) (λ_ _=>U)) af))) U)))
  (ag (bf PassesOwn.never U (ko U bl.range_ (aa (pv 5) (aa (au aq U bl.len_ boot_len (aa (pv 2) af)) af))) (aD (i:=13) Z51.nd U (Or.inl U))
  (av (aK (i:=14) Z51.nd U (Or.inl U) (aF aW (aR gG hr U (aa (pv 1) (aa (pv 13) (aa (pv 10) af)))) ai (λ_ _=>U)))
  (av (aK (i:=15) Z51.nd U (Or.inl U) (bx rR U bl.dict_ PyProof.Rows.boot_dict (aa (pv 11) af)))
  (av (aK (i:=16) Z51.nd U (Or.inl U) (aR Bz hr U (aa (pv 7) (aa (aF aL (pv 2) (pv 13) (λ_ _=>U)) (aa (pv 11) af)))))
  (av (aQ (PW.pt (nq (cP (dg (au rX U bl.isinstance_ PyProof.Rows.boot_isinstance (aa (pv 16) (aa (oA (v:=.ty "tuple") U bl.tuple_ PyProof.Rows.boot_tuple U) af))))) (nq (aI (rC hr) (pv 16) (pv 14) (aP _)) (lH (aI (xB hr) (pv 11) (pv 15) (aP _))))))
  (ag (aG fT))
  aH)
  (av (d8 (i:=17) Z51.nd U (Or.inl U) (aO (aR gF hr U (aa (pv 1) (aa (pv 13) af)))) (aU (N:=["j","codes"]) (fr:=[10]) (cl:=[("codes",s.heap.objs.size+1+1)]) U U (by decide+kernel) (by decide+kernel) U (by decide+kernel) U U U (forall_mem_cons.mpr ⟨U,forall_mem_nil _⟩) U) U (λ_ _ _ _=>aV) (λ_ _ _ _=>(aF (cQ (K:=K) U) (pv 1) (pv 0) (λ_ _=>U))))
  (av (aK (i:=18) Z51.nd U (Or.inl U) (bx cA U bl.list_ PyProof.Rows.boot_list (aa (pv 17) af)))
  (av (aQ (PW.pt (nq (aI (rC hr) (aR kZ hr U (aa (pv 7) (aa (aF aL (pv 2) (pv 13) (λ_ _=>U)) (aa (pv 18) af)))) (pv 14) (aP _)) (lH (aI (zb hr) (pv 18) (pv 17) (aP _)))))
  (ag (aG fT))
  aH)
  (ag (aT (d9 PySem.F.plainAttrs_list PySem.F.slot_list_append PySem.F.type_list_append bS (pv 8) (aa (aZ (aa (aF aL (pv 2) (pv 13) (λ_ _=>U)) (aa (pv 17) (aa (pv 14) af)))) af)))))))))))))))))
  (ay (bf PassesOwn.never U (aO (pY sW (pv 8) xi (oC ai))) (dh U (aJ (aD (i:=19) Z51.nd U (Or.inl U)) (aJ (aD (i:=17) Z51.nd U (Or.inl U)) (aJ (aD (i:=14) Z51.nd U (Or.inl U)) bJ))))
  (ag (aQ (aI (rC hr) (aR kZ hr U (aa (pv 7) (aa (pv 19) (aa (pv 17) af)))) (pv 14) (aP _))
  (ag (aG fT))
  aH)))
  (ag (aG fT))))))))))),?_⟩
 refine⟨λσ' H'=>ao H H'/\∃(r:Addr)(zs:List Str)(ds:List PD)(ts:List PT)(fN:Nat),PlA H' r zs ds ts/\eY zs ds ts fN/\(∀t∈ts,t.rows.length<=32)/\ts.length<=4/\1<=fN/\(∀z∈zs,SmB z)/\σ'=[some (.ref a),some (.ref r),none,none,none,none,none,none,none,none,none,none,none,none,none,none,none,none,none,none],⟨_,U,a,ns,U,hS,h63,λr zs ds ts fN H' s h1 h2 h3 h4 h5 h6 _ h7=>⟨s,r,zs,ds,ts,fN,h1,h2,h4,h5,h6,h7,U⟩⟩,?_⟩;rintro σ1 H1 ⟨s1,r,zs,ds,ts,fN,hPl,ok,h32,ht4,hf1,hsm,rfl⟩;obtain⟨nl,dl,tl_,dv,tv,er,enl,edl,hdv,etl,htv⟩:=id hPl;have htl:tv.length=ts.length:=htv.1;have hzl:(zs.map V.str).length=zs.length:=length_map _;have h7:=ok.n7;have hl1:=ok.len;have hl2:=ok.tab;have hak:=iq ok;have hS1:=s1.seq hS;have qH:∀(k:Nat)(t:PT),ts[k]?=some t->∀c∈t.cols,c<fN+k:=λk t et c hc=>(ok.tabs k t et).ok.lt c hc
 refine⟨λσ' H'=>H'=H1/\σ'=[some (.ref a),some (.ref r),some (.ref nl),some (.ref dl),some (.ref tl_),none,none,none,none,none,none,none,none,none,none,none,none,none,none,none],⟨_,U,r,_,U,SqT.of er,U,_,_,U,_,_,U,_,_,U,U,U,U⟩,?_⟩;rintro σ2 H2 ⟨e2_,rfl⟩;subst e2_;refine⟨λσ' H'=>H'=H2/\σ'=[some (.ref a),some (.ref r),some (.ref nl),some (.ref dl),some (.ref tl_),some (.int (fN:Int)),none,none,none,none,none,none,none,none,none,none,none,none,none,none],⟨_,U,nl,_,U,.inl (SqL.of enl),_,U,tl_,_,U,.inl (SqL.of etl),_,_,U,U,U,?_⟩,?_⟩
 ·rw[show(fN:Int)=(((zs.map V.str).length:Nat):Int)-((tv.length:Nat):Int) by lia];rfl
 rintro σ3 H3 ⟨e3_,rfl⟩;subst e3_;refine⟨λσ' H'=>ao H3 H'/\∃(ma:Addr)(mv:List V),H3 ma=none/\H' ma=some (.lst mv)/\az mv (List.range ts.length) (TbN (Fr H3 ma) Y.m Y.k Y.l H' zs ds ts fN)/\σ'=[some (.ref a),some (.ref r),some (.ref nl),some (.ref dl),some (.ref tl_),some (.int (fN:Int)),some (.ref ma),none,none,none,none,none,none,none,none,none,none,none,none,none],?_,?_⟩
 ·refine⟨_,U,tl_,_,U,.inl (SqL.of etl),_,U,(by lia),(by lia),bH (λD i ys H'=>ao H3 H'/\H' D=some (.lst ys)/\az ys (List.range i) (TbN (Fr H3 D) Y.m Y.k Y.l H' zs ds ts fN)) (λD hD=>⟨ah hD _,ae,az.nil⟩) (λD i ys H' hD hi h=>?_) (λD ys H' hD h=>?_)⟩
  ·obtain⟨sm,eD,hy⟩:=h;rw[toNat_natCast]at hi;have et:=EV (l:=ts) (i:=i) (by lia);generalize ts[i]=t at et;have enm:=EV (l:=zs) (i:=fN+i) (by lia);have epo:=EV (l:=ds) (i:=fN+i) (by lia);refine⟨_,U,_,U,r,i,zs,ds,ts,fN,t,_,_,(by rw[show(0:Int)+(i:Int)=(i:Int) by lia]),hPl.same sm,ok,et,enm,epo,λx H4 s4 hx=>?_⟩;have eD4:=s4 _ _ eD;refine bT.mk (by lia) eD4 (aC (by rw[hy.1,length_range];lia)) ⟨(sm.trans s4).upd hD,ae,?_⟩;rw[range_succ];exact az.mono (az.snoc (az.mono hy λ_ _ p=>p.same s4) (hx.wk λb h=>⟨sm.free h,λz=>by rw[z,eD]at h;cases h⟩)) λ_ _ p=>p.upd Fr.out eD4
  ·obtain⟨sm,eD,hy⟩:=h;rw[toNat_natCast,htl]at hy;exact⟨sm,D,ys,hD,eD,hy,U⟩
 rintro σ4 H4 ⟨s4,ma,mv,nma,ema,hmv,rfl⟩;refine⟨λσ' H'=>ao H3 H'/\∃(mv:List V)(L:List Nat),H' ma=some (.lst mv)/\(L=List.range ts.length\/L=(List.range ts.length).reverse)/\az mv L (TbA Y.m Y.k Y.l H' zs ds ts fN)/\σ'=[some (.ref a),some (.ref r),some (.ref nl),some (.ref dl),some (.ref tl_),some (.int (fN:Int)),some (.ref ma),none,none,none,none,none,none,none,none,none,none,none,none,none],?_,?_⟩
 ·refine⟨_,U,a,ns,0,U,s4.seq hS1,Int.le_refl _,λc=>⟨_,_,U,U,⟨by decide,by decide⟩,_,_,U,U,(by show(0:Int)<2;decide),U,_,U,di (λg=>?_) (λg=>?_)⟩⟩
  ·exact⟨_,U,.inl ⟨U,_,SqL.of ema⟩,ma,_,U,U,ema,s4.upd nma,_,_,ae,.inr U,az.mono hmv.rev (λ_ _ p=>(p.upd Fr.out ema).tb),U⟩
  ·exact⟨s4,_,_,ema,.inl U,az.mono hmv (λ_ _ p=>p.tb),U⟩
 rintro σ5 H5 ⟨s5,mw,Lk,Ej,hLk,hmw,rfl⟩;have hlen:Lk.length=ts.length:=by
  rcases hLk with rfl|rfl
  ·exact length_range
  ·rw[length_reverse];exact length_range
 have lu:∀k,k∈Lk↔k<ts.length:=by
  rcases hLk with rfl|rfl
  ·exact λk=>mem_range
  ·exact λk=>by rw[List.mem_reverse];exact mem_range
 have hnd:Lk.Nodup:=by
  rcases hLk with rfl|rfl
  ·exact nodup_range
  ·exact List.pairwise_reverse.mpr (List.Pairwise.imp (λh z=>h z.symm) nodup_range)
 have cI:∀k,k<ts.length->k∈Lk:=λk hk=>(lu k).mpr hk
 refine⟨λσ' H'=>ao H5 H'/\∃bo:Addr,BkT Y.m Y.k Y.l Y.n H' bo zs ds ts fN mw Lk/\σ'=[some (.ref a),some (.ref r),some (.ref nl),some (.ref dl),some (.ref tl_),some (.int (fN:Int)),some (.ref ma),some (.ref bo),none,none,none,none,none,none,none,none,none,none,none,none],?_,?_⟩
 ·refine⟨_,U,r,zs,ds,ts,fN,U,hPl.same s5,ok,λfa fv H6 s6 efa hfv=>⟨_,U,λx dx hx hdx hne=>?_⟩⟩;have s8:ao H6 (upd (upd H6 dx (.own x)) x (.ins Y.n dx [])):=(ah hdx _).upd hx;have s68:=s6.trans s8;have hfP:az fv (List.range fN) (FcT (DmP Y.k Y.l H6 ds) H6 zs):=az.mono hfv λ_ _ p=>let ⟨nm,po,d,h1,h2,h3,h4⟩:=p;⟨nm,d,h1,⟨po,h2,h4⟩,h3⟩
  refine⟨x,dx,fa,ma,fv,mw,zs,ds,ts,fN,Lk,DmP Y.k Y.l H6 ds,U,ae,s8 _ _ efa,s68 _ _ Ej,⟨ok,az.mono hfv (λ_ _ p=>p.same s8),az.mono hmw (λ_ _ p=>p.same s68),(λk hk=>(lu k).mp hk),hnd,hlen,(λk hk=>(lu k).mpr hk)⟩,az.mono hfP (λ_ _ p=>p.tups s8.tups),λH7 fs ta fb gv k1 k2 k3 k4 k5 k6 k7=>⟨U,?_⟩⟩;have s9:ao H6 H7:=λb u e=>k1 b u (bj e hx) (s8 _ _ e)
  exact⟨s6.trans s9,x,⟨⟨dx,fs,ta,fb,gv,k2,k3,k4,k5,k6,az.mono k7 λ_ _ p=>p.mono λ_ _ ⟨po,h1,h2⟩=>⟨po,h1,h2.same s9⟩⟩,ok,az.mono hmw (λ_ _ p=>p.same (s6.trans s9)),(λk hk=>(lu k).mp hk),by rw[hlen];lia⟩,U⟩
 rintro σ6 H6 ⟨s56,bo,hB,rfl⟩;have s36:=s5.trans s56;have wX:=s36 _ _ enl;have Ek:=s36 _ _ edl;have Ad:=hPl.same s36;have El:az dv ds (PDA NT H6):=az.mono hdv λ_ _ p=>p.same s36
 refine⟨λσ' H'=>ao H6 H'/\∃he:Addr,H6 he=none/\H' he=some (.lst [])/\σ'=[some (.ref a),some (.ref r),some (.ref nl),some (.ref dl),some (.ref tl_),some (.int (fN:Int)),some (.ref ma),some (.ref bo),some (.ref he),none,none,none,none,none,none,none,none,none,none,none],⟨zero_le _,λl hl=>⟨ah hl _,l,hl,ae,U⟩⟩,?_⟩;rintro σh Hh ⟨sh,he,nhe,ehe,rfl⟩;have Em:=s36.trans sh;refine⟨λσ' H'=>ao H6 H'/\∃hv:List V,H' he=some (.lst hv)/\hv.length<=300/\(∀x∈hv,HdA H' he zs ds ts fN x)/\∃c9 c10 c11 c12 c13 c14 c15 c16 c17 c18 c19:Option V,σ'=[some (.ref a),some (.ref r),some (.ref nl),some (.ref dl),some (.ref tl_),some (.int (fN:Int)),some (.ref ma),some (.ref bo),some (.ref he),c9,c10,c11,c12,c13,c14,c15,c16,c17,c18,c19],?_,?_⟩
 ·refine⟨_,U,_,U,_,U,a,_,U,Em.seq hS1,λp1 hp1=>⟨(by show 1<=sizeLine;decide),λp2 hp2=>?_⟩⟩;have u1:=ah hp1 (.lst (hV (ns.map V.int) (some 2) (some 16)));have ep1:upd Hh p1 (.lst (hV (ns.map V.int) (some 2) (some 16))) p1=some (.lst (hV (ns.map V.int) (some 2) (some 16))):=ae;have hcl:(hV (ns.map V.int) (some 2) (some 16)).length<=63:=le_trans (kW _ _ _) (by rw[length_map];exact h63);have hci:∀x∈hV (ns.map V.int) (some 2) (some 16)++[V.int 0],∃i:Int,x=.int i:=λx hx=>by
   rcases mem_append.mp hx with hx|hx
   ·obtain⟨i,_,rfl⟩:=mem_map.mp (qD hx);exact⟨i,U⟩
   ·exact⟨0,mem_singleton.mp hx⟩
  generalize hV (ns.map V.int) (some 2) (some 16)=cv at u1 ep1 hcl hci hp2⊢;generalize upd Hh p1 (.lst cv)=H7 at u1 ep1 hp2⊢;have u2:=ah hp2 (.lst [V.int 0]);have ep2:upd H7 p2 (.lst [V.int 0]) p2=some (.lst [V.int 0]):=ae;generalize upd H7 p2 (.lst [V.int 0])=H8 at u2 ep2⊢;refine⟨p1,p2,_,_,U,U,u2 _ _ ep1,ep2,(by show cv.length+1<=sizeLine;exact le_trans (show cv.length+1<=64 by lia) (by decide)),λp3 hp3=>?_⟩;have u3:=ah hp3 (.lst (cv++[V.int 0]));have ep3:upd H8 p3 (.lst (cv++[V.int 0])) p3=some (.lst (cv++[V.int 0])):=ae;generalize upd H8 p3 (.lst (cv++[V.int 0]))=H9 at u3 ep3⊢;have u69:=(u1.trans u2).trans u3;have s69:=sh.trans u69;have En:=u69 _ _ ehe;have np3:p3≠he:=λz=>by have:=(u1.trans u2) _ _ ehe;rw[←z,hp3]at this;cases this
  refine⟨p3,U,⟨_,SqL.of ep3⟩,bg (xs:=cv++[V.int 0]) (λi σ H'=>(∀b o,b≠he->H9 b=some o->H' b=some o)/\∃hv:List V,H' he=some (.lst hv)/\hv.length<=4*i/\(∀x∈hv,HdA H' he zs ds ts fN x)/\∃c9 c10 c11 c12 c13 c14 c15 c16 c17 c18 c19:Option V,σ=[some (.ref a),some (.ref r),some (.ref nl),some (.ref dl),some (.ref tl_),some (.int (fN:Int)),some (.ref ma),some (.ref bo),some (.ref he),c9,c10,c11,c12,c13,c14,c15,c16,c17,c18,c19]) ⟨(λ_ _ _ e=>e),[],En,zero_le _,(λx hx=>by cases hx),_,_,_,_,_,_,_,_,_,_,_,U⟩ (λi σ H' _ h=>SqL.of (h.1 _ _ np3 ep3)) (λi y σ H' e h=>?_) (λσ H' h=>?_)⟩
  ·obtain⟨kb,hv,ehv,hvl,hhv,c9,c10,c11,c12,c13,c14,c15,c16,c17,c18,c19,rfl⟩:=h;obtain⟨cell,rfl⟩:=hci y (EY e);have EU:i<64:=by
    have:=(EW.mp e).1;rw[length_append,length_singleton]at this;lia
   have sm:ao H6 H':=λb o e=>kb b o (bj e nhe) (s69 b o e)
   refine⟨λσ' H''=>ao H' H''/\∃(ca:Addr)(cd:List Int),H' ca=none/\H'' ca=some (.lst (cd.map V.int))/\cd.length=fN/\(∀(f:Nat)(p:PD),f<fN->ds[f]?=some p->p.lo<=cd.getD f 0/\cd.getD f 0<=p.hi)/\σ'=[some (.ref a),some (.ref r),some (.ref nl),some (.ref dl),some (.ref tl_),some (.int (fN:Int)),some (.ref ma),some (.ref bo),some (.ref he),some (.int cell),some (.ref ca),c11,c12,c13,c14,c15,c16,c17,c18,c19],⟨_,U,_,U,r,cell,zs,ds,ts,fN,U,Ad.same sm,ok,h32,ht4,λl cd H'' s nl' el hcl hcb=>⟨s,l,cd,nl',el,hcl,hcb,U⟩⟩,?_⟩;rintro σa Ha ⟨sa,ca,cd,BA,eca,hcd,hcb,rfl⟩;have s6a:=sm.trans sa;have nca:ca≠he:=λz=>by rw[z,ehv]at BA;cases BA
   refine⟨λσ' H''=>ao Ha H''/\∃fd:Addr,Ha fd=none/\H'' fd=some (.dK [])/\σ'=[some (.ref a),some (.ref r),some (.ref nl),some (.ref dl),some (.ref tl_),some (.int (fN:Int)),some (.ref ma),some (.ref bo),some (.ref he),some (.int cell),some (.ref ca),some (.ref fd),c12,c13,c14,c15,c16,c17,c18,c19],λd hd=>⟨ah hd _,d,hd,ae,U⟩,?_⟩;rintro σb Hb ⟨sb,fd,nfd,efd,rfl⟩;refine⟨λσ' H''=>ao Ha H''/\∃fk:List (Key×V),H'' fd=some (.dK fk)/\FaD zs ds fN cd fk/\(∀p∈fk,bY p.2=true/\dj fk p.1=some p.2)/\∃c12:Option V,σ'=[some (.ref a),some (.ref r),some (.ref nl),some (.ref dl),some (.ref tl_),some (.int (fN:Int)),some (.ref ma),some (.ref bo),some (.ref he),some (.int cell),some (.ref ca),some (.ref fd),c12,c13,c14,c15,c16,c17,c18,c19],?_,?_⟩
   ·refine⟨_,U,_,U,(by lia),(by lia),dG (λj σ H''=>ao Ha H''/\∃fk:List (Key×V),H'' fd=some (.dK fk)/\fk.length<=j/\(∀(f:Nat)(z:Str)(p:PD),f<j->zs[f]?=some z->ds[f]?=some p->dj fk (Sum.inr z)=some (wvP p (cd.getD f 0)))/\(∀p∈fk,bY p.2=true/\dj fk p.1=some p.2)/\∃c12:Option V,σ=[some (.ref a),some (.ref r),some (.ref nl),some (.ref dl),some (.ref tl_),some (.int (fN:Int)),some (.ref ma),some (.ref bo),some (.ref he),some (.int cell),some (.ref ca),some (.ref fd),c12,c13,c14,c15,c16,c17,c18,c19]) ⟨sb,[],efd,le_refl _,(λf z p hf=>by lia),(λp hp=>by cases hp),_,U⟩ (λj σ H'' hj h=>?_) (λσ H'' h=>?_)⟩
    ·obtain⟨sn,fk,efk,hfl,hfk,qK,nh,rfl⟩:=h;rw[toNat_natCast]at hj;rw[show(0:Int)+(j:Int)=(j:Int) by lia];have ep:=EV (l:=ds) (i:=j) (by lia);generalize ds[j]=p at ep;have ez:=EV (l:=zs) (i:=j) (by lia);generalize zs[j]=z at ez;have ec:=EV (l:=cd) (i:=j) (by lia);have hgc:cd.getD j 0=cd[j]'(by lia):=by rw[getD_eq_getElem?_getD,ec];rfl
     obtain⟨da,eda,hda⟩:=El.2 j p ep;have s6n:=s6a.trans sn;obtain⟨b1,b2⟩:=hcb j p hj ep;rw[hgc]at b1 b2;refine⟨_,U,_,U,dl,_,_,_,U,U,SqL.of (s6n _ _ Ek),aM eda,_,U,_,U,ca,_,_,_,U,U,SqL.of (sn _ _ eca),aM (get_map ec),da,p,_,U,hda.same s6n,ok.doms p (EY ep),b1,b2,_,U,_,U,_,U,nl,_,_,_,U,U,SqL.of (s6n _ _ wX),aM (eV ez),fd,fk,z,U,U,efk,lt_of_le_of_lt hfl (lt_of_le_of_lt (show j<=100 by lia) (by decide)),sn.upd nfd,_,ae,?_,λf z' p' hf ez' ep'=>?_,λp' hp'=>?_,_,U⟩
     ·have:=fA fk (Sum.inr z:Key) (wvP p (cd[j]'(by lia)));lia
     ·rw[mj];by_cases hz:z'=z
      ·subst hz;have hfj:=eO ok.nd ez' ez;subst hfj;rw[ep]at ep';cases ep';rw[if_pos U,hgc]
      ·rw[if_neg (λq=>hz (by injection q))];refine hfk f z' p' ?_ ez' ep';rcases lt_or_ge f j with h|h
       ·exact h
       ·have:f=j:=by lia
        subst this;rw[ez]at ez';exact absurd (Option.some.inj ez').symm hz
     ·rw[mj];rcases wN hp' with rfl|⟨h1,h2⟩
      ·exact⟨wO _ _,if_pos U⟩
      ·rw[if_neg h2];exact qK p' h1
    ·obtain⟨sn,fk,efk,hfl,hfk,qK,nh,rfl⟩:=h;rw[toNat_natCast]at hfk;exact⟨sn,fk,efk,λf z p hf ez ep=>⟨hfk f z p hf ez ep,hcb f p hf ep⟩,qK,_,U⟩
   rintro σc Hc ⟨sc,fk,efk,hFa,qK,nh,rfl⟩;have s6c:=s6a.trans sc;have Eo:=sc _ _ eca;have BB:=sc _ _ (sa _ _ ehv);have Ep:fd≠he:=λz=>by rw[z,BB]at efk;cases efk
   refine⟨_,U,_,U,nl,_,U,.inl (SqL.of (s6c _ _ wX)),_,_,U,⟨by lia,by lia,by lia,by lia⟩,dG (λk σ H''=>(∀b o,b≠he->Hc b=some o->H'' b=some o)/\∃hv:List V,H'' he=some (.lst hv)/\hv.length<=4*i+k/\(∀x∈hv,HdA H'' he zs ds ts fN x)/\∃c13 c14 c15 c16 c17 c18 c19:Option V,σ=[some (.ref a),some (.ref r),some (.ref nl),some (.ref dl),some (.ref tl_),some (.int (fN:Int)),some (.ref ma),some (.ref bo),some (.ref he),some (.int cell),some (.ref ca),some (.ref fd),nh,c13,c14,c15,c16,c17,c18,c19]) ⟨(λ_ _ _ e=>e),hv,BB,by lia,(λx hx=>(hhv x hx).same (sa.trans sc)),_,_,_,_,_,_,_,U⟩ (λk σ H'' hk h=>?_) (λσ H'' h=>?_)⟩
   ·obtain⟨kb2,hv2,Ae,Er,Af,c13,c14,c15,c16,c17,c18,c19,rfl⟩:=h;have hk:k<ts.length:=by lia
    rw[show(fN:Int)+(k:Int)=((fN+k:Nat):Int) by lia];have enm:=EV (l:=zs) (i:=fN+k) (by lia);generalize zs[fN+k]=nm at enm;have hsn:=hsm nm (EY enm);have htn:tnm zs fN k=nm:=dF enm;have ixn:atI (zs.map V.str) ((fN+k:Nat):Int)=some (.str nm):=aM (eV enm);have s6n:ao H6 H'':=λb o e=>kb2 b o (bj e nhe) (s6c b o e)
    have BC:=kb2 _ _ nca Eo;have Ag:=kb2 _ _ Ep efk;refine⟨λσ' H3'=>ao H'' H3'/\∃du:Addr,H3' du=some (.tup (tp (vd ts ds fN cd k)))/\σ'=[some (.ref a),some (.ref r),some (.ref nl),some (.ref dl),some (.ref tl_),some (.int (fN:Int)),some (.ref ma),some (.ref bo),some (.ref he),some (.int cell),some (.ref ca),some (.ref fd),nh,some (.int ((fN+k:Nat):Int)),some (.ref du),c15,c16,c17,c18,c19],⟨_,U,_,U,_,U,r,ca,k,zs,ds,ts,fN,cd,U,Ad.same s6n,ok,hk,by lia,BC,hcd,λl d v0 v1 H3' s el ed=>⟨l,_,_,_,U,U,SqT.of el,U,s,d,ed,U⟩⟩,?_⟩;rintro σd Hd ⟨sd,du,edu,rfl⟩;have s6d:=s6n.trans sd;refine⟨λσ' H3'=>ao Hd H3'/\∃ke:Addr,H3' ke=some (.dK fk)/\σ'=[some (.ref a),some (.ref r),some (.ref nl),some (.ref dl),some (.ref tl_),some (.int (fN:Int)),some (.ref ma),some (.ref bo),some (.ref he),some (.int cell),some (.ref ca),some (.ref fd),nh,some (.int ((fN+k:Nat):Int)),some (.ref du),some (.ref ke),c16,c17,c18,c19],⟨_,U,fd,fk,U,sd _ _ Ag,λpd hpd=>⟨ah hpd _,pd,ae,U⟩⟩,?_⟩;rintro σe He ⟨se,ke,eke,rfl⟩;have s6e:=s6d.trans se;have sde:=sd.trans se;refine⟨λσ' H3'=>ao He H3'/\∃fo:Addr,SqT K H3' fo (tp (vd ts ds fN cd k))/\σ'=[some (.ref a),some (.ref r),some (.ref nl),some (.ref dl),some (.ref tl_),some (.int (fN:Int)),some (.ref ma),some (.ref bo),some (.ref he),some (.int cell),some (.ref ca),some (.ref fd),nh,some (.int ((fN+k:Nat):Int)),some (.ref du),some (.ref ke),some (.ref fo),c17,c18,c19],⟨_,U,_,U,_,U,nl,_,_,_,U,U,SqL.of (s6e _ _ wX),ixn,_,U,bo,fd,nm,zs,ds,ts,fN,mw,Lk,k,fk,cd,U,hB.same s6e,cI,hsn,hsm,by lia,hk,htn,sde _ _ Ag,hFa,λd H3' s hd=>⟨s,d,hd,U⟩⟩,?_⟩;rintro σf Hf ⟨sf,fo,hfo,rfl⟩;have sdf:=sde.trans sf;have s6f:=s6e.trans sf;have BD:=(se.trans sf) _ _ edu;refine⟨λσ' H3'=>H3'=Hf/\σ'=[some (.ref a),some (.ref r),some (.ref nl),some (.ref dl),some (.ref tl_),some (.int (fN:Int)),some (.ref ma),some (.ref bo),some (.ref he),some (.int cell),some (.ref ca),some (.ref fd),nh,some (.int ((fN+k:Nat):Int)),some (.ref du),some (.ref ke),some (.ref fo),c17,c18,c19],?_,?_⟩
    ·refine⟨_,U,.inr ⟨fo,_,U,hfo,(by first|rfl|with_unfolding_all rfl|decide+kernel),_,U,bV ?_⟩⟩;refine⟨_,U,_,U,sx hfo (SqT.of BD) ⟨_,U,bV ?_⟩⟩;exact⟨_,U,_,U,fd,ke,fk,U,U,sdf _ _ Ag,sf _ _ eke,qK,_,U,bV ⟨U,U⟩⟩
    rintro σg Hg ⟨eg_,rfl⟩;subst eg_;refine⟨λσ' H3'=>ao Hg H3'/\∃(ha:Addr)(js:List Nat),Hg ha=none/\H3' ha=some (.lst ((js.map λf=>cd.getD f 0).map V.int))/\js.Pairwise (· < ·)/\(∀f,f∈js↔FN ts fN (fN+k) f)/\σ'=[some (.ref a),some (.ref r),some (.ref nl),some (.ref dl),some (.ref tl_),some (.int (fN:Int)),some (.ref ma),some (.ref bo),some (.ref he),some (.int cell),some (.ref ca),some (.ref fd),nh,some (.int ((fN+k:Nat):Int)),some (.ref du),some (.ref ke),some (.ref fo),some (.ref ha),c18,c19],?_,?_⟩
    ·refine⟨_,U,_,U,r,fN+k,zs,ds,ts,fN,U,Ad.same s6f,ok,by lia,by lia,λl js H4' s4' nl4 el pw mem=>?_⟩;have hjl:js.length<=fN:=wL pw λf hf=>((mem f).mp hf).lt
     have Es:=s4' _ _ (sdf _ _ BC);refine⟨l,U,⟨_,SqL.of el⟩,bh (xs:=vN js) (λD m ys H5'=>ao H4' H5'/\H5' D=some (.lst ys)/\ys=((js.take m).map λf=>cd.getD f 0).map V.int) (λD hD=>⟨ah hD _,ae,U⟩) (λD m ys H5' hD _ h=>SqL.of (h.1 _ _ el)) (λD m y ys H5' hD e h=>?_) (λD ys H5' hD h=>?_)⟩
     ·obtain⟨so,eD,rfl⟩:=h;obtain⟨f,rfl,ef⟩:=mz e;have hm:m<(vN js).length:=(EW.mp e).1;have hmj:m<js.length:=(EW.mp ef).1;have hff:f<fN:=((mem f).mp (EY ef)).lt;have exc:=EV (l:=cd) (i:=f) (by lia);have hgx:cd.getD f 0=cd[f]'(by lia):=by rw[getD_eq_getElem?_getD,exc];rfl
      refine⟨_,U,_,U,ca,_,_,_,U,U,SqL.of (so _ _ Es),aM (get_map exc),bT.mk hm eD (aC (by rw[length_map,length_map,length_take];lia)) ⟨so.upd hD,ae,?_⟩⟩;rw[take_snoc ef,map_append,map_append,map_cons,map_cons,hgx];rfl
     ·obtain⟨so,eD,rfl⟩:=h;rw[cC,take_length]at eD;exact⟨s4'.trans so,D,js,s4'.free hD,eD,pw,mem,U⟩
    rintro σi Hi ⟨si,ha,js,nha,eha,pw,mem,rfl⟩;have s6i:=s6f.trans si;have BE:=sdf _ _ Ae;have Et:ha≠he:=λz=>by rw[z,BE]at nha;cases nha
    refine⟨λσ' H3'=>ao Hi H3'/\∃ch:Addr,H3' ch=some (.lst ((js.map λf=>cd.getD f 0).map V.int))/\σ'=[some (.ref a),some (.ref r),some (.ref nl),some (.ref dl),some (.ref tl_),some (.int (fN:Int)),some (.ref ma),some (.ref bo),some (.ref he),some (.int cell),some (.ref ca),some (.ref fd),nh,some (.int ((fN+k:Nat):Int)),some (.ref du),some (.ref ke),some (.ref fo),some (.ref ha),some (.ref ch),c19],⟨_,U,ha,_,U,.inl (SqL.of eha),λl hl=>⟨ah hl _,l,ae,U⟩⟩,?_⟩;rintro σj Hj ⟨sj,ch,ech,rfl⟩;have s6j:=s6i.trans sj;have BG:=si _ _ BD;refine⟨λσ' H3'=>ao Hj H3'/\σ'=[some (.ref a),some (.ref r),some (.ref nl),some (.ref dl),some (.ref tl_),some (.int (fN:Int)),some (.ref ma),some (.ref bo),some (.ref he),some (.int cell),some (.ref ca),some (.ref fd),nh,some (.int ((fN+k:Nat):Int)),some (.ref du),some (.ref ke),some (.ref fo),some (.ref ha),some (.ref ch),c19],?_,?_⟩
    ·refine⟨_,U,_,U,_,U,nl,_,_,_,U,U,SqL.of (s6j _ _ wX),ixn,_,U,bo,ch,nm,zs,ds,ts,fN,mw,Lk,k,cd,js,U,hB.same s6j,cI,hsn,hsm,by lia,hk,htn,ech,pw,mem,λd H3' s hd=>?_⟩;refine⟨_,U,sx hd (SqT.of (s _ _ (sj _ _ BG))) ⟨_,U,bV ?_⟩⟩;exact⟨_,U,_,U,wI (SqL.of (s _ _ ech)) (SqL.of (s _ _ (sj _ _ eha))) (λx hx=>by obtain⟨c,_,rfl⟩:=mem_map.mp hx;rfl) ⟨_,U,bV ⟨s,U⟩⟩⟩
    rintro σk Hk ⟨sk,rfl⟩;have sik:=sj.trans sk;have s6k:=s6j.trans sk;have sgk:=si.trans sik;have BH:=sgk _ _ BE;refine⟨_,U,.inl ⟨U,_,SqL.of BH⟩,_,U,_,U,nl,_,_,_,U,U,SqL.of (s6k _ _ wX),ixn,_,U,_,U,(by show 3<=sizeLine;decide),λp hp=>?_⟩;have v1:=ah hp (.tup [.str nm,.ref ha,.ref du]);have ep1:upd Hk p (.tup [.str nm,.ref ha,.ref du]) p=some (.tup [.str nm,.ref ha,.ref du]):=ae;generalize upd Hk p (.tup [.str nm,.ref ha,.ref du])=Hl at v1 ep1⊢;have Ah:=v1 _ _ BH;refine⟨he,_,_,U,U,Ah,aC (by lia),λb o hb e=>(ar hb).trans (v1 _ _ (sgk _ _ (sdf _ _ (kb2 b o hb e)))),_,ae,by rw[length_append,length_singleton];lia,λx hx=>?_,_,_,_,_,_,_,_,U⟩;rcases mem_append.mp hx with hx|hx
    ·exact((Af x hx).same ((sdf.trans sgk).trans v1)).upd Ah
    ·rw[mem_singleton.mp hx];exact HdA.upd ⟨p,ha,du,k,nm,cd,js,U,ep1,Et,hk,enm,v1 _ _ (sik _ _ eha),pw,mem,v1 _ _ (sik _ _ BG)⟩ Ah
   ·obtain⟨kb2,hv2,Ae,Er,Af,c13,c14,c15,c16,c17,c18,c19,rfl⟩:=h;exact⟨λb o hb e=>kb2 b o hb (sc _ _ (sa _ _ (kb b o hb e))),hv2,Ae,by lia,Af,_,_,_,_,_,_,_,_,_,_,_,U⟩
  ·obtain⟨kb,hv,ehv,hvl,hhv,c9,c10,c11,c12,c13,c14,c15,c16,c17,c18,c19,rfl⟩:=h;rw[length_append,length_singleton]at hvl;exact⟨λb o e=>kb b o (bj e nhe) (s69 b o e),hv,ehv,by lia,hhv,_,_,_,_,_,_,_,_,_,_,_,U⟩
 rintro σx Hx ⟨s6x,hv,ehv,hvl,hhv,c9,c10,c11,c12,c13,c14,c15,c16,c17,c18,c19,rfl⟩;refine⟨_,U,_,U,he,_,U,SqL.of ehv,λp hp=>?_⟩;have v1:=ah hp (.lst (hV hv none (some 20)));have ep1:upd Hx p (.lst (hV hv none (some 20))) p=some (.lst (hV hv none (some 20))):=ae;generalize upd Hx p (.lst (hV hv none (some 20)))=Hy at v1 ep1⊢;refine⟨p,U,⟨_,SqL.of ep1⟩,bg (xs:=hV hv none (some 20)) (λi σ H'=>ao Hy H'/\∃c9 c10 c11 c12 c13 c14 c15 c16 c17 c18 c19:Option V,σ=[some (.ref a),some (.ref r),some (.ref nl),some (.ref dl),some (.ref tl_),some (.int (fN:Int)),some (.ref ma),some (.ref bo),some (.ref he),c9,c10,c11,c12,c13,c14,c15,c16,c17,c18,c19]) ⟨ao.refl _,_,_,_,_,_,_,_,_,_,_,_,U⟩ (λi σ H' _ h=>SqL.of (h.1 _ _ ep1)) (λi y σ H' e h=>?_) (λσ H' h=>?_)⟩
 ·obtain⟨sm,c9,c10,c11,c12,c13,c14,c15,c16,c17,c18,c19,rfl⟩:=h;obtain⟨r',ha,du,k,nm,cd,js,rfl,er',_,hk,enm,eha,pw,mem,edu⟩:=((hhv y (qD (EY e))).same v1).same sm;have s6m:=(s6x.trans v1).trans sm;have htn:tnm zs fN k=nm:=dF enm;refine⟨r',_,U,SqT.of er',U,_,_,U,_,_,U,_,_,U,U,?_⟩;refine⟨_,U,_,U,_,U,bo,ha,nm,zs,ds,ts,fN,mw,Lk,k,cd,js,U,hB.same s6m,cI,hsm nm (EY enm),hsm,by lia,hk,htn,eha,pw,mem,λd H3' s hd=>?_⟩;exact⟨_,U,sx hd (SqT.of (s _ _ edu)) ⟨_,U,bV ⟨sm.trans s,_,_,_,_,_,_,_,_,_,_,_,U⟩⟩⟩
 ·exact q H'
end
structure FF(K:W.Frag)(Y:AD):Prop where
 (h0:GF K "all_among" "all_among" Y39)
 (h1:GF K "is_word" "is_word" Y47)
 (h2:GF K "is_whole" "is_whole" Y46)
 (h3:GF K "alike" "alike" Y38)
 (h4:GF K "refuse_counts_books" "refuse_counts" Y75)
 (h5:GF K "refuse_names_books" "refuse_names" Y78)
 (h6:GF K "refuse_domains" "refuse_domains" Y77)
 (h7:GF K "refuse_rings" "refuse_rings" Y80)
 (h8:GF K "named_among" "named_among" Y70)
 (h9:GF K "table_of" "table_of" Y84)
 (h10:GF K "asks" "asks" Y42)
 (h11:GF K "order_of" "order_of" Y72)
 (h12:GF K "put_behind" "put_behind" Y74)
 (h13:GF K "tables_for" "tables_for" Y85)
 (h14:GF K "needs" "needs" Y71)
 (h15:GF K "holds" "holds" Y45)
 (h16:GF K "way_by" "way_by" Y87)
 (h17:GF K "refuse_names_tables" "refuse_names" Y79)
 (h18:GF K "refuse_counts_tables" "refuse_counts" Y76)
 (h19:GF K "refuse_way" "refuse_way" Y82)
 (h20:GF K "refuse_row" "refuse_row" Y81)
 (h21:GF K "own_row" "own_row" Y73)
 (h22:GF K "fits" "fits" Y44)
 (h23:GF K "mask" "mask" Y69)
 (h24:GF K "judged" "judged" Y48)
 (h25:GF K "fact_codes" "fact_codes" Y43)
 (h26:GF K "trail" "trail" Y86)
 (h27:GF K "ask" "ask" Y40)
 (h28:GF K "ask_codes" "ask_codes" Y41)
 (h29:GF K "last_verdict" "last_verdict" Y50)
 (h30:GF K "steps" "steps" Y83)
 (h31:GF K "judged_step" "judged_step" Y49)
 (h32:GF K "_law_at" "_law_at" Y52)
 (h33:GF K "_law_words" "_law_words" Y67)
 (h34:GF K "_law_domain" "_law_domain" Y54)
 (h35:GF K "_law_pool" "_law_pool" Y63)
 (h36:GF K "_law_spans" "_law_spans" Y65)
 (h37:GF K "_law_row" "_law_row" Y64)
 (h38:GF K "_law_numbers" "_law_numbers" Y61)
 (h39:GF K "_law_book" "_law_book" Y53)
 (h40:GF K "_law_made" "_law_made" Y59)
 (h41:GF K "_law_table" "_law_table" Y66)
 (h42:GF K "_law_facts" "_law_facts" Y57)
 (h43:GF K "_law_held" "_law_held" Y58)
 (h44:GF K "_law_due" "_law_due" Y55)
 (h45:GF K "_law_entry" "_law_entry" Y56)
 (h46:GF K "_law_needs" "_law_needs" Y60)
 (h47:GF K "_law_point" "_law_point" Y62)
 (h48:GF K "_law_worth" "_law_worth" Y68)
 (h87:GF K "law" "law" Y51)
 (m63:MF K Y.k "has_code" "Domain.has_code" Y5)
 (m64:MF K Y.l "has_code" "Domain.has_code" Y6)
 (m69:MF K Y.k "code" "Domain.code" Y3)
 (m70:MF K Y.k "borne_code" "Numbers.borne_code" Y17)
 (m71:MF K Y.k "bears" "Numbers.bears" Y16)
 (m72:MF K Y.l "code" "Domain.code" Y4)
 (m73:MF K Y.l "borne_code" "Words.borne_code" Y37)
 (m74:MF K Y.l "bears" "Words.bears" Y36)
 (m75:MF K Y.d "verdict" "Way.verdict" Y29)
 (m76:MF K Y.d "chosen" "First.chosen" Y8)
 (m77:MF K Y.e "verdict" "Way.verdict" Y33)
 (m78:MF K Y.e "chosen" "Only.chosen" Y19)
 (m79:MF K Y.f "verdict" "Way.verdict" Y31)
 (m80:MF K Y.f "chosen" "Like.chosen" Y12)
 (m81:MF K Y.g "verdict" "Way.verdict" Y32)
 (m82:MF K Y.g "chosen" "Low.chosen" Y14)
 (m83:MF K Y.h "verdict" "Way.verdict" Y30)
 (m84:MF K Y.h "chosen" "High.chosen" Y10)
 (m85:MF K Y.i "verdict" "Way.verdict" Y34)
 (m86:MF K Y.i "chosen" "Sum.chosen" Y21)
 (k49:KF K Y.n "Book" "Book.__init__" Y0)
 (k50:KF K Y.m "Table" "Table.__init__" Y22)
 (k51:KF K Y.d "First" "First.__init__" Y7)
 (k53:KF K Y.e "Only" "Only.__init__" Y18)
 (k55:KF K Y.f "Like" "Like.__init__" Y11)
 (k57:KF K Y.g "Low" "Low.__init__" Y13)
 (k59:KF K Y.h "High" "High.__init__" Y9)
 (k61:KF K Y.i "Sum" "Sum.__init__" Y20)
 (k65:KF K Y.k "Numbers" "Numbers.__init__" Y15)
 (k67:KF K Y.l "Words" "Words.__init__" Y35)
 (b52:BF K Y.c "Way" "__init__" "Way.__init__" Y23)
 (b54:BF K Y.c "Way" "__init__" "Way.__init__" Y27)
 (b56:BF K Y.c "Way" "__init__" "Way.__init__" Y25)
 (b58:BF K Y.c "Way" "__init__" "Way.__init__" Y26)
 (b60:BF K Y.c "Way" "__init__" "Way.__init__" Y24)
 (b62:BF K Y.c "Way" "__init__" "Way.__init__" Y28)
 (b66:BF K Y.j "Domain" "__init__" "Domain.__init__" Y1)
 (b68:BF K Y.j "Domain" "__init__" "Domain.__init__" Y2)
 (z0:W.nsIn K mainGlobals "len" = some none)
 (z1:W.nsIn K mainGlobals "isinstance" = some none)
 (z2:W.nsIn K mainGlobals "int" = some none)
 (z3:W.nsIn K mainGlobals "bool" = some none)
 (z4:W.nsIn K mainGlobals "set" = some none)
 (z5:W.nsIn K mainGlobals "dict" = some none)
 (z6:W.nsIn K mainGlobals "zip" = some none)
 (z7:W.nsIn K mainGlobals "list" = some none)
 (z8:W.nsIn K mainGlobals "sum" = some none)
 (z9:W.nsIn K mainGlobals "range" = some none)
 (z10:W.nsIn K mainGlobals "enumerate" = some none)
 (z11:W.nsIn K mainGlobals "min" = some none)
 (z12:W.nsIn K mainGlobals "max" = some none)
 (z13:W.nsIn K mainGlobals "sorted" = some none)
 (z14:W.nsIn K mainGlobals "tuple" = some none)
 (y0:∃u,W.nsIn K mainGlobals "MOST_SIGNS" = some (some u)/\RelV (V.int 12) u)
 (y1:∃u,W.nsIn K mainGlobals "SMALL_LETTERS" = some (some u)/\RelV (V.str "abcdefghijklmnopqrstuvwxyz") u)
 (y2:∃u,W.nsIn K mainGlobals "MOST_FACTS" = some (some u)/\RelV (V.int 20) u)
 (y3:∃u,W.nsIn K mainGlobals "MOST_TABLES" = some (some u)/\RelV (V.int 30) u)
 (y4:∃u,W.nsIn K mainGlobals "MOST_ROWS" = some (some u)/\RelV (V.int 200) u)
 (y5:∃u,W.nsIn K mainGlobals "MOST_COLUMNS" = some (some u)/\RelV (V.int 4) u)
 (y6:∃u,W.nsIn K mainGlobals "MOST_WORDS" = some (some u)/\RelV (V.int 40) u)
theorem all_mk{l:W.OpenLaw}{w:World}{K:W.Frag}{h:Heap}{mg:Str->Option Value}{fa:Addr}{Y:AD}(X:K.In h)(G:h.Ns mainGlobals mg)(hfa:mg "law" = some (.ref fa)) (b:Bk K Y)(u:FF K Y)
  : ∃fd:FuncData,(∀(s:Shared)(v:Value),BindsTo s fd ⟨[v],[]⟩ [("script",v)])/\∀base:Heap,K.In base->base.Ns mainGlobals mg->aN l.prog w K mg base CX0 22 fa fd ["script"] (J18 K):=by
 cases u.h87 with | @mk _ fd a F =>
 cases hfa.symm.trans (W.mg_of X G a);have bl:Bl K mg Y:=⟨b,W.mg_of X G b.n_TableError,W.mg_of X G b.n_NoTable,W.mg_of X G b.n_Way,W.mg_of X G b.n_First,W.mg_of X G b.n_Only,W.mg_of X G b.n_Like,W.mg_of X G b.n_Low,W.mg_of X G b.n_High,W.mg_of X G b.n_Sum,W.mg_of X G b.n_Domain,W.mg_of X G b.n_Numbers,W.mg_of X G b.n_Words,W.mg_of X G b.n_Table,W.mg_of X G b.n_Book,W.mg_of X G b.n_NONE,W.mg_of X G b.n_CLASH,W.mg_none_of X G u.z0,W.mg_none_of X G u.z1,W.mg_none_of X G u.z2,W.mg_none_of X G u.z3,W.mg_none_of X G u.z4,W.mg_none_of X G u.z5,W.mg_none_of X G u.z6,W.mg_none_of X G u.z7,W.mg_none_of X G u.z8,W.mg_none_of X G u.z9,W.mg_none_of X G u.z10,W.mg_none_of X G u.z11,W.mg_none_of X G u.z12,W.mg_none_of X G u.z13,W.mg_none_of X G u.z14,(let ⟨_,y,x⟩:=u.y0;⟨_,W.mg_of X G y,x⟩),(let ⟨_,y,x⟩:=u.y1;⟨_,W.mg_of X G y,x⟩),(let ⟨_,y,x⟩:=u.y2;⟨_,W.mg_of X G y,x⟩),(let ⟨_,y,x⟩:=u.y3;⟨_,W.mg_of X G y,x⟩),(let ⟨_,y,x⟩:=u.y4;⟨_,W.mg_of X G y,x⟩),(let ⟨_,y,x⟩:=u.y5;⟨_,W.mg_of X G y,x⟩),(let ⟨_,y,x⟩:=u.y6;⟨_,W.mg_of X G y,x⟩)⟩;refine⟨fd,λs v=>by obtain⟨_,_,_,_,_,_,_,_,_,e,_,_⟩:=F.ex;rw[e];exact .of_eq U,λbase _ _=>?_⟩;have z:Zb l.prog w K mg base:=⟨X,G⟩;have qL:=mkC z u.h0 λF=>Cv F bl
 have mS:=mkC z u.h2 λF=>Cw F bl
 have xR:=mkC z u.h3 λF=>Cy F bl
 have gU:=mkC z u.h4 λF=>Cz F bl
 have jg:=mkC z u.h8 λF=>CA F bl
 have mT:=mkX z u.h9 λF=>CC F bl
 have xS:=mkC z u.h15 λF=>CD F bl
 have gI:=mkC z u.h18 λF=>CF F bl
 have vc:=mkC z u.h21 λF=>CG F bl
 have qM:=mkC z u.h32 λF=>CH F bl
 have lg:=mkC z u.h33 λF=>CI F bl
 have sM:=mkC z u.h35 λF=>CJ F bl
 have qN:=mkC z u.h36 λF=>CK F bl
 have ni:=mkC z u.h38 λF=>CM F bl
 have sN:=mkC z u.h43 λF=>CN F bl
 have ve:=mkC z u.h44 λF=>CO F bl
 have qO:=mkC z u.h47 λF=>CP F bl
 have qP:=mkC z u.h48 λF=>CS F bl
 have iD:=mkB z u.b52 λF=>CT F bl
 have i3:=mkB z u.b54 λF=>CU F bl
 have i4:=mkB z u.b56 λF=>CV F bl
 have jF:=mkB z u.b58 λF=>CW F bl
 have i5:=mkB z u.b60 λF=>CY F bl
 have jG:=mkB z u.b62 λF=>CZ F bl
 have fj:=mkB z u.b66 λF=>O_1 F bl
 have gg:=mkB z u.b68 λF=>O_2 F bl
 have eK:=mkM z u.m70 λF=>C0 F bl
 have fS:=mkM z u.m73 λF=>C3 F bl
 have i6:=mkM z u.m74 λF=>C4 F bl
 have iE:=mkM z u.m76 λF=>O_8 F bl
 have jH:=mkM z u.m78 λF=>C5 F bl
 have jI:=mkM z u.m80 λF=>C6 F bl
 have kO:=mkM z u.m82 λF=>C7 F bl
 have jJ:=mkM z u.m84 λF=>C8 F bl
 have kP:=mkM z u.m86 λF=>C9 F bl
 have kQ:=mkC z u.h1 λF=>Dc F bl qL.up
 have kR:=mkC z u.h6 λF=>Dd F bl xR.up
 have mU:=mkC z u.h7 λF=>Df F bl jg.up
 have Ai:=mkX z u.h10 λF=>Dg F bl jg.up mT.up
 have Aj:=mkC z u.h22 λF=>Dh F bl xS.up
 have pM:=mkC z u.h34 λF=>Di F bl lg.up
 have vf:=mkC z u.h37 λF=>Dj F bl qN.up
 have gJ:=mkK z u.k51 λF=>O_7 F bl iD.up
 have iF:=mkK z u.k53 λF=>Dl F bl i3.up
 have iG:=mkK z u.k55 λF=>Dm F bl i4.up
 have jK:=mkK z u.k57 λF=>Dn F bl jF.up
 have iH:=mkK z u.k59 λF=>O_9 F bl i5.up
 have jL:=mkK z u.k61 λF=>Dp F bl jG.up
 have df:=mkM z u.m63 λF=>O_5 F bl mS.up
 have gh:=mkM z u.m64 λF=>O_6 F bl mS.up
 have fh:=mkK z u.k65 λF=>Dq F bl fj.up
 have i7:=mkM z u.m72 λF=>O_4 F bl fS.up i6.up
 have ja:=mkM z u.m75 λF=>Dr F bl iE.up
 have jM:=mkM z u.m77 λF=>Ds F bl jH.up
 have jN:=mkM z u.m79 λF=>Dt F bl jI.up
 have ki:=mkM z u.m81 λF=>Du F bl kO.up
 have jO:=mkM z u.m83 λF=>Dv F bl jJ.up
 have kj:=mkM z u.m85 λF=>Dw F bl kP.up
 have iI:=mkC z u.h5 λF=>Dx F bl kQ.up
 have gW:=mkC z u.h17 λF=>Dz F bl kQ.up
 have pN:=mkC z u.h20 λF=>DA F bl df.up gh.up
 have Ak:=mkC z u.h23 λF=>DB F bl Aj.up
 have sO:=mkC z u.h39 λF=>DC F bl ni.up pM.up sM.up qM.up lg.up vf.up
 have gK:=mkK z u.k67 λF=>DE F bl gg.up kQ.up
 have gi:=mkM z u.m71 λF=>DF F bl df.up
 have qQ:=mkC z u.h16 λF=>DG F bl gJ.up iF.up iG.up jK.up iH.up jL.up
 have iJ:=mkK z u.k49 λF=>O_0 F bl gU.up iI.up kR.up mU.up
 have gX:=mkM z u.m69 λF=>O_3 F bl eK.up gi.up
 have pO:=mkC z u.h19 λF=>DH F bl qQ.up
 have wY:=mkC z u.h24 λF=>DI F bl ja.up jM.up jN.up ki.up jO.up kj.up qQ.up
 have mV:=mkC z u.h40 λF=>DJ F bl fh.up gK.up
 have nj:=mkC z u.h31 λF=>DK F bl Ak.up wY.up
 have qR:=mkC z u.h42 λF=>DM F bl mV.up
 have gL:=mkK z u.k50 λF=>DN F bl gW.up gI.up pO.up pN.up vc.up
 have ug:=mkC z u.h30 λF=>DO F bl nj.up
 have mW:=mkC z u.h29 λF=>DX F bl ug.up
 have qS:=mkC z u.h41 λF=>DZ F bl gL.up mV.up
 have qT:=mkR z u.h46 0 8 pq λn F c=>D4 F bl c
 have qU:=mkR z u.h45 1 8 pA λn F c=>D5 F bl (ve.mono (by lia)) c (sN.mono (by lia))
 have pP:=Ci z u.h12 2 13 m8 λn F c=>D9 F bl (Ai.mono (by lia)) c
 have sP:=mkX z u.h11 λF=>Ea F bl pP.up
 have gM:=mkX z u.h13 λF=>Eb F bl mT.up sP.up
 have uh:=mkX z u.h14 λF=>Ec F bl gM.up
 have pQ:=mkC z u.h25 λF=>Ed F bl uh.up gX.up i7.up
 have qV:=mkC z u.h28 λF=>Ef F bl mW.up gM.up uh.up
 have xT:=mkC z u.h26 λF=>Eg F bl pQ.up ug.up gM.up
 have BI:=mkC z u.h27 λF=>Eh F bl xT.up
 exact Ei F bl sO.up iJ.up qS.up qR.up qO.up qP.up BI.up qV.up qM.up qU.up qT.up
theorem walk{l:W.OpenLaw}{q:Program}{loose:List Str}{XP:(Str->Option Value)->Heap->Prop}{YP:World->Heap->Prop}{d:DefRec}{K:Params->W.Frag}(hn:l.most=some 63)(hdf:d.params.defaults=[])
  (hY:∀(w:World)(h:Heap),YP w h->(K w.params).In h)
  (F:∀(w:World)(mg:Str->Option Value)(fa:Addr)(h:Heap),(K w.params).In h->h.Ns mainGlobals mg->mg d.name=some (.ref fa) ->
   ∃fd:FuncData,(∀(s:Shared)(u:Value),BindsTo s fd ⟨[u],[]⟩ [("script",u)])/\∀base:Heap,(K w.params).In base->base.Ns mainGlobals mg->aN l.prog w (K w.params) mg base CX0 22 fa fd ["script"] (J18 (K w.params))) :
  W.WalkO q loose XP YP l.row.toRowW d [] (λf vs=>PySem.call f vs) :=
 L2.walk_of (n:=63) (k:=22) (x := "script") (CX:=λ_=>CX0) (sp:=λw=>J18 (K w.params)) hn (by decide) hdf ⟨U,by decide,by decide⟩ hY F (λ_ _ a ns hl _ hS=>⟨a,ns,U,hS,hl,λ_=>U⟩) λ_ _ _ _ _ z=>z
end My
set_option genSizeOf false in
set_option genInjectivity false in
structure PySem.W.Fast:Prop where (tw7987845594608949672 tw9266821242420766703 tw16115333592833388389 tw10724969020073066249 tw7034820572090012935 tw15178357143217882352 tw11381192558598585269 tw10684880650200150795 tw307626843960831528 tw13021119036405232998 tw13581097267187374819 tw8962042383803832848 tw5546552102045017235 tw7602306080912871360 tw11219078192000023135 tw16208158819844116442 tw9532739071513097815 tw180240990031434554 tw7826279487872846400 tw13972135531355240283 tw15262676113601619070 tw17411921909932281941 tw7173043854505542467 tw5538730531304188769 tw6148794478237116590 tw12168901376332821173 tw2983911252580963236 tw12982161546874321131 tw1705943378142313182 tw3122603801151352713 tw761094008844342944 tw4389830679780989447 tw4738790571714888621 tw12626006443195016630 tw15650895766920406424 tw6568497950267427520 tw8791189342329609877 tw5675614354105181513 tw15704353557415966312 tw414810477530406526 tw2389855640193351491 tw7616113673851498801 tw18110018722190098281 tw8350962907255707036 tw7870968950726950231 tw13494020964792850524 tw13481940913514997804 tw2740727192800849932 tw14100591076852069777 tw16241648571866630218 tw9824960894530584641 tw1078947113994746365 tw7693644517923674411 tw6738422067046654238 tw14836046123027408531 tw9825981900937109770 tw8054405283731482742 tw17159528197537782273 tw15675005117586869195 tw14850253133211093432 tw15024205997338002935 tw2788691424712914096 tw18356106510238491080 tw13022841978959823117 tw9736662137450749978 tw2548886853684632726 tw12683614385641376184 tw161982314536039833 tw15743512363698547099 tw14120464550352766349 tw5672863182586736137 tw8364274281465910942 tw14560693144440337876 tw17169109663222908401 tw13504347696492117219 tw9939897813433699096 tw1107009274688321870 tw763660180927499526 tw3365685776995422231 tw9303773161227650520 tw16304253443169251913 tw3180749492555805074 tw13329080498335275309 tw106480481725604964 tw11028595421705826594 tw9976251220406561601 tw13933400717448298054 tw9043374660314940710 tw4402994635974168846 tw1531008398348817269 tw10629512422538965196 tw15004685179184148116 tw3461582079707638973 tw1462650391593557721 tw12527052072405027422 tw17859996396075250364 tw18208366775630570500 tw7758687472960911749 tw10233154673395057298 tw13681458644473426596 tw8317006299951793190 tw7483615775045916334 tw6954352027653759303 tw8724885645179242917 tw12983181269515845213 tw16724289326802884910 tw6727311159953115087 tw11467855737717253977 tw1388072988861388755 tw3913980679675731025 tw4087370372584446787 tw5504953020073306491 tw4881045363161102338 tw15683335941349881755 tw8609791956560082105 tw9855212114880356651 tw7150757609828896457 tw2922654344145440641 tw5549570886248753290 tw17813563193725764563 tw5827254169069017527 tw3389726944725121240 tw11784498686600802520 tw3238948893155220183 tw7528033294985520748 tw1844450483361027254 tw9846869958283768925 tw10661816844914624568 tw1026204663773110659 tw3014671637337725755 tw17556447853811458245 tw5797673774391471469 tw7234160785490013676 tw8913185418723826815 tw10661524286277040618 tw10964329486991502645 tw7248375370430011826 tw11017890268849822722 tw16391590817251725747 tw6947901695828314711 tw17467595303939616665 tw5874680490642015148 tw15818963836935261688 tw1902078184631817792 tw13220227536760601624 tw17055769932500010370 tw9711381870287826708 tw12509912614574283574 tw9000260180961102466 tw4310943621153291744 tw4811664916873998846 tw16776950774341463220 tw7244285623613149785 tw1923817284443322887 tw16696350528819399907 tw2345867491703690280 tw18238957301073986000 tw13557528062485399863 tw17618713543897422162 tw8965857785749761771 tw3741412812448058751 tw1543879971660495128 tw1755695004562635710 tw872873073592774989 tw7401680848318023930 tw3922457628416119116 tw14673998056619934556 tw2204670458523275605 tw3983766491425143047 tw8083999185270933575 tw2663820904604822644 tw12395963484398550511 tw13489033035319029275 tw11398962893872993652 tw9667368620716548640 tw1818371900787836595 tw5311981157393540129 tw15212944581057555654 tw11132905432201554335 tw17781561120479646554 tw1414619044813070396 tw6340771310874247961 tw14252598065866486895 tw2460263355781945920 tw18332217347565571802 tw10813568706195491645 tw16057303790122698111 tw13160917844320031695 tw1548766600881623114 tw14121413470896328335 tw9996624814059902666 tw5657251429974424030 tw3347812185308346658 tw14266286971928562923 tw1061585360262926102 tw16026123816466436692 tw1826337924618234652 tw10740845244461045161 tw8891412572726089361 tw3816793120228141630 tw2184385338393721736 tw5496137943998410053 tw1930269041161511419 tw7644308503635435449 tw7870617206587852642 tw2234899067005893868 tw16574439668317662901 tw10673023072405181270 tw5609429781797995616 tw6664532121607574843 tw12986207777840961912 tw7004253893279964037 tw16009707420509878260 tw4463953058297527170 tw4508649748293244952 tw7883054883757338167 tw7058329390905038321 tw2515894975708762142 tw7274396851226660928 tw9144021746991564290 tw9573741883158106292 tw16787270991146201401 tw17312101217390224372 tw15753456439160884111 tw10883997348964659714 tw13087257275483780697 tw15114058091510708107 tw6573301643396145875 tw2116540113330119937 tw16938935599176234400 tw17748661635100498036 tw15223780331687225706 tw17712603703034541837 tw4710688220843001068 tw8466405085340764508 tw3035976878956528815 tw3795074373591775553 tw4355572402254777789 tw4474933961669434317 tw10730163275163476376 tw4398381094817542660 tw13655311614547769613 tw16437060619015062752 tw5775385842296480420 tw9630663568280578500 tw4885829031171697783 tw7173964014351311563 tw7504833003863419513 tw6161038162503454246 tw6639446733926486722 tw8621072181381082011 tw6184162548304337012 tw7479473393264511309 tw14502115405297165156 tw7147202660579965497 tw13610008197850741306 tw1081810647075405120 tw5189523556916960714 tw15801720820585426909 tw6193390779148187568 tw18202391748155925698 tw15544704865842911850 tw6568681983954319100 tw3122809095653008546 tw15489874316789337779 tw4979199551647896591 tw1741858833874645372 tw140876618165493235 tw4086291209205935251 tw3283836272479974250 tw6182923526114780780 tw15351099726433920663 tw8101549701745991497 tw16080316549810362404 tw2381646989168764656 tw13538389621536676392 tw12138106122160754010 tw12877570622656502041 tw940673157719213514 tw2174593651591528250 tw14022828327880767222 tw9792480709999545916 tw8567206239887360421 tw14983615929508239373 tw4404428062759312020 tw18219843766746017169 tw16174693457178981780 tw18217094282263610841 tw15447118923659138107 tw11175247268303090126 tw4311753028675436795 tw1477006023660992205 tw4644871880936568593 tw13231920104133868576 tw1049747042274527890 tw15627757941095454167 tw2713609731963925508 tw5452412418479812978 tw15582152289196543964 tw7148028031247409784 tw14466109674111308677 tw10283238477314698930 tw1990686880549519328 tw2965697782847311390 tw102405307119602658 tw6453685680043876310 tw2831045219675121413 tw7634769415015600854 tw4326197488422527209 tw8053131625269909917 tw5026504304126426994 tw2982949112048582516 tw12159915501197062665 tw2699917138645751513 tw7368032519732591853 tw5070875586669359614 tw17113834608656524053 tw8364862895938123769 tw9450877811098520980 tw17588796525081925535 tw1417396304018107779 tw1801952521545155757 tw15075421288032537091 tw15850172520243070505 tw15409049530887981872 tw10897533587354098702 tw13334805273009032290 tw322817865149090687 tw16505066309574463242 tw17772940115790617626 tw9553269417463954772 tw9527542037750774366 tw6926423976047682164 tw14936686260376848602 tw7894894558490709157 tw12095590679087609206 tw10265131555605417183 tw12222491986079177454 tw9436896893740952131 tw17406033985545134838 tw16350128031688509929 tw16159902087054010315 tw2211292044353109823 tw143719249502685004 tw10151519117680465837 tw6988031204695263262 tw9768621645329942726 tw10515134936776386556 tw863904961996849010 tw6027480454462567651 tw15889523099717404041 tw8165605596714829935 tw10680619111463156741 tw7514113668370617212 tw8486102327273166860 tw16469454781477775946 tw28407333973434224 tw6412726601282576141 tw15736599302102232271 tw12158191543057196807 tw2463707058544909804 tw17559293499076869258 tw13490495218263151234 tw3147665573641631204 tw8064037904471768262 tw14661860707877631170 tw2120870086908602869 tw14076375319255289691 tw431874288568025547 tw4211990803124588142 tw13176553724886571589 tw6469328582065792221 tw9224022978295225200 tw10443485148038104757 tw3871901975654759654 tw15215526139811738958 tw17446614177181364617 tw15202242490804457968 tw16682773645206907804 tw2267593891872984909 tw10956473833765043833 tw14262390276127246336 tw9099185529487296406 tw8456179169027068134 tw17896945043981864889 tw12610591165425570255 tw10554937599067068527 tw8808359358558716582 tw8752084359246849730 tw1380644367981845492 tw10328255528896898981 tw13382591968213985629 tw646228822392379262 tw16935024398086516356 tw7787891446905858881 tw8646390913674873972 tw7396729802575618918 tw8636560011497001655 tw11751348420687913787 tw11544721701286294548 tw14435497071707017447 tw3954826345589996065 tw3556587902592331206 tw745260412207121575 tw2166827263925821000 tw7939802757494714321 tw3869201119289771682 tw12751568134871763875 tw13699124632873781493 tw791654786169520825 tw8781719580382229445 tw12969444256204498204 tw12018886203028740569 tw17096840519938262996 tw4775802767895793716 tw13662219631556918925 tw13797527773074723963 tw2282182958653774275 tw11700861232254528425 tw13071881621436463491 tw1940736401026930546 tw9474007396555961914 tw15805931586554641915 tw13645194999331385782 tw14324306478880875086 tw11047161075048812485 tw770940703458461643 tw16790378600883127075 tw3946609408589109509 tw7815866922318116896 tw7150044387255276265 tw12954616674751151934 tw5306448687560753970 tw2320456790553995073 tw3260209422394854551 tw9612664777117413737 tw16972976237840180589 tw10093807347941922909 tw6850877157330011062 tw16446724303433819309 tw18044186745501652453 tw690736015776531369 tw16813962587915122587 tw6977592605150507987 tw10500785532755480016 tw9482686053945401738 tw13060914766039588439 tw7414289068822079831 tw16491758365777783075 tw9754418366310499177 tw6132286995573340929 tw12067424108557999717 tw2206006590077944099 tw17246260311925832812 tw11703989913225249007 tw16352297089690508555 tw11394444411410884721 tw16898446358329593157 tw13116003765028938103 tw5398537307667588418 tw15274009137825789987 tw8790885216313914377 tw16653726282844677428 tw7391995445367745109 tw13870853700487708483 tw8855570473551919628 tw15910510487892653508 tw10488849961375978680 tw4236303274816291597 tw10647326860337989872 tw6834212557192133119 tw867330533018345321 tw17318440194889326175 tw1504848878060503147 tw6997479856703351956 tw16508948794729637519 tw6604045828627705725 tw16050478435995280116 tw16389932538299007019 tw15399782832947936659 tw10007407173865025415 tw9655560295320805019 tw14355521277487554296 tw585392958133719291 tw8470728569283722234 tw1439557640062923106 tw16703915505988268225 tw16552706275559366171 tw15696972287080197466 tw7564369512505795230 tw17480592088206922463 tw11407485588850145191 tw11783819870985875135 tw17156312131879301528 tw6714840820364707548 tw10176914992115691792 tw3862774950007576246 tw14357895567972710078 tw12835199034699533221 tw16343552600075435848 tw2619504993588997872 tw899757052530859587 tw7179185220874288438 tw1100782525170662818 tw14639681357733892099 tw7622154376911162239 tw2800973638919531229 tw6533628581419973757 tw5782998349400690032 tw3631399132717403852 tw10323097942726625007 tw15586630867448436342 tw13242102831006152550 tw11066431880528303524 tw4903481882521260386 tw887201353718933105 tw4819537869516441059 tw18114592467693385932 tw14129192714617899102 tw15583215091594948293 tw16545564066545796588 tw10797810969848268424 tw15495688390682004350 tw7350016192037305487 tw1987293250441080929 tw2441775643425831970 tw17925707598205197547 tw11603978525200957594 tw1173540692838515229 tw3721558284038547713 tw5258355933426037456 tw2168930857248530830 tw2308391144925797412 tw15084657592148390019 tw8558452316867722050 tw10882111608928536348 tw16180703145278382537 tw15154733832135541902 tw18123040703575899648 tw950204085769069411 tw4586162188675968794 tw2328015023866273268 tw13477670698189431540 tw738609367907457295 tw12655424537265553449 tw1709869759462296337 tw14341245796635110797 tw11094513348104160810 tw4223553308832213177 tw6929672666276206936 tw8112044621918498811 tw17465429818281288344 tw11780107467679534770 tw12064985258828518424 tw5683295356957383411 tw1737262532202295716 tw16987835813151876340 tw100163513246651872 tw12510088845938873463 tw17572007319440184204 tw13005910233312474143 tw15749886241747502261 tw7692076787092924090 tw4553076294925065013 tw16657880623056032324 tw11996678946398005787 tw13526042078648506396 tw17937458941075772636 tw2091369809438409110 tw12171562848358479295 tw14287750768309968267 tw7482497013066344693 tw4752042704428480214 tw3564941251665881789 tw15996181440972765975 tw5018945801247958022 tw11337583311400537214 tw8631075987285549965 tw8936782601750944850 tw5433405951675899485 tw12833697348350488309 tw3834149454094641905 tw3728035573154178858 tw14166688396611331670 tw1815785033121045308 tw3781933893495756884 tw8699810745107695602 tw83177611206256541 tw7016351896110027349 tw3434929413565219001 tw17349817260454159289 tw10070741166539711361 tw3505542647763224852 tw5991060626927581727 tw5996070225861529996 tw5508658314357384790 tw2493905252641203626 tw4205179800508012612 tw13972242139741740071 tw13175611700482179884 tw55482900591381193 tw5157934771934189613 tw8982160319872119028 tw5204334084429876235 tw18285206877020983139 tw11317460391822709487 tw560376719553630520 tw6691757112761255077 tw17367291642036649365 tw15904620560214151263 tw4735336449855228232 tw5791953027085382516 tw18389987360171191223 tw12700494546865983065 tw9825588330866570117 tw1220083602838398975 tw7863579945102430167 tw12491784232753069066 tw7121931957544279090 tw3820372728579345099 tw8863319281260538678 tw10137593640355180138 tw9442262846389580262 tw3013757216715043406 tw4665569513300142159 tw1231504775965365696 tw14360435055636589799 tw1285834585024527757 tw1250569291764695483 tw5337513315193850622 tw18248959172844834181 tw23049644629829205 tw3597923980373663818 tw7386196818385982152 tw2733017635886769727 tw5206809660519401067 tw18397965690323189468 tw5830101290974098605 tw6393414035229058708 tw4747106410101988509 tw3346325635256899843 tw3397347236191982379 tw9966785765879981653 tw13800070001839143098 tw941004939605597369 tw3605092231765402290 tw10930510003285883130 tw18366316796314194202 tw6387235432619719704 tw11839233276279997654 tw841968669896376587 tw12950229019947463279 tw15550901827059081300 tw4913880067253836644 tw14832800601499099480 tw3255641491589768377 tw12135241782186743844 tw2253870226486229466 tw7187055364101193470 tw2942577472221353967 tw15508033213611600451 tw16191874876970541158 tw9319774225464797206 tw8122185558459286276 tw15942573029669115829 tw14904686164339003757 tw14381118480819269948 tw14207470986451189108 tw2943850744998499558 tw9673610375517958838 tw14730174934055191698 tw7116013307676147475 tw6380357250742778169 tw5437680616152352573 tw15131150218972766604 tw9179815796599903690 tw13723574764974403866 tw10076507245246361449 tw15431944439834591067 tw17708028254174431870 tw17969411835320963591 tw5563098215915778184 tw12230394703325933043 tw610508796824263209 tw13141349750802337227 tw4904207943706107131 tw10658022465120623251 tw8099736590837918309 tw4820310242467135226 tw6182586963707659094 tw8439043925364840927 tw15300661500912109141 tw4182342126449771761 tw10484283282625975890 tw7206381069364331708 tw14338258218254437362 tw1311902246889025116 tw10178812437623644771 tw2984196876574487122 tw1793382490175959742 tw13685932975617867793 tw7185224596205839292 tw1985665187122952861 tw14721433314500842244 tw17980256937407073857 tw1771055021864512256 tw6160349534336958849 tw2083139362965765868 tw10109967940187116633 tw6004891879901487445 tw956745507309627316 tw14422018459978055375 tw14954914827503153605 tw14955281156468758565 tw1747219039372033865 tw9979716838517510624 tw15394696391123191094 tw5199609461108513266 tw3551719134597045960 tw7693472861322830345 tw16236117314128680599 tw5627380320951436506 tw15336665161122013705 tw4450635220134041998 tw4389941781070741225 tw6673857504161548249 tw57729471725208153 tw14270137892732696086 tw13252692038294533298 tw3520608321221250804 tw14886222454314671473 tw17366064339626888657 tw14848171454621608220 tw14960416073134030996 tw6254138459389935706 tw8900672075267967306 tw16595272429022752383 tw6292020317570092847 tw4570057251620685166 tw1440632644340824830 tw10847964819273273142 tw14530408519924803109 tw10158404612417059093 tw249190428863186270 tw9164785906767218433 tw17149634507113752620 tw12992402163403368505 tw7710860665555385977 tw8097057213463416661 tw15225686931484969233 tw282495544738460350 tw13456773108348535828 tw13406679041765545207 tw12132250542345046175 tw4819858238265100555 tw11956502284194035688 tw13103173747099197370 tw7980446047523175323 tw17533882121373642793 tw16657466210810855642 tw13963154115387955973 tw9069995865903225179 tw1135543242980211054 tw2859480745518616652 tw13003505139484328593 tw6305646863150735219 tw11234314361397272631 tw4088823169126785937 tw3414050070650033044 tw10925921292533844588 tw13920729639076306474 tw12386618267893641312 tw15787568242626609607 tw5851116511782503904 tw2852583307360421309 tw7582387720238113602 tw11794503834415208205 tw7431977676962621907 tw5004690610879257922 tw16565282964114056852 tw9593336584492908551 tw2113125579232073198 tw10153192317389185818 tw11694653193631412736 tw12045091088762127914 tw5488728006074392616 tw5578331417992518980 tw12561263405927588369 tw9712490406955278475 tw7210629280379508687 tw9009348210249805504 tw3966614104992641468 tw12723739777635297395 tw14983813080457600778 tw18413076922614667781 tw14574513716187786283 tw14853334655835437034 tw1807085714983807183 tw11565183597198925140 tw10709241327817443588 tw2660512163310316350 tw2257468776069786127 tw9034119804931006103 tw16293189560529350218 tw16208833720406815043 tw7432947321570029251 tw214790927252965776 tw7029998286978217263 tw13510196766201382021 tw793680908343973938 tw16850945381764959643 tw7062164143851410265 tw18154759400030670715 tw6742402387149012747 tw11716225299679041621 tw8406726831426029024 tw764656696073586609 tw7628339367931347741 tw8214648420019342575 tw15322414422872664867 tw9540403119256313490 tw10251611449356224842 tw8579189079041731438 tw11108068531268454807 tw11606151127333707050 tw2924842493523137073 tw9606614334701217975 tw5793843412629731994 tw15286704903076264555 tw11159276238303732849 tw15883156774789767466 tw17762362733976687357 tw18329237428502987665 tw2036540254450367355 tw5015004753991895335 tw9813228831415426504 tw4263579607160467999 tw341885302003796501 tw3260746469618911079 tw12543830753201729368 tw4746107648611644268 tw5011383729722144425 tw5133342061118402572 tw3717796254931674448 tw17324844394290666507 tw17472943937507193708 tw1163764731271463787 tw6789990445528303457 tw1069146868016122934 tw17663287920778968749 tw18104688819489173967 tw6202381112099745521 tw12442716026546503470 tw13017686951203613012 tw4833269295049757792 tw2757218806173212819 tw13280600967420845417 tw18071558120662577479 tw11544952589965387945 tw278627828903740415 tw16586234015953363171 tw18296941691334046640 tw15840133367021511860 tw12472328758613207533 tw16451288882263150971 tw16588031221633369812 tw4068321023575121189 tw7000188189560922288 tw18402600817757479419 tw4437282895319610517 tw3567119079636104405 tw12510818433932628208 tw16481313935586728863 tw3023023525154580460 tw10947917116081999813 tw2875784618019744225 tw7812247216919619654 tw11852088995036068024 tw7924434050600656287 tw11696340518735992835 tw8650465082825498592 tw7400851163641765351 tw2745395676188099997 tw14963566892887352421 tw2002803390906091822 tw1374405118421679126 tw10573137228895067132 tw643200040071098888 tw2377791169144417259 tw12495859618755029981 tw14635903634534829569 tw17627565168815719380 tw17794746139865014949 tw4619905540180388652 tw6540516206456911156 tw11916254635378428544 tw17873384459352559989 tw10521686169824622689 tw8349340845021055915 tw10852251403682015044 tw92667452238453666 tw16345976117360496271 tw3024315370130958324 tw7449258160426793312 tw1802639197788872352 tw3393902580892282374 tw16395354758584452884 tw16239648336949234970 tw17189457898004095535 tw3793791610744366020 tw18333640640132711817 tw17401532191871338834 tw7480186129469611379 tw12571387522305814708 tw14759062572690462671 tw6667811986180056943 tw1766909779608773320 tw411655176119340794 tw12960439939719727378 tw10516509429048235036 tw8153372998440781691 tw15752504424886588424 tw5337228236511419398 tw4041327287413165600 tw3231518380531831238 tw2086831972916943896 tw11354472548032234521 tw10106394120177546190 tw5058564255617291387 tw2693944124802108660 tw6887915151498825505 tw16854601762221894511 tw7246596623046963544 tw9381629568465453426 tw16967096969614104626 tw16971163705380389385 tw1261628094493260191 tw7841083807923152808 tw3890112172577676757 tw2116970652227892842 tw10278595755080598427 tw3338716920698575686 tw5074470493147648331 tw2432505352146921130 tw15251271911407560969 tw1955600378511901075 tw10549509252822422364 tw1209808522905397368 tw8093156774818542251 tw529221910783922057 tw581551953421959193 tw12554652591799618022 tw7545093535571282175 tw16169969714776249617 tw9035647721885710812 tw12694665495745472802 tw2668506340837027401 tw14743141575597178677 tw6395680845824979364 tw11038351018365264957 tw14498137502419938142 tw2429947055370621762 tw4257661286659703488 tw10046587458586662137 tw6433869036346047967 tw5430960885794856520 tw4357690990110705550 tw15659835189753742319 tw10274728721699933867 tw16164402163021507861 tw6621666149928836404 tw8373090609792084106 tw9056683913656199066 tw12249138524936494213 tw16687208358644381899 tw7074446870481792836 tw2945038767613205494 tw16880564443376810370 tw14096075131396130935 tw16027421590618035715 tw4156080990603092826 tw16762438761504119888 tw15571585026648843338 tw13861552922961121861 tw12719039986745639742 tw8839144291645504572 tw18057443524581880832 tw12109534146787233793 tw15868816638964819383 tw8435087583656517592 tw2942909738450951808 tw18231947462916258109 tw11003970739249263208:True)
open PySem PySem.W PyProof.Rows
set_option maxRecDepth 100000 in
set_option maxHeartbeats 0 in
theorem PySem.Challenge.cw_rowjudge_k83_asked_holds : PySem.Challenge.rw_rowjudge_k83_asked.Holds := by
 w_on;o_law;k_head;(case hw=>w_witness2)
 k_fill
 refine My.walk (l:=PySem.Challenge.rw_rowjudge_k83_asked) rfl rfl (λw h Y=>PySem.W.kIn_of Y) ?F
 case F =>
  intro w mg fa h KX G hmg;refine' My.all_mk (Y:=.mk ..) KX G hmg ?b ?u
  case b =>
   constructor
   all_goals try dsimp only
   iterate 16 (k_is)
   iterate 1 (exact L2.ExcCls.value (by first|rfl|with_unfolding_all rfl))
   iterate 1 (constructor <;> first|k_is|rfl|with_unfolding_all rfl)
   iterate 10 (constructor <;> first|k_is|rfl|with_unfolding_all rfl)
   iterate 10 (refine'⟨⟨?_,?_,?_,?_⟩,?_,?_,?_,?_⟩ <;> first|k_is|rfl|with_unfolding_all rfl)
   refine' L2.ModT.mk ?lk ?sz ?vs
   (case lk=>k_is)
   (case sz=>decide)
   (case vs=>exact(.cons ⟨_,rfl⟩ (.cons ⟨_,rfl⟩ .nil)))
   refine' L2.ModT.mk ?lk ?sz ?vs
   (case lk=>k_is)
   (case sz=>decide)
   (case vs=>exact(.cons ⟨_,rfl⟩ (.cons ⟨_,rfl⟩ .nil)))
   iterate 20 (delta L2.NoAttr;k_is)
   iterate 9 (first|k_is|rfl|with_unfolding_all rfl)
  case u =>
   constructor
   all_goals try dsimp only
   iterate 50 (refine' L2.GF.mk ?a1 (L2.fun_mk ?l ?c ?k);(case a1=>k_is);(case l=>k_is);(case c=>k_is);(case k=>k_is))
   iterate 20 (refine' L2.MF.mk ?a1 ?a2 (L2.fun_mk ?l ?c ?k);(case a1=>k_is);(case a2=>k_is);(case l=>k_is);(case c=>k_is);(case k=>k_is))
   iterate 10 (refine' L2.KF.mk ?a1 ?a2 ?a3 ?a4 ?a5 (L2.fun_mk ?l ?c ?k);(case a1=>k_is);(case a2=>k_is);(case a3=>k_is);(case a4=>k_is);(case a5=>k_is);(case l=>k_is);(case c=>k_is);(case k=>k_is))
   iterate 8 (refine' L2.BF.mk ?a1 ?a2 ?a3 ?a4 (L2.fun_mk ?l ?c ?k);(case a1=>k_is);(case a2=>k_is);(case a3=>k_is);(case a4=>k_is);(case l=>k_is);(case c=>k_is);(case k=>k_is))
   iterate 15 (k_is)
   iterate 7 (refine' L2.gv_mk ?a1 ?a2;(case a1=>k_is);(case a2=>exact⟨_,rfl⟩))
