import PyProof.Rows.All
import Wide.All
import OpenK.AllK
import Wide.FinOn
import Lean
import PyProof.EqAt
import PyProof.EqKinds
import PyProof.TupleCall
import KE.KIntText
import PyProof.NeKinds
import KE.KTryMore
import KE.KIsAll
import PyProof.ZipIter
import KE.KRevIter
import PyProof.CollectIter
import PyProof.FactsAll.range_2
import PyProof.FactsAll.range_iterator_1
import KE.KNest
import KE.KLam
import PySem.Challenge.RW_rowjudge_k46_least_unlike
open List renaming length_map→bx,length_append→cK,mem_cons→dt,getD_eq_getElem?_getD→dE,size_toArray→dV,mem_map→en,mem_cons_self→fb,getElem?_map→fo,mem_append→gg,length_singleton→gI,forall_mem_cons→hQ,mem_singleton→hZ,map_append→ij,length_cons→ik,length_take→ip,take_length→iv,mem_cons_of_mem→iC,getElem?_append_left→iP,forall_mem_nil→iQ,mem_append_right→iR,all_eq_true→jq,mem_range→jr,getElem?_of_mem→js,append_nil→jt,not_mem_nil→ju,length_drop→jv,mem_filter→jw,range_succ→jx,mem_append_left→jD,length_zipWith→jE,length_range→jQ,getElem?_zipWith→kT,map_cons→kU,getElem?_append_right→lg,find?_cons_of_pos→ll,find?_cons_of_neg→lq,nodup_cons→lz,getElem_mem→lI,take_add_one→md,getElem?_eq_none→mu,filter_append→mv,length_filter_le→nt,pairwise_append→ny,pairwise_singleton→nL,length_replicate→nM,all_cons→nS,mem_flatMap→nU,pairwise_iff_getElem→oD,length_eq_zero_iff→oT,getElem?_zip_eq_some→pk,append_assoc→pA,filter_cons_of_pos→pB,filter_cons_of_neg→pC,mem_of_mem_take→qf,mem_of_mem_drop→qg,filterMap_cons→qP,of_mem_zip→ri,take_sublist→ro,reverse_cons→rr,map_nil→rE,nodup_append→rQ,pairwise_cons→rR,nodup_nil→tD,ext_getElem?→vf,map_fst_zip→vl,eq_nil_or_concat→vr,concat_eq_append→vJ,reverse_reverse→vQ,getElem?_take→vR,length_reverse→wb,getElem_inj→wh,length_set→wz,any_eq_true→w4
open Nat renaming le_refl→w5,ne_of_lt→xS,lt_of_lt_of_le→xT,le_trans→yc,ne_of_gt→yg,zero_le→yh,lt_succ_of_lt→yi,le_of_lt→yj,le_succ→yl,lt_succ_self→yB,lt_irrefl→yE,le_add_right→y9,not_lt_zero→zb,succ_pos→zd,lt_of_succ_lt→zf,lt_of_le_of_lt→zl,mod_lt→zm,mul_le_mul→zo,lt_or_ge→zp,not_lt→zq,pow_succ→zr
open Array renaming getElem?_eq_getElem→zw,length_toList→zz,toList_push→zJ,getElem?_toList→Af
open Bool renaming eq_false_iff→As,and_eq_true→AI,false_eq_true→A9
open Int renaming emod_nonneg→Ba,emod_lt_of_pos→Bf,toNat_natCast→Bt,zero_add→BO,pow_pos→BP
open Option renaming isSome_iff_exists→BQ,getD_none→BW
open PySem renaming wpAny_bind→BY,wpAny_pure→C0,wpAny_holding→Dl,wpAny_Call_Name_kw→Dn
set_option Elab.async false
set_option linter.all false
set_option maxRecDepth 100000
local macro_rules|`(term|s!$x)=>do
 let some t:=x.raw.getArgs[0]? | Lean.Macro.throwUnsupported
 let some v:=t.isInterpolatedStrLit? | Lean.Macro.throwUnsupported
 `(PySem.Str.ofString $(Lean.quote v))
theorem GH{α:Type _}{l:List α}{i:Nat}(h:i<l.length):l[i]?=some l[i]:=List.getElem?_eq_getElem h
theorem GI{α:Type _}{a:α}{l:List α}{i:Nat}:l[i]?=some a ↔ ∃h:i<l.length, l[i]=a:=List.getElem?_eq_some_iff
theorem GJ{α:Type _}{l:List α}{i:Nat}{a:α}(e:l[i]?=some a):a∈l:=List.mem_of_getElem? e
namespace L2
theorem U{α:Sort _}{a:α}:a=a:=rfl
open PySem PySem.Spec PyProof.Rows
abbrev Key:=Sum Int Str
def zt:Key->Value->Bool
 | .inl k,v=>Value.isInt k v
 | .inr x,v=>Value.isStrOf x v
def CZ(w:World):Key->Int
 | .inl k=>hashInt k
 | .inr x=>hashStr w x
theorem bU:∀{k:Key}{v:Value},zt k v=true->(∃i t,k=Sum.inl i/\v=Value.int i t)\/(∃x t,k=Sum.inr x/\v=Value.str x t)
 | .inl i,v,h=>by
  obtain⟨t,e⟩:=Value.isInt_shape (k:=i) (v:=v) h;exact .inl ⟨i,t,U,e⟩
 | .inr x,v,h=>by
  obtain⟨t,e⟩:=Value.isStrOf_shape (x:=x) (v:=v) h;exact .inr ⟨x,t,U,e⟩
theorem zX(a b:Int):decide ((Sum.inl a:Key)=Sum.inl b)=(a == b):=by
 by_cases e:a=b
 .subst e;simp
 .have h:¬ (Sum.inl a:Key)=Sum.inl b:=λq=>e (Sum.inl.inj q)
  rw[decide_eq_false h];exact(beq_eq_false_iff_ne.mpr e).symm
theorem zY(a b:Str):decide ((Sum.inr a:Key)=Sum.inr b)=decide (a=b):=by
 by_cases e:a=b
 .subst e;simp
 .have h:¬ (Sum.inr a:Key)=Sum.inr b:=λq=>e (Sum.inr.inj q)
  rw[decide_eq_false h,decide_eq_false e]
theorem zZ(a:Int)(b:Str):decide ((Sum.inl a:Key)=Sum.inr b)=false:=decide_eq_false (λq=>nomatch q)
theorem Aa(a:Str)(b:Int):decide ((Sum.inr a:Key)=Sum.inl b)=false:=decide_eq_false (λq=>nomatch q)
def pD(prog:Program)(w:World):PySem.KeyKind prog w Key where
 is:=zt
 hash:=CZ w
 inj:=λv a b l f=>by
  rcases bU l with⟨i,t,rfl,rfl⟩|⟨x,t,rfl,rfl⟩
  .rcases bU f with⟨j,u,rfl,e⟩|⟨y,u,rfl,e⟩
   .injection e with c _;rw[c]
   .exact nomatch e
  .rcases bU f with⟨j,u,rfl,e⟩|⟨y,u,rfl,e⟩
   .exact nomatch e
   .injection e with c _;rw[c]
 byValue:=λk v h=>by
  rcases bU h with⟨i,t,rfl,rfl⟩|⟨x,t,rfl,rfl⟩ <;> rfl
 pyHash:=λd h=>by
  rcases bU d with⟨i,t,rfl,rfl⟩|⟨x,t,rfl,rfl⟩
  .exact wpAny_pyHash_int h
  .exact wpAny_pyHash_str h
 eqBool:=λg d h=>by
  rcases bU g with⟨i,t,rfl,rfl⟩|⟨x,t,rfl,rfl⟩
  .rcases bU d with⟨j,u,rfl,rfl⟩|⟨y,u,rfl,rfl⟩
   .rw[zX]at h;exact wpAny_eqBool_int h
   .rw[zZ]at h;exact SeqAt.EqAt.int_str i t y u _ _ _ _ h
  .rcases bU d with⟨j,u,rfl,rfl⟩|⟨y,u,rfl,rfl⟩
   .rw[Aa]at h;exact SeqAt.EqAt.str_int x t j u _ _ _ _ h
   .rw[zY]at h;exact wpAny_eqBool_str h
 «strs»:=λk x t v h=>by
  rcases bU h with⟨i,u,rfl,e⟩|⟨y,u,rfl,e⟩
  .exact nomatch e
  .injection e with c _;subst c;cases v <;> rfl
inductive V where
 |non|bl (b:Bool)|int (i:Int)|str (x:Str)|byt (b:Array UInt8)|flt (b:UInt64)|ref (a:Addr)|ty (n:String)
 deriving DecidableEq
def RelV:V->Value->Prop
 | .non,u=>u=Value.none
 | .bl b,u=>u=Value.bool b
 | .int i,u=>∃t,u=Value.int i t
 | .str x,u=>∃t,u=Value.str x t
 | .byt b,u=>∃t,u=Value.bytes b t
 | .flt b,u=>∃t,u=Value.float b t
 | .ref a,u=>u=Value.ref a
 | .ty n,u=>u=Value.type n
abbrev Vals:List V->List Value->Prop:=Paired RelV
theorem Vals.length{xs:List V}{us:List Value}(r:Vals xs us):xs.length=us.length:=Paired.length r
theorem Vals.get:∀{xs:List V}{us:List Value}{i:Nat}{x:V},Vals xs us->xs[i]?=some x->∃u,us[i]?=some u/\RelV x u
 |_,_,_,_,.nil,e=>by simp at e
 |_,_,0,_,.cons r _,e=>by simp at e;subst e;exact⟨_,U,r⟩
 |_,_,i+1,x,.cons _ t,e=>by
  obtain⟨u,b,a⟩:=Vals.get (i:=i) (x:=x) t (by simpa using e);exact⟨u,by simpa using b,a⟩
theorem Vals.set{x:V}{u:Value}(r:RelV x u):∀{xs:List V}{us:List Value}(i:Nat),Vals xs us->Vals (xs.set i x) (us.set i u)
 |_,_,_,.nil=>.nil
 |_,_,0,.cons _ t=>.cons r t
 |_,_,i+1,.cons q t=>.cons q (Vals.set r i t)
theorem Vals.append:∀{xs ys:List V}{us ws:List Value},Vals xs us->Vals ys ws->Vals (xs++ys) (us++ws)
 |_,_,_,_,.nil,s=>s
 |_,_,_,_,.cons r t,s=>.cons r (Vals.append t s)
theorem Vals.take:∀{xs:List V}{us:List Value}(n:Nat),Vals xs us->Vals (xs.take n) (us.take n)
 |_,_,0,_=>.nil
 |_,_,_+1,.nil=>.nil
 |_,_,n+1,.cons r t=>.cons r (Vals.take n t)
theorem Vals.drop:∀{xs:List V}{us:List Value}(n:Nat),Vals xs us->Vals (xs.drop n) (us.drop n)
 |_,_,0,r=>r
 |_,_,_+1,.nil=>.nil
 |_,_,n+1,.cons _ t=>Vals.drop n t
def nR:Option V->Option Value->Prop
 |some v,some u=>RelV v u
 |none,none=>True
 |_,_=>False
def KV{a:Type}:List (a×V)->List (a×Value)->Prop:=Paired λ(p:a×V)(q:a×Value)=>p.1=q.1/\RelV p.2 q.2
def kV:Key->V
 | .inl i=>.int i
 | .inr x=>.str x
inductive HO where
 |lst (xs:List V)
 |tup (xs:List V)
 |dK (kvs:List (Key×V))|dT (kvs:List (List Key×V))
 |set (S:Int->Bool)(n:Nat)
 |ins (C dx:Addr)(fs:List (Str×V))
 |own (x:Addr)
 |xd (fs:List (Str×V))
 |met (f x:Addr)
 |rng (lo hi:Int)
 |frz (o:Obj)(u:HO)
 |tbl (ps:Array Value)
 |ext (φ:Heap->Prop)
abbrev Hp:=Addr->Option HO
def upd(H:Hp)(a:Addr)(o:HO):Hp:=λb=>if b=a then some o else H b
theorem ab{H:Hp}{a:Addr}{o:HO}:upd H a o a=some o:=by unfold upd;rw[if_pos U]
theorem ay{H:Hp}{a b:Addr}{o:HO}(h:b≠a):upd H a o b=H b:=by unfold upd;rw[if_neg h]
theorem yk{H:Hp}{a:Addr}{o u:HO}:upd (upd H a o) a u=upd H a u:=by
 funext b;unfold upd;split <;> rfl
theorem dS{H:Hp}{a b:Addr}{o u:HO}(h:H a=some o)(h':H b=some u)(d:o≠u):a≠b:=by
 intro e;subst e;rw[h]at h';exact d (Option.some.inj h')
theorem bf{H:Hp}{a b:Addr}{o:HO}(h:H a=some o)(h':H b=none):a≠b:=by
 intro e;subst e;rw[h]at h';cases h'
section
variable(P:Program)(w:World)
def cS(H:Hp)(h:Heap)(a:Addr):HO->Prop
 | .lst xs=>xs.length<=sizeLine/\∃(b:List Value)(n:Nat),Vals xs b/\h.get? a=some { cls:=.type "list",data:=.seq b.toArray n }
 | .tup xs=>xs.length<=sizeLine/\∃b:List Value,Vals xs b/\IsTup h a b.toArray
 | .dK kvs=>kvs.length<=sizeLine/\(a == sysModules)=false/\∃vs,KV kvs vs/\h.DictOf (pD P w) a vs
 | .dT kvs=>kvs.length<=sizeLine/\(a == sysModules)=false/\∃xs:List (List Key×Addr×Value),
   Paired (λ(p:List Key×V)(q:List Key×Addr×Value)=>p.1=q.1/\H q.2.1=some (.tup (p.1.map kV))/\RelV p.2 q.2.2) kvs xs /\
   ∃o g i,h.get? a=some o/\o.ExactDict/\o.data=.dict g i/\g.toList=xs.map (entryOfKey (tupleKind (pD P w)))/\(xs.map (·.1)).Nodup
 | .set S n=>h.SetOf (intKind P w) a S n
 | .ins C dx fs=>H dx=some (.own a)/\fs.length<=1000/\dx≠a/\h.get? a=some (W.instObj C dx) /\
   ∃c,h.Ns1 dx c/\(∀f,nR (fs.lookup f) (c f))/\PySem.Within c (fs.map (·.1))
 | .own _=>∃o,h.get? a=some o
 | .xd fs=>∃c,h.Ns1 a c/\∀f,nR (fs.lookup f) (c f)
 | .rng lo hi=>∃t u v,h.get? a=some { cls:=.type "range",data:=.fields #[.int lo t,.int hi u,.int 1 v] }
 | .frz o u=>h.get? a=some o/\cS H h a u
 | .tbl ps=>h.get? a=some { cls:=.none,data:=.fields ps }
 | .met f x=>h.get? a=some (W.methodObj (.ref f) (.ref x))
 | .ext φ=>φ h/\(∃o,h.get? a=some o)/\∀e d:Heap,φ e->(∀o,e.get? a=some o->d.get? a=some o)->φ d
def HOk(H:Hp)(h:Heap):Prop:=∀a o,H a=some o->cS P w H h a o
end
variable{P:Program}{w:World}{H H':Hp}{h h':Heap}{a:Addr}
section
variable{o:HO}
theorem cS.lt(x:cS P w H h a o):a<h.objs.size:=by
 cases o with
 |lst c=>obtain⟨_,_,_,_,e⟩:=x;exact Heap.lt_size e
 |tup c=>obtain⟨_,_,_,p⟩:=x;exact p.lt
 |dK b=>obtain⟨_,_,_,_,o,_,_,e,_⟩:=x;exact Heap.lt_size e
 |dT b=>obtain⟨_,_,_,_,o,_,_,e,_⟩:=x;exact Heap.lt_size e
 |set S n=>obtain⟨o,_,_,_,e,_⟩:=x;exact Heap.lt_size e
 |ins C j fs=>obtain⟨_,_,_,e,_⟩:=x;exact Heap.lt_size e
 |own y=>obtain⟨_,e⟩:=x;exact Heap.lt_size e
 |xd fs=>obtain⟨_,⟨_,_,_,e,_⟩,_⟩:=x;exact Heap.lt_size e
 |rng lo hi=>obtain⟨_,_,_,e⟩:=x;exact Heap.lt_size e
 |frz i u=>obtain⟨e,_⟩:=x;exact Heap.lt_size e
 |tbl g=>exact Heap.lt_size (show h.get? a=some _ from x)
 |met f y=>exact Heap.lt_size (show h.get? a=some _ from x)
 |ext d=>obtain⟨_,⟨_,e⟩,_⟩:=x;exact Heap.lt_size e
theorem Paired.mapP{α e:Type}{F G:α->e->Prop}:∀{d:List α}{c:List e},Paired F d c->(∀a b,F a b->G a b)->Paired G d c
 |_,_,.nil,_=>.nil
 |_,_,.cons r t,f=>.cons (f _ _ r) (Paired.mapP t f)
theorem cS.stay(x:cS P w H h a o)(k:∀b u,(b=a\/H b=some (.own a))->h.get? b=some u->h'.get? b=some u)
  (J:∀b,H b=some (.own a)->H' b=some (.own a))(I:∀b xs,H b=some (.tup xs)->H' b=some (.tup xs)):cS P w H' h' a o:=by
 induction o with
 |lst xs=>obtain⟨z,l,n,r,e⟩:=x;exact⟨z,l,n,r,k _ _ (.inl U) e⟩
 |tup xs=>obtain⟨z,l,r,g,e,c⟩:=x;exact⟨z,l,r,g,k _ _ (.inl U) e,c⟩
 |dK A=>obtain⟨z,y,E,r,g,i,j,e,c⟩:=x;exact⟨z,y,E,r,g,i,j,k _ _ (.inl U) e,c⟩
 |dT A =>
  obtain⟨z,y,xs,r,g,i,j,e,c⟩:=x;exact⟨z,y,xs,Paired.mapP r λp q z=>⟨z.1,I _ _ z.2.1,z.2.2⟩,g,i,j,k _ _ (.inl U) e,c⟩
 |set S n=>obtain⟨g,i,j,t,e,c⟩:=x;exact⟨g,i,j,t,k _ _ (.inl U) e,c⟩
 |ins C M fs =>
  obtain⟨d,z,F,e,s,⟨m,i,j,K,c⟩,r⟩:=x;exact⟨J _ d,z,F,k _ _ (.inl U) e,s,⟨m,i,j,k _ _ (.inr d) K,c⟩,r⟩
 |own y=>obtain⟨g,e⟩:=x;exact⟨g,k _ _ (.inl U) e⟩
 |xd fs=>obtain⟨s,⟨m,i,j,e,c⟩,r⟩:=x;exact⟨s,⟨m,i,j,k _ _ (.inl U) e,c⟩,r⟩
 |rng lo hi=>obtain⟨t,u,v,e⟩:=x;exact⟨t,u,v,k _ _ (.inl U) e⟩
 |frz g u G=>obtain⟨e,q⟩:=x;exact⟨k _ _ (.inl U) e,G q⟩
 |tbl D =>
  have e:h.get? a=some { cls:=.none,data:=.fields D }:=x;show h'.get? a=some { cls:=.none,data:=.fields D };exact k a _ (.inl U) e
 |met f y =>
  have e:h.get? a=some (W.methodObj (.ref f) (.ref y)):=x;show h'.get? a=some (W.methodObj (.ref f) (.ref y));exact k a _ (.inl U) e
 |ext L=>obtain⟨p,⟨o,e⟩,B⟩:=x;exact⟨B _ _ p λo q=>k _ _ (.inl U) q,⟨o,k _ _ (.inl U) e⟩,B⟩
theorem HOk.lt(x:HOk P w H h)(e:H a=some o):a<h.objs.size:=(x a o e).lt
theorem HOk.fresh(x:HOk P w H h)(e:h.objs.size<=a):H a=none:=by
 cases q:H a with
 |none=>rfl
 |some u=>exact absurd (xT (x.lt q) e) (yE _)
theorem HOk.kept(x:HOk P w H h)(k:∀b u,h.get? b=some u->h'.get? b=some u):HOk P w H h':=λa o e =>
 (x a o e).stay (λb u _ q=>k b u q) (λ_ q=>q) λ_ _ q=>q
theorem HOk.laid(x:HOk P w H h)(k:∀b u,h.get? b=some u->h'.get? b=some u)(g:h.objs.size<=a)(new:cS P w (upd H a o) h' a o):HOk P w (upd H a o) h':=λb u e=>by
 have d:=x.fresh g;by_cases f:b=a
 .subst f;rw[ab]at e;cases e;exact new
 .rw[ay f]at e;exact(x b u e).stay (λc v _ q=>k c v q) (λc q=>by rw[ay (bf q d)];exact q) λc i q=>by rw[ay (bf q d)];exact q
end
def Rd(H:Hp)(a:Addr)(u:HO):Prop:=H a=some u\/∃o,H a=some (.frz o u)
theorem Rd.ok{P:Program}{w:World}{H:Hp}{h:Heap}{a:Addr}{u:HO}(r:Rd H a u)(x:HOk P w H h):cS P w H h a u:=by
 rcases r with r|⟨o,r⟩
 .exact x a u r
 .obtain⟨_,q⟩:=x a _ r;exact q
def Mut:Option HO->Prop
 |some (.lst _)=>True
 |some (.dK _)=>True
 |some (.dT _)=>True
 |some (.set _ _)=>True
 |some (.ins _ _ _)=>True
 |some (.ext _)=>True
 |_=>False
variable{x:Addr}
section
variable{e:Addr}{o':HO}
theorem HOk.write(ok:HOk P w H h)(f:Mut (H x))(m:e=x\/H e=some (.own x))(k:∀b u,b≠e->h.get? b=some u->h'.get? b=some u)(j:∃u,h'.get? e=some u)
  (new:cS P w (upd H x o') h' x o'):HOk P w (upd H x o') h':=λb u q=>by
 have n:∀c y,H c=some (.own y)->c≠x:=λc y r z=>by subst z;rw[r]at f;exact f
 have p:∀c d,H c=some (.tup d)->c≠x:=λc d r z=>by subst z;rw[r]at f;exact f
 by_cases i:b=x
 .subst i;rw[ab]at q;cases q;exact new
 .rw[ay i]at q;by_cases a:b=e
  .have l:H b=some (.own x):=by
    rcases m with z|z
    .exact absurd (a.trans z) i
    .rw[a];exact z
   rw[q]at l;cases l;obtain⟨v,o⟩:=j;exact⟨v,by rw[a];exact o⟩
  .refine(ok b u q).stay (λc v g r=>k c v ?_ r) (λc r=>by rw[ay (n c b r)];exact r) λc d r=>by rw[ay (p c d r)];exact r
   rcases g with rfl|g
   .exact a
   .rintro rfl;rcases m with z|z
    .exact n c b g z
    .rw[g]at z;cases z;exact i U
end
structure Un(fs ex:List Addr)(H H':Hp)(h h':Heap):Prop where
 keep:∀b o,h.get? b=some o->H b=none->b ∉ fs->b ∉ ex->h'.get? b=some o
 slot:∀b o,h.get? b=some o->H b=none->b∈fs->b ∉ ex->∃sl,h'.get? b=some { o with slots:=sl }
 free:∀b o,h.get? b=some o->H b=none->b ∉ ex->H' b=none
 there:∀b o,h.get? b=some o->b ∉ ex->∃o',h'.get? b=some o'
 tups:∀b xs,H b=some (.tup xs)->H' b=some (.tup xs)
 frzs:∀b o u,H b=some (.frz o u)->H' b=some (.frz o u)
 tbls:∀b ps,H b=some (.tbl ps)->∃more,H' b=some (.tbl (ps++more))
section
variable{fs fs' ex ex':List Addr}{H1 H2:Hp}{h1 h2:Heap}{e:Addr}{o:HO}
theorem Un.any(u:Un fs ex H H1 h h1){b:Addr}{a:Obj}(q:h.get? b=some a)(n:H b=none)(c:b ∉ ex):∃e,h1.get? b=some { a with slots:=e }:=by
 by_cases d:b∈fs
 .exact u.slot b a q n d c
 .exact⟨a.slots,u.keep b a q n d c⟩
theorem Un.kept(k:∀b u,h.get? b=some u->h'.get? b=some u):Un fs ex H H h h' :=
 ⟨λb a q _ _ _=>k b a q,λb a q _ _ _=>⟨a.slots,k b a q⟩,λ_ _ _ n _=>n,λb a q _=>⟨a,k b a q⟩,λ_ _ q=>q,λ_ _ _ q=>q,λ_ c q=>⟨#[],by rw[q];simp⟩⟩
theorem Un.refl:Un fs ex H H h h:=Un.kept λ_ _ q=>q
theorem Un.laid(k:∀b u,h.get? b=some u->h'.get? b=some u)(e:h.objs.size<=a)(c:H a=none):Un fs ex H (upd H a o) h h' where
 keep:=λb u q _ _ _=>k b u q
 slot:=λb u q _ _ _=>⟨u.slots,k b u q⟩
 free:=λb u q n _=>by rw[ay (xS (xT (Heap.lt_size q) e))];exact n
 there:=λb u q _=>⟨u,k b u q⟩
 tups:=λb d q=>by rw[ay (bf q c)];exact q
 frzs:=λb u d q=>by rw[ay (bf q c)];exact q
 tbls:=λb f q=>⟨#[],by rw[ay (bf q c),q];simp⟩
theorem Un.write(c:Mut (H x))(m:e=x\/H e=some (.own x))(k:∀b u,b≠e->h.get? b=some u->h'.get? b=some u)(f:∃u,h'.get? e=some u):Un fs ex H (upd H x o) h h':=by
 have g:∀b,H b=none->b≠x:=λb n z=>by subst z;rw[n]at c;exact c
 have i:∀b,H b=none->b≠e:=λb n z=>by
  subst z;rcases m with r|r
  .exact g b n r
  .rw[n]at r;cases r
 have d:∀b u,H b=some u->¬ Mut (some u)->b≠x:=λb u q l z=>by subst z;rw[q]at c;exact l c
 refine⟨λb u q n _ _=>k b u (i b n) q,λb u q n _ _=>⟨u.slots,k b u (i b n) q⟩,λb u q n _=>by rw[ay (g b n)];exact n,λb u q _=>?_,
  λb j q=>by rw[ay (d b _ q λz=>z)];exact q,λb u j q=>by rw[ay (d b _ q λz=>z)];exact q,λb p q=>⟨#[],by rw[ay (d b _ q λz=>z),q];simp⟩⟩
 by_cases a:b=e
 .subst a;exact f
 .exact⟨u,k b u a q⟩
end
def trk(h:Heap)(H:Hp):List Addr:=(List.range h.objs.size).filter λa=>(H a).isSome
def l8(h:Heap)(H:Hp):Heap:=W.hideAll h (trk h H)
theorem uG(h:Heap)(H:Hp):(l8 h H).objs.size=h.objs.size:=W.hideAll_size _ _
theorem vS{h:Heap}{H:Hp}{b:Addr}{o:Obj}(e:h.get? b=some o)(n:H b=none):(l8 h H).get? b=some o :=
 W.hideAll_get _ e λa=>by
  have q:(H b).isSome=true:=(jw.mp a).2;rw[n]at q;simp at q
theorem ym{h:Heap}{H:Hp}{b:Addr}{o:Obj}(e:(l8 h H).get? b=some o):h.get? b=some o/\H b=none:=by
 have a:h.get? b=some o:=W.of_hideAll (trk h H) e;refine⟨a,?_⟩;cases q:H b with
 |none=>rfl
 |some x =>
  have c:b∈trk h H:=jw.mpr ⟨jr.mpr (Heap.lt_size a),by simp[q]⟩;have z:(l8 h H).get? b=none:=W.hideAll_none (trk h H) c;rw[z]at e;cases e
def yn(g h:Heap)(L:Addr):List (Addr×Obj):=(List.range h.objs.size).filterMap λa=>if a=L\/(g.get? a).isSome=true then none else(h.get? a).map λo=>(a,o)
def rest(g h:Heap)(L d:Addr):List (Addr×Obj):=(yn g h L).filter λp=>decide (p.1≠d)
structure Mod(K:W.Frag)(mg:Str->Option Value)(base:Heap):Prop where
 kin:K.In base
 glob:base.Ns mainGlobals mg
 blt:∃mb,base.Ns builtinsNs mb/\∀x:Str,x ≠ "__name__" -> mb x=bootBuiltins x
 nolimit:base.NoLimit
structure Cx where
 prog:Program
 w:World
 K:W.Frag
 mg:Str->Option Value
 base:Heap
 A:Around
 N:List Str
 s₀:Shared
 H₀:Hp
 env:Env
 outer:List Env
 stack:List Env
 ex:List Addr
 fn:Str->Bool
 calm:Bool
 pn:List (Addr×Obj)
 xe:Value->Shared->Prop
def frs(l:List Env):List Addr:=l.filterMap (·.frame)
abbrev Cx.fs(X:Cx):List Addr:=frs X.outer
def Vis(a:Scope)(x:Str):Prop:=a.names.lookup x=some .local\/a.names.lookup x=some .cell\/a.names.lookup x=some .free
def Loc(a:Scope)(x:Str):Prop:=a.names.lookup x=some .local\/a.names.lookup x=some .cell
def Look(a:Env)(h:Heap)(m:Str->Option Value)(x:Str)(u:Value):Prop :=
 (a.kindOf x=some .local/\m x=some u)\/((a.kindOf x=some .cell\/a.kindOf x=some .free)/\∃c,a.cells.lookup x=some c/\h.IsCell c (some u))
structure Cx.Ok(X:Cx):Prop where
 mod:Mod X.K X.mg X.base
 kind:X.env.scope.kind=.function
 glob:X.env.globals=mainGlobals
 blt:X.env.builtins=builtinsNs
 above:X.s₀.heap.objs.size<=X.env.locals
 inj:∀x y c,X.env.cells.lookup x=some c->X.env.cells.lookup y=some c->x=y
 has:∀x,(X.env.kindOf x=some .cell\/X.env.kindOf x=some .free)->∃c,X.env.cells.lookup x=some c
 cab:∀x c,X.fn x=true->X.env.cells.lookup x=some c->X.s₀.heap.objs.size<=c
 hd:X.calm=true->X.A.handled=none
 frames:X.A.frames=some X.stack
 stk:X.stack=X.outer\/(X.stack=X.env :: X.outer/\X.env.frame=some X.env.locals)
 exf:∀b∈X.ex,b≠X.env.locals/\∀x c,X.env.cells.lookup x=some c->c≠b
 bs:∀b o,X.base.get? b=some o->X.s₀.heap.get? b=some o/\X.H₀ b=none
 bsz:X.base.objs.size<=X.s₀.heap.objs.size
 noex:∀b o,X.base.get? b=some o->b ∉ X.ex
 exfs:∀b∈X.ex,b ∉ X.fs
 funs:X.s₀.heap.FunFrames X.base X.outer
 frf:∀b∈X.fs,X.H₀ b=none
structure Inv(X:Cx)(pins:List (Addr×Obj))(σ:List (Option V))(H:Hp)(s:Shared):Prop where
 ok:X.Ok
 os:s.os=X.s₀.os
 bare:AllBare s.gens
 base:Un X.fs X.ex X.H₀ H X.s₀.heap s.heap
 loc:∃m,s.heap.Ns X.env.locals m/\∀(i:Nat)(x:Str)(v:V),X.N[i]?=some x->σ[i]?=some (some v)->Vis X.env.scope x->∃u,RelV v u/\Look X.env s.heap m x u
 cell:∀x c,X.env.cells.lookup x=some c->∃v,s.heap.IsCell c v
 free:H X.env.locals=none
 freeC:∀x c,X.env.cells.lookup x=some c->H c=none
 pin:∀p∈X.pn++pins,s.heap.get? p.1=some p.2/\H p.1=none/\p.1≠X.env.locals/\p.1 ∉ X.fs/\∀v,p.2.data≠.cell v
 hok:HOk X.prog X.w H s.heap
 len:σ.length=X.N.length
variable{X:Cx}{pins:List (Addr×Obj)}{s:Shared}
section
variable{σ:List (Option V)}
theorem Cx.Ok.nofr(ok:X.Ok){b:Addr}{o:Obj}(e:X.base.get? b=some o):b ∉ X.fs:=λa=>by
 have:=(ok.funs.mem a).1;rw[e]at this;cases this
theorem Inv.bs(I:Inv X pins σ H s):∀b o,X.base.get? b=some o->s.heap.get? b=some o/\H b=none:=λb o e =>
 ⟨I.base.keep b o (I.ok.bs b o e).1 (I.ok.bs b o e).2 (I.ok.nofr e) (I.ok.noex b o e),I.base.free b o (I.ok.bs b o e).1 (I.ok.bs b o e).2 (I.ok.noex b o e)⟩
theorem Inv.bk(I:Inv X pins σ H s):∀b o,X.base.get? b=some o->s.heap.get? b=some o:=λb o e=>(I.bs b o e).1
theorem Inv.mod(I:Inv X pins σ H s):Mod X.K X.mg X.base:=I.ok.mod
theorem Inv.kIn(I:Inv X pins σ H s):X.K.In s.heap:=I.ok.mod.kin.keeps I.bk
theorem Inv.lt(I:Inv X pins σ H s):X.env.locals<s.heap.objs.size:=by obtain⟨_,a,_⟩:=I.loc;exact a.lt
theorem Inv.sz(I:Inv X pins σ H s):X.s₀.heap.objs.size<=s.heap.objs.size:=yc I.ok.above (yj I.lt)
theorem Inv.nofs(I:Inv X pins σ H s){a:Addr}(h:s.heap.objs.size<=a):a ∉ X.fs:=λc=>by
 obtain⟨_,o,b,_⟩:=I.ok.funs.mem c;exact absurd (xT (Heap.lt_size b) (yc I.sz h)) (yE _)
theorem Inv.cne(I:Inv X pins σ H s):∀x c,X.env.cells.lookup x=some c->c≠X.env.locals:=λx c e z=>by
 obtain⟨v,o,d,f⟩:=I.cell x c e;obtain⟨m,⟨g,h,i,a,b,_⟩,_⟩:=I.loc;rw[z,a]at d;cases d;rw[b]at f;cases f
theorem Inv.funs(I:Inv X pins σ H s):s.heap.FunFrames X.base X.outer:=by
 have all:∀(l:List Env),(∀b∈frs l,b∈X.fs)->X.s₀.heap.FunFrames X.base l->s.heap.FunFrames X.base l:=by
  intro l;induction l with
  |nil=>intro _ _;trivial
  |cons p r g =>
   intro f k;obtain⟨m,⟨L,o,a,j,i,n⟩,h⟩:=k;have d:L∈X.fs:=f L (by unfold frs;rw[qP,a];exact fb);obtain⟨q,e⟩:=I.base.slot L o i (I.ok.frf L d) d λz=>I.ok.exfs L z d
   exact⟨m,⟨L,_,a,j,e,n⟩,g (λb c=>f b (by unfold frs;rw[qP,a];exact iC _ c)) h⟩
 exact all X.outer (λ_ c=>c) I.ok.funs
theorem Inv.stack(I:Inv X pins σ H s):s.heap.FunFrames X.base X.stack:=by
 rcases I.ok.stk with e|⟨e,b⟩
 .rw[e];exact I.funs
 .rw[e];obtain⟨m,a,_⟩:=I.loc;refine .cons (by rw[I.ok.kind];decide) b a ?_ I.funs;exact Heap.get?_none_of_le (yc I.ok.bsz I.ok.above)
theorem Inv.stkSub(I:Inv X pins σ H s):∀b∈frs X.stack,b∈X.env.locals :: X.fs:=λb a=>by
 rcases I.ok.stk with e|⟨e,c⟩
 .rw[e]at a;exact iC _ a
 .rw[e]at a;unfold frs at a;rw[qP,c]at a;exact a
theorem Inv.stkFree(I:Inv X pins σ H s):∀b∈frs X.stack,H b=none:=λb a=>by
 rcases dt.mp (I.stkSub b a)with e|a
 .rw[e];exact I.free
 .obtain⟨_,o,c,_⟩:=I.ok.funs.mem a;exact I.base.free b o c (I.ok.frf b a) λz=>I.ok.exfs b z a
theorem Inv.step{g':Array GenState}{t':Nat}{d':Drawn}{ch:List Addr}(I:Inv X pins σ H s)
  (g:∀b∈ch,(b∈X.ex\/X.s₀.heap.objs.size<=b)/\b≠X.env.locals/\(∀x c,X.env.cells.lookup x=some c->c≠b)/\∀p∈X.pn++pins,p.1≠b)
  (keep:∀b o,b≠X.env.locals->b ∉ X.fs->b ∉ ch->s.heap.get? b=some o->H b=none->h'.get? b=some o)
  (slot:∀b o,b≠X.env.locals->b∈X.fs->b ∉ ch->s.heap.get? b=some o->H b=none->∃F,h'.get? b=some { o with slots:=F })(free:∀b o,b ∉ ch->s.heap.get? b=some o->H b=none->H' b=none)
  (there:∀b o,b ∉ ch->s.heap.get? b=some o->∃B,h'.get? b=some B)
  (tups:∀b xs,H b=some (.tup xs)->H' b=some (.tup xs))(frzs:∀b o u,H b=some (.frz o u)->H' b=some (.frz o u))(tbls:∀b ps,H b=some (.tbl ps)->∃E,H' b=some (.tbl (ps++E)))
  (ns:∀m,s.heap.Ns X.env.locals m->h'.Ns X.env.locals m)(hok:HOk X.prog X.w H' h')(S:AllBare g') :
  Inv X pins σ H' { s with heap:=h',gens:=g',drawn:=d',toks:=t' }:=by
 have D:∀b o,X.s₀.heap.get? b=some o->b≠X.env.locals:=λb o e=>xS (xT (Heap.lt_size e) I.ok.above)
 have t:∀b o,X.s₀.heap.get? b=some o->b ∉ X.ex->b ∉ ch:=λb o e a y=>by
  rcases(g b y).1 with z|z
  .exact a z
  .exact absurd (xT (Heap.lt_size e) z) (yE _)
 have h:∀x c,X.env.cells.lookup x=some c->∀v,s.heap.IsCell c v->h'.IsCell c v:=λx c e v ⟨o,A,G⟩=>by
  have f:c ∉ ch:=λz=>(g c z).2.2.1 x c e U
  by_cases N:c∈X.fs
  .obtain⟨F,q⟩:=slot c o (I.cne x c e) N f A (I.freeC x c e);exact⟨_,q,G⟩
  .exact⟨o,keep c o (I.cne x c e) N f A (I.freeC x c e),G⟩
 refine⟨I.ok,I.os,S,⟨λb o e n y a=>?_,λb o e n y a=>?_,λb o e n a=>?_,λb o e a=>?_,λb xs e=>tups b xs (I.base.tups b xs e),λb o xs e=>frzs b o xs (I.base.frzs b o xs e),λb ps e=>?_⟩,?_,λx c e=>?_,?_,λx c e=>?_,λp M=>?_,hok,I.len⟩
 .exact keep b o (D b o e) y (t b o e a) (I.base.keep b o e n y a) (I.base.free b o e n a)
 .obtain⟨F,j⟩:=I.base.slot b o e n y a;obtain⟨J,C⟩:=slot b _ (D b o e) y (t b o e a) j (I.base.free b o e n a);exact⟨J,C⟩
 .obtain⟨B,j⟩:=I.base.there b o e a;exact free b B (t b o e a) j (I.base.free b o e n a)
 .obtain⟨B,j⟩:=I.base.there b o e a;exact there b B (t b o e a) j
 .obtain⟨P,j⟩:=I.base.tbls b ps e;obtain⟨O,C⟩:=tbls b _ j;exact⟨P++O,by rw[C,Array.append_assoc]⟩
 .obtain⟨m,Q,R⟩:=I.loc;refine⟨m,ns m Q,λi x v j C T=>?_⟩;obtain⟨u,r,l⟩:=R i x v j C T;refine⟨u,r,?_⟩;rcases l with l|⟨k,c,e,z⟩
  .exact .inl l
  .exact .inr ⟨k,c,e,h x c e _ z⟩
 .obtain⟨v,z⟩:=I.cell x c e;exact⟨v,h x c e v z⟩
 .obtain⟨m,⟨o,_,_,A,_⟩,_⟩:=I.loc;exact free _ o (λz=>(g _ z).2.1 U) A I.free
 .obtain⟨v,o,A,G⟩:=I.cell x c e;exact free c o (λz=>(g c z).2.2.1 x c e U) A (I.freeC x c e)
 .obtain⟨e,n,L,K,d⟩:=I.pin p M;have f:p.1 ∉ ch:=λz=>(g p.1 z).2.2.2 p M U
  exact⟨keep p.1 p.2 L K f e n,free p.1 p.2 f e n,L,K,d⟩
theorem Inv.un{t':Nat}(I:Inv X pins σ H s)(u:Un X.fs [] H H' s.heap h')(hok:HOk X.prog X.w H' h'):Inv X pins σ H' { s with heap:=h',toks:=t' }:=by
 obtain⟨m,⟨o,q,t,g,r⟩,_⟩:=id I.loc;obtain⟨k,j⟩:=u.any g I.free (by simp);exact I.step (g':=s.gens) (d':=s.drawn) (ch:=[]) (λ_ z=>nomatch z) (λb o _ c _ e n=>u.keep b o e n c (by simp)) (λb o _ c _ e n=>u.slot b o e n c (by simp)) (λb o _ e n=>u.free b o e n (by simp)) (λb o _ e=>u.there b o e (by simp)) u.tups u.frzs u.tbls (λp i=>by
  obtain⟨l,d,f,a,h⟩:=i;rw[g]at a;cases a;exact⟨_,d,f,j,h⟩) hok I.bare
theorem Inv.call{g':Array GenState}{t':Nat}{d':Drawn}{ch:List Addr}(I:Inv X pins σ H s)(u:Un (frs X.stack) ch H H' s.heap h')(hok:HOk X.prog X.w H' h')(q:AllBare g')
  (f:∀b∈ch,(b∈X.ex\/X.s₀.heap.objs.size<=b)/\b≠X.env.locals/\(∀x c,X.env.cells.lookup x=some c->c≠b)/\∀p∈X.pn++pins,p.1≠b) :
  Inv X pins σ H' { s with heap:=h',gens:=g',drawn:=d',toks:=t' }:=by
 obtain⟨m,⟨o,B,C,j,r⟩,_⟩:=id I.loc;obtain⟨v,g⟩:=u.any j I.free λz=>(f _ z).2.1 U
 exact I.step (ch:=ch) f (λb o g t a e n=>u.keep b o e n (λz=>(dt.mp (I.stkSub b z)).elim g t) a) (λb o _ _ a e n=>u.any e n a) (λb o a e n=>u.free b o e n a) (λb o a e=>u.there b o e a) u.tups u.frzs u.tbls (λA l=>by
  obtain⟨y,h,i,d,k⟩:=l;rw[j]at d;cases d;exact⟨_,h,i,g,k⟩) hok q
theorem Inv.turned{t':Nat}{it:Addr}(I:Inv X pins σ H s)(k:∀b o,b≠it->s.heap.get? b=some o->h'.get? b=some o)(h:H it=none)(f:it≠X.env.locals)
  (w:it∈X.ex\/X.s₀.heap.objs.size<=it)(t:∀x c,X.env.cells.lookup x=some c->c≠it)(l:∀p∈X.pn++pins,p.1≠it):Inv X pins σ H { s with heap:=h',toks:=t' }:=by
 have d:∀b u,H b=some u->b≠it:=λb u e z=>by rw[z,h]at e;cases e
 refine I.step (g':=s.gens) (d':=s.drawn) (ch:=[it]) (λb j=>?_) (λb o _ _ a e _=>k b o (λz=>a (by simp[z])) e) (λb o _ _ a e _=>⟨o.slots,k b o (λz=>a (by simp[z])) e⟩) (λ_ _ _ _ n=>n)
  (λb o a e=>⟨o,k b o (λz=>a (by simp[z])) e⟩) (λ_ _ e=>e) (λ_ _ _ e=>e) (λb B e=>⟨#[],by rw[e];simp⟩) (λm i=>?_) (λb u e=>?_) I.bare
 .have e:b=it:=by simpa using j
  subst e;exact⟨w,f,t,l⟩
 .obtain⟨o,y,A,g,r⟩:=i;exact⟨o,y,A,k _ o (Ne.symm f) g,r⟩
 .refine(I.hok b u e).stay (λc v a q=>k c v ?_ q) (λ_ q=>q) λ_ _ q=>q
  rcases a with z|z
  .rw[z];exact d b u e
  .exact d c _ z
theorem Inv.tok(I:Inv X pins σ H s)(t:Nat):Inv X pins σ H { s with toks:=t }:=I.un (h':=s.heap) (t':=t) Un.refl I.hok
theorem Inv.kept{t':Nat}(I:Inv X pins σ H s)(k:∀b u,s.heap.get? b=some u->h'.get? b=some u):Inv X pins σ H { s with heap:=h',toks:=t' }:=I.un (Un.kept k) (I.hok.kept k)
theorem Inv.laid{a:Addr}{o:HO}{t':Nat}(I:Inv X pins σ H s)(k:∀b u,s.heap.get? b=some u->h'.get? b=some u)(c:s.heap.objs.size<=a)(new:cS X.prog X.w (upd H a o) h' a o) :
  Inv X pins σ (upd H a o) { s with heap:=h',toks:=t' }:=I.un (Un.laid k c (I.hok.fresh c)) (I.hok.laid k c new)
theorem Inv.write{x e:Addr}{o:HO}{t':Nat}(I:Inv X pins σ H s)(c:Mut (H x))(d:e=x\/H e=some (.own x))(k:∀b u,b≠e->s.heap.get? b=some u->h'.get? b=some u)(a:∃u,h'.get? e=some u)
  (new:cS X.prog X.w (upd H x o) h' x o):Inv X pins σ (upd H x o) { s with heap:=h',toks:=t' }:=I.un (Un.write c d k a) (I.hok.write c d k a new)
theorem Inv.pins_of{a:List (Addr×Obj)}(I:Inv X pins σ H s)(h:∀p∈a,s.heap.get? p.1=some p.2/\H p.1=none/\p.1≠X.env.locals/\p.1 ∉ X.fs/\∀v,p.2.data≠.cell v):Inv X a σ H s :=
 ⟨I.ok,I.os,I.bare,I.base,I.loc,I.cell,I.free,I.freeC,λp b=>(gg.mp b).elim (λz=>I.pin p (jD _ z)) (h p),I.hok,I.len⟩
theorem jP{N:List Str}(c:N.Nodup){i j:Nat}{x:Str}(a:N[i]?=some x)(b:N[j]?=some x):i=j:=by
 obtain⟨g,e⟩:=GI.mp a;obtain⟨f,d⟩:=GI.mp b;exact(wh c).mp (e.trans d.symm)
theorem kx{M:Model}{A:Around}{E:Value->Shared->Prop}{i:Nat}{x:Str}{v:V}{u:Value}{Q:Unit->Shared->Prop}(I:Inv X pins σ H s)(hN:X.N.Nodup)(hi:X.N[i]?=some x)(B:Loc X.env.scope x)(r:RelV v u)
  (h:∀s',Inv X pins (σ.set i (some v)) H s'->(∃a,Heap.SameBut a s.heap s'.heap/\(a=X.env.locals\/X.env.cells.lookup x=some a))->Q () s')(hf:X.fn x=true\/X.env.scope.names.lookup x=some .local:=by first|exact .inl U|exact .inr U|assumption):wpAny M A (storeName X.env x u) Q E s:=by
 obtain⟨m,hn,hl⟩:=id I.loc;have C1:(X.env.scope.kind == .class || (X.env.scope.kind == .module && X.env.locals != X.env.globals))=false:=by rw[I.ok.kind];rfl
 have F:i<σ.length:=by rw[I.len];exact(GI.mp hi).1
 have cne:=I.cne;have l:∀{a:Addr}{h':Heap},(∃o,s.heap.get? a=some o/\H a=none)->Heap.SameBut a s.heap h'->HOk X.prog X.w H h':=λ{a h'} ha f b ob e=>by
  obtain⟨_,_,uc⟩:=ha;refine(I.hok b ob e).stay (λc R t q=>(f.2 c ?_).trans q) (λ_ q=>q) λ_ _ q=>q
  rintro rfl;rcases t with rfl|t
  .rw[uc]at e;cases e
  .rw[uc]at t;cases t
 rcases B with D|D
 .refine wpAny_storeName_local D hn (λh' a1 f=>?_) C1;obtain⟨oL,_,_,a0,_⟩:=id hn;refine h _ ⟨I.ok,I.os,I.bare,⟨λb o e n J B=>?_,λb o e n J B=>?_,I.base.free,λb o e B=>?_,I.base.tups,I.base.frzs,I.base.tbls⟩,⟨_,a1,λj y W g C e3=>?_⟩,λy c e=>?_,I.free,I.freeC,λp hp=>?_,l ⟨oL,a0,I.free⟩ f,by simpa using I.len⟩ ⟨_,f,.inl U⟩
  .exact(f.2 b (xS (xT (Heap.lt_size e) I.ok.above))).trans (I.base.keep b o e n J B)
  .obtain⟨Z,g⟩:=I.base.slot b o e n J B;exact⟨Z,(f.2 b (xS (xT (Heap.lt_size e) I.ok.above))).trans g⟩
  .obtain⟨o',g⟩:=I.base.there b o e B;exact⟨o',(f.2 b (xS (xT (Heap.lt_size e) I.ok.above))).trans g⟩
  .by_cases G:j=i
   .subst G;rw[hi]at g;cases g;rw[List.getElem?_set_self F]at C;cases C;exact⟨u,r,.inl ⟨D,by simp⟩⟩
   .rw[List.getElem?_set_ne (Ne.symm G)]at C;obtain⟨Y,r',q⟩:=hl j y W g C e3;refine⟨Y,r',?_⟩;rcases q with⟨k,e⟩|⟨k,c,e,z⟩
    .refine .inl ⟨k,?_⟩;have:y≠x:=λe=>G (jP hN g (e ▸ hi))
     simp[this,e]
    .exact .inr ⟨k,c,e,z.sameBut f (cne y c e)⟩
  .obtain⟨R,z⟩:=I.cell y c e;exact⟨R,z.sameBut f (cne y c e)⟩
  .obtain⟨e,n,S,nf,d⟩:=I.pin p hp;exact⟨(f.2 p.1 S).trans e,n,S,nf,d⟩
 .have K:X.fn x=true:=by
   rcases hf with z|z
   .exact z
   .rw[z]at D;cases D
  obtain⟨c,t⟩:=I.ok.has x (.inl D);obtain⟨R,z⟩:=I.cell x c t;refine wpAny_storeName_cell I.ok.kind D t z (λh' P f=>?_);obtain⟨oc,L,C2⟩:=id z;refine h { s with heap:=h' } ⟨I.ok,I.os,I.bare,⟨λb o e n J B=>?_,λb o e n J B=>?_,I.base.free,λb o e B=>?_,I.base.tups,I.base.frzs,I.base.tbls⟩,⟨m,hn.sameBut f (Ne.symm (cne x c t)),λj y W g C e3=>?_⟩,λy T e=>?_,I.free,I.freeC,λp hp=>?_,l ⟨oc,L,I.freeC x c t⟩ f,by simpa using I.len⟩ ⟨c,f,.inr t⟩
  .exact(f.2 b (xS (xT (Heap.lt_size e) (I.ok.cab x c K t)))).trans (I.base.keep b o e n J B)
  .obtain⟨Z,g⟩:=I.base.slot b o e n J B;exact⟨Z,(f.2 b (xS (xT (Heap.lt_size e) (I.ok.cab x c K t)))).trans g⟩
  .obtain⟨o',g⟩:=I.base.there b o e B;exact⟨o',(f.2 b (xS (xT (Heap.lt_size e) (I.ok.cab x c K t)))).trans g⟩
  .by_cases G:j=i
   .subst G;rw[hi]at g;cases g;rw[List.getElem?_set_self F]at C;cases C;exact⟨u,r,.inr ⟨.inl D,c,t,P⟩⟩
   .rw[List.getElem?_set_ne (Ne.symm G)]at C;obtain⟨Y,r',q⟩:=hl j y W g C e3;refine⟨Y,r',?_⟩;rcases q with q|⟨k,T,e,z'⟩
    .exact .inl q
    .refine .inr ⟨k,T,e,z'.sameBut f ?_⟩;rintro rfl;exact G (jP hN g (I.ok.inj _ _ _ e t ▸ hi))
  .by_cases O:T=c
   .subst O;exact⟨_,P⟩
   .obtain⟨w2,z2⟩:=I.cell y T e;exact⟨w2,z2.sameBut f O⟩
  .obtain⟨e,n,S,nf,d⟩:=I.pin p hp;refine⟨(f.2 p.1 ?_).trans e,n,S,nf,d⟩;intro q;rw[q,L]at e;have q':oc=p.2:=Option.some.inj e;exact d R (by rw[←q'];exact C2)
theorem l9{M:Model}{A:Around}{E:Value->Shared->Prop}{i:Nat}{x:Str}{v:V}{u:Value}{Q:Unit->Shared->Prop}(I:Inv X pins σ H s)(c:X.N.Nodup)(hi:X.N[i]?=some x)(a:Loc X.env.scope x)(r:RelV v u)
  (h:∀s',Inv X pins (σ.set i (some v)) H s'->Q () s')(b:X.fn x=true\/X.env.scope.names.lookup x=some .local:=by first|exact .inl U|exact .inr U|assumption):wpAny M A (storeName X.env x u) Q E s :=
 kx I c hi a r (λs' d _=>h s' d) b
theorem Inv.call'{s':Shared}{ch:List Addr}(I:Inv X pins σ H s)(f:s'.os=s.os)(u:Un (frs X.stack) ch H H' s.heap s'.heap)(hok:HOk X.prog X.w H' s'.heap)(g:AllBare s'.gens)
  (a:∀b∈ch,(b∈X.ex\/X.s₀.heap.objs.size<=b)/\b≠X.env.locals/\(∀x c,X.env.cells.lookup x=some c->c≠b)/\∀p∈X.pn++pins,p.1≠b):Inv X pins σ H' s':=by
 obtain⟨h',g',d',t',d⟩:=s';have e:d=s.os:=f;subst e;exact I.call (g':=g') (t':=t') (d':=d') u hok g a
end
abbrev XK:=Value->Option Addr->Hp->Prop
abbrev St:=List (Option V)
abbrev VK:=V->Hp->Prop
abbrev TE:=St->Hp->VK->Prop
abbrev TT:=St->Hp->(Bool->Hp->Prop)->Prop
abbrev TA:=St->Hp->(List V->Hp->Prop)->Prop
structure Ends where
 nx:St->Hp->Prop
 rt:VK
 bk:St->Hp->Prop:=λ_ _=>False
 ct:St->Hp->Prop:=λ_ _=>False
abbrev TS:=Ends->St->Hp->Prop
def EP(X:Cx)(pins:List (Addr×Obj))(a:St)(Q:VK)(u:Value)(s':Shared):Prop:=∃v H',Inv X pins a H' s'/\RelV v u/\Q v H'
def TP(X:Cx)(pins:List (Addr×Obj))(a:St)(Q:Bool->Hp->Prop)(b:Bool)(s':Shared):Prop:=∃H',Inv X pins a H' s'/\Q b H'
def AP(X:Cx)(pins:List (Addr×Obj))(b:St)(Q:List V->Hp->Prop)(us:List Value)(s':Shared):Prop:=∃a H',Inv X pins b H' s'/\Vals a us/\Q a H'
def SP(X:Cx)(pins:List (Addr×Obj))(D:Ends)(f:Flow)(s':Shared):Prop :=
 match f with
 | .next=>∃a H',Inv X pins a H' s'/\D.nx a H'
 | .brk=>∃a H',Inv X pins a H' s'/\D.bk a H'
 | .cont=>∃a H',Inv X pins a H' s'/\D.ct a H'
 | .ret u=>∃v a H',Inv X pins a H' s'/\RelV v u/\D.rt v H'
def PE(X:Cx)(e:Expr)(t:TE):Prop :=
 ∀(pins:List (Addr×Obj))(s:Shared)(a:St)(H:Hp)(Q:VK),Inv X pins a H s->t a H Q->wpAny (model X.prog X.w) X.A (eval e X.env) (EP X pins a Q) X.xe s
def PT(X:Cx)(e:Expr)(t:TT):Prop :=
 ∀(pins:List (Addr×Obj))(s:Shared)(a:St)(H:Hp)(Q:Bool->Hp->Prop),Inv X pins a H s->t a H Q->wpAny (model X.prog X.w) X.A (isTrue e X.env (eval e X.env)) (TP X pins a Q) X.xe s
def PW(X:Cx)(e:Expr)(t:TT):Prop :=
 ∀(a:Sem Value)(pins:List (Addr×Obj))(s:Shared)(b:St)(H:Hp)(Q:Bool->Hp->Prop),Inv X pins b H s->t b H Q->wpAny (model X.prog X.w) X.A (isTrue e X.env a) (TP X pins b Q) X.xe s
theorem PW.pt{X:Cx}{e:Expr}{t:TT}(h:PW X e t):PT X e t:=h _
def PA(X:Cx)(c:List Expr)(t:TA):Prop :=
 ∀(b:Pos)(pins:List (Addr×Obj))(s:Shared)(a:St)(H:Hp)(Q:List V->Hp->Prop),Inv X pins a H s->t a H Q->wpAny (model X.prog X.w) X.A (spliced (backTo b (starEach c X.env))) (AP X pins a Q) X.xe s
def PS(X:Cx)(st:Stmt)(t:TS):Prop :=
 ∀(pins:List (Addr×Obj))(s:Shared)(a:St)(H:Hp)(D:Ends),Inv X pins a H s->t D a H->wpAny (model X.prog X.w) X.A (exec st X.env) (SP X pins D) X.xe s
def PSs(X:Cx)(st:List Stmt)(t:TS):Prop :=
 ∀(pins:List (Addr×Obj))(s:Shared)(a:St)(H:Hp)(D:Ends),Inv X pins a H s->t D a H->wpAny (model X.prog X.w) X.A (execs st X.env) (SP X pins D) X.xe s
theorem thn{α:Type}{t:Sem α}{Q b:α->Shared->Prop}{M:Model}{A:Around}{E:Value->Shared->Prop}{s:Shared}(h:wpAny M A t Q E s)(c:∀a s,Q a s->b a s):wpAny M A t b E s:=wpAny_mono h c λ_ _ x=>x
variable{ta tb:TE}{pos:Pos}
section
inductive Ab(i:Nat)(σ:St)(H:Hp)(Q:VK):Prop
 |mk (v:_)(_:σ[i]?=some (some v))(_:Q v H)
def tC(v:V):TE:=λ_ H Q=>Q v H
theorem rT{i:Nat}{x:Str}{pos:Pos}(t:X.N[i]?=some x)(n:Vis X.env.scope x)(d:(x == ("__debug__" : Str))=false:=by decide) (f:(x == ("__classdict__" : Str))=false:=by decide):PE X (.Name x pos) (Ab i):=by
 intro pins s k H Q I h;obtain⟨v,e,h⟩:=h;obtain⟨m,o,q⟩:=I.loc;obtain⟨u,r,l⟩:=q i x v t e n;have b:EP X pins k Q u s:=⟨v,H,I,r,h⟩;rcases l with⟨a,p⟩|⟨a,c,j,g⟩
 .exact wpAny_Name (wpAny_loadName_local I.ok.kind a o p b) d
 .rcases a with a|a
  .exact wpAny_Name (wpAny_loadName_cell I.ok.kind a j g b) d
  .exact wpAny_Name (wpAny_loadName_free I.ok.kind a j g b f) d
theorem ag{i j pos}:PE X (.Constant (.int i) j pos) (tC (.int i)):=λ_ _ _ H _ I h=>wpAny_Constant_int ⟨.int i,H,I.tok _,⟨_,U⟩,h⟩
theorem fK{b j pos}:PE X (.Constant (.bool b) j pos) (tC (.bl b)):=λ_ _ _ H _ I h=>Constant_bool ⟨.bl b,H,I,U,h⟩
theorem ky{j pos}:PE X (.Constant .none j pos) (tC .non):=λ_ _ _ H _ I h=>Constant_none ⟨.non,H,I,U,h⟩
theorem aS{x j pos}:PE X (.Constant (.str x) j pos) (tC (.str x)):=λ_ _ _ H _ I h=>Calls.Constant_str ⟨.str x,H,I.tok _,⟨_,U⟩,h⟩
def Gl(X:Cx)(x:Str):Prop:=X.env.kindOf x=some .globalImplicit
theorem gi{E:Value->Shared->Prop}{pins:List (Addr×Obj)}{s:Shared}{a:St}{H:Hp}{x:Str}{u:Value}{pos:Pos}{Q:Value->Shared->Prop}(I:Inv X pins a H s)(c:Gl X x)(b:X.mg x=some u)(h:Q u s)
  (hd:(x == ("__debug__" : Str))=false:=by decide):wpAny (model X.prog X.w) X.A (eval (.Name x pos) X.env) Q E s :=
 Calls.Name_function_global I.ok.kind c (Calls.loadGlobal_global (by rw[I.ok.glob];exact I.mod.glob.keeps I.bk) b h) hd
theorem eN{E:Value->Shared->Prop}{pins:List (Addr×Obj)}{s:Shared}{a:St}{H:Hp}{x:Str}{u:Value}{pos:Pos}{Q:Value->Shared->Prop}(I:Inv X pins a H s)(e:Gl X x)(d:X.mg x=none)(b:bootBuiltins x=some u)(h:Q u s)
  (c:x ≠ "__name__" := by decide) (hd:(x == ("__debug__" : Str))=false:=by decide):wpAny (model X.prog X.w) X.A (eval (.Name x pos) X.env) Q E s:=by
 obtain⟨i,g,f⟩:=I.mod.blt;exact Calls.Name_function_global I.ok.kind e (Calls.loadGlobal_builtin (by rw[I.ok.glob];exact I.mod.glob.keeps I.bk) d (by rw[I.ok.blt];exact g.keeps I.bk) ((f x c).trans b) h) hd
theorem cC{x:Str}{v:V}{u:Value}{pos:Pos}(b:Gl X x)(a:X.mg x=some u)(r:RelV v u)(c:(x == ("__debug__" : Str))=false:=by decide):PE X (.Name x pos) (tC v) :=
 λ_ _ _ H _ I h=>gi I b a ⟨v,H,I,r,h⟩ c
theorem iD{x:Str}{v:V}{u:Value}{pos:Pos}(d:Gl X x)(c:X.mg x=none)(a:bootBuiltins x=some u)(r:RelV v u)(b:x ≠ "__name__" := by decide) (hd:(x == ("__debug__" : Str))=false:=by decide):PE X (.Name x pos) (tC v) :=
 λ_ _ _ H _ I h=>eN I d c a ⟨v,H,I,r,h⟩ b hd
variable{a b:Expr}
inductive tBq  (Q:Bool->Hp->Prop)(x:V)(H1:Hp):Prop
 |mk (c:_)(_:x=.bl c)(_:Q c H1):tBq Q x H1
def tB(t:TE):TT:=λa H Q=>t a H λx b=>tBq Q x b
theorem cD{e:Expr}{t:TE}(h:PE X e t)(i:∀a,isTrue e X.env a=(do let v ←a;standAt e.pos;holding [v] (truthy v)):=by intro _;rfl):PT X e (tB t):=by
 intro pins s b H Q I g;refine isTrue_plain (thn (h pins s b H _ I g) λv l ⟨x,k,j,c,f⟩=>?_) (i _);obtain⟨d,rfl,q⟩:=f;cases c;exact wpAny_truthy_bool ⟨k,j,q⟩
variable{tA tB':TT}{rest:List Expr}
def C3(t u:TT):TT:=λa H Q=>t a H λc b=>if c=true then u a b Q else Q false b
def tOr(t u:TT):TT:=λa H Q=>t a H λc b=>if c=true then Q true b else u a b Q
def C4(t:TT):TT:=λa H Q=>t a H λc b=>Q (!c) b
theorem gj(d:PT X a tA):PW X (.BoolOp .And [a] pos) tA:=by
 intro f pins s b H Q I h;refine isTrue_and (thn (d pins s b H Q I h) λc g e=>?_);cases c with
 |true=>exact isTrue_and_nil e
 |false=>exact e
theorem rV(d:PT X a tA):PW X (.BoolOp .Or [a] pos) tA:=by
 intro f pins s b H Q I h;refine isTrue_or (thn (d pins s b H Q I h) λc g e=>?_);cases c with
 |false=>exact isTrue_or_nil e
 |true=>exact e
theorem ja(l:PT X a tA)(k:PW X (.BoolOp .And (b :: rest) pos) tB'):PW X (.BoolOp .And (a :: b :: rest) pos) (C3 tA tB'):=by
 intro i pins s d H Q I h;refine isTrue_and (thn (l pins s d H _ I h) λc j ⟨g,f,e⟩=>?_);cases c with
 |true=>exact k i pins j d g Q f e
 |false=>exact⟨g,f,e⟩
theorem vT(l:PT X a tA)(k:PW X (.BoolOp .Or (b :: rest) pos) tB'):PW X (.BoolOp .Or (a :: b :: rest) pos) (tOr tA tB'):=by
 intro i pins s d H Q I h;refine isTrue_or (thn (l pins s d H _ I h) λc j ⟨g,f,e⟩=>?_);cases c with
 |true=>exact⟨g,f,e⟩
 |false=>exact k i pins j d g Q f e
theorem cy(d:PT X a tA):PT X (.UnaryOp .Not a pos) (C4 tA):=by
 intro pins s b H Q I h;exact isTrue_not (d pins s b H (λc e=>Q (!c) e) I h)
inductive vU(tb:TE)(σ:St)(Q:VK)(x:V)(H1:Hp):Prop
 |mk (c:_)(_:x=.bl c)(_:if c=true then tb σ H1 Q else Q (.bl false) H1)
def Bu(ta tb:TE):TE:=λa H Q=>ta a H λx b=>vU tb a Q x b
inductive vV  (Q:VK)(x:V)(H1:Hp):Prop
 |mk (c:_)(_:x=.bl c)(_:Q (.bl (!c)) H1):vV Q x H1
def Bv(ta:TE):TE:=λa H Q=>ta a H λx b=>vV Q x b
theorem jb{op} {t:TE}(h:PE X a t):PE X (.BoolOp op [a] pos) t:=λpins s b H Q I c=>BoolOp_one (h pins s b H Q I c)
theorem gN(l:PE X a ta)(k:PE X (.BoolOp .And (b :: rest) pos) tb):PE X (.BoolOp .And (a :: b :: rest) pos) (Bu ta tb):=by
 intro pins s e H Q I h;refine BoolOp_and (thn (l pins s e H _ I h) λv i ⟨x,g,f,j,d⟩=>?_);obtain⟨c,rfl,d⟩:=d;cases j;refine wpAny_truthy_bool ?_;cases c with
 |true=>exact k pins i e g Q f d
 |false=>exact⟨.bl false,g,f,U,d⟩
theorem vW(f:PE X a ta):PE X (.UnaryOp .Not a pos) (Bv ta):=by
 intro pins s d H Q I h;refine UnaryOp_ (thn (f pins s d H _ I h) λv j ⟨x,i,g,e,b⟩=>?_);obtain⟨c,rfl,b⟩:=b;cases e;exact not_of (wpAny_truthy_bool ⟨.bl (!c),i,g,U,b⟩)
def tIf(t:TT)(ta tb:TE):TE:=λa H Q=>t a H λc b=>if c=true then ta a b Q else tb a b Q
theorem jR{c:Expr}(k:PT X c tA)(m:PE X a ta)(l:PE X b tb):PE X (.IfExp c a b pos) (tIf tA ta tb):=by
 intro pins s e H Q I h;refine wpAny_IfExp (thn (k pins s e H _ I h) λd f ⟨j,i,g⟩=>?_);cases d with
 |true=>exact m pins f e j Q i g
 |false=>exact l pins f e j Q i g
end
def SqL(K:W.Frag)(H:Hp)(a:Addr)(xs:List V):Prop :=
 Rd H a (.lst xs) \/
  ∃(o:Obj)(b:Array Value)(n:Nat),K.lookup a=some o/\o.cls=.type "list" /\ o.dict=none/\o.data=.seq b n/\b.size<=sizeLine/\Vals xs b.toList
def SqT(K:W.Frag)(H:Hp)(a:Addr)(xs:List V):Prop :=
 Rd H a (.tup xs) \/
  ∃(o:Obj)(b:Array Value)(n:Nat),K.lookup a=some o/\o.cls=.type "tuple" /\ o.data=.seq b n/\b.size<=sizeLine/\Vals xs b.toList
def C5:Value->Option V
 | .none=>some .non
 | .bool b=>some (.bl b)
 | .int i _=>some (.int i)
 | .str x _=>some (.str x)
 | .bytes b _=>some (.byt b)
 | .float b _=>some (.flt b)
 | .ref a=>some (.ref a)
 | .type n=>some (.ty n)
 |_=>none
theorem RelV.abs{x:V}{u:Value}(r:RelV x u):C5 u=some x:=by
 cases x with
 |non=>cases r;rfl
 |bl _=>cases r;rfl
 |int _=>obtain⟨t,rfl⟩:=r;rfl
 |str _=>obtain⟨t,rfl⟩:=r;rfl
 |byt _=>obtain⟨t,rfl⟩:=r;rfl
 |flt _=>obtain⟨t,rfl⟩:=r;rfl
 |ref _=>cases r;rfl
 |ty _=>cases r;rfl
theorem RelV.inj{x y:V}{u:Value}(r:RelV x u)(q:RelV y u):x=y:=Option.some.inj (r.abs.symm.trans q.abs)
theorem Vals.inj:∀{xs ys:List V}{us:List Value},Vals xs us->Vals ys us->xs=ys
 |_,_,_,.nil,.nil=>rfl
 |_,_,_,.cons r t,.cons r' t'=>by rw[r.inj r',Vals.inj t t']
variable{σ:St}
section
variable{xs ys:List V}
theorem SqL.of{K:W.Frag}(h:H a=some (.lst xs)):SqL K H a xs:=.inl (.inl h)
theorem SqT.of{K:W.Frag}(h:H a=some (.tup xs)):SqT K H a xs:=.inl (.inl h)
theorem Inv.list(I:Inv X pins σ H s)(h:SqL X.K H a xs):∃b:List Value,Vals xs b/\PlainL s.heap a b.toArray/\xs.length<=sizeLine:=by
 rcases h with h|⟨o,b,n,d,g,f,c,i,r⟩
 .obtain⟨z,b,n,r,e⟩:=h.ok I.hok;exact⟨b,r,⟨_,n,e,U,U,U⟩,z⟩
 .refine⟨b.toList,r,⟨o,n,I.kIn a o d,g,f,by simpa using c⟩,?_⟩;have e:=r.length;simp only[zz]at e;lia
theorem Inv.tuple(I:Inv X pins σ H s)(h:SqT X.K H a xs):∃b:List Value,Vals xs b/\IsTup s.heap a b.toArray/\xs.length<=sizeLine:=by
 rcases h with h|⟨o,b,n,d,f,c,g,r⟩
 .obtain⟨z,b,r,p⟩:=h.ok I.hok;exact⟨b,r,p,z⟩
 .refine⟨b.toList,r,⟨o,I.kIn a o d,f,n,by simpa using c⟩,?_⟩;have e:=r.length;simp only[zz]at e;lia
theorem Inv.list_inj(I:Inv X pins σ H s)(h:SqL X.K H a xs)(h':SqL X.K H a ys):xs=ys:=by
 obtain⟨c,r,⟨o,n,e,_,_,d⟩,_⟩:=I.list h;obtain⟨b,i,⟨k,l,f,_,_,g⟩,_⟩:=I.list h';rw[e]at f;cases f;rw[d]at g;injection g with j _;have:c=b:=by simpa using congrArg Array.toList j
 subst this;exact r.inj i
theorem Inv.tuple_inj(I:Inv X pins σ H s)(h:SqT X.K H a xs)(h':SqT X.K H a ys):xs=ys:=by
 obtain⟨c,r,⟨o,e,_,n,d⟩,_⟩:=I.tuple h;obtain⟨b,i,⟨k,f,_,l,g⟩,_⟩:=I.tuple h';rw[e]at f;cases f;rw[d]at g;injection g with j _;have:c=b:=by simpa using congrArg Array.toList j
 subst this;exact r.inj i
end
abbrev Cx.wish(X:Cx)(E:Value->Shared->Prop):Cx:={ X with xe:=E }
abbrev Cx.nox(X:Cx):Cx:=X.wish λ_ _=>False
theorem Cx.Ok.wish{X:Cx}(ok:X.Ok)(E:Value->Shared->Prop):(X.wish E).Ok :=
 ⟨ok.mod,ok.kind,ok.glob,ok.blt,ok.above,ok.inj,ok.has,ok.cab,ok.hd,ok.frames,ok.stk,ok.exf,ok.bs,ok.bsz,ok.noex,ok.exfs,ok.funs,ok.frf⟩
theorem Cx.Ok.unwish{X:Cx}{E:Value->Shared->Prop}(ok:(X.wish E).Ok):X.Ok :=
 ⟨ok.mod,ok.kind,ok.glob,ok.blt,ok.above,ok.inj,ok.has,ok.cab,ok.hd,ok.frames,ok.stk,ok.exf,ok.bs,ok.bsz,ok.noex,ok.exfs,ok.funs,ok.frf⟩
variable{E:Value->Shared->Prop}
theorem Inv.wish(I:Inv X pins σ H s)(E:Value->Shared->Prop):Inv (X.wish E) pins σ H s:=⟨I.ok.wish E,I.os,I.bare,I.base,I.loc,I.cell,I.free,I.freeC,I.pin,I.hok,I.len⟩
theorem Inv.unwish(I:Inv (X.wish E) pins σ H s):Inv X pins σ H s:=⟨I.ok.unwish,I.os,I.bare,I.base,I.loc,I.cell,I.free,I.freeC,I.pin,I.hok,I.len⟩
theorem SP.unwish{D:Ends}{f:Flow}{s':Shared}(h:SP (X.wish E) pins D f s'):SP X pins D f s':=by
 cases f with
 |next=>obtain⟨a,H',I,q⟩:=h;exact⟨a,H',I.unwish,q⟩
 |brk=>obtain⟨a,H',I,q⟩:=h;exact⟨a,H',I.unwish,q⟩
 |cont=>obtain⟨a,H',I,q⟩:=h;exact⟨a,H',I.unwish,q⟩
 |ret u=>obtain⟨v,a,H',I,r,q⟩:=h;exact⟨v,a,H',I.unwish,r,q⟩
theorem PE.nox{e:Expr}{t:TE}(h:PE X.nox e t):PE X e t:=λpins s σ H Q I a =>
 wpAny_mono (h pins s σ H Q (I.wish _) a) (λ_ _ ⟨v,H',b,r,q⟩=>⟨v,H',b.unwish,r,q⟩) λ_ _ z=>False.elim z
theorem PSs.nox{st:List Stmt}{t:TS}(h:PSs X.nox st t):PSs X st t:=λpins s σ H D I a =>
 wpAny_mono (h pins s σ H D (I.wish _) a) (λ_ _ q=>q.unwish) λ_ _ z=>False.elim z
variable{e:Expr}{te:TE}
section
variable{st:Stmt}{rest:List Stmt}{t u:TS}
def Bw:TS:=λD σ H=>D.nx σ H
def C6(t u:TS):TS:=λD σ H=>t { D with nx:=u D } σ H
theorem az:PSs X [] Bw:=λ_ _ σ H _ I h=>wpAny_execs_nil ⟨σ,H,I,h⟩
theorem aj(d:PS X st t)(c:PSs X rest u):PSs X (st :: rest) (C6 t u):=by
 intro pins s σ H D I h;refine wpAny_execs_cons (thn (d pins s σ H { D with nx:=u D } I h) λf b q=>?_);cases f with
 |next =>
  obtain⟨a,H',e,q⟩:=q;exact c pins b a H' D e q
 |ret v=>exact q
 |brk=>exact q
 |cont=>exact q
theorem ai(a:PS X st t):PSs X [st] t:=by
 intro pins s σ H D I h;refine wpAny_execs_cons (thn (a pins s σ H D I h) λf b q=>?_);cases f with
 |next=>exact wpAny_execs_nil q
 |ret v=>exact q
 |brk=>exact q
 |cont=>exact q
theorem Inv.quiet{pins:List (Addr×Obj)}{σ:St}{H:Hp}{s:Shared}(I:Inv X pins σ H s):interactive X.env=false:=by simp[interactive,I.ok.kind]
def Bx(te:TE):TS:=λD σ H=>te σ H λ_ a=>D.nx σ a
theorem aV(c:PE X e te)(b:swapsWith e none pos.line X.env=pure false:=by rfl):PS X (.Expr e pos) (Bx te):=by
 intro pins s σ H D I h;exact wpAny_Expr_any (thn (c pins s σ H _ I h) λv g ⟨x,f,d,i,a⟩=>⟨σ,f,d,a⟩) I.quiet b
def C7(te:TE):TS:=λD σ H=>te σ H D.rt
theorem av(c:PE X e te):PS X (.Return (some e) pos) (C7 te):=by
 intro pins s σ H D I h;exact wpAny_Return_some (thn (c pins s σ H _ I h) λv g ⟨x,f,d,a,b⟩=>⟨x,σ,f,d,a,b⟩)
def C8(c:TT)(t u:TS):TS:=λD σ H=>c σ H λb a=>if b=true then t D σ a else u D σ a
theorem aM{c:Expr}{a b:List Stmt}{e:TT}(k:PT X c e)(m:PSs X a t)(l:PSs X b u):PS X (.If c a b pos) (C8 e t u):=by
 intro pins s σ H D I h;refine wpAny_If (thn (k pins s σ H _ I h) λd f ⟨j,i,g⟩=>?_);cases d with
 |true=>exact m pins f σ j D i g
 |false=>exact l pins f σ j D i g
def Ac:TS:=λ_ _ _=>False
theorem bE:PS X st Ac:=λ_ _ _ _ _ _ h=>h.elim
end
abbrev TG:=V->St->Hp->(St->Hp->Prop)->Prop
abbrev TGs:=List V->St->Hp->(St->Hp->Prop)->Prop
def PG(X:Cx)(a:Expr)(t:TG):Prop :=
 ∀(pins:List (Addr×Obj))(s:Shared)(σ:St)(H:Hp)(v:V)(u:Value)(Q:St->Hp->Prop),Inv X pins σ H s->RelV v u->t v σ H Q ->
  wpAny (model X.prog X.w) X.A (assign a X.env u) (λ_ c=>∃b H',Inv X pins b H' c/\Q b H') X.xe s
def PGs(X:Cx)(ts:List Expr)(t:TGs):Prop :=
 ∀(pins:List (Addr×Obj))(s:Shared)(σ:St)(H:Hp)(b:List V)(c:List Value)(Q:St->Hp->Prop),Inv X pins σ H s->Vals b c->t b σ H Q ->
  wpAny (model X.prog X.w) X.A (assignInOrder ((assignEach ts X.env).map (·.2)) c) (λ_ d=>∃a H',Inv X pins a H' d/\Q a H') X.xe s
abbrev Ad:=V->V->V->Hp->(Hp->Prop)->Prop
def By(X:Cx)(t:Ad):Prop :=
 ∀(pins:List (Addr×Obj))(s:Shared)(σ:St)(H:Hp)(o i v:V)(a b u:Value)(Q:Hp->Prop),Inv X pins σ H s->RelV o a->RelV i b->RelV v u->t o i v H Q ->
  wpAny (model X.prog X.w) X.A (setItem a b u) (λ_ c=>∃H',Inv X pins σ H' c/\Q H') X.xe s
abbrev TIp:=V->V->Hp->VK->Prop
def PIp(X:Cx)(a:Operator)(t:TIp):Prop :=
 ∀(pins:List (Addr×Obj))(s:Shared)(σ:St)(H:Hp)(x y:V)(v u:Value)(Q:VK),Inv X pins σ H s->RelV x v->RelV y u->t x y H Q ->
  wpAny (model X.prog X.w) X.A (inplaceOp a v u) (EP X pins σ Q) X.xe s
def oB(i:Nat):TG:=λv σ H Q=>Q (σ.set i (some v)) H
theorem aC{i:Nat}{x:Str}(c:X.N.Nodup)(hi:X.N[i]?=some x)(a:Loc X.env.scope x)(b:X.fn x=true\/X.env.scope.names.lookup x=some .local:=by first|exact .inl U|exact .inr U|assumption):PG X (.Name x pos) (oB i):=by
 intro pins s σ H v u Q I r h;exact wpAny_assign_Name (l9 I c hi a r (λe d=>⟨_,H,d,h⟩) b)
def C9:TGs:=λa σ H Q=>a=[]/\Q σ H
def Bz(t:TG)(u:TGs):TGs:=λb σ H Q=>∃v r,b=v :: r/\t v σ H λa H'=>u r a H' Q
theorem bH:PGs X [] C9:=by
 intro pins s σ H a b Q I r h;obtain⟨e,h⟩:=h;subst e;cases r;exact assignInOrder_nil ⟨σ,H,I,h⟩
theorem aK{e:Expr}{a:List Expr}{t:TG}{u:TGs}(j:PG X e t)(i:PGs X a u)
  (g:(assignEach (e :: a) X.env).map (·.2)=assign e X.env :: (assignEach a X.env).map (·.2):=by rfl):PGs X (e :: a) (Bz t u):=by
 intro pins s σ H n p Q I r h;obtain⟨v,o,k,h⟩:=h;subst k;cases r with
 |cons r d =>
  rw[g];refine assignInOrder_cons (thn (j pins s σ H _ _ _ I r h) λ_ c ⟨b,m,l,f⟩=>?_);exact i pins c b m _ _ Q l d f
def BA(K:W.Frag)(n:Nat)(t:TGs):TG:=λv σ H Q=>∃a b,v=.ref a/\SqT K H a b/\b.length=n/\t b σ H Q
theorem eO{c:List Expr}{k:Nat}{t:TGs}{n:Nat}(w:X.calm=true)(h:PGs X c t)
  (p:(assignEach c X.env).length=n:=by rfl)(f:(assignEach c X.env).findIdx? (·.1)=none:=by rfl):PG X (.Tuple c k pos) (BA X.K n t):=by
 intro pins s σ H v u Q I r d;obtain⟨a,i,x,m,q,d⟩:=d;subst x;cases r;obtain⟨z,g,l,A⟩:=I.tuple m;refine assign_Tuple_tuple (I.ok.hd w) l (by simp[p,←q,g.length]) f λh' j=>?_
 have y:Inv X pins σ H { s with heap:=h' }:=I.kept (t':=s.toks) λb o e=>j b o (xS (Heap.lt_size e)) e
 exact h pins _ σ H i _ Q y (by simpa using g) d
def Dc(to ti:TE)(t:Ad):TG:=λv σ H Q=>to σ H λo c=>ti σ c λi b=>t o i v b λa=>Q σ a
theorem ma{o i:Expr}{to ti:TE}{t:Ad}(l:PE X o to)(hi:PE X i ti)(k:By X t)
  (m:∀v,assign (.Subscript o i pos) X.env v=(do
   let a ←holding [v] (eval o X.env)
   let b ←holding [v,a] (eval i X.env)
   standAt pos
   holding [v,a,b] (setItem a b v)
   release [v,a,b] []):=by intro _;rfl):PG X (.Subscript o i pos) (Dc to ti t):=by
 intro pins s σ H v u Q I r h;rw[m];refine BY (Dl (thn (l pins s σ H _ I h) λa c ⟨x,A,q,e,j⟩=>?_));refine BY (Dl (thn (hi pins c σ A _ q j) λb s2 ⟨y,z,p,d,g⟩=>?_));refine BY (wpAny_standAt (BY (Dl (thn (k pins s2 σ z x y v a b u _ p e d r g) λ_ B ⟨w,n,f⟩=>?_))));exact wpAny_release ⟨σ,w,n,f⟩
def yp(te:TE)(g:TG):TS:=λD σ H=>te σ H λx a=>g x σ a D.nx
theorem mf{a e:Expr}{te:TE}{g:TG}(k:PE X e te)(j:PG X a g)(i:swapsWithSole [a] e pos.line X.env=pure false:=by rfl)(f:swappedStores [a] e X.env=pure none:=by rfl)
  (l:(assignEach [a] X.env).map (·.2)=[assign a X.env]:=by rfl):PS X (.Assign [a] e pos) (yp te g):=by
 intro pins s σ H D I h;refine wpAny_Assign_stores (thn (k pins s σ H _ I h) λv b ⟨x,n,m,c,d⟩=>?_) i f;rw[l];exact thn (j pins b σ n x v _ m c d) λ_ s2 q=>q
theorem aJ{i:Nat}{x:Str}{e:Expr}{te:TE}{a:Pos}(k:X.N.Nodup)(hi:X.N[i]?=some x)(d:Loc X.env.scope x)(j:PE X e te)(f:swapsWith e (some (.Name x a)) pos.line X.env=pure false:=by rfl)(g:X.fn x=true\/X.env.scope.names.lookup x=some .local:=by first|exact .inl U|exact .inr U|assumption) :
  PS X (.Assign [.Name x a] e pos) (yp te (oB i)):=by
 intro pins s σ H D I h;refine wpAny_Assign_Name (thn (j pins s σ H _ I h) λv o ⟨y,n,m,b,c⟩=>?_) f;exact l9 m k hi d b (λs2 l=>⟨_,n,l,c⟩) g
inductive BB(i:Nat)(te:TE)(ti:TIp)(D:Ends)(σ:St)(H:Hp):Prop
 |mk (x:_)(_:σ[i]?=some (some x))(_:te σ H λy H1=>ti x y H1 λz H2=>D.nx (σ.set i (some z)) H2)
theorem rW{i:Nat}{x:Str}{e:Expr}{te:TE}{g:Operator}{ti:TIp}{f:Pos}(P:X.N.Nodup)(hi:X.N[i]?=some x)(j:Loc X.env.scope x)(M:PE X e te)(F:PIp X g ti)(L:X.fn x=true\/X.env.scope.names.lookup x=some .local:=by first|exact .inl U|exact .inr U|assumption) :
  PS X (.AugAssign (.Name x f) g e pos) (BB i te ti):=by
 intro pins s σ H D I h;obtain⟨v,Q,h⟩:=h;obtain⟨m,G,K⟩:=I.loc;have n:Vis X.env.scope x:=by rcases j with k|k;exact .inl k;exact .inr (.inl k)
 obtain⟨u,r,l⟩:=K i x v hi Q n;refine wpAny_AugAssign_Name ?_;have o:wpAny (model X.prog X.w) X.A (eval e X.env) (λw d=>wpAny (model X.prog X.w) X.A (inplaceOp g u w) (λr b=>wpAny (model X.prog X.w) X.A (storeName X.env x r) (λ_=>SP X pins D .next) X.xe b) X.xe d) X.xe s:=by
  refine thn (M pins s σ H _ I h) λw p ⟨y,W,T,t,C⟩=>?_
  refine thn (F pins p σ W v y u w _ T r t C) λz s2 ⟨Y,V,S,q,B⟩=>?_
  exact l9 S P hi j q (λZ R=>⟨_,V,R,B⟩) L
 rcases l with⟨a,J⟩|⟨a,c,O,E⟩
 .exact wpAny_loadName_local I.ok.kind a G J o
 .rcases a with a|a
  .exact wpAny_loadName_cell I.ok.kind a O E o
  .rcases j with k|k
   .have:X.env.scope.names.lookup x=some .free:=a;rw[k]at this;cases this
   .have:X.env.scope.names.lookup x=some .free:=a;rw[k]at this;cases this
def ipI(f:Int->Int->Int):TIp:=λx y H Q=>∃i j,x=.int i/\y=.int j/\Q (.int (f i j)) H
theorem vX:PIp X .Add (ipI λi j=>i+j):=by
 intro pins s σ H x y v u Q I b a h;obtain⟨i,j,d,c,q⟩:=h;subst d;subst c;obtain⟨t,rfl⟩:=b;obtain⟨e,rfl⟩:=a;exact iadd_int ⟨.int _,H,I.tok _,⟨_,U⟩,q⟩
def Ae(c:TT)(tb:TS):TS:=λD σ H=>∃W:Nat->St->Hp->Prop,(∃m,W m σ H)/\∀m σ H,W m σ H ->
 c σ H λb e=>if b=true then ∃N:St->Hp->Prop,(∀a H',N a H'->∃d,d<m/\W d a H')/\tb { D with nx:=N,ct:=N,bk:=D.nx } σ e else D.nx σ e
theorem vY{c:Expr}{body:List Stmt}{p:TT}{tb:TS}(q:PassesOwn (model X.prog X.w) X.A X.env X.xe)(F:PT X c p)(G:PSs X body tb):PS X (.While c body [] pos) (Ae p tb):=by
 intro pins s σ H D I h;obtain⟨W,⟨E,z⟩,turn⟩:=h;refine wpAny_While (codeAny_whileLoop (λn C=>∃g H',Inv X pins g H' C/\W n g H') ?_ E ⟨σ,H,I,z⟩);rintro n B ⟨d,x,J,y⟩;refine wpAny_passesOwn q (thn (F pins B d x _ J (turn n d x y)) λb s2 ⟨u,t,j⟩=>?_);cases b with
 |true =>
  obtain⟨N,r,j⟩:=j;rw[if_pos U];refine wpAny_passesOwn q (thn (G pins s2 d u _ t j) λf K i=>?_);cases f with
  |next =>
   obtain⟨a,e,o,k⟩:=i;obtain⟨l,m,w3⟩:=r a e k;exact⟨l,m,a,e,o,w3⟩
  |cont =>
   obtain⟨a,e,o,k⟩:=i;obtain⟨l,m,w3⟩:=r a e k;exact⟨l,m,a,e,o,w3⟩
  |brk=>exact i
  |ret v=>exact i
 |false =>
  rw[if_neg Bool.false_ne_true];exact wpAny_execs_nil ⟨d,u,t,j⟩
structure It where
 go:Nat->Hp->Prop
 yld:Nat->Hp->V->Hp->Prop
 stop:Nat->Hp->Prop
def kz(X:Cx)(pins:List (Addr×Obj))(H:Hp)(b:Addr):Prop :=
 H b=none/\b≠X.env.locals/\b ∉ X.fs/\(b∈X.ex\/X.s₀.heap.objs.size<=b)/\(∀x c,X.env.cells.lookup x=some c->c≠b)/\∀p∈X.pn++pins,p.1≠b
theorem Inv.fpOk{X:Cx}{pins:List (Addr×Obj)}{σ:St}{H H':Hp}{s:Shared}{b:Addr}(I:Inv X pins σ H s)(a:s.heap.objs.size<=b)(f:H' b=none):kz X pins H' b:=by
 refine⟨f,yg (xT I.lt a),I.nofs a,.inr (yc I.sz a),λx c e z=>?_,λp d z=>?_⟩
 .obtain⟨v,q⟩:=I.cell x c e;exact absurd (xT q.lt (by rw[z];exact a)) (yE _)
 .exact absurd (xT (Heap.lt_size (I.pin p d).1) (by rw[z];exact a)) (yE _)
structure Turn(P:Program)(w:World)(K:W.Frag)(tg:Expr)(J:It)(fp:List Addr)(it:Addr)(tn:Nat->Heap->Prop):Prop where
 mem:it∈fp
 obj:∀i h,tn i h->∀b∈fp,∃o,h.get? b=some o/\∀v,o.data≠.cell v
 keep:∀i h h',tn i h->(∀b∈fp,∀o,h.get? b=some o->h'.get? b=some o)->tn i h'
 item:∀(X:Cx),X.prog=P->X.w=w->X.K=K->X.calm=true->∀(i:Nat)(pins:List (Addr×Obj))(s:Shared)(σ:St)(H:Hp)(E:Value->Shared->Prop),Inv X pins σ H s->(∀b∈fp,kz X pins H b)->tn i s.heap->J.go i H ->
  wpAny (model P w) X.A (pyNext (.ref it)) (λr s1=>∃u,r=some u /\
   wpAny (model P w) X.A (letOwnedTupleGo tg (.ref it) u) (λ_ s2=>∃x H',Inv X pins σ H' s2/\RelV x u/\J.yld i H x H'/\tn (i+1) s2.heap/\∀b∈fp,H' b=none) E s1) E s
 done:∀(X:Cx),X.prog=P->X.w=w->X.K=K->X.calm=true->∀(i:Nat)(pins:List (Addr×Obj))(s:Shared)(σ:St)(H:Hp)(E:Value->Shared->Prop),Inv X pins σ H s->(∀b∈fp,kz X pins H b)->tn i s.heap->J.stop i H ->
  wpAny (model P w) X.A (pyNext (.ref it)) (λr s1=>r=none/\Inv X pins σ H s1) E s
 self:∀(A:Around)(i:Nat)(s:Shared)(Q:Value->Shared->Prop)(E:Value->Shared->Prop),tn i s.heap->Q (.ref it) s->wpAny (model P w) A (pyIter (.ref it)) Q E s
abbrev TI:=St->Hp->(It->Hp->Prop)->Prop
def PIE(X:Cx)(pins:List (Addr×Obj))(σ:St)(e:Expr)(R:It->Hp->Prop)(a:Value)(s2:Shared):Prop :=
 ∃(it:Addr)(d:List Addr)(c:Nat->Heap->Prop)(J:It)(H':Hp),a=.ref it/\Inv X pins σ H' s2/\Turn X.prog X.w X.K e J d it c/\c 0 s2.heap/\(∀b∈d,kz X pins H' b)/\R J H'
def PI(X:Cx)(c a:Expr)(b:TI):Prop :=
 ∀(pins:List (Addr×Obj))(s:Shared)(σ:St)(H:Hp)(R:It->Hp->Prop),Inv X pins σ H s->b σ H R ->
  wpAny (model X.prog X.w) X.A (eval a X.env) (λv d=>wpAny (model X.prog X.w) X.A (pyIter v) (PIE X pins σ c R) X.xe d) X.xe s
theorem qw{M:Model}{A:Around}{E:Value->Shared->Prop}{s:Shared}{b:Expr}{it:Addr}{u:Value}{o:Obj}{n:String}{vs:Array Value}{Q:Unit->Shared->Prop}(c:s.heap.get? it=some o)(f:o.cls=.type n)(e:o.data=.fields vs)
  (d:["enumerate","zip","dict_itemiterator","dict_reverseitemiterator","odict_iterator","itertools.zip_longest","itertools.pairwise"].contains n=false) (a:Q () s):wpAny M A (letOwnedTupleGo b (.ref it) u) Q E s:=by
 unfold letOwnedTupleGo
 cases b <;> first
  |exact C0 a
  |(cases u <;> first
    |exact C0 a
    |(refine BY (wpAny_load c ?_);rw[f,e];show wpAny M A (if (["enumerate","zip","dict_itemiterator","dict_reverseitemiterator","odict_iterator","itertools.zip_longest","itertools.pairwise"].contains n && vs[0]? == some (rawInt _))=true then _ else _) Q E s;rw[if_neg (by intro h;rw[d,Bool.false_and]at h;cases h)];exact C0 a))
def Itl(K:W.Frag)(a:Addr):It :=
 ⟨λi H=>∃b x,SqL K H a b/\b[i]?=some x,λi H x H'=>H'=H/\∀b,SqL K H a b->b[i]?=some x,λi H=>∃b,SqL K H a b/\b.length<=i⟩
def Itt(K:W.Frag)(a:Addr):It :=
 ⟨λi H=>∃b x,SqT K H a b/\b[i]?=some x,λi H x H'=>H'=H/\∀b,SqT K H a b->b[i]?=some x,λi H=>∃b,SqT K H a b/\b.length<=i⟩
def Itr(lo:Int)(n:Nat):It:=⟨λi _=>i<n,λi H x H'=>H'=H/\x=.int (lo+i),λi _=>n<=i⟩
theorem uH{P:Program}{w:World}{K:W.Frag}{N:Expr}(a it:Addr):Turn P w K N (Itl K a) [it] it (λi h=>h.IsListIter it a i) where
 mem:=by simp
 obj:=λi h f b g=>by
  have e:b=it:=by simpa using g
  subst e;obtain⟨o,e,c,d⟩:=f;exact⟨o,e,λv z=>by rw[d]at z;cases z⟩
 keep:=λi h h' f k=>f.at λo e=>k it (by simp) o e
 item:=by
  intro X y r A L i pins s σ H E I m f t;subst y r A;obtain⟨M,x,l,q⟩:=t;obtain⟨J,n,p,R⟩:=I.list l;obtain⟨u,T,Q⟩:=n.get q;obtain⟨G,F,V,D,C,B⟩:=m it (by simp);refine wpAny_pyNext_list_item f p.isList (x:=u) (by simpa using T) λh' j O=>?_
  have Z:Inv X pins σ H { s with heap:=h' }:=I.turned (t':=s.toks) (λb o g e=>(O.2 b g).trans e) G F D C B;obtain⟨o,e,c,d⟩:=id j;exact⟨u,U,qw (s:={ s with heap:=h' }) e c d (by decide) ⟨x,H,Z,Q,⟨U,λys S=>by rw[I.list_inj S l];exact q⟩,j,λb g=>(m b g).1⟩⟩
 done:=by
  intro X y r A L i pins s σ H E I m f t;subst y r A;obtain⟨M,l,q⟩:=t;obtain⟨J,n,p,R⟩:=I.list l;obtain⟨G,F,V,D,C,B⟩:=m it (by simp);have hl:=n.length;exact wpAny_pyNext_list_end (I.ok.hd L) f p.isList (by simp;lia) λh' Y=>⟨U,I.turned (t':=s.toks) (λb o g e=>Y b o g e) G F D C B⟩
 self:=λ_ _ _ _ _ f h=>wpAny_pyIter_listiter f h
theorem rX{P:Program}{w:World}{K:W.Frag}{N:Expr}(a it:Addr):Turn P w K N (Itt K a) [it] it (λi h=>h.IsTupleIter it a i) where
 mem:=by simp
 obj:=λi h f b g=>by
  have e:b=it:=by simpa using g
  subst e;obtain⟨o,e,c,d⟩:=f;exact⟨o,e,λv z=>by rw[d]at z;cases z⟩
 keep:=λi h h' f k=>f.at λo e=>k it (by simp) o e
 item:=by
  intro X A t B L i pins s σ H E I n f y;subst A t B;obtain⟨M,x,m,r⟩:=y;obtain⟨j,q,p,R⟩:=I.tuple m;obtain⟨u,T,Q⟩:=q.get r;obtain⟨J,G,V,F,D,C⟩:=n it (by simp);refine wpAny_pyNext_tuple_item f (show s.heap.IsTuple a j.toArray from p) (x:=u) (by simpa using T) λh' l O=>?_
  have Z:Inv X pins σ H { s with heap:=h' }:=I.turned (t':=s.toks) (λb o g e=>(O.2 b g).trans e) J G F D C;obtain⟨o,e,c,d⟩:=id l;exact⟨u,U,qw (s:={ s with heap:=h' }) e c d (by decide) ⟨x,H,Z,Q,⟨U,λys S=>by rw[I.tuple_inj S m];exact r⟩,l,λb g=>(n b g).1⟩⟩
 done:=by
  intro X A t B L i pins s σ H E I n f y;subst A t B;obtain⟨M,m,r⟩:=y;obtain⟨j,q,p,R⟩:=I.tuple m;obtain⟨J,G,V,F,D,C⟩:=n it (by simp);have hl:=q.length;exact wpAny_pyNext_tuple_end (I.ok.hd L) f (show s.heap.IsTuple a j.toArray from p) (by simp;lia) λh' Y=>⟨U,I.turned (t':=s.toks) (λb o g e=>Y b o g e) J G F D C⟩
 self:=λ_ _ _ _ _ f h=>wpAny_pyIter_tupleiter f h
theorem rY{P:Program}{w:World}{K:W.Frag}{C:Expr}(it:Addr)(lo:Int)(n:Nat):Turn P w K C (Itr lo n) [it] it (λi h=>IsRangeIter h it (lo+(i:Nat)*1) ((n:Int)-(i:Nat)) 1) where
 mem:=by simp
 obj:=λi h a b c=>by
  have e:b=it:=by simpa using c
  subst e;exact⟨_,a,λv z=>by
   have B:Data.fields _=Data.cell v:=z;cases B⟩
 keep:=λi h h' a k=>k it (by simp) _ a
 item:=by
  intro X m g p l i pins s σ H E I f a j;subst m g p;obtain⟨y,x,G,u,r,q⟩:=f it (by simp);have W:=Walks.range (prog:=X.prog) (w:=X.w) (I.ok.hd l) it lo 1 n;refine W.item i s _ _ j a λv h' A F d D=>?_
  obtain⟨t,rfl⟩:=F;have L:Inv X pins σ H { s with heap:=h',toks:=A }:=I.turned (λb o c e=>D b o (by simpa using c) e) y x u r q;refine⟨_,U,qw (s:={ s with heap:=h',toks:=A }) (n := "range_iterator") d U U (by decide) ⟨.int (lo+i),H,L,⟨t,?_⟩,⟨U,U⟩,d,λb c=>(f b c).1⟩⟩;rw[Int.mul_one]
 done:=by
  intro X m g p l i pins s σ H E I f a j;subst m g p;obtain⟨y,x,G,u,r,q⟩:=f it (by simp);exact wpAny_pyNext_range_end (I.ok.hd l) a (by have:n<=i:=j;lia) λh' J=>⟨U,I.turned (t':=s.toks) (λb o c e=>J b o c e) y x u r q⟩
 self:=λ_ _ _ _ _ a h=>wpAny_pyIter_rangeiter a h
section
variable{tg:Expr}
inductive vZ(K:W.Frag)(R:It->Hp->Prop)(x:V)(H1:Hp):Prop
 |mk (a:_)(_:x=.ref a)(_:(∃xs,SqL K H1 a xs))(_:R (Itl K a) H1)
def BC(K:W.Frag)(a:TE):TI:=λσ H R=>a σ H λx b=>vZ K R x b
inductive zx(K:W.Frag)(R:It->Hp->Prop)(x:V)(H1:Hp):Prop
 |mk (a:_)(_:x=.ref a)(_:(∃xs,SqT K H1 a xs))(_:R (Itt K a) H1)
def Dd(K:W.Frag)(a:TE):TI:=λσ H R=>a σ H λx b=>zx K R x b
theorem aW{l:Expr}{f:TE}(k:PE X l f):PI X tg l (BC X.K f):=by
 intro pins s σ H R I h;refine thn (k pins s σ H _ I h) λv c ⟨x,n,d,g,i⟩=>?_
 obtain⟨a,e,⟨t,j⟩,q⟩:=i;subst e;cases g;obtain⟨r,u,p,w⟩:=d.list j;refine wpAny_pyIter_list p.isList ?_;refine⟨c.heap.objs.size,[c.heap.objs.size],_,_,n,U,d.kept (t':=c.toks) λb o e=>Heap.get?_push_of_some _ e,uH a _,⟨_,Heap.get?_push_size _ U,U,U⟩,λb m=>?_,q⟩;have e:b=c.heap.objs.size:=by simpa using m
 subst e;exact d.fpOk (w5 _) (d.hok.fresh (w5 _))
theorem rZ{l:Expr}{g:TE}(m:PE X l g):PI X tg l (Dd X.K g):=by
 intro pins s σ H R I h;refine thn (m pins s σ H _ I h) λv c ⟨x,r,d,i,j⟩=>?_
 obtain⟨a,e,⟨t,k⟩,q⟩:=j;subst e;cases i;obtain⟨f,u,p,w⟩:=d.tuple k;refine wpAny_pyIter_tuple (show c.heap.IsTuple a f.toArray from p) ?_;refine⟨c.heap.objs.size,[c.heap.objs.size],_,_,r,U,d.kept (t':=c.toks) λb o e=>Heap.get?_push_of_some _ e,rX a _,⟨_,Heap.get?_push_size _ U,U,U⟩,λb n=>?_,q⟩;have e:b=c.heap.objs.size:=by simpa using n
 subst e;exact d.fpOk (w5 _) (d.hok.fresh (w5 _))
theorem qy{pins:List (Addr×Obj)}{σ:St}{H:Hp}{s:Shared}{R:It->Hp->Prop}{E:Value->Shared->Prop}{lo hi:Int}{t u v:Tok}{a:Nat}(I:Inv X pins σ H s)(i : -(2^62)<=lo)(h:lo<2^62)(g : -(2^62)<=hi)(f:hi<2^62)
  (q:R (Itr lo (hi-lo).toNat) H):wpAny (model X.prog X.w) X.A (pyIter (.ref s.heap.objs.size)) (PIE X pins σ tg R) E { s with heap:=s.heap.push { cls:=.type "range",data:=.fields #[.int lo t,.int hi u,.int 1 v] },toks:=a }:=by
 refine wpAny_pyIter_range (IsRange.new ..) (small_one i h g f) ?_;have c:Inv X pins σ H { s with heap:=s.heap.push { cls:=.type "range",data:=.fields #[.int lo t,.int hi u,.int 1 v] },toks:=a }:=I.kept λb o e=>Heap.get?_push_of_some _ e
 refine⟨(s.heap.push { cls:=.type "range",data:=.fields #[.int lo t,.int hi u,.int 1 v] }).objs.size,[(s.heap.push { cls:=.type "range",data:=.fields #[.int lo t,.int hi u,.int 1 v] }).objs.size],_,_,H,U,
  c.kept (t':=a) λb o e=>Heap.get?_push_of_some _ e,rY _ lo (hi-lo).toNat,?_,λb d=>?_,q⟩
 .have k:lo+((0:Nat):Int)*1=lo:=by simp
  have j:(((hi-lo).toNat:Nat):Int)-((0:Nat):Int)=Builtin.Range.rangeSize lo hi 1:=by rw[rangeSize_one];split <;> lia
  show IsRangeIter _ _ (lo+((0:Nat):Int)*1) ((((hi-lo).toNat:Nat):Int)-((0:Nat):Int)) 1;rw[k,j];exact Heap.get?_push_size _ U
 .have e:b=(s.heap.push { cls:=.type "range",data:=.fields #[.int lo t,.int hi u,.int 1 v] }).objs.size:=by simpa using d
  subst e;exact c.fpOk (w5 _) (c.hok.fresh (w5 _))
inductive v7  (R:It->Hp->Prop)(vs:List V)(H1:Hp):Prop
 |mk (j:Int)(_:vs=[.int j])(_ : -(2^62)<=j)(_:j<2^62)(_:R (Itr 0 j.toNat) H1):v7 R vs H1
def BD(ta:TA):TI:=λσ H R=>ta σ H λa b=>v7 R a b
inductive v9  (R:It->Hp->Prop)(vs:List V)(H1:Hp):Prop
 |mk (i j:Int)(_:vs=[.int i,.int j])(_:(-(2^62)<=i/\i<2^62/\-(2^62)<=j/\j<2^62))(_:R (Itr i (j-i).toNat) H1):v9 R vs H1
def BE(ta:TA):TI:=λσ H R=>ta σ H λa b=>v9 R a b
theorem aZ{a:Expr}{ta:TA}{p pos:Pos}(i:Gl X "range") (hm:X.mg "range" = none) (k:PA X [a] ta)(g:starEach [a] X.env=[(false,eval a X.env)]:=by rfl):PI X tg (.Call (.Name "range" p) [a] [] pos) (BD ta):=by
 intro pins s σ H R I h;refine Call_ (eN I i hm boot_range (PyProof.Rows.callWith_type1 (thn (k pos pins s σ H _ I h) λn o ⟨m,u,l,d,b⟩=>?_) g U));obtain⟨j,e,b,f,q⟩:=b;subst e;cases d with
 |cons r c =>
  cases c;obtain⟨t,rfl⟩:=r;exact call_range_1 (qy l (by lia) (by lia) b f (by simpa using q))
theorem uI{a b:Expr}{ta:TA}{p pos:Pos}(u:Gl X "range") (hm:X.mg "range" = none) (v:PA X [a,b] ta)(o:starEach [a,b] X.env=[(false,eval a X.env),(false,eval b X.env)]:=by rfl)(c:starEach [b] X.env=[(false,eval b X.env)]:=by rfl) :
  PI X tg (.Call (.Name "range" p) [a,b] [] pos) (BE ta):=by
 intro pins s σ H R I h;refine Call_ (eN I u hm boot_range (PyProof.Rows.callWith_type1 (thn (v pos pins s σ H _ I h) λy A ⟨x,B,w,g,f⟩=>?_) (by rw[o,c]) (by rw[c];rfl)));obtain⟨i,j,e,⟨f,n,m,l⟩,q⟩:=f;subst e;cases g with
 |cons r d =>
  cases d with
  |cons k d =>
   cases d;obtain⟨t,rfl⟩:=r;obtain⟨z,rfl⟩:=k;exact call_range_2 (qy w f n m l q)
def De(d:TI)(g:TG)(tb:TS):TS:=λD σ H=>d σ H λJ f=>∃W:Nat->Nat->St->Hp->Prop,(∃m,W 0 m σ f)/\∀i m σ H,W i m σ H ->
 (J.stop i H/\D.nx σ H)\/(J.go i H/\∃N:St->Hp->Prop,(∀a H',N a H'->∃c,c<m/\W (i+1) c a H')/\∀x H',J.yld i H x H'->g x σ H' λb e=>tb { D with nx:=N,ct:=N,bk:=D.nx } b e)
def kA(a:List Addr)(h:Heap):List (Addr×Obj):=a.filterMap λb=>(h.get? b).map λo=>(b,o)
theorem dI{a:List Addr}{h:Heap}{b:Addr}{o:Obj}(c:b∈a)(e:h.get? b=some o):(b,o)∈kA a h:=List.mem_filterMap.mpr ⟨b,c,by rw[e];rfl⟩
theorem uJ{a:List Addr}{h:Heap}{p:Addr×Obj}(c:p∈kA a h):p.1∈a/\h.get? p.1=some p.2:=by
 obtain⟨b,d,e⟩:=List.mem_filterMap.mp c;cases q:h.get? b with
 |none=>rw[q]at e;cases e
 |some o =>
  rw[q]at e;have f:(b,o)=p:=Option.some.inj e;subst f;exact⟨d,q⟩
theorem Inv.pinned{pins:List (Addr×Obj)}{σ:St}{H:Hp}{s:Shared}{a:List Addr}(I:Inv X pins σ H s)(i:∀b∈a,kz X pins H b)(h:∀b∈a,∃o,s.heap.get? b=some o/\∀v,o.data≠.cell v):Inv X (pins++kA a s.heap) σ H s :=
 I.pins_of λp g=>(gg.mp g).elim (λz=>I.pin p (iR _ z)) λz=>by
  obtain⟨c,e⟩:=uJ z;obtain⟨l,k,j,_⟩:=i p.1 c;obtain⟨o,f,d⟩:=h p.1 c;rw[e]at f;cases f;exact⟨e,l,k,j,d⟩
theorem Inv.unpinned{pins pl:List (Addr×Obj)}{σ:St}{H:Hp}{s:Shared}(I:Inv X (pins++pl) σ H s):Inv X pins σ H s:=I.pins_of λp a=>I.pin p (iR _ (jD _ a))
theorem bp{q:Expr}{body:List Stmt}{V:TI}{g:TG}{tb:TS}{pos:Pos}(B:PassesOwn (model X.prog X.w) X.A X.env X.xe)(hc:X.calm=true)(hi:PI X tg q V)(hg:PG X tg g)(c:PSs X body tb)
  (hs:∀x,foldedSetIterable q X.env x=pure x:=by intro _;rfl):PS X (.For tg q body [] pos) (De V g tb):=by
 intro pins s σ H D I h;refine wpAny_For (thn (hi pins s σ H _ I h) λv s1 h1=>thn h1 λa0 s2 h2=>?_) hs;obtain⟨it,C,Y,J,H2,e,I2,T,Q,f2,W,⟨m0,w0⟩,turn⟩:=h2;subst e;have O:∀{H':Hp},(∀b∈C,H' b=none)->∀b∈C,kz X pins H' b:=λhn b c=>⟨hn b c,(f2 b c).2⟩
 refine codeAny_forLoop_any (λn s'=>∃i p H',Inv X pins p H' s'/\Y i s'.heap/\(∀b∈C,H' b=none)/\W i n p H') ?_ m0 ⟨0,σ,H2,I2,Q,λb c=>(f2 b c).1,w0⟩;rintro n s3 ⟨i,l,K,I3,E,F,w3⟩;rcases turn i n l K w3 with⟨G,qn⟩|⟨go,N,hN,step⟩
 .refine wpAny_passesOwn B (thn (T.done X U U U hc i pins s3 l K X.xe I3 (O F) E G) λr s4 ⟨M,I4⟩=>?_);subst M;exact wpAny_execs_nil ⟨l,K,I4,qn⟩
 .refine wpAny_passesOwn B (thn (T.item X U U U hc i pins s3 l K X.xe I3 (O F) E go) λr s4 ⟨u,M,h4⟩=>?_);subst M;refine wpAny_passesOwn B (thn h4 λ_ Z ⟨x,H5,I5,r5,y5,y,R⟩=>?_);have S:=I5.pinned (O R) (T.obj _ _ y);refine wpAny_passesOwn B (thn (hg _ Z l H5 x u _ S r5 (step x H5 y5)) λ_ s6 ⟨P,H6,I6,q6⟩=>?_);refine wpAny_passesOwn B (thn (c _ s6 P H6 _ I6 q6) λf L t=>?_);have again:∀{a:St}{k:Hp},Inv X (pins++kA C Z.heap) a k L->N a k->∃m,m<n/\∃i p H',Inv X pins p H' L/\Y i L.heap/\(∀b∈C,H' b=none)/\W i m p H':=λ{a k} j z=>by
   obtain⟨m',hm,w7⟩:=hN a k z;refine⟨m',hm,i+1,a,k,j.unpinned,T.keep _ _ _ y λb c o e=>(j.pin (b,o) (iR _ (iR _ (dI c e)))).1,λb c=>?_,w7⟩;obtain⟨o,e,d⟩:=T.obj _ _ y b c;exact(j.pin (b,o) (iR _ (iR _ (dI c e)))).2.1
  cases f with
  |next=>obtain⟨a,k,j,z⟩:=t;exact again j z
  |cont=>obtain⟨a,k,j,z⟩:=t;exact again j z
  |brk=>obtain⟨a,k,j,t⟩:=t;exact⟨a,k,j.unpinned,t⟩
  |ret v=>obtain⟨x7,a,k,j,r7,t⟩:=t;exact⟨x7,a,k,j.unpinned,r7,t⟩
end
theorem bF{K:W.Frag}{a:Addr}{xs:List V}{g:TG}{tb:TS}{D:Ends}{σ:St}{H:Hp}(b:Nat->St->Hp->Prop)(r:b 0 σ H)(n:∀i σ H,i<=xs.length->b i σ H->SqL K H a xs)
  (l:∀i x σ H,xs[i]?=some x->b i σ H->g x σ H λc h=>tb { D with nx:=b (i+1),ct:=b (i+1),bk:=D.nx } c h)(o:∀σ H,b xs.length σ H->D.nx σ H) :
  ∃W:Nat->Nat->St->Hp->Prop,(∃m,W 0 m σ H)/\∀i m σ H,W i m σ H ->
   ((Itl K a).stop i H/\D.nx σ H)\/((Itl K a).go i H/\∃N:St->Hp->Prop,(∀d H',N d H'->∃j,j<m/\W (i+1) j d H')/\∀x H',(Itl K a).yld i H x H'->g x σ H' λc h=>tb { D with nx:=N,ct:=N,bk:=D.nx } c h):=by
 refine⟨λi m σ H=>m=xs.length-i/\i<=xs.length/\b i σ H,⟨xs.length,by simp,yh _,r⟩,?_⟩;rintro i m σ H ⟨rfl,hi,p⟩;have q:=n i σ H hi p;by_cases f:i<xs.length
 .refine .inr ⟨⟨xs,xs[i],q,by simp[f]⟩,b (i+1),λd H' k=>⟨xs.length-(i+1),by lia,U,f,k⟩,λx H' y=>?_⟩;obtain⟨e,y⟩:=y;subst e;exact l i x σ _ (y xs q) p
 .have e:i=xs.length:=by lia
  subst e;exact .inl ⟨⟨xs,q,w5 _⟩,o σ H p⟩
theorem yq{K:W.Frag}{a:Addr}{xs:List V}{g:TG}{tb:TS}{D:Ends}{σ:St}{H:Hp}(b:Nat->St->Hp->Prop)(r:b 0 σ H)(n:∀i σ H,i<=xs.length->b i σ H->SqT K H a xs)
  (l:∀i x σ H,xs[i]?=some x->b i σ H->g x σ H λc h=>tb { D with nx:=b (i+1),ct:=b (i+1),bk:=D.nx } c h)(o:∀σ H,b xs.length σ H->D.nx σ H) :
  ∃W:Nat->Nat->St->Hp->Prop,(∃m,W 0 m σ H)/\∀i m σ H,W i m σ H ->
   ((Itt K a).stop i H/\D.nx σ H)\/((Itt K a).go i H/\∃N:St->Hp->Prop,(∀d H',N d H'->∃j,j<m/\W (i+1) j d H')/\∀x H',(Itt K a).yld i H x H'->g x σ H' λc h=>tb { D with nx:=N,ct:=N,bk:=D.nx } c h):=by
 refine⟨λi m σ H=>m=xs.length-i/\i<=xs.length/\b i σ H,⟨xs.length,by simp,yh _,r⟩,?_⟩;rintro i m σ H ⟨rfl,hi,p⟩;have q:=n i σ H hi p;by_cases f:i<xs.length
 .refine .inr ⟨⟨xs,xs[i],q,by simp[f]⟩,b (i+1),λd H' k=>⟨xs.length-(i+1),by lia,U,f,k⟩,λx H' y=>?_⟩;obtain⟨e,y⟩:=y;subst e;exact l i x σ _ (y xs q) p
 .have e:i=xs.length:=by lia
  subst e;exact .inl ⟨⟨xs,q,w5 _⟩,o σ H p⟩
theorem cM{lo:Int}{n:Nat}{g:TG}{tb:TS}{D:Ends}{σ:St}{H:Hp}(a:Nat->St->Hp->Prop)(o:a 0 σ H)
  (k:∀i σ H,i<n->a i σ H->g (.int (lo+i)) σ H λb f=>tb { D with nx:=a (i+1),ct:=a (i+1),bk:=D.nx } b f)(l:∀σ H,a n σ H->D.nx σ H) :
  ∃W:Nat->Nat->St->Hp->Prop,(∃m,W 0 m σ H)/\∀i m σ H,W i m σ H ->
   ((Itr lo n).stop i H/\D.nx σ H)\/((Itr lo n).go i H/\∃N:St->Hp->Prop,(∀c H',N c H'->∃h,h<m/\W (i+1) h c H')/\∀x H',(Itr lo n).yld i H x H'->g x σ H' λb f=>tb { D with nx:=N,ct:=N,bk:=D.nx } b f):=by
 refine⟨λi m σ H=>m=n-i/\i<=n/\a i σ H,⟨n,by simp,yh _,o⟩,?_⟩;rintro i m σ H ⟨rfl,hi,p⟩;by_cases d:i<n
 .refine .inr ⟨d,a (i+1),λc H' j=>⟨n-(i+1),by lia,U,d,j⟩,λx H' y=>?_⟩;obtain⟨e,y⟩:=y;subst e y;exact k i σ _ d p
 .have e:i=n:=by lia
  subst e;exact .inl ⟨w5 _,l σ H p⟩
abbrev R2:=V->V->Hp->VK->Prop
def OpR(X:Cx)(f:Value->Value->Sem Value)(r:R2):Prop :=
 ∀(pins:List (Addr×Obj))(s:Shared)(σ:St)(H:Hp)(x y:V)(v u:Value)(Q:VK),Inv X pins σ H s->RelV x v->RelV y u->r x y H Q ->
  wpAny (model X.prog X.w) X.A (f v u) (EP X pins σ Q) X.xe s
def UnR(X:Cx)(f:Value->Sem Value)(r:V->Hp->VK->Prop):Prop :=
 ∀(pins:List (Addr×Obj))(s:Shared)(σ:St)(H:Hp)(x:V)(v:Value)(Q:VK),Inv X pins σ H s->RelV x v->r x H Q ->
  wpAny (model X.prog X.w) X.A (f v) (EP X pins σ Q) X.xe s
def dr(X:Cx)(f:Value)(r:List V->Hp->VK->Prop):Prop :=
 ∀(pins:List (Addr×Obj))(s:Shared)(σ:St)(H:Hp)(a:List V)(b:List Value)(Q:VK),Inv X pins σ H s->Vals a b->r a H Q ->
  wpAny (model X.prog X.w) X.A (call f b) (EP X pins σ Q) X.xe s
def Df(X:Cx)(r:V->Hp->(Bool->Hp->Prop)->Prop):Prop :=
 ∀(pins:List (Addr×Obj))(s:Shared)(σ:St)(H:Hp)(x:V)(v:Value)(Q:Bool->Hp->Prop),Inv X pins σ H s->RelV x v->r x H Q ->
  wpAny (model X.prog X.w) X.A (truthy v) (TP X pins σ Q) X.xe s
def tOp(r:R2)(ta tb:TE):TE:=λσ H Q=>ta σ H λx b=>tb σ b λy a=>r x y a Q
def tUn(r:V->Hp->VK->Prop)(ta:TE):TE:=λσ H Q=>ta σ H λx a=>r x a Q
inductive rI(C:Int->Int->Prop)(g:Int->Int->V)(x:V)(y:V)(H:Hp)(Q:VK):Prop
 |mk (i j:_)(_:x=.int i)(_:y=.int j)(_:C i j)(_:Q (g i j) H)
inductive rI0(g:Int->Int->V)(x:V)(y:V)(H:Hp)(Q:VK):Prop
 |mk (i j:_)(_:x=.int i)(_:y=.int j)(_:Q (g i j) H)
inductive rU(g:Int->V)(x:V)(H:Hp)(Q:VK):Prop
 |mk (i:_)(_:x=.int i)(_:Q (g i) H)
section
variable{a b c:Expr}{tc:TE}
theorem Ag(o:PE X a ta)(n:PE X b tb){pins:List (Addr×Obj)}{s:Shared}{σ:St}{H:Hp}{R:V->V->Hp->Prop}(I:Inv X pins σ H s)
  (h:ta σ H λx g=>tb σ g λy c=>R x y c){Q:Value->Shared->Prop}{f:Value->Value->Sem Value}
  (hf:∀v u s2 x y c,Inv X pins σ c s2->RelV x v->RelV y u->R x y c->wpAny (model X.prog X.w) X.A (f v u) Q X.xe s2) :
  wpAny (model X.prog X.w) X.A (eval a X.env) (λv e=>wpAny (model X.prog X.w) X.A (eval b X.env) (λu d=>wpAny (model X.prog X.w) X.A (f v u) Q X.xe d) X.xe e) X.xe s:=by
 refine thn (o pins s σ H _ I h) λv i ⟨x,g,q,k,m⟩=>?_
 refine thn (n pins i σ g _ q m) λu s2 ⟨y,c,p,j,l⟩=>?_
 exact hf v u s2 x y c p k j l
theorem ar{c:Operator}{r:R2}(f:OpR X (binaryOp c) r)(i:PE X a ta)(g:PE X b tb):PE X (.BinOp a c b pos) (tOp r ta tb):=by
 intro pins s σ H Q I h;exact wpAny_BinOp (Ag i g I h λv u s2 x y k j e d q=>f pins s2 σ k x y v u Q j e d q)
theorem lr{b:UnaryOp}{r:V->Hp->VK->Prop}(f:UnR X (unaryOp b) r)(g:PE X a ta):PE X (.UnaryOp b a pos) (tUn r ta):=by
 intro pins s σ H Q I h;exact UnaryOp_ (thn (g pins s σ H _ I h) λv c ⟨x,j,i,d,e⟩=>f pins c σ j x v Q i d e)
theorem opI{f:Value->Value->Sem Value}{C:Int->Int->Prop}{g:Int->Int->Int}
  (rule:∀(i j:Int)(t u:Tok)(s:Shared)(Q:Value->Shared->Prop)(E:Value->Shared->Prop),C i j->Q (.int (g i j) s.toks) { s with toks:=s.toks+1 }->wpAny (model X.prog X.w) X.A (f (.int i t) (.int j u)) Q E s) :
  OpR X f (rI C λi j=>.int (g i j)):=by
 intro pins s σ H x y v u Q I c b h;obtain⟨i,j,rfl,rfl,d,q⟩:=h;obtain⟨t,rfl⟩:=c;obtain⟨a,rfl⟩:=b;exact rule i j t a s _ _ d ⟨.int (g i j),H,I.tok _,⟨_,U⟩,q⟩
theorem yr{f:Value->Value->Sem Value}{g:Int->Int->Int}
  (rule:∀(i j:Int)(t u:Tok)(s:Shared)(Q:Value->Shared->Prop)(E:Value->Shared->Prop),Q (.int (g i j) s.toks) { s with toks:=s.toks+1 }->wpAny (model X.prog X.w) X.A (f (.int i t) (.int j u)) Q E s) :
  OpR X f (rI0 λi j=>.int (g i j)):=by
 intro pins s σ H x y v u Q I c b h;obtain⟨i,j,rfl,rfl,q⟩:=h;obtain⟨t,rfl⟩:=c;obtain⟨a,rfl⟩:=b;exact rule i j t a s _ _ ⟨.int (g i j),H,I.tok _,⟨_,U⟩,q⟩
theorem Ah{f:Value->Value->Sem Value}{g:Int->Int->Bool}
  (rule:∀(i j:Int)(t u:Tok)(s:Shared)(Q:Value->Shared->Prop)(E:Value->Shared->Prop),Q (.bool (g i j)) s->wpAny (model X.prog X.w) X.A (f (.int i t) (.int j u)) Q E s) :
  OpR X f (rI0 λi j=>.bl (g i j)):=by
 intro pins s σ H x y v u Q I c b h;obtain⟨i,j,rfl,rfl,q⟩:=h;obtain⟨t,rfl⟩:=c;obtain⟨a,rfl⟩:=b;exact rule i j t a s _ _ ⟨.bl (g i j),H,I,U,q⟩
def Dg(i j:Int):Prop:=0<j/\j<1073741824
def BG(i j:Int):Prop:=0<=j/\j<=1000000/\i.natAbs<2^64
def yt(i j:Int):Prop:=(-(2^64)<i/\i<2^64)\/(-(2^64)<j/\j<2^64)
theorem yt.ok{i j:Int}(h:yt i j):IntMulOk i j:=by
 rcases h with⟨b,a⟩|⟨b,a⟩
 .exact .of_left (intBits_le_64 b a)
 .exact .of_right (intBits_le_64 b a)
theorem sd(k:Nat):(0:Int)<=2^k:=by
 rw[two_pow_cast];exact Int.natCast_nonneg _
theorem bL:OpR X (binaryOp .Add) (rI0 λi j=>.int (i+j)):=yr λ_ _ _ _ _ _ _ q=>add_int q
theorem cz:OpR X (binaryOp .Sub) (rI0 λi j=>.int (i-j)):=yr λ_ _ _ _ _ _ _ q=>sub_int q
theorem fw:OpR X (binaryOp .Mult) (rI yt λi j=>.int (i*j)):=opI λ_ _ _ _ _ _ _ a q=>mul_int q a.ok
theorem bI:OpR X (binaryOp .FloorDiv) (rI Dg λi j=>.int (i / j)):=opI λi j _ _ _ _ _ a q=>by
 have c:(0:Int)<j:=a.1;have b:j<1073741824:=a.2;exact floordiv_int (by lia) (by rw[Int.fdiv_eq_ediv_of_nonneg i (by lia)];exact q) (.inl (PyProof.noPylong_small (by lia)))
theorem aO:OpR X (binaryOp .Mod) (rI (λ_ j=>0<j) λi j=>.int (i%j)):=opI λi j _ _ _ _ _ a q=>by
 have b:(0:Int)<j:=a;exact mod_int' (by lia) (by rw[Int.fmod_eq_emod_of_nonneg i (by lia)];exact q)
theorem gO:OpR X (binaryOp .Pow) (rI BG λi j=>.int (i^j.toNat)):=opI λ_ _ _ _ _ _ _ a q=>pow_int_small a.1 a.2.1 a.2.2 q
theorem pE:OpR X (binaryOp .LShift) (rI BG λi j=>.int (i*2^j.toNat)):=opI λ_ _ _ _ _ _ _ a q=>lshift_int_small a.1 a.2.1 a.2.2 q
theorem se:OpR X (binaryOp .RShift) (rI (λ_ j=>0<=j) λi j=>.int (i / 2^j.toNat)):=opI λi j _ _ _ _ _ a q =>
 rshift_int a (by rw[Int.fdiv_eq_ediv_of_nonneg i (sd _)];exact q)
theorem sf:OpR X (binaryOp .BitAnd) (rI0 λi j=>.int (Builtin.bitAnd i j)):=yr λ_ _ _ _ _ _ _ q=>and_int q
theorem Ai:OpR X (binaryOp .BitXor) (rI0 λi j=>.int (Builtin.bitXor i j)):=yr λ_ _ _ _ _ _ _ q=>xor_int q
theorem unI{f:Value->Sem Value}{g:Int->Int}
  (rule:∀(i:Int)(t:Tok)(s:Shared)(Q:Value->Shared->Prop)(E:Value->Shared->Prop),Q (.int (g i) s.toks) { s with toks:=s.toks+1 }->wpAny (model X.prog X.w) X.A (f (.int i t)) Q E s) :
  UnR X f (rU λi=>.int (g i)):=by
 intro pins s σ H x v Q I a h;obtain⟨i,rfl,q⟩:=h;obtain⟨t,rfl⟩:=a;exact rule i t s _ _ ⟨.int (g i),H,I.tok _,⟨_,U⟩,q⟩
theorem gP:UnR X (unaryOp .USub) (rU λi=>.int (-i)):=unI λ_ _ _ _ _ q=>neg_int q
end
def BH:V->V->Bool
 | .non,.non=>true | .non,.int _=>true | .int _,.non=>true | .non,.bl _=>true | .bl _,.non=>true | .non,.str _=>true | .str _,.non=>true
 | .int _,.int _=>true | .bl _,.bl _=>true | .str _,.str _=>true | .byt _,.byt _=>true
 | .int _,.str _=>true | .str _,.int _=>true | .bl _,.str _=>true | .str _,.bl _=>true
 |_,_=>false
def rEq:R2:=λx y H Q=>BH x y=true/\Q (.bl (decide (x=y))) H
def rNe:R2:=λx y H Q=>BH x y=true/\Q (.bl (!decide (x=y))) H
theorem ud{i j:Int}:decide (V.int i=V.int j)=(i == j):=by
 rw[Bool.eq_iff_iff];simp
theorem wa{i j:Bool}:decide (V.bl i=V.bl j)=(i == j):=by
 rw[Bool.eq_iff_iff];simp
theorem ue{i j:Str}:decide (V.str i=V.str j)=(i == j):=by
 rw[Bool.eq_iff_iff];simp
theorem uf{i j:Array UInt8}:decide (V.byt i=V.byt j)=(i.toList == j.toList):=by
 rw[Bool.eq_iff_iff];cases i;cases j;simp
section
variable{a b c:Expr}{tc:TE}
theorem ba{pins:List (Addr×Obj)}{σ:St}{H:Hp}{s:Shared}{Q:VK}{k a:Bool}(I:Inv X pins σ H s)(q:Q (.bl k) H)(e:k=a):EP X pins σ Q (.bool a) s:=by
 subst e;exact⟨.bl k,H,I,U,q⟩
theorem bq:OpR X (compareOp .Eq) rEq:=by
 intro pins s σ H x y v u Q I d a h;obtain⟨c,q⟩:=h;cases x with
 |non =>
  cases d;cases y with
  |non=>cases a;exact PySem.EqNone.eq_none_none (ba I q (by simp))
  |bl j=>cases a;exact PySem.EqNone.eq_none_bool (ba I q (by simp))
  |int j=>obtain⟨b,rfl⟩:=a;exact PySem.EqNone.eq_none_int (ba I q (by simp))
  |str j=>obtain⟨b,rfl⟩:=a;exact PySem.EqNone.eq_none_str (ba I q (by simp))
  |_=>exact absurd (show false=true from c) Bool.false_ne_true
 |bl i =>
  cases d;cases y with
  |non=>cases a;exact PySem.EqNone.eq_bool_none (ba I q (by simp))
  |bl j=>cases a;exact eq_bool (ba I q wa)
  |str j=>obtain⟨b,rfl⟩:=a;exact PySem.EqMixed.eq_bool_str (ba I q (by simp))
  |_=>exact absurd (show false=true from c) Bool.false_ne_true
 |int i =>
  obtain⟨t,rfl⟩:=d;cases y with
  |non=>cases a;exact PySem.EqNone.eq_int_none (ba I q (by simp))
  |int j=>obtain⟨b,rfl⟩:=a;exact eq_int (ba I q ud)
  |str j=>obtain⟨b,rfl⟩:=a;exact PySem.EqMixed.eq_int_str (ba I q (by simp))
  |_=>exact absurd (show false=true from c) Bool.false_ne_true
 |str i =>
  obtain⟨t,rfl⟩:=d;cases y with
  |non=>cases a;exact PySem.EqNone.eq_str_none (ba I q (by simp))
  |bl j=>cases a;exact PySem.EqMixed.eq_str_bool (ba I q (by simp))
  |int j=>obtain⟨b,rfl⟩:=a;exact PySem.EqMixed.eq_str_int (ba I q (by simp))
  |str j=>obtain⟨b,rfl⟩:=a;exact eq_str (ba I q ue)
  |_=>exact absurd (show false=true from c) Bool.false_ne_true
 |byt i =>
  obtain⟨t,rfl⟩:=d;cases y with
  |byt j=>obtain⟨b,rfl⟩:=a;exact W.eq_bytes (ba I q uf)
  |_=>exact absurd (show false=true from c) Bool.false_ne_true
 |_=>cases y <;> exact absurd (show false=true from c) Bool.false_ne_true
theorem qz:OpR X (compareOp .NotEq) rNe:=by
 intro pins s σ H x y v u Q I d a h;obtain⟨c,q⟩:=h;cases x with
 |non =>
  cases d;cases y with
  |non=>cases a;exact PySem.EqNone.ne_none_none (ba I q (by simp))
  |bl j=>cases a;exact PySem.EqNone.ne_none_bool (ba I q (by simp))
  |int j=>obtain⟨b,rfl⟩:=a;exact PySem.EqNone.ne_none_int (ba I q (by simp))
  |str j=>obtain⟨b,rfl⟩:=a;exact PySem.EqNone.ne_none_str (ba I q (by simp))
  |_=>exact absurd (show false=true from c) Bool.false_ne_true
 |bl i =>
  cases d;cases y with
  |non=>cases a;exact PySem.EqNone.ne_bool_none (ba I q (by simp))
  |bl j=>cases a;exact ne_bool (ba I q (congrArg not wa))
  |str j=>obtain⟨b,rfl⟩:=a;exact PySem.EqMixed.ne_bool_str (ba I q (by simp))
  |_=>exact absurd (show false=true from c) Bool.false_ne_true
 |int i =>
  obtain⟨t,rfl⟩:=d;cases y with
  |non=>cases a;exact PySem.EqNone.ne_int_none (ba I q (by simp))
  |int j=>obtain⟨b,rfl⟩:=a;exact ne_int (ba I q (congrArg not ud))
  |str j=>obtain⟨b,rfl⟩:=a;exact PySem.EqMixed.ne_int_str (ba I q (by simp))
  |_=>exact absurd (show false=true from c) Bool.false_ne_true
 |str i =>
  obtain⟨t,rfl⟩:=d;cases y with
  |non=>cases a;exact PySem.EqNone.ne_str_none (ba I q (by simp))
  |bl j=>cases a;exact PySem.EqMixed.ne_str_bool (ba I q (by simp))
  |int j=>obtain⟨b,rfl⟩:=a;exact PySem.EqMixed.ne_str_int (ba I q (by simp))
  |str j=>obtain⟨b,rfl⟩:=a;exact ne_str (ba I q (congrArg not ue))
  |_=>exact absurd (show false=true from c) Bool.false_ne_true
 |byt i =>
  obtain⟨t,rfl⟩:=d;cases y with
  |byt j=>obtain⟨b,rfl⟩:=a;exact W.ne_bytes (ba I q (congrArg not uf))
  |_=>exact absurd (show false=true from c) Bool.false_ne_true
 |_=>cases y <;> exact absurd (show false=true from c) Bool.false_ne_true
theorem lu:OpR X (compareOp .Lt) (rI0 λi j=>.bl (decide (i<j))):=Ah λ_ _ _ _ _ _ _ q=>lt_int q
theorem fg:OpR X (compareOp .LtE) (rI0 λi j=>.bl (decide (i<=j))):=Ah λ_ _ _ _ _ _ _ q=>le_int q
theorem mh:OpR X (compareOp .Gt) (rI0 λi j=>.bl (decide (j<i))):=Ah λ_ _ _ _ _ _ _ q=>gt_int q
theorem pF:OpR X (compareOp .Is) (λx y H Q=>y=.non/\Q (.bl (decide (x=.non))) H):=by
 intro pins s σ H x y v u Q I a b h;obtain⟨rfl,q⟩:=h;cases b;refine is_none_gen (ba I q ?_)
 cases x <;> first
  |(cases a;rfl)
  |(obtain⟨t,rfl⟩:=a;rfl)
theorem pG:OpR X (compareOp .NotIn) (λx y H Q=>∃i j,x=.str i/\y=.str j/\Q (.bl (!(!(Builtin.Str.occurrences j i 0 j.length 1).isEmpty))) H):=by
 intro pins s σ H x y v u Q I b a h;obtain⟨i,j,rfl,rfl,q⟩:=h;obtain⟨t,rfl⟩:=b;obtain⟨c,rfl⟩:=a;exact notIn_str (ba I q U)
theorem aH(b:Expr){a:CmpOp}(h:a≠.In:=by decide)(c:a≠.NotIn:=by decide):behindInMarks a b=false:=by
 have e:(a == CmpOp.In)=false:=by cases a <;> first|rfl|exact absurd U h
 have d:(a == CmpOp.NotIn)=false:=by cases a <;> first|rfl|exact absurd U c
 cases b <;> simp[behindInMarks,e,d]
theorem eI{c:CmpOp}{r:R2}(f:OpR X (compareOp c) r)(j:PE X a ta)(i:PE X b tb)(g:behindInMarks c b=false):PE X (.Compare a [c] [b] pos) (tOp r ta tb):=by
 intro pins s σ H Q I h;exact wpAny_Compare1 (Ag j i I h λv u s2 x y l k e d q=>f pins s2 σ l x y v u Q k e d q) g
inductive wc  (Q:Bool->Hp->Prop)(x:V)(H':Hp):Prop
 |mk (k:_)(_:x=.bl k)(_:Q k H'):wc Q x H'
def zy(t:TE):TT:=λσ H Q=>t σ H λx H'=>wc Q x H'
theorem aF{d:CmpOp}{r:R2}(o:OpR X (compareOp d) r)(t:PE X a ta)(q:PE X b tb)(p:behindInMarks d b=false):PT X (.Compare a [d] [b] pos) (zy (tOp r ta tb)):=by
 intro pins s σ H Q I h;refine wpAny_isTrue_Compare1 (thn (t pins s σ H _ I h) λv f ⟨x,E,B,j,n⟩=>thn (q pins f σ E _ B n) λu s2 ⟨y,D,A,i,m⟩ =>
  thn (o pins s2 σ D x y v u _ A j i m) λc F ⟨z,C,w,g,k,e,l⟩=>?_) p
 subst e;cases g;exact wpAny_truthy_bool ⟨C,w,l⟩
inductive ug(r':R2)(tc:TE)(σ:St)(Q:VK)(y:V)(z:V)(H3:Hp):Prop
 |mk (k:_)(_:z=.bl k)(_:(if k=true then tc σ H3 λw' H4=>r' y w' H4 Q else Q (.bl false) H3))
def we(r a:R2)(ta tb tc:TE):TE:=λσ H Q=>ta σ H λx d=>tb σ d λy c=>r x y c λz b=>ug a tc σ Q y z b
theorem mi{g f:CmpOp}{r l:R2}(J:OpR X (compareOp g) r)(i:OpR X (compareOp f) l)(M:PE X a ta)(L:PE X b tb)(K:PE X c tc)
  (hm:lastMarks [g,f] [b,c]=false:=by with_unfolding_all rfl):PE X (.Compare a [g,f] [b,c] pos) (we r l ta tb tc):=by
 intro pins s σ H Q I h;refine Compare_chain (thn (M pins s σ H _ I h) λv A ⟨x,T,P,D,G⟩=>chain_link (thn (L pins A σ T _ P G) λu s2 ⟨y,S,O,j,F⟩ =>
  thn (J pins s2 σ S x y v u _ O D j F) λd w ⟨z,o,n,C,k,e,m⟩=>?_)) hm
 subst e;cases C;refine wpAny_truthy_bool ?_;cases k with
 |false=>exact ite_ff ⟨.bl false,o,n,U,m⟩
 |true=>exact ite_tt (chain_last (thn (K pins w σ o _ n m) λq t ⟨p,R,N,B,E⟩=>i pins t σ R y p u q Q N j B E))
theorem gQ{g f:CmpOp}{r l:R2}(M:OpR X (compareOp g) r)(i:OpR X (compareOp f) l)(P:PE X a ta)(O:PE X b tb)(N:PE X c tc)
  (hm:lastMarks [g,f] [b,c]=false:=by with_unfolding_all rfl):PT X (.Compare a [g,f] [b,c] pos) (zy (we r l ta tb tc)):=by
 intro pins s σ H Q I h;refine isTrue_chain (thn (P pins s σ H _ I h) λv A ⟨x,H1,Y,E,K⟩=>test_link (thn (O pins A σ H1 _ Y K) λu s2 ⟨y,H2,W,j,J⟩ =>
  thn (M pins s2 σ H2 x y v u _ W E j J) λd w ⟨z,o,n,D,k,e,m⟩=>?_)) hm
 subst e;cases D;refine wpAny_truthy_bool ?_;cases k with
 |false =>
  obtain⟨k',S,L⟩:=m;cases S;exact ite_ff ⟨o,n,L⟩
 |true =>
  refine ite_tt (test_last (thn (N pins w σ o _ n m) λq t ⟨p,H4,V,C,G⟩=>thn (i pins t σ H4 y p u q _ V j C G) λd' s5 ⟨z2,Z,T,B,k2,R,F⟩=>?_));subst R;cases B;exact wpAny_truthy_bool ⟨Z,T,F⟩
def Aj(K:W.Frag)(x:V)(H:Hp)(k:Bool):Prop :=
 match x with
 | .non=>k=false
 | .bl b=>k=b
 | .int i=>k=(i != 0)
 | .str y=>y.length<=sizeLine/\k=((y.length:Int) != 0)
 | .byt y=>y.size<=sizeLine/\k=((y.size:Int) != 0)
 | .ref p=>(∃a,SqL K H p a/\k = !a.isEmpty)\/(∃a,SqT K H p a/\k = !a.isEmpty)\/∃c,H p=some (.dK c)/\k = !c.isEmpty
 |_=>False
theorem si{b:Type}{a:List (b×V)}{vs:List (b×Value)}(r:KV a vs):(!vs.isEmpty) = !a.isEmpty:=by
 cases r <;> rfl
theorem mj{xs:List V}{a:List Value}(r:Vals xs a):(!a.toArray.isEmpty) = !xs.isEmpty:=by
 cases r <;> simp
theorem jc:(sizeLine:Nat)<2^63:=by rw[sizeLine_eq];decide
theorem Ak:Df X (λx H Q=>∃k,Aj X.K x H k/\Q k H):=by
 intro pins s σ H x v Q I g h;obtain⟨k,e,q⟩:=h;have C:=jc;have B:sizeLine=16777216:=sizeLine_eq;cases x with
 |non =>
  cases g;have a:k=false:=e;subst a;exact truthy_none ⟨H,I,q⟩
 |bl b =>
  cases g;have a:k=b:=e;subst a;exact wpAny_truthy_bool ⟨H,I,q⟩
 |int i =>
  obtain⟨t,rfl⟩:=g;have a:k=(i != 0):=e;subst a;exact PySem.P.truthy_int ⟨H,I,q⟩
 |str y =>
  obtain⟨t,rfl⟩:=g;obtain⟨z,a⟩:y.length<=sizeLine/\k=((y.length:Int) != 0):=e;subst a;exact PySem.P.truthy_str (by lia) ⟨H,I.tok _,q⟩
 |byt y =>
  obtain⟨t,rfl⟩:=g;obtain⟨z,a⟩:y.size<=sizeLine/\k=((y.size:Int) != 0):=e;subst a;exact W.truthy_bytes (by lia) ⟨H,I.tok _,q⟩
 |ref p =>
  cases g;have a:(∃f,SqL X.K H p f/\k = !f.isEmpty)\/(∃f,SqT X.K H p f/\k = !f.isEmpty)\/∃c,H p=some (.dK c)/\k = !c.isEmpty:=e;rcases a with⟨f,j,a⟩|⟨f,j,a⟩|⟨c,j,a⟩
  .subst a;obtain⟨o,r,n,u⟩:=I.list j;have d:=r.length;exact wpAny_truthy_list n.isList (by simp only[dV];lia) ⟨H,I.tok _,by rw[mj r];exact q⟩
  .subst a;obtain⟨o,r,n,u⟩:=I.tuple j;have d:=r.length;exact truthy_tuple n (by simp only[dV];lia) ⟨H,I.tok _,by rw[mj r];exact q⟩
  .subst a;obtain⟨u,A,l,r,m⟩:c.length<=sizeLine/\(p == sysModules)=false/\∃l,KV c l/\s.heap.DictOf (pD X.prog X.w) p l:=I.hok p _ j;have d:c.length=l.length:=Paired.length r;exact wpAny_truthy_dict A m (by lia) ⟨H,I.tok _,by rw[si r];exact q⟩
 |_=>exact(show False from e).elim
theorem c9(g:PE X a ta)(f:∀b,isTrue a X.env b=(do let v ←b;standAt a.pos;holding [v] (truthy v))) :
  PT X a (λσ H Q=>ta σ H λx H'=>∃k,Aj X.K x H' k/\Q k H'):=by
 intro pins s σ H Q I h;exact isTrue_plain (thn (g pins s σ H _ I h) λv c ⟨x,j,i,d,e⟩=>Ak pins c σ j x v Q i d e) (f _)
theorem jd:OpR X (binaryOp .Add) (λx y H Q=>∃i j,x=.str i/\y=.str j/\i.length+j.length<=sizeLine/\Q (.str (i++j)) H):=by
 intro pins s σ H x y v u Q I c b h;obtain⟨i,j,rfl,rfl,d,q⟩:=h;obtain⟨t,rfl⟩:=c;obtain⟨a,rfl⟩:=b;exact add_str (λa e=>⟨.str (i++j),H,I.tok _,⟨_,U⟩,q⟩) d
theorem Al:OpR X (binaryOp .Add) (λx y H Q=>∃i j,x=.byt i/\y=.byt j/\i.size+j.size<=16777216/\Q (.byt (i++j)) H):=by
 intro pins s σ H x y v u Q I c b h;obtain⟨i,j,rfl,rfl,d,q⟩:=h;obtain⟨t,rfl⟩:=c;obtain⟨a,rfl⟩:=b;exact W.KBy.add_bytes d (λa e=>⟨.byt (i++j),H,I.tok _,⟨_,U⟩,q⟩)
theorem vals1{x:V}{us:List Value}(r:Vals [x] us):∃u,us=[u]/\RelV x u:=by
 cases r with
 |cons b a=>cases a;exact⟨_,U,b⟩
theorem vals2{x y:V}{us:List Value}(r:Vals [x,y] us):∃u a,us=[u,a]/\RelV x u/\RelV y a:=by
 cases r with
 |cons e d =>
  cases d with
  |cons c b=>cases b;exact⟨_,_,U,e,c⟩
theorem oC(b:X.calm=true):dr X (.builtin "max") (λxs H Q=>∃i j,xs=[.int i,.int j]/\Q (.int (if j>i then j else i)) H):=by
 intro pins s σ H xs d Q I r h;obtain⟨i,j,rfl,q⟩:=h;obtain⟨u,c,rfl,⟨t,rfl⟩,⟨f,rfl⟩⟩:=vals2 r;refine max_two_ints (I.ok.hd b) λh' e k=>⟨_,H,I.kept k,?_,q⟩
 by_cases a:j>i
 .rw[if_pos a,if_pos a];exact⟨_,U⟩
 .rw[if_neg a,if_neg a];exact⟨_,U⟩
theorem kB(b:X.calm=true):dr X (.builtin "min") (λxs H Q=>∃i j,xs=[.int i,.int j]/\Q (.int (if j<i then j else i)) H):=by
 intro pins s σ H xs d Q I r h;obtain⟨i,j,rfl,q⟩:=h;obtain⟨u,c,rfl,⟨t,rfl⟩,⟨f,rfl⟩⟩:=vals2 r;refine min_two_ints (I.ok.hd b) λh' e k=>⟨_,H,I.kept k,?_,q⟩
 by_cases a:j<i
 .rw[if_pos a,if_pos a];exact⟨_,U⟩
 .rw[if_neg a,if_neg a];exact⟨_,U⟩
end
structure sj(h:Heap)(x dx C:Addr)(mA:Str->Option Value):Prop where
 obj:h.get? x=some (W.instObj C dx)
 ns:h.Ns1 dx mA
 ne:dx≠x
theorem uK{h:Heap}{f:Addr}{c:Str->Option Value}(n:h.Ns1 f c):∃b,h.get? f=some b/\∀name,W.lookIn name b=some (c name):=by
 obtain⟨o,d,r,i,l,k,_,j⟩:=n;refine⟨o,i,λname=>?_⟩;have e:=j name;unfold nsFind findBy at e;rw[←Array.find?_toList]at e;unfold W.lookIn;rw[l];dsimp only;split
 .rename_i y q
  rw[q]at e;exact congrArg some e
 .rename_i q
  rw[q]at e;have a:d.toList.any (·.refKey)=false:=by
   rw[List.any_eq_false];intro y g;obtain⟨z,t,p⟩:=k y (Array.mem_toList_iff.mp g);simp[DictEntry.refKey,p]
  have m:¬ d.toList.any (·.refKey)=true:=by rw[a];exact Bool.false_ne_true
  rw[if_neg m];exact congrArg some e
theorem sj.look{h:Heap}{x c C:Addr}{b:Str->Option Value}(I:sj h x c C b):∃a,W.InstAt h x (W.instObj C c) C (some a)/\∀name,W.lookIn name a=some (b name):=by
 obtain⟨a,d,e⟩:=uK I.ns;exact⟨a,⟨I.obj,U,U,d⟩,e⟩
variable{A:Around}{dx C f:Addr}
section
variable{prog:Program}{K:W.Frag}{mA:Str->Option Value}{name:Str}{v:Value}
theorem get_map{a:Bool}{Q:Value->Shared->Prop}(X:K.In s.heap)(I:sj s.heap x dx C mA)(f:W.plainGet K C name=true)(e:W.hasDictIn K C=true)
  (g:W.findIn K (.ref C) name=some none)(c:mA name=some v)(b:W.handedIn v=true)(h:Q v { s with toks:=s.toks+1 }) :
  wpAny (model prog w) A (getAttr (.ref x) name a) Q E s:=by
 obtain⟨i,J,d⟩:=I.look;exact W.get_value X J (W.plainGet_of f).1 (W.findObj_own e g U (by rw[d,c])) b h
theorem wg{pl:Sem Bool}{Q:Value×List Value->Shared->Prop}(X:K.In s.heap)(I:sj s.heap x dx C mA)(a:W.plainGet K C name=true)
  (hf:W.findIn K (.ref C) name=some (some (.ref f)))(d:W.isFn K (.ref f)=true)(c:mA name=none)(h:Q (.ref f,[.ref x]) s) :
  wpAny (model prog w) A (getMethod (.ref x) name pl) Q E s:=by
 obtain⟨b,J,e⟩:=I.look;exact W.method_fn X J (W.plainGet_of a).1 (W.plainGet_of a).2 hf (beq_iff_eq.mp d) (by show(W.lookIn name b).map (·.isSome)=some false;rw[e,c];rfl) h
theorem yu{ns:List Str}{Q:Unit->Shared->Prop}(X:K.In s.heap)(I:sj s.heap x dx C mA)
  (l:W.findIn K (.ref C) "__setattr__" = some (some (.builtin "object.__setattr__"))) (m:W.plainOver K C=true)(k:W.takerIn K C name=some none)(n:W.hasDictIn K C=true)
  (hw:PySem.Within mA ns)(p:ns.length<=sizeLine)
  (h:∀h',sj h' x dx C (λy=>if y=name then some v else mA y)->Heap.SameBut dx s.heap h'->Q () { s with heap:=h',toks:=s.toks+2 }) :
  wpAny (model prog w) A (setAttr (.ref x) name v) Q E s:=by
 obtain⟨u,J,B⟩:=I.look;refine W.set_plain X J l (W.osa_open (s:={ s with toks:=s.toks+1 }) (r:=none) X J m k λb=>?_);obtain⟨D,o,g⟩:=W.any_some n;have j:s.heap.get? x=some ⟨.ref C,some dx,.plain,#[]⟩:=I.obj;refine BY (C0 (BY (BY (wpAny_loadPart j (BY (W.Looks.here (s:={ s with toks:=s.toks+1 }) (W.looks_clsIn X o) ?_))))));rw[g];refine C0 (a:=some dx) (BY (C0 (BY ?_)));refine wpAny_nsSet1 (s:={ s with toks:=s.toks+1 }) I.ns λh' d c=>?_
 obtain⟨z,q,t,e,f,i⟩:=d.count (PySem.Within.cons name v hw);refine BY (wpAny_lookBehind e (by rw[f];exact pastItsLine_dict (yc i (by rw[ik];lia))) ?_);exact C0 (h _ ⟨(c.2 _ (Ne.symm I.ne)).trans I.obj,d,I.ne⟩ c)
theorem wj{R:Result->Shared->Prop}{vs:List Value}{b:List (Str×Value)}(X:K.In s.heap)(c:W.makesIn K C=true)
  (hi:W.findIn K (.ref C) "__init__" = some (some (.ref f))) (hf:W.typeIn K (.ref f)=some (.type "function"))
  (h:codeAny (model prog w) (A.under (.builtin "type.__call__" ⟨.ref C :: vs,b⟩)) (.call (.ref f) ⟨.ref (s.heap.objs.size+1) :: vs,b⟩) (W.InitBack (s.heap.objs.size+1) R)
   { s with heap:=(s.heap.push W.emptyDict).push (W.instObj C s.heap.objs.size) }) :
  codeAny (model prog w) A (.call (.ref C) ⟨vs,b⟩) R s:=by
 obtain⟨i,g,d,t,e⟩:=s;exact W.make_core (W.makes_of X c) (W.looks_findIn X hi) (λa=>W.bind_fn X a hf) (.inl U) h
end
def br(f:Str)(v:V):List (Str×V)->List (Str×V)
 | []=>[(f,v)]
 |(g,x) :: r=>if g=f then(g,v) :: r else(g,x) :: br f v r
theorem ly(f g:Str)(v:V):∀fs:List (Str×V),(br f v fs).lookup g=if g=f then some v else fs.lookup g
 | []=>by
  show List.lookup g [(f,v)]=_;by_cases h:g=f
  .have a:(g == f)=true:=beq_iff_eq.mpr h;simp only[List.lookup,a,if_pos h]
  .have a:(g == f)=false:=beq_eq_false_iff_ne.mpr h;simp only[List.lookup,a,if_neg h]
 |(k,x) :: r=>by
  have c:=ly f g v r;rw[show br f v ((k,x) :: r)=(if k=f then(k,v) :: r else(k,x) :: br f v r)from U];by_cases b:k=f
  .rw[if_pos b];by_cases h:g=k
   .have a:(g == k)=true:=beq_iff_eq.mpr h;simp only[List.lookup,a,if_pos (h.trans b)]
   .have a:(g == k)=false:=beq_eq_false_iff_ne.mpr h;simp only[List.lookup,a,if_neg (λe:g=f=>h (e.trans b.symm))]
  .rw[if_neg b];by_cases h:g=k
   .have a:(g == k)=true:=beq_iff_eq.mpr h;simp only[List.lookup,a,if_neg (λe:g=f=>b (h.symm.trans e))]
   .have a:(g == k)=false:=beq_eq_false_iff_ne.mpr h;simp only[List.lookup,a];exact c
theorem kC(f:Str)(v:V):∀fs:List (Str×V),f∈(br f v fs).map (·.1)/\∀g,g∈fs.map (·.1)->g∈(br f v fs).map (·.1)
 | []=>⟨by simp[br],λg h=>by simp at h⟩
 |(k,x) :: r=>by
  obtain⟨c,b⟩:=kC f v r;rw[show br f v ((k,x) :: r)=(if k=f then(k,v) :: r else(k,x) :: br f v r)from U];by_cases a:k=f
  .rw[if_pos a];subst a;exact⟨by simp,λg h=>by simpa using h⟩
  .rw[if_neg a];refine⟨?_,λg h=>?_⟩
   .rw[kU];exact iC _ c
   .rw[kU]at h⊢;rcases dt.mp h with e|e
    .exact dt.mpr (.inl e)
    .exact iC _ (b g e)
theorem lA(f:Str)(v:V):∀fs:List (Str×V),(br f v fs).length<=fs.length+1
 | []=>by simp[br]
 |(k,x) :: r=>by
  have b:=lA f v r;rw[show br f v ((k,x) :: r)=(if k=f then(k,v) :: r else(k,x) :: br f v r)from U];by_cases a:k=f
  .rw[if_pos a,ik,ik];lia
  .rw[if_neg a,ik,ik];lia
theorem nR.some_of{v:V}{o:Option Value}(r:nR (some v) o):∃u,o=some u/\RelV v u:=by
 cases o with
 |none=>exact(show False from r).elim
 |some u=>exact⟨u,U,r⟩
theorem nR.none_of{o:Option Value}(r:nR none o):o=none:=by
 cases o with
 |none=>rfl
 |some u=>exact(show False from r).elim
theorem oE{v:V}{u:Value}(r:RelV v u):W.handedIn u=true:=by
 cases v with
 |non=>cases (show u=Value.none from r);rfl
 |bl b=>cases (show u=Value.bool b from r);rfl
 |int i=>obtain⟨t,e⟩:=(show ∃t,u=Value.int i t from r);cases e;rfl
 |str x=>obtain⟨t,e⟩:=(show ∃t,u=Value.str x t from r);cases e;rfl
 |byt b=>obtain⟨t,e⟩:=(show ∃t,u=Value.bytes b t from r);cases e;rfl
 |flt b=>obtain⟨t,e⟩:=(show ∃t,u=Value.float b t from r);cases e;rfl
 |ref a=>cases (show u=Value.ref a from r);rfl
 |ty n=>cases (show u=Value.type n from r);rfl
section
variable{fs fs':List (Str×V)}
theorem lU(hok:HOk P w H h)(e:H a=some (.ins C dx fs)):∃b,sj h a dx C b/\(∀f,nR (fs.lookup f) (b f))/\PySem.Within b (fs.map (·.1))/\fs.length<=1000/\H dx=some (.own a):=by
 obtain⟨d,z,g,c,b,n,r,q⟩:=(show cS P w H h a (.ins C dx fs)from hok a _ e);exact⟨b,⟨c,n,g⟩,r,q,z,d⟩
end
structure Cls(K:W.Frag)(C:Addr):Prop where
 pg:W.plainGet K C Str.empty=true
 hd:W.hasDictIn K C=true
 po:W.plainOver K C=true
 sa:W.findIn K (.ref C) "__setattr__" = some (some (.builtin "object.__setattr__"))
theorem Cls.get{K:W.Frag}{C:Addr}(c:Cls K C)(f:Str):W.plainGet K C f=true:=c.pg
def NoAttr(K:W.Frag)(C:Addr)(f:Str):Prop:=W.findIn K (.ref C) f=some none
theorem NoAttr.taker{K:W.Frag}{C:Addr}{f:Str}(n:NoAttr K C f):W.takerIn K C f=some none:=by
 unfold W.takerIn;rw[show W.findIn K (.ref C) f=some none from n];rfl
structure Con(K:W.Frag)(C:Addr)(f:Str)(v:V)(u:Value):Prop where
 at_:W.findIn K (.ref C) f=some (some u)
 rel:RelV v u
 get:W.specialIn K u "__get__" = some none
 cp:W.copiedNames.contains f=false
structure Meth(K:W.Frag)(C:Addr)(m:Str)(f:Addr):Prop where
 at_:W.findIn K (.ref C) m=some (some (.ref f))
 fn:W.isFn K (.ref f)=true
 kp:W.keepIn K (.ref f)=true
section
variable{fs:List (Str×V)}{f:Str}{v:V}
theorem sk{b:Bool}{Q:Value->Shared->Prop}(I:Inv X pins σ H s)(e:H a=some (.ins C dx fs))(c:Cls X.K C)(n:NoAttr X.K C f)(l:fs.lookup f=some v)
  (h:∀u s',Inv X pins σ H s'->RelV v u->Q u s'):wpAny (model X.prog X.w) A (getAttr (.ref a) f b) Q E s:=by
 obtain⟨g,O,r,_,_,_⟩:=lU I.hok e;obtain⟨u,i,d⟩:=nR.some_of (v:=v) (o:=g f) (by rw[←l];exact r f);exact get_map I.kIn O (c.get f) c.hd n i (oE d) (h u _ (I.tok _) d)
theorem ml{m:Str}{g:Addr}{pl:Sem Bool}{Q:Value×List Value->Shared->Prop}(I:Inv X pins σ H s)(e:H a=some (.ins C dx fs))(c:Cls X.K C)(k:Meth X.K C m g)(l:fs.lookup m=none)
  (h:Q (.ref g,[.ref a]) s):wpAny (model X.prog X.w) A (getMethod (.ref a) m pl) Q E s:=by
 obtain⟨b,O,r,_,_,_⟩:=lU I.hok e;have d:b m=none:=nR.none_of (by rw[←l];exact r m);exact wg I.kIn O (c.get m) k.at_ k.fn d h
theorem sr{y:V}{u:Value}{Q:Unit->Shared->Prop}(I:Inv X pins σ H s)(e:H a=some (.ins C dx fs))(c:Cls X.K C)(n:NoAttr X.K C f)(B:fs.length<1000)(m:RelV y u)
  (h:∀s',Inv X pins σ (upd H a (.ins C dx (br f y fs))) s'->Q () s'):wpAny (model X.prog X.w) A (setAttr (.ref a) f u) Q E s:=by
 obtain⟨j,O,r,i,_,k⟩:=lU I.hok e;have p:(fs.map (·.1)).length<=sizeLine:=by rw[bx,sizeLine_eq];lia
 refine yu I.kIn O c.sa c.po n.taker c.hd i p λh' d l=>h _ ?_
 have hd:∃o,h'.get? dx=some o:=let ⟨o,_,_,e',_⟩:=d.ns;⟨o,e'⟩;refine I.write (x:=a) (e:=dx) (by rw[e];exact True.intro) (.inr k) (λb q v z=>(l.2 b v).trans z) hd ?_;refine⟨by rw[ay O.ne];exact k,?_,O.ne,d.obj,_,d.ns,λg=>?_,λg t=>?_⟩
 .have:=lA f y fs;lia
 .show nR ((br f y fs).lookup g) (if g=f then some u else j g);rw[ly];by_cases q:g=f
  .rw[if_pos q,if_pos q];exact m
  .rw[if_neg q,if_neg q];exact r g
 .by_cases q:g=f
  .rw[q];exact(kC f y fs).1
  .refine(kC f y fs).2 g (i g λz=>t ?_);show(if g=f then some u else j g)=none;rw[if_neg q];exact z
theorem Inv.made(I:Inv X pins σ H s):Inv X pins σ (upd (upd H s.heap.objs.size (.own (s.heap.objs.size+1))) (s.heap.objs.size+1) (.ins C s.heap.objs.size []))
  { s with heap:=(s.heap.push W.emptyDict).push (W.instObj C s.heap.objs.size) }:=by
 have d:(s.heap.push W.emptyDict).get? s.heap.objs.size=some W.emptyDict:=Heap.get?_push_size s.heap U;have i:((s.heap.push W.emptyDict).push (W.instObj C s.heap.objs.size)).get? (s.heap.objs.size+1)=some (W.instObj C s.heap.objs.size):=by
  have:=Heap.get?_push_size (s.heap.push W.emptyDict) (o:=W.instObj C s.heap.objs.size) U
  rwa [Heap.size_push]at this
 have h:(s.heap.push W.emptyDict).Ns s.heap.objs.size (λ_=>none):=⟨W.emptyDict,#[],_,d,U,(λe g=>absurd g (by simp)),λ_=>U⟩;have j:=I.laid (a:=s.heap.objs.size) (o:=.own (s.heap.objs.size+1)) (h':=s.heap.push W.emptyDict) (t':=s.toks) (λb u q=>Heap.get?_push_of_some _ q) (w5 _) ⟨_,d⟩;refine j.laid (a:=s.heap.objs.size+1) (o:=.ins C s.heap.objs.size []) (t':=s.toks) (λb u q=>Heap.get?_push_of_some _ q) (Nat.le_of_eq (Heap.size_push _ _)) ?_;have c:s.heap.objs.size≠s.heap.objs.size+1:=xS (yB _);refine⟨by rw[ay c,ab],yh _,c,i,λ_=>none,(Heap.Ns1.of_empty h).at λo q=>Heap.get?_push_of_some _ q,λ_=>True.intro,λy f=>absurd U f⟩
theorem yv{prog:Program}{w:World}{a:Env}{e:Expr}{f:Str}{pos:Pos}{s:Shared}{Q:Value->Shared->Prop}(c:attributeBase e f a (eval e a)=eval e a)
  (h:wpAny (model prog w) A (eval e a) (λo b=>wpAny (model prog w) A (getAttr o f true) Q E b) E s):wpAny (model prog w) A (eval (.Attribute e f pos) a) Q E s :=
 Attribute_any_ h (by rw[arm_eval_Attribute,c])
end
inductive zA(K:W.Frag)(f:Str)(Q:VK)(x:V)(H1:Hp):Prop
 |mk (a C dx fs v:_)(_:x=.ref a)(_:H1 a=some (.ins C dx fs))(_:Cls K C)(_:NoAttr K C f)(_:fs.lookup f=some v)(_:Q v H1)
def BI(K:W.Frag)(ta:TE)(f:Str):TE:=λσ H Q=>ta σ H λx a=>zA K f Q x a
def Dh(K:W.Frag)(ta c:TE)(f:Str):TS:=λD σ H=>c σ H λy d=>ta σ d λx b=>∃a C dx fs,x=.ref a/\b a=some (.ins C dx fs)/\Cls K C/\NoAttr K C f/\fs.length<1000 /\
 D.nx σ (upd b a (.ins C dx (br f y fs)))
variable{o:Expr}
section
variable{value:Expr}{f:Str}{pos' Gi:Pos}{tv:TE}
theorem bc(g:PE X e ta)(i:attributeBase e f X.env (eval e X.env)=eval e X.env):PE X (.Attribute e f pos) (BI X.K ta f):=by
 intro pins s σ H Q I h;refine yv i (thn (g pins s σ H _ I h) λu t ⟨x,p,o,b,a,C,dx,fs,v,j,k,c,n,l,q⟩=>?_);subst j;obtain rfl:u=Value.ref a:=b;exact sk o k c n l λr s2 m d=>⟨v,p,m,d,q⟩
theorem cE(m:PE X o ta)(j:PE X value tv)(k:swapsWith value (some (.Attribute o f pos')) pos.line X.env=pure false):PS X (.Assign [.Attribute o f pos'] value pos) (Dh X.K ta tv f):=by
 intro pins s σ H D I h;refine plainObj_wpAny_Assign_Attribute (thn (j pins s σ H _ I h) λu b ⟨y,z,w,d,q⟩=>thn (m pins b σ z _ w q) λi s2 ⟨x,B,v,e,a,C,dx,fs,p,r,c,n,l,g⟩=>?_) k;subst p;obtain rfl:i=Value.ref a:=e;exact sr v r c n l d λA t=>⟨σ,_,t,g⟩
end
section
variable{Q:Value->Shared->Prop}{c:Value}{b:Bool}
inductive kD(K:W.Frag)(H:Hp):V->Value->Prop where
 |non:kD K H .non (.type "NoneType")
 |bl (x:Bool):kD K H (.bl x) (.type "bool")
 |int (i:Int):kD K H (.int i) (.type "int")
 |str (x:Str):kD K H (.str x) (.type "str")
 |flt (x:UInt64):kD K H (.flt x) (.type "float")
 |lst {a:Addr}{xs:List V}(e:H a=some (.lst xs)):kD K H (.ref a) (.type "list")
 |frz {a:Addr}{o:Obj}{xs:List V}(e:H a=some (.frz o (.lst xs))):kD K H (.ref a) (.type "list")
 |tup {a:Addr}{xs:List V}(e:H a=some (.tup xs)):kD K H (.ref a) (.type "tuple")
 |dK {a:Addr}{kvs:List (Key×V)}(e:H a=some (.dK kvs)):kD K H (.ref a) (.type "dict")
 |dT {a:Addr}{kvs:List (List Key×V)}(e:H a=some (.dT kvs)):kD K H (.ref a) (.type "dict")
 |ins {a C dx:Addr}{fs:List (Str×V)}(e:H a=some (.ins C dx fs))(cl:Cls K C)(ha:W.findIn K (.ref C) "__class__" = some (some (.builtin "object.__class__")))
   (hn:W.specialIn K (.builtin "object.__class__") "__get__" = some (some (.builtin "getset_descriptor.__get__"))) (htk:W.takesIn K (.builtin "object.__class__")=some true)
   (hm:W.mroIn K C (.type "object")=some true):kD K H (.ref a) (.ref C)
theorem uL{x:V}{u t:Value}(I:Inv X pins σ H s)(d:RelV x u)(ty:kD X.K H x t)(e:W.kitOne X.K t c=some b)(h:∀k,Q (.bool b) { s with toks:=k }) :
  wpAny (model X.prog X.w) A (call (.builtin "isinstance") [u,c]) Q E s:=by
 cases ty with
 |non=>cases (show u=Value.none from d);exact W.kia_one W.kitx_none I.kIn True.intro e (λz=>nomatch z) h
 |bl y=>cases (show u=Value.bool y from d);exact W.kia_one W.kitx_bool I.kIn True.intro e (λz=>nomatch z) h
 |int i=>obtain⟨t,q⟩:=(show ∃t,u=Value.int i t from d);cases q;exact W.kia_one W.kitx_int I.kIn True.intro e (λz=>nomatch z) h
 |str y=>obtain⟨t,q⟩:=(show ∃t,u=Value.str y t from d);cases q;exact W.kia_one W.kitx_str I.kIn True.intro e (λz=>nomatch z) h
 |flt y=>obtain⟨t,q⟩:=(show ∃t,u=Value.float y t from d);cases q;exact W.kia_one W.kitx_float I.kIn True.intro e (λz=>nomatch z) h
 | @lst a g ea =>
  cases (show u=Value.ref a from d);obtain⟨_,_,n,_,f⟩:=(show cS X.prog X.w H s.heap a (.lst g)from I.hok a _ ea);exact W.kia_one W.kitx_list I.kIn ⟨_,f,U⟩ e (λz=>nomatch z) h
 | @frz a ob g ea =>
  cases (show u=Value.ref a from d);obtain⟨_,_,_,n,_,f⟩:=(show cS X.prog X.w H s.heap a (.frz ob (.lst g))from I.hok a _ ea);exact W.kia_one W.kitx_list I.kIn ⟨_,f,U⟩ e (λz=>nomatch z) h
 | @tup a g ea =>
  cases (show u=Value.ref a from d);obtain⟨_,_,_,p⟩:=(show cS X.prog X.w H s.heap a (.tup g)from I.hok a _ ea);obtain⟨o,f,j,_⟩:=p;exact W.kia_one W.kitx_tuple I.kIn ⟨o,f,j⟩ e (λz=>nomatch z) h
 | @dK a kvs ea =>
  cases (show u=Value.ref a from d);obtain⟨_,_,r,_,p⟩:=(show cS X.prog X.w H s.heap a (.dK kvs)from I.hok a _ ea);obtain⟨o,l,m,f,j,_⟩:=p;exact W.kia_one W.kitx_dict I.kIn ⟨o,f,j.1⟩ e (λz=>nomatch z) h
 | @dT a kvs ea =>
  cases (show u=Value.ref a from d);obtain⟨_,_,g,_,o,l,m,f,j,_⟩:=(show cS X.prog X.w H s.heap a (.dT kvs)from I.hok a _ ea);exact W.kia_one W.kitx_dict I.kIn ⟨o,f,j.1⟩ e (λz=>nomatch z) h
 | @ins a C dx fs ea cl ha hn htk hm =>
  cases (show u=Value.ref a from d);obtain⟨B,O,_⟩:=lU I.hok ea;obtain⟨v,J,_⟩:=O.look;exact W.kia_one (W.kitx_own (cl.get _) cl.hd ha hn htk hm) I.kIn J e (λz=>nomatch z) h
end
structure bP(k:Nat)(A:Around):Prop where
 hd:A.handled=none
 dp:A.depth+3*k+5<recursionLimit
 un:A.units+16*k+200<cLine
theorem bP.mono{j k:Nat}{A:Around}(r:bP k A)(h:j<=k):bP j A:=⟨r.hd,by have:=r.dp;lia,by have:=r.un;lia⟩
theorem bP.deeper{k:Nat}{A:Around}(r:bP (k+1) A)(a:Env):bP k (A.deeper a) :=
 ⟨r.hd,by have:=r.dp;show A.depth+1+3*k+5<_;lia,by have:=r.un;show A.units+3+16*k+200<_;lia⟩
theorem sv{A:Around}{C:Addr}{us:List Value}{a:List (Str×Value)}:(A.under (.builtin "type.__call__" ⟨.ref C :: us,a⟩)).depth=A.depth+1:=by
 first|rfl|simp[Around.under,Code.weight,Code.isCreation,Code.isGuard,Code.isCaller,Code.frames,Code.isFrame,guardIds]
theorem sD{A:Around}{C:Addr}{us:List Value}{a:List (Str×Value)}:(A.under (.builtin "type.__call__" ⟨.ref C :: us,a⟩)).units=A.units+1:=by
 first|rfl|simp[Around.under,Code.cUnits,Code.frames,Code.isFrame]
theorem bP.make{k:Nat}{A:Around}(r:bP (k+1) A)(C:Addr)(us:List Value)(a:List (Str×Value)):bP k (A.under (.builtin "type.__call__" ⟨.ref C :: us,a⟩)) :=
 ⟨r.hd,by have:=r.dp;rw[sv];lia,by have:=r.un;rw[sD];lia⟩
theorem bP.depth{k:Nat}{A:Around}(r:bP k A):A.depth<recursionLimit:=by have:=r.dp;lia
theorem bP.units{k:Nat}{A:Around}(r:bP k A):A.units+64<cLine:=by have:=r.un;lia
def An:TA:=λ_ H Q=>Q [] H
def BJ(ta:TE)(b:TA):TA:=λσ H Q=>ta σ H λx d=>b σ d λa c=>Q (x :: a) c
variable{es:List Expr}{t:TA}
theorem ae:PA X [] An:=λ_ _ _ _ H Q I h=>Calls.spliced_nil ⟨[],H,I,.nil,h⟩
theorem aa(k:PE X e te)(j:PA X es t)(i:starEach (e :: es) X.env=(false,eval e X.env) :: starEach es X.env:=by rfl):PA X (e :: es) (BJ te t):=by
 intro pos pins s σ H Q I h;rw[i];show wpAny _ _ (spliced ((false,eval e X.env) :: backTo pos (starEach es X.env))) _ _ s;refine Calls.spliced_cons (thn (k pins s σ H _ I h) λu b ⟨x,o,m,d,g⟩=>?_);exact thn (j pos pins b σ o _ m g) λp s2 ⟨a,n,l,c,f⟩=>⟨x :: a,n,l,.cons d c,f⟩
def Di(t:TA):TE:=λσ H Q=>t σ H λa b=>a.length<=sizeLine/\∀p,b p=none->Q (.ref p) (upd b p (.tup a))
def Dj(t:TA):TE:=λσ H Q=>t σ H λa b=>a.length<=sizeLine/\∀p,b p=none->Q (.ref p) (upd b p (.lst a))
theorem aX{x1} (h:PA X es t):PE X (.Tuple es x1 pos) (Di t):=by
 intro pins s σ H Q I i;refine wpAny_Tuple_spliced (thn (h pos pins s σ H _ I i) λg a ⟨f,d,c,r,z,q⟩=>⟨by rw[←r.length];exact z,?_⟩);have j:d a.heap.objs.size=none:=c.hok.fresh (w5 _);refine⟨.ref a.heap.objs.size,upd d a.heap.objs.size (.tup f),c.laid (t':=a.toks) (λb u e=>Heap.get?_push_of_some _ e) (w5 _) ?_,U,q _ j⟩;exact⟨z,g,r,⟨_,Heap.get?_push_size _ U,U,_,U⟩⟩
theorem aP(h:PA X es t):PE X (.List es pos) (Dj t):=by
 intro pins s σ H Q I i;refine wpAny_List_spliced (thn (h pos pins s σ H _ I i) λg a ⟨f,d,c,r,z,q⟩=>⟨by rw[←r.length];exact z,?_⟩);have j:d a.heap.objs.size=none:=c.hok.fresh (w5 _);refine⟨.ref a.heap.objs.size,upd d a.heap.objs.size (.lst f),c.laid (t':=a.toks) (λb u e=>Heap.get?_push_of_some _ e) (w5 _) ?_,U,q _ j⟩;exact⟨z,g,0,r,Heap.get?_push_size _ U⟩
abbrev Sp:=List V->Hp->VK->XK->Prop
abbrev CXT:=List Env->Hp->Shared->XK->Value->Shared->Prop
structure qA(P:Program)(w:World)(K:W.Frag)(mg:Str->Option Value)(base:Heap)(A:Around)(outer:List Env)(s:Shared)(H:Hp):Prop where
 frames:A.frames=some outer
 mod:Mod K mg base
 bs:∀b o,base.get? b=some o->s.heap.get? b=some o/\H b=none
 bsz:base.objs.size<=s.heap.objs.size
 funs:s.heap.FunFrames base outer
 frf:∀b∈frs outer,H b=none
 hok:HOk P w H s.heap
 bare:AllBare s.gens
def CE(a:List Env)(P:Program)(w:World)(H:Hp)(s:Shared)(Q:VK)(u:Value)(s':Shared):Prop :=
 ∃v H',s'.os=s.os/\AllBare s'.gens/\Un (frs a) [] H H' s.heap s'.heap/\HOk P w H' s'.heap/\RelV v u/\Q v H'
def CR(CX:CXT)(a:List Env)(P:Program)(w:World)(H:Hp)(s:Shared)(Q:VK)(E:XK)(r:Result)(s':Shared):Prop :=
 match r with
 | .ok (.ret u)=>CE a P w H s Q u s'
 | .ok _=>False
 | .error e=>CX a H s E e s'
structure aL(P:Program)(w:World)(K:W.Frag)(mg:Str->Option Value)(base:Heap)(CX:CXT)(k:Nat)(f:Addr)(fd:FuncData)(ps:List Str)(sp:Sp):Prop where
 len:∀vs H Q E,sp vs H Q E->vs.length=ps.length
 run:∀(A:Around)(outer:List Env)(s:Shared)(H:Hp)(args:Args)(us:List Value)(vs:List V)(Q:VK)(E:XK),bP k A->qA P w K mg base A outer s H->BindsTo s fd args (ps.zip us)->Vals vs us->sp vs H Q E ->
  codeAny (model P w) A (.call (.ref f) args) (CR CX outer P w H s Q E) s
theorem aL.mono{P:Program}{w:World}{K:W.Frag}{d:Str->Option Value}{a:Heap}{CX:CXT}{j k:Nat}{f:Addr}{e:FuncData}{ps:List Str}{sp:Sp}(F:aL P w K d a CX j f e ps sp)(h:j<=k) :
  aL P w K d a CX k f e ps sp:=⟨F.len,λA b s H c i g Q E l=>F.run A b s H c i g Q E (l.mono h)⟩
theorem qA.make{P:Program}{w:World}{K:W.Frag}{c:Str->Option Value}{b:Heap}{A:Around}{a:List Env}{s:Shared}{H:Hp}(e:qA P w K c b A a s H)(C:Addr)(us:List Value)(d:List (Str×Value)) :
  qA P w K c b (A.under (.builtin "type.__call__" ⟨.ref C :: us,d⟩)) a s H:=⟨by first|exact e.frames|(simpa[Around.under,Code.envs,Code.isFrame,pushEnvs]using e.frames),e.mod,e.bs,e.bsz,e.funs,e.frf,e.hok,e.bare⟩
section
variable{s':Shared}
theorem Inv.env0(I:Inv X pins σ H s):qA X.prog X.w X.K X.mg X.base X.A X.stack s H :=
 ⟨I.ok.frames,I.ok.mod,I.bs,yc I.ok.bsz I.sz,I.stack,I.stkFree,I.hok,I.bare⟩
theorem Inv.after{Q:VK}{u:Value}(I:Inv X pins σ H s)(h:CE X.stack X.prog X.w H s Q u s'):EP X pins σ Q u s':=by
 obtain⟨v,H',os,a,un,hok,r,q⟩:=h;obtain⟨e,g,d,t,c⟩:=s';obtain rfl:c=s.os:=os;exact⟨v,H',I.call (h':=e) (g':=g) (d':=d) (t':=t) (ch:=[]) un hok a (λb z=>absurd z (by simp)),r,q⟩
end
def BK(sp:Sp)(dvs:List V)(E:XK)(t:TA):TE:=λσ H Q=>t σ H λa b=>sp (a++dvs) b Q E
def zB(C:Addr)(sp:Sp)(dvs:List V)(E:XK)(t:TA):TE:=λσ H Q=>t σ H λb a=>∀x dx,a x=none->a dx=none->dx≠x ->
 sp (.ref x :: (b++dvs)) (upd (upd a dx (.own x)) x (.ins C dx [])) (λv c=>v=.non/\Q (.ref x) c) E
def Binds(K:W.Frag)(b:FuncData)(ps:List Str)(ds:List Value):Prop :=
 ∀(s:Shared)(a:List Value),K.In s.heap->(a++ds).length=ps.length->BindsTo s b ⟨a,[]⟩ (ps.zip (a++ds))
theorem Binds.all{K:W.Frag}{b:FuncData}{ps:List Str}(h:∀us:List Value,us.length=ps.length->bindArgs b ⟨us,[]⟩=pure (ps.zip us)):Binds K b ps []:=λs us _ a=>by
 rw[jt]at a⊢;exact .of_eq (h us a)
def Passes(CX:CXT)(X:Cx)(E:XK):Prop:=∀(pins:List (Addr×Obj))(σ:St)(H:Hp)(s:Shared)(e:Value)(a:Shared),Inv X pins σ H s->CX X.stack H s E e a->X.xe e a
variable{p:Pos}
section
variable{CX:CXT}{k:Nat}{fd:FuncData}{ps:List Str}{sp:Sp}{dvs:List V}{ds:List Value}{E:XK}{x m:Str}{apos:Pos}
theorem pH{pins:List (Addr×Obj)}{σ:St}{H:Hp}{s:Shared}{Q:VK}{us:List Value}{vs:List V}(F:aL X.prog X.w X.K X.mg X.base CX k f fd ps sp)(g:bP k X.A)(l:Binds X.K fd ps ds)(j:Vals dvs ds)(d:Passes CX X E)
  (I:Inv X pins σ H s)(r:Vals vs us)(h:sp (vs++dvs) H Q E):wpAny (model X.prog X.w) X.A (call (.ref f) us) (EP X pins σ Q) X.xe s:=by
 have b:Vals (vs++dvs) (us++ds):=r.append j;have i:(us++ds).length=ps.length:=by rw[←b.length];exact F.len _ _ _ _ h
 refine wpAny_call (codeAny_mono (F.run X.A X.stack s H ⟨us,[]⟩ (us++ds) (vs++dvs) Q E g I.env0 (l s us I.kIn i) b h) λr c a=>?_);cases r with
 |error e=>exact d pins σ H s e c I a
 |ok fl =>
  cases fl with
  |ret u=>exact I.after a
  |next=>exact False.elim a
  |brk=>exact False.elim a
  |cont=>exact False.elim a
theorem yw(F:aL X.prog X.w X.K X.mg X.base CX k f fd ps sp)(g:bP k X.A)(l:Gl X x)(i:X.mg x=some (.ref f))(j:W.keepIn X.K (.ref f)=true)(n:Binds X.K fd ps ds)(m:Vals dvs ds)(d:Passes CX X E)
  (o:PA X (e :: es) t)(b:(x == ("__debug__" : Str))=false:=by decide) (he:starEach (e :: es) X.env=(false,eval e X.env) :: starEach es X.env:=by rfl)(a:(backTo pos (starEach es X.env)).any (·.1)=false:=by rfl) :
  PE X (.Call (.Name x p) (e :: es) [] pos) (BK sp dvs E t):=by
 intro pins s σ H Q I h;refine Dn (gi I l i ?_ b);refine W.callWith_K (h₀:=X.base) I.ok.mod.kin j (thn (o pos pins s σ H _ I h) λv y ⟨u,z,c,r,q⟩=>⟨c.kIn,?_⟩) he a;exact pH F g n m d c r q
structure Mk(K:W.Frag)(C f:Addr):Prop where
 makes:W.makesIn K C=true
 init:W.findIn K (.ref C) "__init__" = some (some (.ref f))
 fn:W.isFn K (.ref f)=true
 kp:W.keepIn K (.ref C)=true
theorem qB{pins:List (Addr×Obj)}{σ:St}{H:Hp}{s:Shared}{Q:VK}{us:List Value}{vs:List V}(M:Mk X.K C f)(F:aL X.prog X.w X.K X.mg X.base CX k f fd ps sp)(m:bP (k+1) X.A)(p:Binds X.K fd ps ds)(o:Vals dvs ds)
  (l:Passes CX X E)(I:Inv X pins σ H s)(r:Vals vs us)
  (h:∀x dx,H x=none->H dx=none->dx≠x->sp (.ref x :: (vs++dvs)) (upd (upd H dx (.own x)) x (.ins C dx [])) (λv y=>v=.non/\Q (.ref x) y) E) :
  wpAny (model X.prog X.w) X.A (call (.ref C) us) (EP X pins σ Q) X.xe s:=by
 have d:=h (s.heap.objs.size+1) s.heap.objs.size (I.hok.fresh (yl _)) (I.hok.fresh (w5 _)) (xS (yB _));have b:=Inv.made (C:=C) I;have c:Vals (V.ref (s.heap.objs.size+1) :: (vs++dvs)) (Value.ref (s.heap.objs.size+1) :: (us++ds)):=.cons U (r.append o);have n:(Value.ref (s.heap.objs.size+1) :: us++ds).length=ps.length:=by
  have e:=c.length;rw[F.len _ _ _ _ d]at e;exact e.symm
 refine wpAny_call (wj (f:=f) I.kIn M.makes M.init (beq_iff_eq.mp M.fn) (codeAny_mono (F.run _ X.stack _ _ ⟨Value.ref (s.heap.objs.size+1) :: us,[]⟩ (Value.ref (s.heap.objs.size+1) :: (us++ds)) _ _ E (m.make C us [])
  (b.env0.make C us []) (p _ (Value.ref (s.heap.objs.size+1) :: us) b.kIn n) c d) λr g a=>?_))
 cases r with
 |error e=>exact l pins σ _ _ e g b a
 |ok fl =>
  cases fl with
  |ret u =>
   obtain⟨v,H',t,i,q,j⟩:=b.after a;subst q;exact⟨i,⟨V.ref (s.heap.objs.size+1),H',t,U,j⟩⟩
  |next=>exact False.elim a
  |brk=>exact False.elim a
  |cont=>exact False.elim a
theorem yx(M:Mk X.K C f)(F:aL X.prog X.w X.K X.mg X.base CX k f fd ps sp)(g:bP (k+1) X.A)(j:Gl X x)(i:X.mg x=some (.ref C))(m:Binds X.K fd ps ds)(l:Vals dvs ds)(d:Passes CX X E)
  (n:PA X (e :: es) t)(b:(x == ("__debug__" : Str))=false:=by decide) (he:starEach (e :: es) X.env=(false,eval e X.env) :: starEach es X.env:=by rfl)(a:(backTo pos (starEach es X.env)).any (·.1)=false:=by rfl) :
  PE X (.Call (.Name x p) (e :: es) [] pos) (zB C sp dvs E t):=by
 intro pins s σ H Q I h;refine Dn (gi I j i ?_ b);refine W.callWith_K (h₀:=X.base) I.ok.mod.kin M.kp (thn (n pos pins s σ H _ I h) λu v ⟨o,y,c,r,q⟩=>⟨c.kIn,?_⟩) he a;exact qB M F g m l d c r q
theorem wm(M:Mk X.K C f)(F:aL X.prog X.w X.K X.mg X.base CX k f fd ps sp)(c:bP (k+1) X.A)(e:Gl X x)(d:X.mg x=some (.ref C))(i:Binds X.K fd ps ds)(g:Vals dvs ds)(b:Passes CX X E)
  (a:(x == ("__debug__" : Str))=false:=by decide):PE X (.Call (.Name x p) [] [] pos) (zB C sp dvs E An):=by
 intro pins s σ H Q I h;refine Dn (gi I e d ?_ a);exact W.callWith_K0 I.kIn M.kp (qB (us:=[]) M F c i g b I .nil h)
end
section
variable{CX:CXT}{k:Nat}{fd:FuncData}{ps ks:List Str}{sp:Sp}{E:XK}{x m:Str}{apos Gj:Pos}{kws:List Keyword}{tk:TA}{nm:Option Str}
structure Dk(K:W.Frag)(fd:FuncData)(ps ks:List Str)(g:List Value->List Value->List Value)(gV:List V->List V->List V):Prop where
 to:∀(s:Shared)(us ws:List Value),K.In s.heap->(g us ws).length=ps.length->BindsTo s fd ⟨us,ks.zip ws⟩ (ps.zip (g us ws))
 rel:∀{vs:List V}{us:List Value}{zs:List V}{ws:List Value},Vals vs us->Vals zs ws->Vals (gV vs zs) (g us ws)
variable{g:List Value->List Value->List Value}{gV:List V->List V->List V}
end
structure ao(N P:List Str)(sc:Scope):Prop where
 kind:sc.kind=.function
 co:sc.isCoroutine=false
 gen:sc.isGenerator=false
 nd:N.Nodup
 pre:N.take P.length=P
 par:∀x∈P,sc.names.lookup x=some .local\/sc.names.lookup x=some .cell
 nofree:∀y∈sc.names,y.2≠.free
theorem oF{a:Str->Option NameKind}{x:Str}:∀{binds:List (Str×Value)}{m:Str->Option Value},(∀v,(x,v) ∉ binds)->bindL a binds m x=m x
 | [],_,_=>rfl
 |(n,v) :: r,m,h=>by
  unfold bindL;rw[oF λw b=>h w (iC _ b)];split
  .have:x≠n:=by rintro rfl;exact h v fb
   simp[this]
  .rfl
theorem oG{a:Str->Option NameKind}{x:Str}:∀{binds:List (Str×Value)}{m:Str->Option Value},(∀v,(x,v) ∉ binds)->bindC a binds m x=m x
 | [],_,_=>rfl
 |(n,v) :: r,m,h=>by
  unfold bindC;rw[oG λw b=>h w (iC _ b)];split
  .rfl
  .have:x≠n:=by rintro rfl;exact h v fb
   simp[this]
theorem oH{a:Str->Option NameKind}{x:Str}{v:Value}:∀{P:List Str}{vs:List Value}{i:Nat}{m:Str->Option Value},P.Nodup->P[i]?=some x->vs[i]?=some v->a x=some .local ->
  bindL a (P.zip vs) m x=some v
 | [],_,_,_,_,h,_,_=>by simp at h
 |_ :: _,[],_,_,_,_,h,_=>by simp at h
 |p :: P,w :: vs,0,m,nd,h1,h2,hk=>by
  simp at h1 h2;subst h1;subst h2;show bindL a ((p,w) :: P.zip vs) m p=_;unfold bindL;rw[oF λv b=>(lz.mp nd).1 (ri b).1,if_pos hk];simp
 |p :: P,w :: vs,i+1,m,nd,h1,h2,hk=>by
  show bindL a ((p,w) :: P.zip vs) m x=_;unfold bindL;exact oH (i:=i) (lz.mp nd).2 (by simpa using h1) (by simpa using h2) hk
theorem oI{a:Str->Option NameKind}{x:Str}{v:Value}:∀{P:List Str}{vs:List Value}{i:Nat}{m:Str->Option Value},P.Nodup->P[i]?=some x->vs[i]?=some v->a x≠some .local ->
  bindC a (P.zip vs) m x=some v
 | [],_,_,_,_,h,_,_=>by simp at h
 |_ :: _,[],_,_,_,_,h,_=>by simp at h
 |p :: P,w :: vs,0,m,nd,h1,h2,hk=>by
  simp at h1 h2;subst h1;subst h2;show bindC a ((p,w) :: P.zip vs) m p=_;unfold bindC;rw[oG λv b=>(lz.mp nd).1 (ri b).1,if_neg hk];simp
 |p :: P,w :: vs,i+1,m,nd,h1,h2,hk=>by
  show bindC a ((p,w) :: P.zip vs) m x=_;unfold bindC;exact oI (i:=i) (lz.mp nd).2 (by simpa using h1) (by simpa using h2) hk
def start(N:List Str)(vs:List V):St:=vs.map some++List.replicate (N.length-vs.length) none
def qC(CX:CXT)(P:Program)(w:World)(K:W.Frag)(mg:Str->Option Value)(base:Heap)(N:List Str)(qual:Str)(a:Scope)(f:Addr)(c:Value)(A:Around)(outer:List Env)(s:Shared)(H:Hp)(E:XK):Cx where
 prog:=P
 w:=w
 K:=K
 mg:=mg
 base:=base
 A:=A.deeper (envOfC qual a s.heap.objs.size f c)
 N:=N
 s₀:=s
 H₀:=H
 env:=envOfC qual a s.heap.objs.size f c
 outer:=outer
 stack:=envOfC qual a s.heap.objs.size f c :: outer
 ex:=[]
 calm:=true
 fn:=λ_=>true
 pn:=[]
 xe:=λe d=>wpAny (model P w) (A.deeper (envOfC qual a s.heap.objs.size f c)) (leaving (envOfC qual a s.heap.objs.size f c) e) (λ_ b=>CX outer H s E e b) (λg b=>CX outer H s E g b) d
theorem qD{a:Scope}{n:Nat}{x:Str}(h:a.names.lookup x=some .cell):∃c,(cellsFrom n a.names []).lookup x=some c:=by
 have q:=W.cellsFrom_some a.names n [] (.inl h);exact BQ.mp q
theorem uM{CX:CXT}{P:Program}{w:World}{K:W.Frag}{G:Str->Option Value}{l:Heap}{N ps:List Str}{qual:Str}{d:Scope}{f:Addr}{F:Value}{A:Around}{g:List Env}{s I:Shared}{H:Hp}{E:XK}{us:List Value}{vs:List V}
  (S:ao N ps d)(O:A.handled=none)(m:qA P w K G l A g s H)(X:vs.length=ps.length)(r:Vals vs us)
  (x:InCallC s s.heap.objs.size (bindL (envOfC qual d s.heap.objs.size f F).kindOf (ps.zip us) λ_=>none) (cellsFrom (s.heap.objs.size+1) d.names []) (bindC (envOfC qual d s.heap.objs.size f F).kindOf (ps.zip us) λ_=>none) I) :
  Inv (qC CX P w K G l N qual d f F A g s H E) [] (start N vs) H I:=by
 have R:ps.length<=N.length:=by have:=congrArg List.length S.pre;rw[ip]at this;lia
 obtain⟨D,T,rfl,L⟩:=x.done;have t:∀b:Addr,b ∉ (qC CX P w K G l N qual d f F A g s H E).ex:=λb z=>absurd (show b∈([]:List Addr)from z) (by simp)
 refine⟨⟨m.mod,S.kind,U,U,w5 _,λy z c D j=>?_,λy o=>?_,λy c _ h=>?_,λ_=>O,Around.frames_deeper m.frames,.inr ⟨U,U⟩,λb z=>absurd z (t b),m.bs,m.bsz,λb _ _=>t b,λb z=>absurd z (t b),m.funs,m.frf⟩,
  rfl,m.bare,Un.kept L,⟨_,x.toInCall.ns,λi y v D j Y=>?_⟩,λy c h=>⟨_,x.cell y c h⟩,m.hok.fresh (w5 _),λy c h=>?_,λp B=>absurd (show p∈([]:List (Addr×Obj))from B) (by simp),m.hok.kept L,?_⟩
 .exact name_of_addr x.apart (mem_of_lookup D) (mem_of_lookup j)
 .have o:d.names.lookup y=some .cell\/d.names.lookup y=some .free:=o;rcases o with o|o
  .exact qD o
  .exact absurd U (S.nofree _ (mem_of_lookup o))
 .exact yj (x.above y c (mem_of_lookup h))
 .have hi:i<vs.length:=by
   unfold start at j;by_cases hi:i<vs.length
   .exact hi
   .rw[lg (by simpa using hi)]at j;rw[List.getElem?_replicate]at j;split at j <;> cases j
  have Q:vs[i]?=some v:=by
   unfold start at j;rw[iP (by simpa using hi),fo]at j;cases e:vs[i]? with
   |none=>rw[e]at j;cases j
   |some a=>rw[e]at j;cases j;rfl
  obtain⟨u,J,M⟩:=r.get Q;have B:ps[i]?=some y:=by
   rw[←S.pre,List.getElem?_take_of_lt (by lia)];exact D
  have C:ps.Nodup:=by rw[←S.pre];exact S.nd.sublist (ro _ _)
  refine⟨u,M,?_⟩;rcases S.par y (GJ B)with k|k
  .exact .inl ⟨k,oH C B J k⟩
  .obtain⟨c,e⟩:=qD (n:=s.heap.objs.size+1) k;refine .inr ⟨.inl k,c,e,?_⟩;have q:=x.cell y c e;rw[oI C B J (by show d.names.lookup y≠_;rw[k];decide)]at q;exact q
 .exact m.hok.fresh (yj (x.above y c (mem_of_lookup h)))
 .unfold start;show _=N.length;rw[cK,bx,nM];lia
theorem zC{CX:CXT}{P:Program}{w:World}{K:W.Frag}{m:Str->Option Value}{base:Heap}{k:Nat}{f:Addr}{name qual:Str}{params:Arguments}{body:List Stmt}{a:Scope}{L kV doc pm d M Z:Value}{O Y:Option Addr}
  {C:Array (Option Value)}{N ps:List Str}{sp:Sp}(lk:K.lookup f=some ⟨Z,Y,.func (W.fnOf name qual params body a L kV doc pm O d M),C⟩)(F:W.codeIn K d qual=true)(S:ao N ps a)
  (len:∀vs H Q E,sp vs H Q E->vs.length=ps.length)
  (gR:∀(A:Around)(c:List Env)(s:Shared)(H:Hp)(vs:List V)(Q:VK)(E:XK),bP k (A.deeper (envOfC qual a s.heap.objs.size f d))->sp vs H Q E ->
   ∃t,PSs (qC CX P w K m base N qual a f d A c s H E) body t/\t { nx:=λ_ H'=>Q .non H',rt:=Q } (start N vs) H) :
  aL P w K m base CX (k+1) f (W.fnOf name qual params body a L kV doc pm O d M) ps sp:=by
 refine⟨len,λA c s H T X vs Q E B i hb r j=>?_⟩;have hl:=len _ _ _ _ j;have R:K.In s.heap:=i.mod.kin.keeps λb o e=>(i.bs b o e).1
 have D:s.heap.NoLimit:=i.mod.nolimit.keeps λb o e=>(i.bs b o e).1
 have BL:∀y∈ps.zip X,a.names.lookup y.1=some .local\/(a.names.lookup y.1=some .cell/\((cellsFrom (s.heap.objs.size+1) a.names []).lookup y.1).isSome=true):=λ⟨n,v⟩ hy=>by
  rcases S.par n (ri hy).1 with q|q
  .exact .inl q
  .exact .inr ⟨q,W.cellsFrom_some _ _ _ (.inl q)⟩
 refine codeAny_call_function B.depth (R _ _ lk) U S.co S.gen U (W.codeRec_of R F) (hb _ _ _ _ ?_);refine wpAny_newFunctionEnv_cells S.kind BL λa0 he G x=>?_
 subst he;refine⟨D.keeps x.toInCall.keep,codeAny_func ?_⟩;obtain⟨t,ht,hq⟩:=gR A c s H vs Q E (B.deeper _) j;have I:Inv (qC CX P w K m base N qual a f d A c s H E) [] (start N vs) H G:=uM S B.hd i hl r x;refine wpAny_mono (ht [] G (start N vs) H _ I hq) (λfl p h=>?_) λe p h=>h
 have l:∀{g:St}{H':Hp}{v:V}{u:Value},Inv (qC CX P w K m base N qual a f d A c s H E) [] g H' p->RelV v u->Q v H'->CE c P w H s Q u p :=
  λ{g H' v u} J z q=>⟨v,H',J.os,J.bare,J.base,J.hok,z,q⟩
 cases fl with
 |ret u =>
  obtain⟨v,g,H',J,z,q⟩:=h;exact l J z q
 |next =>
  obtain⟨g,H',J,q⟩:=h;exact l (v:=V.non) (u:=Value.none) J U q
 |brk =>
  obtain⟨_,_,_,q⟩:=h;exact False.elim q
 |cont =>
  obtain⟨_,_,_,q⟩:=h;exact False.elim q
section
variable{x:Str}{id T:String}{r:List V->Hp->VK->Prop}
def tCB(r:List V->Hp->VK->Prop)(t:TA):TE:=λσ H Q=>t σ H λa b=>r a b Q
theorem au(n:dr X (.builtin id) r)(m:Gl X x)(l:X.mg x=none)(j:bootBuiltins x=some (.builtin id))(o:PA X (e :: es) t)(k:x ≠ "__name__" := by decide) (b:(x == ("__debug__" : Str))=false:=by decide)
  (he:starEach (e :: es) X.env=(false,eval e X.env) :: starEach es X.env:=by rfl)(a:(backTo pos (starEach es X.env)).any (·.1)=false:=by rfl):PE X (.Call (.Name x p) (e :: es) [] pos) (tCB r t):=by
 intro pins s σ H Q I h;refine Dn (eN I m l j ?_ k b);exact PyProof.Rows.callWith_builtin1 (thn (o pos pins s σ H _ I h) λd f ⟨c,u,q,g,i⟩=>n pins f σ u c d Q q g i) he a
theorem bK(n:dr X (.type T) r)(m:Gl X x)(l:X.mg x=none)(j:bootBuiltins x=some (.type T))(o:PA X (e :: es) t)(k:x ≠ "__name__" := by decide) (b:(x == ("__debug__" : Str))=false:=by decide)
  (he:starEach (e :: es) X.env=(false,eval e X.env) :: starEach es X.env:=by rfl)(a:(backTo pos (starEach es X.env)).any (·.1)=false:=by rfl):PE X (.Call (.Name x p) (e :: es) [] pos) (tCB r t):=by
 intro pins s σ H Q I h;refine Dn (eN I m l j ?_ k b);exact PyProof.Rows.callWith_type1 (thn (o pos pins s σ H _ I h) λd f ⟨c,u,q,g,i⟩=>n pins f σ u c d Q q g i) he a
end
end L2
namespace HT
open PySem PyProof.Rows
section
open PySem.SeqAt
open PySem.AutoSeq1 (wpAny_loadPart')
open PySem.MeetsSeq PySem.MeetsSeq2 PySem.MeetsSeq3
end
section
variable{prog:Program}{w:World}{A:Around}{E:Value->Shared->Prop}{s:Shared}
theorem cat_tup{t b:Addr}{vs ws:List Value}{Q:Value->Shared->Prop}(r:IsTup s.heap t vs.toArray)(u:IsTup s.heap b ws.toArray)(o:vs≠[])
  (x:ws=[]->Q (.ref t) s)(v:ws≠[]->Q (.ref s.heap.objs.size) { s with heap:=s.heap.push { cls:=.type "tuple",data:=.seq (vs++ws).toArray } })
  (j:vs.length+ws.length<=sizeLine):wpAny (model prog w) A (binaryOp .Add (.ref t) (.ref b)) Q E s:=by
 obtain⟨⟨cls,dd,data,l⟩,i,q,n,p⟩:=id r;obtain⟨⟨y,g,k,c⟩,a,f,m,d⟩:=id u;simp only at q p f d;subst q p f d;have e:vs.toArray++ws.toArray=(vs++ws).toArray:=by simp
 by_cases h:ws=[]
 .exact concat_meets ⟨_,i,rfl⟩ ⟨_,a,rfl⟩ noFill_tuple_add seq_tuple_add PySem.F.slot_tuple_add PySem.F.entry_tuple_add (PySem.F.args_tuple_add_2 _ _)
   (tuple_addW1 t b vs.toArray ws.toArray n m dd g l c (by simpa using o) (by simp[h])) ⟨i,a,x h⟩
 .refine concat_meets ⟨_,i,rfl⟩ ⟨_,a,rfl⟩ noFill_tuple_add seq_tuple_add PySem.F.slot_tuple_add PySem.F.entry_tuple_add (PySem.F.args_tuple_add_2 _ _)
   (tuple_addW2 t b vs.toArray ws.toArray n m dd g l c (by simpa using o) (by simpa using h) (by rw[dV,dV];exact j)) ⟨i,a,?_⟩
  rw[e];exact v h
def sIx(n d:Nat):Option Int->Nat
 |none=>d
 |some v=>if v<0 then(v+(n:Int)).toNat else min v.toNat n
end
end HT
namespace L2
open PySem PySem.Spec PyProof.Rows
abbrev TO:=St->Hp->(Option Int->Hp->Prop)->Prop
def PO(X:Cx)(e:Option Expr)(t:TO):Prop :=
 ∀(a:List (Addr×Obj))(s:Shared)(b:St)(H:Hp)(Q:Option Int->Hp->Prop),Inv X a b H s->t b H Q ->
  wpAny (model X.prog X.w) X.A (evalPart e X.env) (λu d=>∃o c,Inv X a b c d/\IsPart u o/\Q o c) X.xe s
def yy:TO:=λ_ H Q=>Q none H
inductive wo  (Q:Option Int->Hp->Prop)(x:V)(H1:Hp):Prop
 |mk (i:_)(_:x=.int i)(_:Q (some i) H1):wo Q x H1
def BM(t:TE):TO:=λa H Q=>t a H λx b=>wo Q x b
variable{X:Cx}
section
variable{e:Expr}{te:TE}{lo hi:Option Expr}{tl th:TO}{pos p2:Pos}
theorem de:PO X none yy:=by
 intro a s b H Q I h;rw[evalPart_none];exact C0 ⟨none,H,I,.none,h⟩
theorem df(h:PE X e te):PO X (some e) (BM te):=by
 intro a s b H Q I f;rw[evalPart_some];refine thn (h a s b H _ I f) λu k ⟨x,j,g,c,d⟩=>?_
 obtain⟨i,rfl,q⟩:=d;obtain⟨t,rfl⟩:=c;exact⟨some i,j,g,.int i t,q⟩
def SlR(X:Cx)(r:V->Option Int->Option Int->Hp->VK->Prop):Prop :=
 ∀(a:List (Addr×Obj))(s:Shared)(b:St)(H:Hp)(x:V)(v d c:Value)(lo hi:Option Int)(e:Addr)(Q:VK),Inv X a b H s->RelV x v->s.heap.IsSliceOf e d c .none->IsPart d lo->IsPart c hi->r x lo hi H Q ->
  ∃T f,typeLookup (.type T) "__getitem__" = pure (some (.builtin f))/\s.TypeIs v T/\wpAny (model X.prog X.w) X.A (getItem v (.ref e)) (EP X a b Q) X.xe s
def tSl(r:V->Option Int->Option Int->Hp->VK->Prop)(te:TE)(tl th:TO):TE:=λa H Q=>te a H λx d=>tl a d λl c=>th a c λu b=>r x l u b Q
theorem cw{r:V->Option Int->Option Int->Hp->VK->Prop}(B:SlR X r)(E:PE X e te)(C:PO X lo tl)(y:PO X hi th):PE X (.Subscript e (.Slice lo hi none p2) pos) (tSl r te tl th):=by
 intro a s d H Q I h;refine Subscript_ (thn (E a s d H _ I h) λv j ⟨x,N,L,k,o⟩=>?_);refine wpAny_Slice (thn (C a j d N _ L o) λg s2 ⟨l,M,K,t,n⟩=>thn (y a s2 d M _ K n) λf c ⟨u,i,J,p,m⟩=>?_);rw[evalPart_none];refine C0 ?_;have G:Inv X a d i { c with heap:=c.heap.push { cls:=.type "slice",data:=.fields #[g,f,.none] } }:=J.kept (t':=c.toks) λb O q=>Heap.get?_push_of_some _ q
 obtain⟨T,P,F,z,D⟩:=B a { c with heap:=c.heap.push { cls:=.type "slice",data:=.fields #[g,f,.none] } } d i x v g f l u c.heap.objs.size Q G k (Heap.IsSliceOf.new ..) t p m;show wpAny (model X.prog X.w) X.A (subscriptTail e (.Slice lo hi none p2) v (.ref c.heap.objs.size)) (EP X a d Q) X.xe { c with heap:=c.heap.push { cls:=.type "slice",data:=.fields #[g,f,.none] } };exact tail_any (ops:=[.ref c.heap.objs.size,v]) z F D (by with_unfolding_all rfl)
def jS(xs:List V)(lo hi:Option Int):List V:=(xs.drop (HT.sIx xs.length 0 lo)).take (HT.sIx xs.length xs.length hi-HT.sIx xs.length 0 lo)
theorem qE(xs:List V)(lo hi:Option Int):(jS xs lo hi).length<=xs.length:=by
 unfold jS;rw[ip,jv];lia
inductive zD(K:W.Frag)(x:V)(y:V)(H:Hp)(Q:VK):Prop
 |mk (a b xs ys:_)(_:x=.ref a)(_:y=.ref b)(_:SqT K H a xs)(_:SqT K H b ys)(_:xs≠[])(_:xs.length+ys.length<=sizeLine)(_:(ys=[]->Q (.ref a) H))(_:(ys≠[]->∀p,H p=none->Q (.ref p) (upd H p (.tup (xs++ys)))))
theorem Vals.nil_iff{xs:List V}{us:List Value}(r:Vals xs us):us=[]↔xs=[]:=by
 cases r with
 |nil=>simp
 |cons _ _=>simp
theorem yz:OpR X (binaryOp .Add) (zD X.K):=by
 intro f s B H x y v u Q I k j h;obtain⟨a,b,i,g,rfl,rfl,t,r,p,e,m,l⟩:=h;cases k;cases j;obtain⟨A,d,n,_⟩:=I.tuple t;obtain⟨D,c,p2,_⟩:=I.tuple r;refine HT.cat_tup n p2 (λz=>p (d.nil_iff.mp z)) (λz=>⟨.ref a,H,I,U,m (c.nil_iff.mp z)⟩) (λz=>?_) (by rw[←d.length,←c.length];exact e);refine⟨.ref s.heap.objs.size,_,I.laid (t':=s.toks) (o:=.tup (i++g)) (λb C q=>Heap.get?_push_of_some _ q) (w5 _) ?_,U,l (λw=>z (c.nil_iff.mpr w)) _ (I.hok.fresh (w5 _))⟩;exact⟨by rw[cK];exact e,_,d.append c,IsTup.new _ _⟩
end
def ixN(n:Nat)(i:Int):Option Nat:=if 0<=i then(if i<n then some i.toNat else none)else if -(n:Int)<=i then some (i+n).toNat else none
def atI{α:Type}(xs:List α)(i:Int):Option α:=(ixN xs.length i).bind λj=>xs[j]?
theorem uh{n:Nat}{i:Int}{j:Nat}(h:ixN n i=some j):seqIndex? i n=some j/\j<n/\-(n:Int)<=i/\i<n:=by
 unfold ixN at h;by_cases b:0<=i
 .rw[if_pos b]at h;by_cases a:i<n
  .rw[if_pos a]at h;have e:i.toNat=j:=Option.some.inj h;exact⟨by rw[seqIndex_of b a,e],by lia,by lia,a⟩
  .rw[if_neg a]at h;cases h
 .rw[if_neg b]at h;by_cases a : -(n:Int)<=i
  .rw[if_pos a]at h;have e:(i+n).toNat=j:=Option.some.inj h;exact⟨by rw[seqIndex_neg (by lia) a,e],by lia,a,by lia⟩
  .rw[if_neg a]at h;cases h
theorem pI{α:Type}{xs:List α}{i:Int}{v:α}(h:atI xs i=some v):∃j,seqIndex? i xs.length=some j/\xs[j]?=some v/\j<xs.length/\-(xs.length:Int)<=i/\i<xs.length:=by
 unfold atI at h;cases e:ixN xs.length i with
 |none=>rw[e]at h;cases h
 |some j =>
  rw[e]at h;obtain⟨d,c,b,a⟩:=uh e;exact⟨j,d,h,c,b,a⟩
theorem aR{α:Type}{xs:List α}{j:Nat}{v:α}(h:xs[j]?=some v):atI xs (j:Int)=some v:=by
 have a:j<xs.length:=(GI.mp h).1;have e:ixN xs.length (j:Int)=some j:=by
  unfold ixN;rw[if_pos (by lia),if_pos (by lia)];simp
 unfold atI;rw[e];exact h
theorem jT{α:Type}(xs:List α)(v:α):atI (xs++[v]) (-1)=some v:=by
 have a:(xs++[v]).length=xs.length+1:=by simp
 have e:ixN (xs++[v]).length (-1)=some xs.length:=by
  unfold ixN;rw[a,if_neg (by decide),if_pos (by lia)]
  congr 1
  lia
 unfold atI;rw[e];show(xs++[v])[xs.length]?=some v;simp
def yA(b:Expr):Prop:=∀o i,subscripted b false o i=operate [o,i] (getItem o i)
def IxR(X:Cx)(r:R2):Prop :=
 ∀(c a:Expr)(b:List (Addr×Obj))(s:Shared)(d:St)(H:Hp)(x y:V)(v u:Value)(Q:VK),Inv X b d H s->RelV x v->RelV y u->r x y H Q ->
  subscripted a false v u=operate [v,u] (getItem v u)->wpAny (model X.prog X.w) X.A (subscriptTail c a v u) (EP X b d Q) X.xe s
def MtR(X:Cx)(e:String)(r:V->List V->Hp->VK->Prop):Prop :=
 ∀(a:List (Addr×Obj))(s:Shared)(b:St)(H:Hp)(x:V)(c:List V)(v:Value)(d:List Value)(Q:VK),Inv X a b H s->RelV x v->Vals c d->r x c H Q ->
  wpAny (model X.prog X.w) X.A (call (.builtin e) (v :: d)) (EP X a b Q) X.xe s
section
variable{a b:Expr}{ta tb:TE}{pos:Pos}
theorem aE{r:R2}(i:IxR X r)(k:PE X a ta)(j:PE X b tb)(g:yA b):PE X (.Subscript a b pos) (tOp r ta tb):=by
 intro c s d H Q I h;exact Subscript_ (Ag k j I h λv u s2 x y m l f e q=>i a b c s2 d m x y v u Q l f e q (g _ _))
inductive Ao(K:W.Frag)(x:V)(y:V)(H:Hp)(Q:VK):Prop
 |mk (p xs i v:_)(_:x=.ref p)(_:y=.int i)(_:SqL K H p xs)(_:atI xs i=some v)(_:Q v H)
inductive Ap(K:W.Frag)(x:V)(y:V)(H:Hp)(Q:VK):Prop
 |mk (p xs i v:_)(_:x=.ref p)(_:y=.int i)(_:SqT K H p xs)(_:atI xs i=some v)(_:Q v H)
inductive BN  (x:V)(y:V)(H:Hp)(Q:VK):Prop
 |mk (z i c:_)(_:x=.str z)(_:y=.int i)(_:z.length<=sizeLine)(_:atI z.cps.toList i=some c)(_:Q (.str ⟨#[c]⟩) H):BN x y H Q
theorem aG:IxR X (Ao X.K):=by
 intro k l a s m H x y v u Q I D C h n;obtain⟨p,N,i,z,rfl,rfl,E,G,q⟩:=h;cases D;obtain⟨t,rfl⟩:=C;obtain⟨g,r,d,O⟩:=I.list E;obtain⟨j,c,M,R,L,J⟩:=pI G;obtain⟨w,A,f⟩:=r.get M;have F:=r.length;have P:=jc;have b:EP X a m Q w s:=⟨z,H,I,f,q⟩;by_cases o:0<=i
 .have e:i.toNat=j:=by
   rw[seqIndex_of o J]at c;exact Option.some.inj c
  exact item_listR d.isList o (by lia) (by rw[e];simpa using A) b n
 .have e:(i+(g.toArray.size:Int)).toNat=j:=by
   rw[seqIndex_neg (by lia) L]at c;rw[dV,←F];exact Option.some.inj c
  exact subscriptTail_builtinR (x:=w) d.isList.typeIs slot_list_getitem.lookup
   (wpAny_getItem_list_neg (Q:=λr B=>r=w/\EP X a m Q r B) d.isList (by lia) (by rw[dV] <;> lia) (by lia) (by rw[e];simpa using A) ⟨U,b⟩) n
theorem bA:IxR X (Ap X.K):=by
 intro d e a s f H x y v u Q I m l h n;obtain⟨p,G,i,z,rfl,rfl,o,B,q⟩:=h;cases m;obtain⟨t,rfl⟩:=l;obtain⟨F,r,g,J⟩:=I.tuple o;obtain⟨j,D,C,O,N,M⟩:=pI B;obtain⟨w,E,b⟩:=r.get C;have A:=r.length;have L:=jc;have c:EP X a f Q w s:=⟨z,H,I,b,q⟩
 exact subscriptTail_builtinR (x:=w) g.typeIs slot_tuple_getitem.lookup
  (getItem_tuple (j:=j) (Q:=λr k=>r=w/\EP X a f Q r k) g (by lia) (by lia) (by rw[dV,←A];exact D) (by simpa using E) ⟨U,c⟩) n
theorem sE:IxR X BN:=by
 intro a b e s A H x y v u Q I g f h k;obtain⟨z,i,c,rfl,rfl,C,m,q⟩:=h;obtain⟨t,rfl⟩:=g;obtain⟨B,rfl⟩:=f;obtain⟨j,d,p,E,o,n⟩:=pI m;have l:z.cps.toList.length=z.length:=by simp[Str.length]
 rw[l]at d o n;have D:=jc;exact tail_any (typeIs_str s z t) slot_str_getitem.lookup (getItem_str (c:=c) (by
  have w:decide (i < -(2^63:Int))=false:=decide_eq_false (by lia);have r:decide (i ≥ 2^63)=false:=decide_eq_false (by lia);rw[w,r,Bool.or_false]) (by rw[d];simpa using p) ⟨.str ⟨#[c]⟩,H,I.tok _,⟨_,U⟩,q⟩) k
theorem sF(a:List Value)(n j:Nat)(u:Value):Obj.mapSeq (·.setIfInBounds j u) { cls:=.type "list",data:=.seq a.toArray n }={ cls:=.type "list",data:=.seq (a.set j u).toArray n }:=by
 simp[Obj.mapSeq]
theorem Inv.lst{b:List (Addr×Obj)}{c:St}{H:Hp}{s:Shared}{p:Addr}{xs:List V}(I:Inv X b c H s)(h:H p=some (.lst xs)) :
  ∃(a:List Value)(n:Nat),Vals xs a/\s.heap.get? p=some { cls:=.type "list",data:=.seq a.toArray n }/\xs.length<=sizeLine:=by
 obtain⟨z,a,n,r,e⟩:=I.hok p _ h;exact⟨a,n,r,e,z⟩
theorem Inv.lstUpd{a:List (Addr×Obj)}{g:St}{H:Hp}{s:Shared}{p:Addr}{xs ys:List V}{c its':List Value}{n d:Nat}{f:Obj->Obj}(I:Inv X a g H s)(h:H p=some (.lst xs))
  (i:s.heap.get? p=some { cls:=.type "list",data:=.seq c.toArray n }) (hf:f { cls:=.type "list",data:=.seq c.toArray n }={ cls:=.type "list",data:=.seq its'.toArray d }) (r:Vals ys its')(hz:ys.length<=sizeLine)(t:Nat) :
  Inv X a g (upd H p (.lst ys)) { s with heap:=s.heap.update p f,toks:=t }:=by
 have e:(s.heap.update p f).get? p=some { cls:=.type "list",data:=.seq its'.toArray d }:=by
  rw[Heap.get?_update_self f i (by rw[hf] <;> rfl),hf]
 refine I.write (x:=p) (e:=p) (by rw[h];trivial) (.inl U) (λb u j q=>(Heap.get?_update_other _ _ (Ne.symm j)).trans q) ⟨_,e⟩ ?_;exact⟨hz,its',d,r,e⟩
inductive zE  (o:V)(i:V)(v:V)(H:Hp)(Q:(Hp->Prop)):Prop
 |mk (p xs k j:_)(_:o=.ref p)(_:i=.int k)(_:H p=some (.lst xs))(_:ixN xs.length k=some j)(_:Q (upd H p (.lst (xs.set j v)))):zE o i v H Q
theorem set_list:By X zE:=by
 intro b s y H o i v F G u Q I B C A h;obtain⟨p,z,k,j,rfl,rfl,g,E,q⟩:=h;cases B;obtain⟨t,rfl⟩:=C;obtain⟨a,n,r,d,D⟩:=I.lst g;obtain⟨c,K,m,l⟩:=uh E;have e:=r.length;have J:=jc;have x:Inv X b y (upd H p (.lst (z.set j v))) { s with heap:=s.heap.update p (Obj.mapSeq (·.setIfInBounds j u)) } :=
  I.lstUpd g d (sF a n j u) (r.set A j) (by rw[wz];exact D) s.toks
 by_cases w:0<=k
 .have f:k.toNat=j:=by
   rw[seqIndex_of w l]at c;exact Option.some.inj c
  exact W.ki_setAt d w (by lia) (by rw[dV,←e];exact l) (by rw[f];exact⟨_,x,q⟩)
 .have f:(k+(a.toArray.size:Int)).toNat=j:=by
   rw[seqIndex_neg (by lia) m]at c;rw[dV,←e];exact Option.some.inj c
  exact W.ki_setBack d (by lia) (by rw[dV,←e];exact m) (by lia) (by rw[f];exact⟨_,x,q⟩)
theorem pJ(lo hi:Option Int)(n:Nat):(sliceBounds lo hi none n).1=((HT.sIx n 0 lo:Nat):Int)/\(sliceBounds lo hi none n).2.1=((HT.sIx n n hi:Nat):Int)/\(sliceBounds lo hi none n).2.2=1:=by
 refine⟨?_,?_,U⟩
 .cases lo with
  |none=>simp[sliceBounds,HT.sIx]
  |some i =>
   simp only[sliceBounds,HT.sIx,BW,show(1:Int)>0 by decide,if_true];by_cases h:i<0
   .simp only[h,if_true] <;> lia
   .simp only[h,if_false] <;> lia
 .cases hi with
  |none=>simp[sliceBounds,HT.sIx]
  |some i =>
   simp only[sliceBounds,HT.sIx,BW,show(1:Int)>0 by decide,if_true];by_cases h:i<0
   .simp only[h,if_true] <;> lia
   .simp only[h,if_false] <;> lia
theorem nV(a:List Value)(lo hi:Option Int):slicePick a.toArray lo hi none=((a.drop (HT.sIx a.length 0 lo)).take (HT.sIx a.length a.length hi-HT.sIx a.length 0 lo)).toArray:=by
 obtain⟨d,c,b⟩:=pJ lo hi a.toArray.size;unfold slicePick;rw[d,c,b];simp only[sliceRange_one,pick_run,dV] <;> rfl
inductive Aq(K:W.Frag)(x:V)(lo:Option Int)(hi:Option Int)(H:Hp)(Q:VK):Prop
 |mk (a xs:_)(_:x=.ref a)(_:SqL K H a xs)(_:∀p,H p=none->Q (.ref p) (upd H p (.lst (jS xs lo hi))))
theorem dR:SlR X (Aq X.K):=by
 intro f s p H x v u t lo hi w Q I g m j i h;obtain⟨a,c,rfl,l,q⟩:=h;cases g;obtain⟨n,r,e,k⟩:=I.list l;have d:=r.length;refine⟨"list",_,slot_list_getitem.lookup,e.isList.typeIs,?_⟩;refine wpAny_getItem_list_slice e.isList m j i .none (by simp) ?_ (by rw[dV] <;> lia);rw[nV,←d];refine⟨.ref s.heap.objs.size,_,I.laid (t':=s.toks) (o:=.lst (jS c lo hi)) (λb y q=>Heap.get?_push_of_some _ q) (w5 _) ?_,U,q _ (I.hok.fresh (w5 _))⟩;exact⟨yc (qE c lo hi) k,_,0,(r.drop (HT.sIx c.length 0 lo)).take (HT.sIx c.length c.length hi-HT.sIx c.length 0 lo),Heap.get?_push_size _ U⟩
def fh:V->Bool
 | .non=>true
 | .bl _=>true
 | .int _=>true
 | .str _=>true
 |_=>false
def eqV:V->V->Bool
 | .non,.non=>true
 | .bl a,.bl b=>a == b
 | .bl a,.int b=>(if a then 1 else 0) == b
 | .int a,.bl b=>a == (if b then 1 else 0)
 | .int a,.int b=>a == b
 | .str a,.str b=>a == b
 |_,_=>false
theorem sG{A:Around}{s:Shared}{y x:V}{u v:Value}(e:RelV y u)(c:RelV x v)(g:fh y=true)(f:fh x=true):SeqAt.EqAt A s u v (eqV y x):=by
 cases y with
 |non =>
  cases e;cases x with
  |non=>cases c;exact SeqAt.EqAt.same _
  |bl b=>cases c;exact SeqAt.EqAt.none_bool b
  |int b=>obtain⟨t,rfl⟩:=c;exact SeqAt.EqAt.none_int b t
  |str b=>obtain⟨t,rfl⟩:=c;exact SeqAt.EqAt.none_str b t
  |_=>exact absurd (show false=true from f) Bool.false_ne_true
 |bl a =>
  cases e;cases x with
  |non=>cases c;exact SeqAt.EqAt.bool_none a
  |bl b=>cases c;exact SeqAt.EqAt.bool_bool a b
  |int b=>obtain⟨t,rfl⟩:=c;exact SeqAt.EqAt.bool_int a b t
  |str b=>obtain⟨t,rfl⟩:=c;exact SeqAt.EqAt.bool_str a b t
  |_=>exact absurd (show false=true from f) Bool.false_ne_true
 |int a =>
  obtain⟨d,rfl⟩:=e;cases x with
  |non=>cases c;exact SeqAt.EqAt.int_none a d
  |bl b=>cases c;exact SeqAt.EqAt.int_bool a d b
  |int b=>obtain⟨t,rfl⟩:=c;exact SeqAt.EqAt.int_int a d b t
  |str b=>obtain⟨t,rfl⟩:=c;exact SeqAt.EqAt.int_str a d b t
  |_=>exact absurd (show false=true from f) Bool.false_ne_true
 |str a =>
  obtain⟨d,rfl⟩:=e;cases x with
  |non=>cases c;exact SeqAt.EqAt.str_none a d
  |bl b=>cases c;exact SeqAt.EqAt.str_bool a d b
  |int b=>obtain⟨t,rfl⟩:=c;exact SeqAt.EqAt.str_int a d b t
  |str b=>obtain⟨t,rfl⟩:=c;exact SeqAt.EqAt.str_str a d b t
  |_=>exact absurd (show false=true from f) Bool.false_ne_true
 |_=>exact absurd (show false=true from g) Bool.false_ne_true
theorem aw:dr X (.builtin "len") (λxs H Q=>∃p ys,xs=[.ref p]/\(SqL X.K H p ys\/SqT X.K H p ys)/\Q (.int ys.length) H):=by
 intro f s j H xs k Q I r h;obtain⟨p,ys,rfl,b,q⟩:=h;obtain⟨u,rfl,g⟩:=vals1 r;cases g;have l:=jc;rcases b with b|b
 .obtain⟨e,c,d,i⟩:=I.list b;have a:=c.length;exact Calls.call_len_list d.isList (by simp only[dV] <;> lia) ⟨.int ys.length,H,I.tok _,⟨s.toks+1,by rw[dV,a]⟩,q⟩
 .obtain⟨e,c,d,i⟩:=I.tuple b;have a:=c.length;exact len_tuple d (by simp only[dV] <;> lia) ⟨.int ys.length,H,I.tok _,⟨s.toks+1,by rw[dV,a]⟩,q⟩
theorem pK:dr X (.builtin "len") (λxs H Q=>∃z,xs=[.str z]/\z.length<=sizeLine/\Q (.int z.length) H):=by
 intro a s b H xs c Q I r h;obtain⟨z,rfl,d,q⟩:=h;obtain⟨u,rfl,t,rfl⟩:=vals1 r;have e:=jc;exact len_str (by lia) ⟨.int z.length,H,I.tok _,⟨_,U⟩,q⟩
theorem cn:dr X (.type "list") (λxs H Q=>∃p ys,xs=[.ref p]/\(SqL X.K H p ys\/SqT X.K H p ys)/\∀l,H l=none->Q (.ref l) (upd H l (.lst ys))):=by
 intro m s B H xs D Q I r h;obtain⟨p,ys,rfl,j,q⟩:=h;obtain⟨u,rfl,C⟩:=vals1 r;cases C
 have k:∀(a:List Value),Vals ys a->ys.length<=sizeLine->∀(c:Heap)(f:Nat),(∀b A,s.heap.get? b=some A->c.get? b=some A) ->
   c.get? s.heap.objs.size=some { cls:=.type "list",dict:=none,data:=.seq a.toArray f,slots:=#[] }->EP X m B Q (.ref s.heap.objs.size) { s with heap:=c }:=λa d i c f g e =>
  ⟨.ref s.heap.objs.size,_,I.laid (t':=s.toks) g (w5 _) (show cS X.prog X.w _ c _ (.lst ys) from⟨i,a,f,d,e⟩),U,q _ (I.hok.fresh (w5 _))⟩
 rcases j with j|j
 .obtain⟨a,d,v,i⟩:=I.list j;have t:=d.length;obtain⟨o,x,z,n,y⟩:=v.isList;exact call_list_seq p (.inl U) x z y (λc f g e=>k a d i c f g e) (by simp only[dV] <;> lia)
 .obtain⟨a,d,v,i⟩:=I.tuple j;have t:=d.length;obtain⟨o,x,z,n,y⟩:=v;exact call_list_seq p (.inr U) x z y (λc f g e=>k a d i c f g e) (by simp only[dV] <;> lia)
theorem nW:dr X (.type "tuple") (λxs H Q=>∃p ys,xs=[.ref p]/\((SqL X.K H p ys/\∀l,H l=none->Q (.ref l) (upd H l (.tup ys)))\/(SqT X.K H p ys/\Q (.ref p) H))):=by
 intro a s j H xs y Q I r h;obtain⟨p,ys,rfl,h⟩:=h;obtain⟨u,rfl,t⟩:=vals1 r;cases t;rcases h with⟨i,q⟩|⟨i,q⟩
 .obtain⟨c,f,g,k⟩:=I.list i;have n:=f.length;refine call_tuple_list g.isList (λd v=>?_) (by simp only[dV] <;> lia);have m:Inv X a j H { s with heap:=d }:=I.kept (t':=s.toks) v;have x:Inv X a j (upd H d.objs.size (.tup ys)) { s with heap:=d.push { cls:=.type "tuple",data:=.seq c.toArray } } :=
   m.laid (t':=s.toks) (λb o e=>Heap.get?_push_of_some _ e) (w5 _) (show cS X.prog X.w _ _ _ (.tup ys) from⟨k,c,f,IsTup.new _ _⟩)
  exact⟨.ref d.objs.size,_,x,U,q _ (m.hok.fresh (w5 _))⟩
 .obtain⟨c,f,g,k⟩:=I.tuple i;exact call_tuple_same g ⟨.ref p,H,I,U,q⟩
def tyV(K:W.Frag)(T:String)(x:V)(H:Hp):Prop:=match x with
 | .str _=>T = "str"
 | .int _=>T = "int"
 | .ref p=>(T = "list" /\ ∃b,SqL K H p b)\/(T = "tuple" /\ ∃o,K.lookup p=some o/\o.cls=.type "tuple" /\ o.dict=none) \/
   (T = "dict" /\ ((∃a,H p=some (.dK a))\/∃a,H p=some (.dT a)))\/(T = "set" /\ ∃S n,H p=some (.set S n))
 |_=>False
theorem Ar{f:List (Addr×Obj)}{m:St}{H:Hp}{s:Shared}{T:String}{x:V}{v:Value}(I:Inv X f m H s)(r:RelV x v)(ty:tyV X.K T x H) :
  s.TypeIs v T/\∀a,v=.ref a->∃l,s.heap.get? a=some l/\l.dict=none:=by
 cases x with
 |str z =>
  obtain⟨t,rfl⟩:=r;cases (show T = "str" from ty);exact⟨typeIs_str s z t,λ_ e=>nomatch e⟩
 |int i =>
  obtain⟨t,rfl⟩:=r;cases (show T = "int" from ty);exact⟨typeIs_int s i t,λ_ e=>nomatch e⟩
 |ref p =>
  cases r;rcases ty with⟨rfl,y,q⟩|⟨rfl,o,b,u,g⟩|⟨rfl,b⟩|⟨rfl,S,n,b⟩
  .obtain⟨w,_,k,_⟩:=I.list q;refine⟨k.isList.typeIs,λa e=>?_⟩;cases e;obtain⟨o,n,e,c,g,_⟩:=k;exact⟨o,e,g⟩
  .refine⟨⟨o,I.kIn p o b,u⟩,λa e=>?_⟩;cases e;exact⟨o,I.kIn _ o b,g⟩
  .have z:∃o,s.heap.get? p=some o/\o.ExactDict:=by
    rcases b with⟨j,b⟩|⟨j,b⟩
    .obtain⟨_,_,_,_,o,_,_,e,d,_⟩:=I.hok p _ b;exact⟨o,e,d⟩
    .obtain⟨_,_,_,_,o,_,_,e,d,_⟩:=I.hok p _ b;exact⟨o,e,d⟩
   obtain⟨o,e,d⟩:=z;refine⟨⟨o,e,d.1⟩,λa h=>?_⟩;cases h;exact⟨o,e,d.2.1⟩
  .obtain⟨o,_,_,_,e,d,_⟩:=I.hok p _ b;refine⟨⟨o,e,d.1⟩,λa h=>?_⟩;cases h;exact⟨o,e,d.2.1⟩
 |_=>exact False.elim ty
def tBM(K:W.Frag)(T:String)(r:V->List V->Hp->VK->Prop)(to:TE)(t:TA):TE:=λa H Q=>to a H λx b=>tyV K T x b/\t a b λc d=>r x c d Q
variable{o e:Expr}{es:List Expr}{to:TE}{t:TA}{name:Str}{apos sH:Pos}{T id:String}{r:V->List V->Hp->VK->Prop}
theorem eG(q:PlainAttrs T)(b:Slot T name id)(d:typeOf (.builtin id)=pure (.type "method_descriptor")) (hm:MtR X id r)(w:PE X o to)(y:PA X (e :: es) t)
  (G:attributeBase o name X.env (eval o X.env)=eval o X.env:=by rfl)
  (E:((backTo sH (starEach (e :: es) X.env)).all (λx=>!x.1) && (backToKw sH (keywordEach [] X.env)).all (λx=>x.1.isSome)
   && decide ((e :: es).length+([]:List Keyword).length+(if ([]:List Keyword).isEmpty then 0 else 1)<30))=true:=by rfl)
  (F:(apos.endLine == sH.line)=true:=by rfl)(u:starEach (e :: es) X.env=(false,eval e X.env) :: starEach es X.env:=by rfl)(J:(backTo sH (starEach es X.env)).any (·.1)=false:=by rfl) :
  PE X (.Call (.Attribute o name apos) (e :: es) [] sH) (tBM X.K T r to t):=by
 intro a s c H Q I h;refine wpAny_Call_method_late G E F U (thn (w a s c H _ I h) λv l ⟨x,D,i,f,ty,p⟩=>?_);obtain⟨A,z⟩:=Ar i f ty;refine⟨T,id,q,b,d,A,z,?_⟩;have g:=y sH a l c D _ i p;rw[u]at g⊢;refine Calls.callWith_builtin (by show(false || (backTo sH (starEach es X.env)).any (·.1))=false;rw[J] <;> rfl) (Calls.evalArgs_plain ?_);exact thn g λk s2 ⟨j,C,B,m,n⟩=>hm a s2 c C x j v k Q B f m n
end
def MtM(X:Cx)(e:String)(r:V->List V->Hp->VK->Prop):Prop :=
 ∀(a:List (Addr×Obj))(s:Shared)(b:St)(H:Hp)(x:V)(c:List V)(v:Value)(d:List Value)(Q:VK),Inv X a b H s->RelV x v->Vals c d->r x c H Q ->
  wpAny (model X.prog X.w) X.A (call (.builtin e) (v :: d)) (EP X a b Q) X.xe s
theorem Vals.one:∀{x:V}{us:List Value},Vals [x] us->∃u,us=[u]/\RelV x u
 |_,_,.cons r .nil=>⟨_,U,r⟩
theorem Vals.two:∀{x y:V}{us:List Value},Vals [x,y] us->∃u v,us=[u,v]/\RelV x u/\RelV y v
 |_,_,_,.cons r (.cons q .nil)=>⟨_,_,U,r,q⟩
theorem Vals.reverse{xs:List V}{us:List Value}(h:Vals xs us):Vals xs.reverse us.reverse:=by
 induction h with
 |nil=>exact .nil
 |cons r t a=>rw[rr,rr];exact Vals.append a (.cons r .nil)
section
variable{pins:List (Addr×Obj)}{σ:St}{H:Hp}{s:Shared}{l b:Addr}{xs ys zs:List V}
theorem Inv.lset{a its':List Value}{n:Nat}{f:Array Value->Array Value}{t':Nat}(I:Inv X pins σ H s)(g:H l=some (.lst xs))
  (e:s.heap.get? l=some { cls:=.type "list",data:=.seq a.toArray n }) (hf:f a.toArray=its'.toArray)(b:Vals ys its')(hz:ys.length<=sizeLine) :
  Inv X pins σ (upd H l (.lst ys)) { s with heap:=s.heap.update l (Obj.mapSeq f),toks:=t' }:=by
 have q:=PySem.IsL.update e f;rw[hf]at q;refine I.write (x:=l) (e:=l) (by rw[g];exact trivial) (.inl U) (λh u d c=>(Heap.get?_update_other s.heap (Obj.mapSeq f) (Ne.symm d)).trans c) ⟨_,q⟩ ?_;exact⟨hz,its',_,b,q⟩
theorem Inv.lnew{a:List Value}{t':Nat}(I:Inv X pins σ H s)(b:Vals ys a)(hz:ys.length<=sizeLine) :
  Inv X pins σ (upd H s.heap.objs.size (.lst ys)) { s with heap:=s.heap.push { cls:=.type "list",data:=.seq a.toArray },toks:=t' } :=
 I.laid (λ_ _ q=>Heap.get?_push_of_some _ q) (w5 _) ⟨hz,a,0,b,Heap.get?_push_size _ U⟩
theorem Inv.fresh(I:Inv X pins σ H s):H s.heap.objs.size=none:=I.hok.fresh (w5 _)
theorem Inv.lstM(I:Inv X pins σ H s)(b:H l=some (.lst xs)):xs.length<=sizeLine/\∃(a:List Value)(n:Nat),Vals xs a/\xs.length=a.length/\s.heap.get? l=some { cls:=.type "list",data:=.seq a.toArray n }:=by
 obtain⟨z,a,n,r,e⟩:=I.hok l _ b;exact⟨z,a,n,r,r.length,e⟩
theorem wq{n:Nat}(h:n<=sizeLine):Builtin.List.listTooLong n=false:=by
 unfold Builtin.List.listTooLong;exact decide_eq_false (by lia)
end
inductive ui  (x:V)(vs:List V)(H:Hp)(Q:VK):Prop
 |mk (l xs y:_)(_:x=.ref l)(_:vs=[y])(_:H l=some (.lst xs))(_:xs.length<sizeLine)(_:Q .non (upd H l (.lst (xs++[y])))):ui x vs H Q
theorem bg:MtM X "list.append" ui:=by
 intro c s i H x k v m Q I d f h;obtain⟨l,j,y,rfl,rfl,b,o,q⟩:=h;cases d;obtain⟨u,rfl,g⟩:=f.one;obtain⟨z,a,n,r,p,e⟩:=I.lstM b;refine call_meets F.slot_list_append ⟨_,e,U⟩ F.entry_list_append (F.args_list_append_2 _ _) (PySem.list_append l a.toArray n u (by rw[dV];lia)) ⟨e,?_⟩;refine⟨.non,_,I.lset (its':=a++[u]) b e (by simp) (r.append (.cons g .nil)) ?_,U,q⟩;rw[cK,gI];lia
inductive uj  (x:V)(vs:List V)(H:Hp)(Q:VK):Prop
 |mk (l b xs zs:_)(_:x=.ref l)(_:vs=[.ref b])(_:H l=some (.lst xs))(_:H b=some (.lst zs))(_:xs.length+zs.length<=sizeLine)(_:Q .non (upd H l (.lst (xs++zs)))):uj x vs H Q
theorem uN:MtM X "list.extend" uj:=by
 intro g s A H x E v G Q I i j h;obtain⟨l,b,D,B,rfl,rfl,f,p,J,q⟩:=h;cases i;obtain⟨u,rfl,k⟩:=j.one;cases k;obtain⟨z,a,n,r,K,e⟩:=I.lstM f;obtain⟨C,c,o,m,y,t⟩:=I.lstM p;have d:a.toArray.size+c.toArray.size<=sizeLine:=by rw[dV,dV];lia
 have w:¬ (!a.toArray.isEmpty && Builtin.List.listTooLong (a.toArray.size+c.toArray.size))=true:=by
  rw[wq d,Bool.and_false];exact Bool.false_ne_true
 refine call_meets F.slot_list_extend ⟨_,e,U⟩ F.entry_list_extend (F.args_list_extend_2 _ _)
  (AutoSeq1.list_extend_list_list_0 l a.toArray n b c.toArray o w (by rw[dV];lia) (by lia)) ⟨e,t,?_⟩
 refine⟨.non,_,I.lset (its':=a++c) f e (by simp) (r.append m) ?_,U,q⟩;rw[cK];lia
inductive BR  (x:V)(y:V)(H:Hp)(Q:VK):Prop
 |mk (l b xs zs:_)(_:x=.ref l)(_:y=.ref b)(_:H l=some (.lst xs))(_:H b=some (.lst zs))(_:xs.length+zs.length<=sizeLine)(_:∀p,H p=none->Q (.ref p) (upd H p (.lst (xs++zs)))):BR x y H Q
theorem dJ:OpR X (binaryOp .Add) BR:=by
 intro d s t H x y v u Q I g f h;obtain⟨l,b,B,w,rfl,rfl,j,k,D,q⟩:=h;cases g;cases f;obtain⟨z,a,n,r,E,e⟩:=I.lstM j;obtain⟨A,c,C,i,p,o⟩:=I.lstM k;refine PySem.P.add_list e o ?_ (by rw[dV,dV];lia);have m:a.toArray++c.toArray=(a++c).toArray:=by simp
 rw[m];exact⟨.ref _,_,I.lnew (t':=s.toks) (r.append i) (by rw[cK];lia),U,q _ I.fresh⟩
section
variable{prog:Program}{w:World}{A:Around}{E:Value->Shared->Prop}{s:Shared}
end
end L2
namespace Att
open PySem PySem.W PySem.Calls PyProof.Rows
theorem lJ{P:Params}{h:Heap}:∀(c:List Int)(vs:List Value),WellAll P h vs (c.map WData.int)->IntsAre vs c:=by
 intro c;induction c with
 |nil =>
  intro vs w;rw[rE]at w;cases w;exact .nil
 |cons n c d =>
  intro vs w;rw[kU]at w;cases w with
  |cons a b =>
   cases a;exact .cons _ _ (d _ b)
theorem uO{l:OpenLaw}{n:Nat}(u:l.most=some n){P:Params}{h:Heap}{args:List WData}{c:List Value}
  (k:l.row.toRowW.claim.pre args=true)(i:WellAll P h c args) :
  ∃a vs b,c=[Value.ref a]/\args=[WData.list (b.map WData.int)]/\h.get? a=some { cls:=.type "list",data:=.seq vs.toArray }/\IntsAre vs b/\b.length<=n:=by
 have j:WShape.hasAll [] args [.list .int]=true:=(pre_splitW k).1;have m:l.pre.holds [] { args:=args }=true:=(pre_splitW k).2;obtain⟨d,r,rfl,x,w⟩:=hasAllW_cons j;obtain rfl:=hasAllW_nil w;obtain⟨z,rfl,v⟩:=hasW_list x;obtain⟨b,rfl⟩:=items_int v;have e:b.length<=n:=by
  unfold OpenLaw.pre at m;have g:(WTm.not (.lt (.lit (.int (n:Int))) (.len (.arg 0)))).holds [] { args:=[.list (b.map .int)] }=true:=by
   have g:=(holds_andW m).1;rw[u]at g;exact g
  have f:=condW_of g (w_not (w_lt w_lit (w_len_list (w_arg rfl))));rw[bx]at f;refine Nat.le_of_not_lt λq=>?_
  have s:(n:Int)<((b.length:Nat):Int):=by lia
  first
   |(rw[decide_eq_true s]at f;exact absurd f (by decide))
   |(simp at f;lia)
 cases i with
 |cons p o =>
  cases o;cases p with
  |list t y=>exact⟨_,_,b,rfl,rfl,t,lJ b _ y,e⟩
theorem uP(l:OpenLaw)(args:List WData):l.row.toRowW.claim.post args (.bool true) args=true :=
 postW_of (r:=l.row.toRowW) (X:=(true == true))
  (show WShape.has [] (.bool true) .bool=true by first|rfl|decide|simp[WShape.has,WShape.arms,WShape.armsAll])
  (show(WTm.eq .res (.lit (.bool true))).value [] { args:=args,res:=some (.bool true),after:=args }=some (.bool (true == true))from w_eq_bool (w_res rfl) w_lit) rfl
theorem attach_call{l:OpenLaw}{n:Nat}{q:Program}{e:List Str}{XP:(Str->Option Value)->Heap->Prop}{y:World->Heap->Prop}{d:DefRec}
  (E:l.most=some n)(u:d.params.defaults=[])
  (call:∀(w:World)(c b:Shared)(k p:Str->Option Value)(h:Addr)(o:Obj)(pm m doc:Value)(a:Addr)(vs:List Value)(j:List Int),
   Ground q e [] XP w c k p b.heap->y w b.heap ->
   b.heap.get? h=some o->o.data=.func (docDef d.name d.params d.body d.scope pm m doc)->b.heap.CodeRec m d.name->k d.name=some (.ref h) ->
   b.heap.get? a=some { cls:=.type "list",data:=.seq vs.toArray }->IntsAre vs j->j.length<=n->b.gens = #[] ->
   codeAny (model l.prog w) callerA (.call (.ref h) ⟨[.ref a],[]⟩) (λr s'=>r=.ok (.ret (.bool true))/\OldK b.heap s'.heap/\s'.os=b.os/\AllBare s'.gens) b) :
  WalkO q e XP y l.row.toRowW d [] (λf vs=>PySem.call f vs):=by
 intro w c b k p G Y h o pm m doc M kV D I v x t H A z Q B R O s P;obtain rfl:M=.none:=Dflts.none x u;obtain rfl:kV=.none:=Dflts.noKw x;obtain⟨a,vs,j,rfl,rfl,N,g,i⟩:=uO E B s;refine enter_call (codeAny_mono (call w c b k p h o pm m doc a vs j G Y D (fd_plain I) v t N g i H) λr s' C=>?_);obtain⟨rfl,L,K,J⟩:=C;exact⟨.inl ⟨.bool true,.bool true,[],rfl,λ_=>rfl,.bool true,uP l _,λ_=>⟨List.Pairwise.nil,λ_ F=>(nomatch F)⟩⟩,L,K,J⟩
section
variable{prog:Program}{w:World}{A:Around}{E:Value->Shared->Prop}{s:Shared}{K:Frag}
end
end Att
namespace L2
open PySem PySem.Spec PyProof.Rows
theorem oJ:∀{vs:List Value}{a:List Int},IntsAre vs a->Vals (a.map V.int) vs
 |_,_,.nil=>.nil
 |_,_,.cons n t h=>.cons ⟨t,U⟩ (oJ h)
def Gm(H:Hp):Prop:=∀b,H b=none\/∃o a,H b=some (.frz o (.lst a))
def inClass(s:Stmt)(j:Nat):Stmt:=match s with
 | .ClassDef _ _ _ body _ _ _ _ _ _ _=>body.getD j (.Pass ⟨0,0,0,0⟩)
 |_=>.Pass ⟨0,0,0,0⟩
def gk(s:Stmt):Arguments:=match s with
 | .FunctionDef _ a _ _ _ _ _ _ _ _=>a
 |_=>{ posonlyargs:=[],args:=[],vararg:=none,kwonlyargs:=[],kw_defaults:=[],kwarg:=none,defaults:=[] }
def du(s:Stmt):List Stmt:=match s with
 | .FunctionDef _ _ b _ _ _ _ _ _ _=>b
 |_=>[]
def ak(s:Stmt):Scope:=match s with
 | .FunctionDef _ _ _ _ _ _ sc _ _ _=>sc
 |_=>{ kind:=.function,names:=[],isGenerator:=false,isCoroutine:=false }
abbrev CX0:CXT:=λ_ _ _ _ _ _=>False
abbrev E0:XK:=λ_ _ _=>False
theorem bM{X:Cx}:Passes CX0 X E0:=λ_ _ _ _ _ _ _ h=>h.elim
structure Fun(K:W.Frag)(x qual:Str)(st:Stmt)(f:Addr)(fd:FuncData):Prop where
 ex:∃(oc:Value)(od:Option Addr)(kV doc pm:Value)(an:Option Addr)(cdv ct:Value)(osl:Array (Option Value)),
  fd=W.fnOf x qual (gk st) (du st) (ak st) .none kV doc pm an cdv ct/\K.lookup f=some ⟨oc,od,.func fd,osl⟩/\W.codeIn K cdv qual=true
 kp:W.keepIn K (.ref f)=true
section
variable{P:Program}{w:World}{K:W.Frag}{mg:Str->Option Value}{base:Heap}
theorem Fun.ok{x qual:Str}{st:Stmt}{f:Addr}{g:FuncData}{N ps:List Str}{k:Nat}{sp:Sp}(F:Fun K x qual st f g)(S:ao N ps (ak st))(c:∀vs H Q E,sp vs H Q E->vs.length=ps.length)
  (l:∀(b:Value)(A:Around)(a:List Env)(s:Shared)(H:Hp)(vs:List V)(Q:VK)(E:XK),bP k (A.deeper (envOfC qual (ak st) s.heap.objs.size f b))->sp vs H Q E ->
   ∃t,PSs (qC CX0 P w K mg base N qual (ak st) f b A a s H E).nox (du st) t/\t { nx:=λ_ H'=>Q .non H',rt:=Q } (start N vs) H):aL P w K mg base CX0 (k+1) f g ps sp:=by
 obtain⟨r,p,kV,n,o,v,b,u,m,rfl,i,e⟩:=F.ex;refine zC i e S c λA a s H vs Q E j d=>?_
 obtain⟨t,h,q⟩:=l b A a s H vs Q E j d;exact⟨t,h.nox,q⟩
theorem Fun.binds{x qual:Str}{st:Stmt}{f:Addr}{d:FuncData}{ps:List Str}(F:Fun K x qual st f d)
  (h:∀(kV doc pm:Value)(c:Option Addr)(a b:Value)(us:List Value),us.length=ps.length->bindArgs (W.fnOf x qual (gk st) (du st) (ak st) .none kV doc pm c a b) ⟨us,[]⟩=pure (ps.zip us)):Binds K d ps []:=by
 obtain⟨j,i,kV,doc,pm,c,a,b,e,rfl,k,g⟩:=F.ex;exact .all (h kV doc pm c a b)
theorem fun_mk{x qual:Str}{st:Stmt}{f:Addr}{h:Value}{g e:Option Addr}{b:Array (Option Value)}{kV doc pm a d:Value}(l:K.lookup f=some ⟨h,g,.func (W.fnOf x qual (gk st) (du st) (ak st) .none kV doc pm e a d),b⟩)
  (c:W.codeIn K a qual=true)(k:W.keepIn K (.ref f)=true):Fun K x qual st f (W.fnOf x qual (gk st) (du st) (ak st) .none kV doc pm e a d):=⟨⟨h,g,kV,doc,pm,e,a,d,b,U,l,c⟩,k⟩
end
theorem ax{n:Nat}(h:n<=1000):n<sizeLine:=zl h (by decide)
variable{X:Cx}
theorem pv(i:Nat){x:Str}{pos:Pos}(d:X.N[i]?=some x:=by rfl)(b:Vis X.env.scope x:=by first|exact Or.inl U|exact Or.inr (Or.inl U)|exact Or.inr (Or.inr U))(c:(x == ("__debug__" : Str))=false:=by decide)
  (a:(x == ("__classdict__" : Str))=false:=by decide):PE X (.Name x pos) (Ab i):=rT d b c a
theorem bR{A B:Prop}(h:B):if false=true then A else B:=by
 rw[if_neg Bool.false_ne_true];exact h
theorem eJ{A B:Prop}(h:A):if true=true then A else B:=by
 rw[if_pos U];exact h
theorem bG{c A B:Prop} [Decidable c] (b:c->A)(a:¬ c->B):if c then A else B:=by
 by_cases h:c
 .rw[if_pos h];exact b h
 .rw[if_neg h];exact a h
theorem zF{c A B:Prop} [Decidable c] (a:c)(h:B):if (!decide c)=true then A else B:=by
 rw[decide_eq_true a];exact bR h
def aq(H H':Hp):Prop:=∀b o,H b=some o->H' b=some o
theorem aq.refl(H:Hp):aq H H:=λ_ _ h=>h
theorem aq.trans{H e d:Hp}(a:aq H e)(b:aq e d):aq H d:=λc o h=>b c o (a c o h)
theorem aq.free{H H':Hp}(e:aq H H'){l:Addr}(h:H' l=Option.none):H l=Option.none:=by
 cases q:H l with
 |none=>rfl
 |some o =>
  rw[e l o q]at h;cases h
theorem aq.seq{K:W.Frag}{H H':Hp}{a:Addr}{xs:List V}(e:aq H H')(h:SqL K H a xs):SqL K H' a xs:=by
 rcases h with(h|⟨o,h⟩)|h
 .exact .inl (.inl (e _ _ h))
 .exact .inl (.inr ⟨o,e _ _ h⟩)
 .exact .inr h
set_option maxHeartbeats 4000000
abbrev Pr:=Int×Int
def inR(n:Int)(p:Pr):Bool:=decide (p.1<=n) && decide (n<=p.2)
def inP(ps:List Pr)(n:Int):Bool:=ps.any (inR n)
structure Apart(R:List Pr):Prop where
 le:∀p∈R,p.1<=p.2
 gap:R.Pairwise λp q=>p.2+2<=q.1
theorem qF(R:List Pr)(p:Pr)(n:Int):inP (R++[p]) n=(inP R n || inR n p):=by
 unfold inP;rw[List.any_append];simp
structure Gn(R qs:List Pr):Prop where
 ap:Apart R
 mem:∀n,inP R n=inP qs n
 cov:∀p∈qs,p.1<=p.2->∃r∈R,r.1<=p.1/\p.2<=r.2
 low:∀r∈R,∃q∈qs,r.1=q.1
def Callee(P:Program)(w:World)(K:W.Frag)(b:Str->Option Value)(a:Heap)(k:Nat)(x:Str)(ps:List Str)(sp:Sp):Prop :=
 ∃f c,aL P w K b a CX0 k f c ps sp/\Binds K c ps []/\W.keepIn K (.ref f)=true/\b x=some (.ref f)
theorem Callee.mono{P:Program}{w:World}{K:W.Frag}{b:Str->Option Value}{a:Heap}{j k:Nat}{x:Str}{ps:List Str}{sp:Sp}(C:Callee P w K b a j x ps sp)(h:j<=k):Callee P w K b a k x ps sp:=by
 obtain⟨f,c,F,r⟩:=C;exact⟨f,c,F.mono h,r⟩
variable{pos:Pos}
section
variable{k:Nat}{x:Str}{ps:List Str}{sp:Sp}{e:Expr}{es:List Expr}{t:TA}{p:Pos}
def tFn(sp:Sp)(t:TA):TE:=λa H Q=>t a H λb c=>sp b c Q E0
theorem aI(C:Callee X.prog X.w X.K X.mg X.base k x ps sp)(o:bP k X.A)(r:Gl X x)(u:PA X (e :: es) t)(j:(x == ("__debug__" : Str))=false:=by decide)
  (he:starEach (e :: es) X.env=(false,eval e X.env) :: starEach es X.env:=by rfl)(i:(backTo pos (starEach es X.env)).any (·.1)=false:=by rfl):PE X (.Call (.Name x p) (e :: es) [] pos) (tFn sp t):=by
 obtain⟨f,y,F,b,n,m⟩:=C;have h:=yw (E:=E0) (dvs:=[]) (ds:=[]) (p:=p) F o r m n b .nil bM u j he i;intro d s g H Q I q;refine h d s g H Q I ?_;have l:t g H λa c=>sp a c Q E0:=q
 have v:(λ(a:List V)(c:Hp)=>sp (a++[]) c Q E0)=λa c=>sp a c Q E0:=by
  funext a c
  rw[jt]
 show t g H λa c=>sp (a++[]) c Q E0
 rw[v];exact l
end
def Dp(t u:TS):TS:=λD c H=>∃M:St->Hp->Prop,t { D with nx:=M } c H/\∀a b,M a b->u D a b
theorem aN{X:Cx}{st:Stmt}{rest:List Stmt}{t u:TS}(i:PS X st t)(h:PSs X rest u):PSs X (st :: rest) (Dp t u):=by
 intro c s f H D I ⟨M,a,b⟩;refine wpAny_execs_cons (thn (i c s f H { D with nx:=M } I a) λfl g q=>?_);cases fl with
 |next=>obtain⟨d,e,j,q⟩:=q;exact h c g d e D j (b d e q)
 |ret v=>exact q
 |brk=>exact q
 |cont=>exact q
inductive EqI(K:W.Frag)(H:Hp):V->V->Bool->Prop where
 |flat {x y:V}(fx:fh x=true)(fy:fh y=true):EqI K H x y (eqV x y)
 |same (a:Addr):EqI K H (.ref a) (.ref a) true
 |tup {a b:Addr}{xs ys:List V}(ha:SqT K H a xs)(hb:SqT K H b ys)(fx:xs.all fh=true)(fy:ys.all fh=true):EqI K H (.ref a) (.ref b) (decide (xs.length=ys.length) && (List.zipWith eqV xs ys).all id)
theorem qG:∀{x:V},fh x=true->eqV x x=true
 | .non,_=>rfl
 | .bl b,_=>by simp[eqV]
 | .int i,_=>by simp[eqV]
 | .str z,_=>by simp[eqV]
theorem mn:∀{xs:List V},xs.all fh=true->(List.zipWith eqV xs xs).all id=true
 | [],_=>rfl
 |x :: xs,h=>by
  rw[nS,AI]at h;rw[List.zipWith_cons_cons,nS,mn h.2,Bool.and_true];exact qG h.1
theorem iX{f:Nat->Bool}:∀{xs ys:List V},(∀j x y,xs[j]?=some x->ys[j]?=some y->f j=eqV x y)->(List.range (min xs.length ys.length)).all f=(List.zipWith eqV xs ys).all id
 | [],ys,_=>by simp
 |x :: xs,[],_=>by simp
 |x :: xs,y :: ys,h=>by
  have c:=iX (f:=λj=>f (j+1)) (xs:=xs) (ys:=ys) λj a b g e=>h (j+1) a b (by simpa using g) (by simpa using e)
  have i:=h 0 x y U U;have d:min (x :: xs).length (y :: ys).length=min xs.length ys.length+1:=by simp only[ik];lia
  rw[d,List.range_succ_eq_map,nS,List.zipWith_cons_cons,nS,List.all_map,i];show(eqV x y && (List.range (min xs.length ys.length)).all (λj=>f (j+1)))=_;rw[c];rfl
section
variable{pins:List (Addr×Obj)}{σ:St}{H:Hp}{s:Shared}
theorem EqI.at{A:Around}{x y:V}{u v:Value}{b:Bool}(e:EqI X.K H x y b)(I:Inv X pins σ H s)(W:A.units+1<cLine)(l:RelV x u)(k:RelV y v):SeqAt.EqAt A s u v b:=by
 cases e with
 |flat i m=>exact sG l k i m
 |same a =>
  cases (show u=Value.ref a from l);cases (show v=Value.ref a from k);exact SeqAt.EqAt.same _
 | @tup a b xs ys ha hb i m =>
  cases (show u=Value.ref a from l);cases (show v=Value.ref b from k);by_cases z:a=b
  .subst z;have e:=I.tuple_inj ha hb;subst e;rw[mn i,decide_eq_true U];exact SeqAt.EqAt.same _
  .obtain⟨d,r,p,_⟩:=I.tuple ha;obtain⟨c,q,D,_⟩:=I.tuple hb;have F:=r.length;have E:=q.length;have M:=SeqAt.RcAt.tuples (A:=A) (e:=λj=>match d[j]?,xs[j]?,ys[j]? with|_,some x,some y=>eqV x y|_,_,_=>false) (show s.heap.IsTuple a d.toArray from p) (show s.heap.IsTuple b c.toArray from D) (by lia) (λj f L=>by
    have J:j<d.length:=by simpa using f
    have G:j<c.length:=by simpa using L
    have o:xs[j]?=some xs[j]:=GH (by lia);have n:ys[j]?=some ys[j]:=GH (by lia);obtain⟨w,h,C⟩:=r.get o;obtain⟨t,g,B⟩:=q.get n;have Q:d.toArray[j]=w:=by
     have:=GH J;rw[this]at h;simpa using Option.some.inj h
    have P:c.toArray[j]=t:=by
     have:=GH G;rw[this]at g;simpa using Option.some.inj g
    rw[Q,P];rw[o,n];have O:fh xs[j]=true:=jq.mp i _ (lI _);have N:fh ys[j]=true:=jq.mp m _ (lI _);exact sG C B O N)
   have f:=SeqAt.EqAt.of_refs z M;have T:((List.range (min d.toArray.size c.toArray.size)).all λj=>match d[j]?,xs[j]?,ys[j]? with|_,some x,some y=>eqV x y|_,_,_=>false)=(List.zipWith eqV xs ys).all id:=by
    have R:min d.toArray.size c.toArray.size=min xs.length ys.length:=by simp only[dV];lia
    rw[R];exact iX λj x y h g=>by rw[h,g]
   rw[T]at f;have S:(d.toArray.size == c.toArray.size)=decide (xs.length=ys.length):=by
    simp only[dV,←F,←E];exact Bool.beq_eq_decide_eq _ _
   rw[S,Bool.and_comm]at f;exact f
end
inductive wt(K:W.Frag)(neg:Bool)(x:V)(y:V)(H:Hp)(Q:VK):Prop
 |mk (a b xs ys:_)(_:x=.ref a)(_:y=.ref b)(_:SqL K H a xs)(_:SqL K H b ys)(_:((xs.length≠ys.length/\Q (.bl neg) H)\/(xs.length=ys.length/\∃f:Nat->Bool,(∀j x y,xs[j]?=some x->ys[j]?=some y->EqI K H x y (f j))/\Q (.bl (if neg then !(List.range xs.length).all f else(List.range xs.length).all f)) H)))
theorem pL{b:List (Addr×Obj)}{l:St}{H:Hp}{s:Shared}{A:Around}{xs ys:List V}{a its':List Value}{f:Nat->Bool}(I:Inv X b l H s)(u:A.units+1<cLine)(r:Vals xs a)(e:Vals ys its')
  (hf:∀j x y,xs[j]?=some x->ys[j]?=some y->EqI X.K H x y (f j)):∀j (k:j<a.toArray.size)(i:j<its'.toArray.size),SeqAt.EqAt A s a.toArray[j] its'.toArray[j] (f j):=λj k i=>by
 have t:j<a.length:=by simpa using k
 have q:j<its'.length:=by simpa using i
 have B:=r.length;have z:=e.length;have d:xs[j]?=some xs[j]:=GH (by lia);have c:ys[j]?=some ys[j]:=GH (by lia);obtain⟨n,h,p⟩:=r.get d;obtain⟨m,g,o⟩:=e.get c;have w:a.toArray[j]=n:=by
  have:=GH t;rw[this]at h;simpa using Option.some.inj h
 have v:its'.toArray[j]=m:=by
  have:=GH q;rw[this]at g;simpa using Option.some.inj g
 rw[w,v];exact(hf j _ _ d c).at I u p o
theorem Av{k:Nat}(o:bP k X.A):OpR X (compareOp .Eq) (wt X.K false):=by
 intro i s B H x y v u Q I n m h;obtain⟨a,b,l,C,rfl,rfl,z,w,h⟩:=h;cases (show v=Value.ref a from n);cases (show u=Value.ref b from m);obtain⟨c,r,p,_⟩:=I.list z;obtain⟨j,d,g,_⟩:=I.list w;have E:=r.length;have D:=d.length;have F:=o.units;rcases h with⟨G,q⟩|⟨J,f,t,q⟩
 .refine SeqAt.eq_list_lengthsAt p.isList g.isList (by simp only[dV,bne_iff_ne,ne_eq];lia) (by lia) ⟨.bl false,H,I,U,q⟩
 .refine SeqAt.eq_listAt (e:=f) p.isList g.isList (by simp only[dV];lia) (by lia) (pL I (by show X.A.units+1+1<cLine;lia) r d t) ⟨.bl _,H,I,U,?_⟩;rw[show c.toArray.size=l.length by simp only[dV];lia];exact q
theorem Aw{k:Nat}(o:bP k X.A):OpR X (compareOp .NotEq) (wt X.K true):=by
 intro i s C H x y v u Q I n m h;obtain⟨a,b,l,D,rfl,rfl,B,z,h⟩:=h;cases (show v=Value.ref a from n);cases (show u=Value.ref b from m);obtain⟨c,r,p,_⟩:=I.list B;obtain⟨j,d,g,_⟩:=I.list z;have F:=r.length;have E:=d.length;have G:=o.units;rcases h with⟨J,q⟩|⟨L,f,t,q⟩
 .refine SeqAt.RcNeAt.lists_lengths p.isList g.isList (by simp only[dV,bne_iff_ne,ne_eq];lia) (by lia) X.prog X.w X.xe _ ⟨.bl true,H,I,U,q⟩
 .refine SeqAt.RcNeAt.lists (e:=f) p.isList g.isList (by simp only[dV];lia) (by lia) (pL I (by show X.A.units+1+1<cLine;lia) r d t) X.prog X.w X.xe _ ⟨.bl _,H,I,U,?_⟩;rw[show c.toArray.size=l.length by simp only[dV];lia];exact q
theorem uQ{K:W.Frag}{H:Hp}{Q:VK}{a b:Addr}{xs:List V}(f:SqL K H a xs)(e:SqL K H b xs)(fl:∀x∈xs,fh x=true\/∃r,x=.ref r)(q:Q (.bl false) H):wt K true (.ref a) (.ref b) H Q:=by
 refine⟨a,b,xs,xs,U,U,f,e,.inr ⟨U,λ_=>true,λj x y d c=>?_,?_⟩⟩
 .rw[d]at c;cases c;rcases fl x (GJ d)with z|⟨r,rfl⟩
  .have:=EqI.flat (K:=K) (H:=H) z z;rw[qG z]at this;exact this
  .exact .same r
 .have:(List.range xs.length).all (λ_=>true)=true:=by simp
  rw[this];exact q
def cb(H H':Hp):Prop:=∀b a,H b=some (.tup a)->H' b=some (.tup a)
theorem aq.tups{H H':Hp}(h:aq H H'):cb H H':=λb a e=>h b _ e
theorem cb.trans{H g f:Hp}(a:cb H g)(b:cb g f):cb H f:=λc d e=>b c d (a c d e)
theorem iE{H:Hp}{p:Addr}{o:HO}(h:H p=none):cb H (upd H p o):=λb a e=>by rw[ay (bf e h)];exact e
theorem aQ{H:Hp}{p:Addr}{o:HO}{ys:List V}(h:H p=some (.lst ys)):cb H (upd H p o):=λb a e=>by rw[ay (dS e h (by intro z;cases z))];exact e
theorem af{H:Hp}{p:Addr}(h:H p=none)(o:HO):aq H (upd H p o):=λb u q=>by rw[ay (bf q h)];exact q
theorem aq.upd{H H':Hp}{p:Addr}{o:HO}(s:aq H H')(h:H p=none):aq H (upd H' p o):=λb u q=>by rw[ay (bf q h)];exact s b u q
def PL(H:Hp):List V->List (Int×Int)->Prop:=Paired λx p=>∃r,x=.ref r/\H r=some (.tup [.int p.1,.int p.2])
theorem PL.mono{H H':Hp}{xs:List V}{ps:List (Int×Int)}(h:PL H xs ps)(s:cb H H'):PL H' xs ps:=Paired.mapP h λ_ _ ⟨r,e,z⟩=>⟨r,e,s r _ z⟩
theorem PL.get{H:Hp}:∀{xs:List V}{ps:List (Int×Int)}{i:Nat}{x:V},PL H xs ps->xs[i]?=some x->∃p r,ps[i]?=some p/\x=.ref r/\H r=some (.tup [.int p.1,.int p.2])
 |_,_,_,_,.nil,e=>by simp at e
 |_,_,0,_,.cons (b:=b) ⟨r,e1,z⟩ _,e=>by simp at e;subst e;exact⟨b,r,U,e1,z⟩
 |_,_,i+1,x,.cons _ t,e=>by
  obtain⟨p,r,q⟩:=PL.get (i:=i) (x:=x) t (by simpa using e);exact⟨p,r,by simpa using q.1,q.2⟩
theorem PL.length{H:Hp}{xs:List V}{ps:List (Int×Int)}(h:PL H xs ps):xs.length=ps.length:=Paired.length h
theorem PL.snoc{H:Hp}{xs:List V}{ps:List (Int×Int)}{r:Addr}{a b:Int}(h:PL H xs ps)(e:H r=some (.tup [.int a,.int b])):PL H (xs++[.ref r]) (ps++[(a,b)]):=Paired.snoc h ⟨r,U,e⟩
theorem PL.last{H:Hp}{xs:List V}{ps:List (Int×Int)}(h:PL H xs ps)(f:xs≠[]):∃c r d p,xs=c++[.ref r]/\ps=d++[p]/\PL H c d/\H r=some (.tup [.int p.1,.int p.2]):=by
 induction h with
 |nil=>exact absurd U f
 | @cons a b l1 l2 hd tl ih =>
  cases tl with
  |nil =>
   obtain⟨r,e,z⟩:=hd;exact⟨[],r,[],b,by rw[e];rfl,U,.nil,z⟩
  | @cons a2 b2 l3 l4 hd2 tl2 =>
   obtain⟨c,r,d,p,k,j,i,g⟩:=ih (by simp);exact⟨a :: c,r,b :: d,p,by rw[k];rfl,by rw[j];rfl,.cons hd i,g⟩
theorem PL.app{H:Hp}{xs ys:List V}{ps a:List (Int×Int)}(h:PL H xs ps)(h':PL H ys a):PL H (xs++ys) (ps++a):=by
 induction h with
 |nil=>exact h'
 |cons r t b=>exact .cons r b
abbrev Tr:=Int×Int×Int
def TL(H:Hp):List V->List Tr->Prop:=Paired λx t=>∃r,x=.ref r/\H r=some (.tup [.int t.1,.int t.2.1,.int t.2.2])
theorem iY{ps:List (Int×Int)}{i:Nat}{p:Int×Int}{f:Int×Int->Bool}(e:ps[i]?=some p)(h:(ps.take i).any f=false)(a:f p=false):(ps.take (i+1)).any f=false:=by
 rw[md,e,List.any_append,h];simp[a]
theorem sI{ps:List (Int×Int)}{i:Nat}{p:Int×Int}{f:Int×Int->Bool}(e:ps[i]?=some p)(a:f p=true):ps.any f=true:=w4.mpr ⟨p,GJ e,a⟩
theorem V.int_inj{i j:Int}(h:V.int i=V.int j):i=j:=by cases h;rfl
theorem fL{i j:Int}(h:decide (V.int i=V.int j)=true):i=j:=V.int_inj (of_decide_eq_true h)
theorem iF{i j:Int}(h:¬ decide (V.int i=V.int j)=true):i≠j:=λe=>h (decide_eq_true (congrArg V.int e))
theorem iZ{p:Prop} [Decidable p] (h:decide p=true):p:=of_decide_eq_true h
theorem lB{p:Prop} [Decidable p] (h:¬ decide p=true):¬ p:=λe=>h (decide_eq_true e)
theorem dz{X:Cx}{K:W.Frag}(h:X.K=K):IxR X (Ao K):=h ▸ aG
theorem gm{X:Cx}{K:W.Frag}(h:X.K=K):IxR X (Ap K):=h ▸ bA
def bB(X:Cx)(N:List Str)(a:Scope)(cl:List (Str×Addr))(b:List Addr)(C:Addr)(s2:Shared)(c:Hp):Cx :=
 { prog:=X.prog,w:=X.w,K:=X.K,mg:=X.mg,base:=X.base,A:=X.A,N:=N,s₀:=s2,H₀:=c,env:=compEnvC a cl C X.env,outer:=X.stack,stack:=X.stack,ex:=b,fn:=λ_=>false,calm:=X.calm,pn:=[],xe:=λ_ _=>False }
def PIf(X:Cx)(d:List Expr)(t:TT):Prop :=
 ∀(a:List (Addr×Obj))(s:Shared)(b:St)(H:Hp)(Q:Bool->Hp->Prop),Inv X a b H s->t b H Q ->
  wpAny (model X.prog X.w) X.A (forIn d true λc r=>if r=true then do let ok ←isTrue c X.env (eval c X.env);pure (ForInStep.yield ok)else pure (ForInStep.yield r)) (TP X a b Q) X.xe s
def Dq:TT:=λ_ H Q=>Q true H
theorem bz{X:Cx}:PIf X [] Dq:=λ_ _ _ H _ I h=>wpAny_tests_nil ⟨H,I,h⟩
theorem jU{X:Cx}{c:Expr}{t:TT}(h:PT X c t):PIf X [c] t:=λa s b H Q I q=>wpAny_tests_one (h a s b H Q I q)
structure qH(X:Cx)(N:List Str)(fr:List Nat)(scope:Scope)(cl:List (Str×Addr))(x:Str):Prop where
 clos:closureFor scope X.env=pure cl
 kind:scope.kind=.function
 nocell:∀y∈scope.names,y.2≠.cell
 names:∀y∈scope.names,y.2=.local->scope.names.lookup y.1=some .local
 hx:scope.names.lookup x=some .local
 nd:N.Nodup
 n0:N[0]?=some x
 len:N.length=fr.length+1
 sub:∀(i:Nat)(y:Str),N[i+1]?=some y->∃j,fr[i]?=some j/\X.N[j]?=some y/\(X.env.kindOf y=some .cell\/X.env.kindOf y=some .free)/\((relabel scope X.env).names.lookup y=some .cell\/(relabel scope X.env).names.lookup y=some .free)
 cells:∀y c,cl.lookup y=some c->X.env.cells.lookup y=some c
 has:∀y,((relabel scope X.env).names.lookup y=some .cell\/(relabel scope X.env).names.lookup y=some .free)->∃c,cl.lookup y=some c
theorem fi{X:Cx}{a:Scope}{x:Str}(kind:a.kind=.function)(b:∀y∈a.names,y.2≠.free)(d:∀y∈a.names,y.2≠.cell)
  (names:∀y∈a.names,y.2=.local->a.names.lookup y.1=some .local)(g:a.names.lookup x=some .local):qH X [x] [] a [] x:=by
 have j:(relabel a X.env).names=a.names:=map_eq_self λy f=>by
  have z:(y.2 == NameKind.free)=false:=by simpa using b y f
  simp[z]
 have no:∀y,¬ ((relabel a X.env).names.lookup y=some .cell\/(relabel a X.env).names.lookup y=some .free):=λy h=>by
  rw[j]at h;rcases h with h|h
  .exact d _ (mem_of_lookup h) U
  .exact b _ (mem_of_lookup h) U
 exact⟨closureFor_none b,kind,d,names,g,by simp,U,U,λi y e=>by simp at e,(λy c e=>by cases e),λy h=>absurd h (no y)⟩
theorem bw{X:Cx}{N:List Str}{fr:List Nat}{a:Scope}{cl:List (Str×Addr)}{x:Str}(clos:closureFor a X.env=pure cl)(kind:a.kind=.function)(b:∀y∈a.names,y.2≠.cell)
  (names:∀y∈a.names,y.2=.local->a.names.lookup y.1=some .local)(m:a.names.lookup x=some .local)(g:N.Nodup)(l:N[0]?=some x)(d:N.length=fr.length+1)
  (sub:((List.range fr.length).all λi=>match N[i+1]?,fr[i]? with|some y,some j=>(X.N[j]? == some y) && ((X.env.kindOf y == some .cell) && ((relabel a X.env).names.lookup y == some .cell))|_,_=>false)=true)
  (cells:∀p∈cl,X.env.cells.lookup p.1=some p.2)(f:((relabel a X.env).names.all λp=>(p.2 != .cell && p.2 != .free) || (cl.lookup p.1).isSome)=true):qH X N fr a cl x:=by
 refine⟨clos,kind,b,names,m,g,l,d,λi y e=>?_,λy c e=>cells _ (mem_of_lookup e),λy h=>?_⟩
 .have hi:i<fr.length:=by have:=(GI.mp e).1;lia
  have z:=jq.mp sub i (jr.mpr hi);rw[e,GH hi]at z;simp only[AI,beq_iff_eq]at z;exact⟨_,GH hi,z.1,.inl z.2.1,.inl z.2.2⟩
 .have look:∀k,(relabel a X.env).names.lookup y=some k->(k=.cell\/k=.free)->∃c,cl.lookup y=some c:=λk e n=>by
   have z:=jq.mp f _ (mem_of_lookup e);rcases n with rfl|rfl
   .exact BQ.mp (by simpa using z)
   .exact BQ.mp (by simpa using z)
  rcases h with h|h
  .exact look _ h (.inl U)
  .exact look _ h (.inr U)
def fM(a:St)(fr:List Nat)(x:Option V):St:=x :: fr.map λj=>(a[j]?).join
def pM(J:It)(fr:List Nat)(tt:TT)(j:TE)(d:St)(Q:VK)(g:Hp):Prop:=∀D,g D=none->∃W:Nat->Nat->Hp->Prop,(∃m,W 0 m (upd g D (.lst [])))/\∀i m H,W i m H ->
 (J.stop i H/\Q (.ref D) H)\/(J.go i H/\∀x h,J.yld i H x h->tt (fM d fr (some x)) h λb f=>if b=true then j (fM d fr (some x)) f λy e=>∃c,e D=some (.lst c)/\c.length<sizeLine/\∃a,a<m/\W (i+1) a (upd e D (.lst (c++[y])))
  else ∃a,a<m/\W (i+1) a f)
def zG(b:TI)(fr:List Nat)(tt:TT)(c:TE):TE:=λa H Q=>b a H λJ d=>pM J fr tt c a Q d
section
variable{prog:Program}{w:World}{A:Around}{R:Result->Shared->Prop}{s:Shared}
theorem mq{g a e:Expr}{f:List Expr}{d:Scope}{pos:Pos}{it i:Value}{b:Env}(J:Nat->Shared->Prop)
  (turn:∀n s,J n s->wpAny (model prog w) A (pyNext it) (λr k=>match r with
   |none=>R (.ok .next) k
   |some v=>wpAny (model prog w) A (letOwnedTupleGo a it v) (λ_ s2=>wpAny (model prog w) A (assign a b v) (λ_ p =>
     wpAny (model prog w) A (forIn f true λc r=>if r=true then do let ok ←isTrue c b (eval c b);pure (ForInStep.yield ok)else pure (ForInStep.yield r)) (λok j =>
      if ok=true then wpAny (model prog w) A (eval g b) (λy o=>wpAny (model prog w) A (call (.builtin "list.append") [i,y]) (λ_ l=>∃m,m<n/\J m l) (λ_ _=>False) o) (λ_ _=>False) j
      else ∃m,m<n/\J m j) (λ_ _=>False) p) (λ_ _=>False) s2) (λ_ _=>False) k) (λ_ _=>False) s)
  (n:Nat)(h:J n s):codeAny (model prog w) A (.compLoop (.ListComp g [⟨a,e,f,0⟩] d pos) 0 it i b) R s:=by
 refine codeAny_loop U J (λn s u=>?_) n h;show wpAny _ A ((compTurn (.ListComp g [⟨a,e,f,0⟩] d pos) 0 it i b).onRaise (λx=>do noteFrame x b;theTreesLotGoes x)) _ _ s;refine wpAny_noted ?_;rw[compTurn_list];refine BY (wpAny_standAt (BY (wpAny_mono (turn n s u) (λr k t=>?_) λ_ _ z=>z.elim)));cases r with
 |none=>exact C0 t
 |some v =>
  refine BY (wpAny_mono t (λ_ s2 E=>?_) λ_ _ z=>z.elim);refine BY (wpAny_mono E (λ_ p D=>BY (wpAny_mono D (λok j q=>?_) λ_ _ z=>z.elim)) λ_ _ z=>z.elim);cases ok with
  |false=>exact C0 ⟨U,q⟩
  |true=>exact BY (BY (wpAny_mono q (λy o C=>BY (wpAny_mono C (λ_ l B=>C0 (C0 ⟨U,B⟩)) λ_ _ z=>z.elim)) λ_ _ z=>z.elim))
end
section
variable{elt iter:Expr}{ifs:List Expr}{x:Str}{px:Pos}{scope:Scope}{cl:List (Str×Addr)}{N:List Str}{fr:List Nat}{tt:TT}{te:TE}
theorem oK{F:List (Addr×Obj)}{q:St}{s2:Shared}{h:Hp}{it:Addr}{f:List Addr}{tn:Nat->Heap->Prop}{J:It}{Q:VK}{E:Value->Shared->Prop}{RR:Value->Addr->Result->Shared->Prop}
  (O:qH X N fr scope cl x)(hc:X.calm=true)(g:Inv X F q h s2)(T:Turn X.prog X.w X.K (.Name x px) J f it tn)(a1:tn 0 s2.heap)(I:∀b∈f,kz X F h b)
  (ht:∀f C s H,PIf (bB X N scope cl f C s H) ifs tt)(he:∀f C s H,PE (bB X N scope cl f C s H) elt te)
  (hW:pM J fr tt te q Q h)
  (fin:∀D C s' H',s2.heap.objs.size<=C->H' C=none->(∃m,s'.heap.Ns C m)->Inv X F q H' s'->Q (.ref D) H'->RR (.ref D) C (.ok .next) s') :
  wpAny (model X.prog X.w) X.A (newList []) (λa7 s3=>wpAny (model X.prog X.w) X.A (newFunctionEnv scope X.env.globals cl [] X.env.qual none .none (some X.env)) (λwu s4 =>
   codeAny (model X.prog X.w) X.A (.compStart (.ListComp elt [⟨.Name x px,iter,ifs,0⟩] scope pos) 0 (.ref it) a7 { wu with scope:=relabel scope X.env }) (RR a7 wu.locals) s4) E s3) E s2:=by
 refine wpAny_newObj_type (wpAny_newFunctionEnv O.nocell (by intro y hy;simp at hy) (λh1 a2 M=>?_) O.kind);dsimp only at a2 M⊢;generalize hG:s2.heap.push { cls:=.type "list",dict:=none,data:=.seq ([]:List Value).toArray }=G at a2 M⊢;have Y:G.objs.size=s2.heap.objs.size+1:=by rw[←hG,Heap.size_push]
 have B:∀b o,s2.heap.get? b=some o->h1.get? b=some o:=λb o e=>M.extBut b o (xS (by rw[Y];exact yi (Heap.lt_size e))) (Heap.get?_push_of_some _ (hG ▸ Heap.get?_push_of_some _ e))
 have jV:h1.get? s2.heap.objs.size=some { cls:=.type "list",data:=.seq ([]:List Value).toArray 0 }:=M.extBut _ _ (xS (by rw[Y];exact yB _)) (Heap.get?_push_of_some _ (hG ▸ Heap.get?_push_size _ U));have hD:h s2.heap.objs.size=none:=g.fresh;have L:(bB X N scope cl f G.objs.size s2 h).Ok:=by
  refine⟨g.ok.mod,O.kind,g.ok.glob,g.ok.blt,by show s2.heap.objs.size<=G.objs.size;rw[Y];exact yl _,λy z c e1 e2=>g.ok.inj y z c (O.cells y c e1) (O.cells z c e2),λy hy=>O.has y hy,λy c z=>absurd (show false=true from z) Bool.false_ne_true,g.ok.hd,g.ok.frames,.inl U,
   λb a=>⟨?_,λy c e=>(I b a).2.2.2.2.1 y c (O.cells y c e)⟩,g.bs,yc g.ok.bsz g.sz,λb o e a=>?_,λb a z=>?_,g.stack,g.stkFree⟩
  .obtain⟨o,e,_⟩:=T.obj _ _ a1 b a;show b≠G.objs.size;exact xS (by rw[Y];exact yi (Heap.lt_size e))
  .rcases(I b a).2.2.2.1 with z|z
   .exact g.ok.noex b o e z
   .exact absurd (xT (Heap.lt_size e) (yc g.ok.bsz z)) (yE _)
  .rcases dt.mp (g.stkSub b z)with z|z
   .exact(I b a).2.1 z
   .exact(I b a).2.2.1 z
 have mr:∀{H':Hp},(∀b∈f,H' b=none)->∀b∈f,kz (bB X N scope cl f G.objs.size s2 h) [] H' b:=λhn b a =>
  ⟨hn b a,(L.exf b a).1,L.exfs b a,.inl a,(L.exf b a).2,λp hp=>absurd (show p∈([]:List (Addr×Obj))from hp) (by simp)⟩
 have I':Inv (bB X N scope cl f G.objs.size s2 h) [] (fM q fr none) (upd h s2.heap.objs.size (.lst [])) { s2 with heap:=h1,toks:=s2.toks+([]:List (Str×Value)).length }:=by
  refine⟨L,U,g.bare,Un.laid B (w5 _) hD,⟨_,a2,λi y v e1 e2 e3=>?_⟩,λy c e=>?_,?_,λy c e=>?_,λp hp=>absurd (show p∈([]:List (Addr×Obj))from hp) (by simp),g.hok.laid B (w5 _) ⟨yh _,[],0,.nil,jV⟩,?_⟩
  .cases i with
   |zero=>cases e2
   |succ i =>
    obtain⟨j,q1,q2,q3,q4⟩:=O.sub i y e1;have P:(q[j]?).join=some v:=by
     have:(fr.map λj=>(q[j]?).join)[i]?=some (some v):=e2;rw[fo,q1]at this;exact Option.some.inj this
    have e4:q[j]?=some (some v):=by
     cases z:q[j]? with
     |none=>rw[z]at P;cases P
     |some t=>rw[z]at P;exact congrArg some P
    obtain⟨m,_,hl⟩:=g.loc;have b1:Vis X.env.scope y:=.inr q3;obtain⟨u,r,l⟩:=hl j y v q2 e4 b1;refine⟨u,r,.inr ⟨q4,?_⟩⟩;obtain⟨c',a5⟩:=O.has y q4;rcases l with⟨k,_⟩|⟨_,c,ec,ic⟩
    .rcases q3 with z|z
     .rw[z]at k;cases k
     .rw[z]at k;cases k
    .have:=O.cells y c' a5;have e':c=c':=Option.some.inj (ec.symm.trans this);obtain⟨o,ho,hd⟩:=ic;rw[e']at ho;exact⟨c',a5,o,B c' o ho,hd⟩
  .obtain⟨v,o,ho,hd⟩:=g.cell y c (O.cells y c e);exact⟨v,o,B c o ho,hd⟩
  .show upd h s2.heap.objs.size (.lst []) G.objs.size=none;rw[ay (yg (by rw[Y];exact yB _))];exact g.hok.fresh (by rw[Y];exact yl _)
  .obtain⟨v,o,ho,hd⟩:=g.cell y c (O.cells y c e);rw[ay (xS (Heap.lt_size ho))];exact g.freeC y c (O.cells y c e)
  .show(fM q fr none).length=N.length;rw[O.len];simp[fM]
 have a4:tn 0 h1:=T.keep _ _ _ a1 λb a o e=>B b o e
 have R:∀s3:Shared,s3={ s2 with heap:=h1,toks:=s2.toks+([]:List (Str×Value)).length } ->
   codeAny (model X.prog X.w) X.A (.compLoop (.ListComp elt [⟨.Name x px,iter,ifs,0⟩] scope pos) 0 (.ref it) (.ref s2.heap.objs.size) (compEnvC scope cl G.objs.size X.env)) (RR (.ref s2.heap.objs.size) G.objs.size) s3:=by
  rintro s3 rfl;obtain⟨W,⟨m0,w0⟩,turn⟩:=hW _ hD
  refine mq (λn s'=>∃i t H',Inv (bB X N scope cl f G.objs.size s2 h) [] (fM q fr t) H' s'/\tn i s'.heap/\(∀b∈f,H' b=none)/\W i n H') ?_ m0
   ⟨0,none,_,I',a4,λb a=>by
    rw[ay (by obtain⟨o,e,_⟩:=T.obj _ _ a1 b a;exact xS (Heap.lt_size e))];exact(I b a).1,w0⟩
  rintro n s' ⟨i,t,H',I3,a3,a6,w3⟩;rcases turn i n H' w3 with⟨a8,qn⟩|⟨go,step⟩
  .refine thn (T.done (bB X N scope cl f G.objs.size s2 h) U U U hc i [] s' _ H' _ I3 (mr a6) a3 a8) λr s4 ⟨hr,I4⟩=>?_
   subst hr;obtain⟨m,V,_⟩:=I4.loc;refine fin _ _ s4 H' (by rw[Y];exact yl _) I4.free ⟨m,V⟩ (g.call' (ch:=f) I4.os I4.base I4.hok I4.bare λb a=>?_) qn;exact⟨(I b a).2.2.2.1,(I b a).2.1,(I b a).2.2.2.2.1,(I b a).2.2.2.2.2⟩
  .refine thn (T.item (bB X N scope cl f G.objs.size s2 h) U U U hc i [] s' _ H' _ I3 (mr a6) a3 go) λr s4 ⟨u,hr,h4⟩=>?_
   subst hr;refine thn h4 λ_ s5 ⟨y,H5,I5,r5,y5,a0,b4⟩=>?_
   have b6:=I5.pinned (mr b4) (T.obj _ _ a0);have lx:(bB X N scope cl f G.objs.size s2 h).env.scope.names.lookup x=some .local:=lookup_relabel_local O.hx;refine thn (aC (X:=bB X N scope cl f G.objs.size s2 h) (i:=0) O.nd O.n0 (.inl lx) (.inr lx) _ s5 _ H5 y u (λb0 H'=>b0=fM q fr (some y)/\H'=H5) b6 r5 ⟨U,U⟩) λ_ s6 ⟨c0,H6,I6,e6,b5⟩=>?_
   subst e6;subst b5
   have again:∀{Z:St}{H7:Hp}{s7:Shared}{S:Nat},Z=fM q fr (some y)->Inv (bB X N scope cl f G.objs.size s2 h) ([]++kA f s5.heap) Z H7 s7->S<n->W (i+1) S H7 ->
     ∃m,m<n/\∃i t H',Inv (bB X N scope cl f G.objs.size s2 h) [] (fM q fr t) H' s7/\tn i s7.heap/\(∀b∈f,H' b=none)/\W i m H':=λ{Z H7 s7 S} e7 I7 V w7=>by
    subst e7;refine⟨S,V,i+1,some y,H7,I7.unpinned,T.keep _ _ _ a0 λb a o e=>(I7.pin (b,o) (iR _ (iR _ (dI a e)))).1,λb a=>?_,w7⟩;obtain⟨o,e,d⟩:=T.obj _ _ a0 b a;exact(I7.pin (b,o) (iR _ (iR _ (dI a e)))).2.1
   refine thn (ht f G.objs.size s2 h _ s6 _ H6 _ I6 (step y H6 y5)) λok s7 ⟨H7,I7,q7⟩=>?_
   cases ok with
   |false =>
    rw[if_neg Bool.false_ne_true]at q7⊢;obtain⟨S,V,w7⟩:=q7;exact again U I7 V w7
   |true =>
    rw[if_pos U]at q7⊢;refine thn (he f G.objs.size s2 h _ s7 _ H7 _ I7 q7) λu8 s8 ⟨v8,H8,I8,r8,ys,b3,a9,S,V,w8⟩=>?_
    refine thn (bg (X:=bB X N scope cl f G.objs.size s2 h) _ s8 _ H8 (.ref s2.heap.objs.size) [v8] _ [u8] (λ_ H9=>W (i+1) S H9) I8 U (.cons r8 .nil) ⟨_,ys,v8,U,U,b3,a9,w8⟩) λ_ s9 ⟨_,H9,I9,_,w9⟩=>?_
    exact again U I9 V w9
 exact codeAny_compStart_list (R _ U) (T.self _ 0 _ _ _ a4 (R _ U))
theorem Inv.left{a:List (Addr×Obj)}{h g:St}{s2 s':Shared}{q H':Hp}{C:Addr}{h':Heap}(f:Inv X a g q s2)(n:Inv X a h H' s')(d:s2.heap.objs.size<=C)(l:H' C=none)(i:Heap.SameBut C s'.heap h'):Inv X a h H' { s' with heap:=h' }:=by
 refine n.turned (t':=s'.toks) (it:=C) (λb o m e=>(i.2 b m).trans e) l (yg (xT f.lt d)) (.inr (yc f.sz d)) (λy c e=>?_) λp j=>?_
 .obtain⟨v,o,k,_⟩:=f.cell y c e;exact xS (xT (Heap.lt_size k) d)
 .exact xS (xT (Heap.lt_size (f.pin p j).1) d)
theorem cO{i:TI}(hi:PI X (.Name x px) iter i)(O:qH X N fr scope cl x)(r:X.calm=true)(k:∀b C s H,PIf (bB X N scope cl b C s H) ifs tt)(p:∀b C s H,PE (bB X N scope cl b C s H) elt te)
  (l:∀v,foldedSetIterable iter X.env v=pure v:=by intro _;rfl):PE X (.ListComp elt [⟨.Name x px,iter,ifs,0⟩] scope pos) (zG i fr tt te):=by
 intro a s g H Q I h;rw[eval_ListComp];refine wpAny_comprehension_free (use:=none) U l O.clos O.kind O.names (thn (hi a s g H _ I h) λv L z=>thn z λG s2 y=>?_);obtain⟨it,b,K,J,R,e,j,T,c,B,t⟩:=y;subst e;refine oK (RR:=λf C=>compPost (model X.prog X.w) X.A X.xe none (EP X a g Q) f C) O r j T c B k p t λD C M F u n ⟨m,o⟩ E q=>?_
 exact⟨m,o,λP d=>⟨.ref D,F,j.left E u n d,U,q⟩⟩
theorem lV{F:TI}{i:Nat}{y:Str}{d E:Pos}(hN:X.N.Nodup)(G:X.N[i]?=some y)(V:Loc X.env.scope y)(hi:PI X (.Name x px) iter F)(O:qH X N fr scope cl x)(Z:X.calm=true)
  (K:∀f C s H,PIf (bB X N scope cl f C s H) ifs tt)(Y:∀f C s H,PE (bB X N scope cl f C s H) elt te)(L:∀v,foldedSetIterable iter X.env v=pure v:=by intro _;rfl)
  (n:swapsWith (.ListComp elt [⟨.Name x px,iter,ifs,0⟩] scope pos) (some (.Name y d)) E.line X.env=pure true:=by rfl)(W:X.fn y=true\/X.env.scope.names.lookup y=some .local:=by first|exact .inl U|exact .inr U|assumption) :
  PS X (.Assign [.Name y d] (.ListComp elt [⟨.Name x px,iter,ifs,0⟩] scope pos) E) (yp (zG F fr tt te) (oB i)):=by
 intro b s B H k I h;rw[exec_Assign_Name_used _ _ _ _ n];refine BY (wpAny_standAt (BY ?_));show wpAny _ X.A (do let _ ←comprehension (.ListComp elt [⟨.Name x px,iter,ifs,0⟩] scope pos) scope X.env _ (newList []) false (eval iter X.env) (some (assign (.Name y d) X.env))) _ _ s;refine BY (wpAny_mono (wpAny_comprehension_free (use:=some (assign (.Name y d) X.env)) (Q:=λ_ c=>SP X b k .next c) U L O.clos O.kind O.names (thn (hi b s B H _ I h) λv s1 h1=>thn h1 λa0 s2 h2=>?_)) (λ_ c M=>C0 (C0 M)) λ_ _ z=>z);obtain⟨it,f,tn,J,H2,e,g,T,l,f2,hW⟩:=h2;subst e;refine oK (Q:=λv H1=>oB i v B H1 k.nx) (RR:=λu C=>compPost (model X.prog X.w) X.A X.xe (some (assign (.Name y d) X.env)) (λ_ c=>SP X b k .next c) u C) O Z g T l f2 K Y hW λD C c H' j R ⟨m,S⟩ I' q=>?_
 show wpAny _ X.A (assign (.Name y d) X.env (.ref D)) _ _ c;refine wpAny_assign_Name (kx I' hN G V (v:=.ref D) U (λs3 I3 ⟨a,p,ha⟩=>?_) W);have t:C≠a:=by
  rcases ha with z|z
  .rw[z];exact yg (xT g.lt j)
  .obtain⟨v,o,P,_⟩:=g.cell y a z;exact yg (xT (Heap.lt_size P) j)
 exact⟨m,S.sameBut p t,λh' r=>⟨_,H',g.left I3 j R r,q⟩⟩
def eH(c:Addr->Nat->List V->Hp->Prop)(D:Addr)(i n:Nat)(d:Hp):Prop:=∃a,a<n-i/\a=n-(i+1)/\i+1<=n/\∃b,c D (i+1) b d
def cP(c:Addr->Nat->List V->Hp->Prop)(D:Addr)(i n:Nat):VK:=λy b=>∃a,b D=some (.lst a)/\a.length<sizeLine/\eH c D i n (upd b D (.lst (a++[y])))
theorem eH.mk{a:Addr->Nat->List V->Hp->Prop}{D:Addr}{i n:Nat}{b:Hp}{zs:List V}(hi:i<n)(h:a D (i+1) zs b):eH a D i n b:=⟨n-(i+1),by lia,U,hi,zs,h⟩
theorem cP.mk{b:Addr->Nat->List V->Hp->Prop}{D:Addr}{i n:Nat}{a:Hp}{ys:List V}{y:V}(hi:i<n)(e:a D=some (.lst ys))(c:ys.length<sizeLine)(h:b D (i+1) (ys++[y]) (upd a D (.lst (ys++[y])))):cP b D i n y a:=⟨ys,e,c,.mk hi h⟩
theorem dM{K:W.Frag}{a:Addr}{xs:List V}{g:St}{d:Hp}{Q:VK}(c:Addr->Nat->List V->Hp->Prop)(n:∀D,d D=none->c D 0 [] (upd d D (.lst [])))
  (l:∀D i ys H,d D=none->i<=xs.length->c D i ys H->SqL K H a xs)
  (k:∀D i x ys H,d D=none->xs[i]?=some x->c D i ys H->tt (fM g fr (some x)) H λb j=>if b=true then te (fM g fr (some x)) j (cP c D i xs.length)else eH c D i xs.length j)
  (hd:∀D ys H,d D=none->c D xs.length ys H->Q (.ref D) H):pM (Itl K a) fr tt te g Q d:=by
 intro D f;refine⟨λi m H=>m=xs.length-i/\i<=xs.length/\∃ys,c D i ys H,⟨_,U,yh _,[],n D f⟩,?_⟩;rintro i m H ⟨rfl,hi,ys,p⟩;have q:=l D i ys H f hi p;by_cases h:i<xs.length
 .refine .inr ⟨⟨xs,xs[i],q,by simp[h]⟩,λx o y=>?_⟩;obtain⟨e,y⟩:=y;subst e;exact k D i x ys _ f (y xs q) p
 .have e:i=xs.length:=by lia
  subst e;exact .inl ⟨⟨xs,q,w5 _⟩,hd D ys H f p⟩
theorem bY{lo:Int}{n:Nat}{f:St}{c:Hp}{Q:VK}(a:Addr->Nat->List V->Hp->Prop)(k:∀D,c D=none->a D 0 [] (upd c D (.lst [])))
  (j:∀D i ys H,c D=none->i<n->a D i ys H->tt (fM f fr (some (.int (lo+i)))) H λb h=>if b=true then te (fM f fr (some (.int (lo+i)))) h (cP a D i n)else eH a D i n h)
  (hd:∀D ys H,c D=none->a D n ys H->Q (.ref D) H):pM (Itr lo n) fr tt te f Q c:=by
 intro D g;refine⟨λi m H=>m=n-i/\i<=n/\∃ys,a D i ys H,⟨_,U,yh _,[],k D g⟩,?_⟩;rintro i m H ⟨rfl,hi,ys,p⟩;by_cases d:i<n
 .refine .inr ⟨d,λx l y=>?_⟩;obtain⟨e,y⟩:=y;subst e;subst y;exact j D i ys _ g d p
 .have e:i=n:=by lia
  subst e;exact .inl ⟨w5 _,hd D ys H g p⟩
end
structure mw(X:Cx)(N:List Str)(k:Nat)(fr:List Nat)(scope:Scope)(cl:List (Str×Addr)):Prop where
 clos:closureFor scope X.env=pure cl
 kind:scope.kind=.function
 nocell:∀y∈scope.names,y.2≠.cell
 names:∀y∈scope.names,y.2=.local->scope.names.lookup y.1=some .local
 len:N.length=k+fr.length
 sub:∀(i:Nat)(y:Str),N[k+i]?=some y->∃j,fr[i]?=some j/\X.N[j]?=some y/\(X.env.kindOf y=some .cell\/X.env.kindOf y=some .free)/\((relabel scope X.env).names.lookup y=some .cell\/(relabel scope X.env).names.lookup y=some .free)
 cells:∀y c,cl.lookup y=some c->X.env.cells.lookup y=some c
 has:∀y,((relabel scope X.env).names.lookup y=some .cell\/(relabel scope X.env).names.lookup y=some .free)->∃c,cl.lookup y=some c
theorem dA{X:Cx}{N:List Str}{k:Nat}{a:Scope}(f:N.length=k)(kind:a.kind=.function)(b:∀y∈a.names,y.2≠.free)(d:∀y∈a.names,y.2≠.cell)
  (names:∀y∈a.names,y.2=.local->a.names.lookup y.1=some .local):mw X N k [] a []:=by
 have j:(relabel a X.env).names=a.names:=map_eq_self λy g=>by
  have z:(y.2 == NameKind.free)=false:=by simpa using b y g
  simp[z]
 have no:∀y,¬ ((relabel a X.env).names.lookup y=some .cell\/(relabel a X.env).names.lookup y=some .free):=λy h=>by
  rw[j]at h;rcases h with h|h
  .exact d _ (mem_of_lookup h) U
  .exact b _ (mem_of_lookup h) U
 refine⟨closureFor_none b,kind,d,names,by rw[f];rfl,λi y e=>?_,(λy c e=>by cases e),λy h=>absurd h (no y)⟩;have:=(GI.mp e).1;lia
def cV(a:St)(fr:List Nat)(ts:St):St:=ts++fr.map λj=>(a[j]?).join
def iG(J:It)(p:TG)(k:Nat)(fr:List Nat)(tt:TT)(o:TE)(f:St)(Q:VK)(l:Hp):Prop:=∀D,l D=none->∃W:Nat->Nat->Hp->Prop,(∃m,W 0 m (upd l D (.lst [])))/\∀i m H,W i m H ->
 (J.stop i H/\Q (.ref D) H)\/(J.go i H/\∀x n,J.yld i H x n->∀g:St,g.length=k->p x (cV f fr g) n λa q=>(∃d:St,d.length=k/\a=cV f fr d)/\tt a q λb j=>if b=true then o a j λy h=>∃e,h D=some (.lst e)/\e.length<sizeLine/\∃c,c<m/\W (i+1) c (upd h D (.lst (e++[y])))
  else ∃c,c<m/\W (i+1) c j)
def wA(b:TI)(d:TG)(k:Nat)(fr:List Nat)(tt:TT)(c:TE):TE:=λa H Q=>b a H λJ e=>iG J d k fr tt c a Q e
section
variable{elt iter tg:Expr}{ifs:List Expr}{scope:Scope}{cl:List (Str×Addr)}{N:List Str}{k:Nat}{fr:List Nat}{gt:TG}{tt:TT}{te:TE}
theorem my{F:List (Addr×Obj)}{x:St}{s2:Shared}{h:Hp}{it:Addr}{f:List Addr}{tn:Nat->Heap->Prop}{J:It}{Q:VK}{E:Value->Shared->Prop}{RR:Value->Addr->Result->Shared->Prop}
  (O:mw X N k fr scope cl)(hc:X.calm=true)(g:Inv X F x h s2)(T:Turn X.prog X.w X.K tg J f it tn)(a1:tn 0 s2.heap)(I:∀b∈f,kz X F h b)
  (ht:∀f C s H,PIf (bB X N scope cl f C s H) ifs tt)(he:∀f C s H,PE (bB X N scope cl f C s H) elt te)
  (hg:∀f C s H,PG (bB X N scope cl f C s H) tg gt)(hW:iG J gt k fr tt te x Q h)
  (fin:∀D C s' H',s2.heap.objs.size<=C->H' C=none->(∃m,s'.heap.Ns C m)->Inv X F x H' s'->Q (.ref D) H'->RR (.ref D) C (.ok .next) s') :
  wpAny (model X.prog X.w) X.A (newList []) (λa9 s3=>wpAny (model X.prog X.w) X.A (newFunctionEnv scope X.env.globals cl [] X.env.qual none .none (some X.env)) (λwu s4 =>
   codeAny (model X.prog X.w) X.A (.compStart (.ListComp elt [⟨tg,iter,ifs,0⟩] scope pos) 0 (.ref it) a9 { wu with scope:=relabel scope X.env }) (RR a9 wu.locals) s4) E s3) E s2:=by
 refine wpAny_newObj_type (wpAny_newFunctionEnv O.nocell (by intro y hy;simp at hy) (λh1 a2 M=>?_) O.kind);dsimp only at a2 M⊢;generalize hG:s2.heap.push { cls:=.type "list",dict:=none,data:=.seq ([]:List Value).toArray }=G at a2 M⊢;have Y:G.objs.size=s2.heap.objs.size+1:=by rw[←hG,Heap.size_push]
 have B:∀b o,s2.heap.get? b=some o->h1.get? b=some o:=λb o e=>M.extBut b o (xS (by rw[Y];exact yi (Heap.lt_size e))) (Heap.get?_push_of_some _ (hG ▸ Heap.get?_push_of_some _ e))
 have jV:h1.get? s2.heap.objs.size=some { cls:=.type "list",data:=.seq ([]:List Value).toArray 0 }:=M.extBut _ _ (xS (by rw[Y];exact yB _)) (Heap.get?_push_of_some _ (hG ▸ Heap.get?_push_size _ U));have hD:h s2.heap.objs.size=none:=g.fresh;have L:(bB X N scope cl f G.objs.size s2 h).Ok:=by
  refine⟨g.ok.mod,O.kind,g.ok.glob,g.ok.blt,by show s2.heap.objs.size<=G.objs.size;rw[Y];exact yl _,λy z c e1 e2=>g.ok.inj y z c (O.cells y c e1) (O.cells z c e2),λy hy=>O.has y hy,λy c z=>absurd (show false=true from z) Bool.false_ne_true,g.ok.hd,g.ok.frames,.inl U,
   λb a=>⟨?_,λy c e=>(I b a).2.2.2.2.1 y c (O.cells y c e)⟩,g.bs,yc g.ok.bsz g.sz,λb o e a=>?_,λb a z=>?_,g.stack,g.stkFree⟩
  .obtain⟨o,e,_⟩:=T.obj _ _ a1 b a;show b≠G.objs.size;exact xS (by rw[Y];exact yi (Heap.lt_size e))
  .rcases(I b a).2.2.2.1 with z|z
   .exact g.ok.noex b o e z
   .exact absurd (xT (Heap.lt_size e) (yc g.ok.bsz z)) (yE _)
  .rcases dt.mp (g.stkSub b z)with z|z
   .exact(I b a).2.1 z
   .exact(I b a).2.2.1 z
 have mr:∀{H':Hp},(∀b∈f,H' b=none)->∀b∈f,kz (bB X N scope cl f G.objs.size s2 h) [] H' b:=λhn b a =>
  ⟨hn b a,(L.exf b a).1,L.exfs b a,.inl a,(L.exf b a).2,λp hp=>absurd (show p∈([]:List (Addr×Obj))from hp) (by simp)⟩
 have I':Inv (bB X N scope cl f G.objs.size s2 h) [] (cV x fr (List.replicate k none)) (upd h s2.heap.objs.size (.lst [])) { s2 with heap:=h1,toks:=s2.toks+([]:List (Str×Value)).length }:=by
  refine⟨L,U,g.bare,Un.laid B (w5 _) hD,⟨_,a2,λi y v e1 e2 e3=>?_⟩,λy c e=>?_,?_,λy c e=>?_,λp hp=>absurd (show p∈([]:List (Addr×Obj))from hp) (by simp),g.hok.laid B (w5 _) ⟨yh _,[],0,.nil,jV⟩,?_⟩
  .by_cases a6:i<k
   .have q:(List.replicate k none++fr.map λj=>(x[j]?).join)[i]?=some (some v):=e2;rw[iP (by rw[nM];exact a6),List.getElem?_replicate,if_pos a6]at q;cases q
   .obtain⟨j,q1,q2,q3,q4⟩:=O.sub (i-k) y (by rw[show k+(i-k)=i by lia];exact e1);have q:(x[j]?).join=some v:=by
     have:(List.replicate k none++fr.map λj=>(x[j]?).join)[i]?=some (some v):=e2;rw[lg (by rw[nM];lia),nM,fo,q1]at this;exact Option.some.inj this
    have e4:x[j]?=some (some v):=by
     cases z:x[j]? with
     |none=>rw[z]at q;cases q
     |some t=>rw[z]at q;exact congrArg some q
    obtain⟨m,_,hl⟩:=g.loc;have b3:Vis X.env.scope y:=.inr q3;obtain⟨u,r,l⟩:=hl j y v q2 e4 b3;refine⟨u,r,.inr ⟨q4,?_⟩⟩;obtain⟨c',a7⟩:=O.has y q4;rcases l with⟨k,_⟩|⟨_,c,ec,ic⟩
    .rcases q3 with z|z
     .rw[z]at k;cases k
     .rw[z]at k;cases k
    .have:=O.cells y c' a7;have e':c=c':=Option.some.inj (ec.symm.trans this);obtain⟨o,ho,hd⟩:=ic;rw[e']at ho;exact⟨c',a7,o,B c' o ho,hd⟩
  .obtain⟨v,o,ho,hd⟩:=g.cell y c (O.cells y c e);exact⟨v,o,B c o ho,hd⟩
  .show upd h s2.heap.objs.size (.lst []) G.objs.size=none;rw[ay (yg (by rw[Y];exact yB _))];exact g.hok.fresh (by rw[Y];exact yl _)
  .obtain⟨v,o,ho,hd⟩:=g.cell y c (O.cells y c e);rw[ay (xS (Heap.lt_size ho))];exact g.freeC y c (O.cells y c e)
  .show(cV x fr (List.replicate k none)).length=N.length;rw[O.len];simp[cV]
 have a5:tn 0 h1:=T.keep _ _ _ a1 λb a o e=>B b o e
 have P:∀s3:Shared,s3={ s2 with heap:=h1,toks:=s2.toks+([]:List (Str×Value)).length } ->
   codeAny (model X.prog X.w) X.A (.compLoop (.ListComp elt [⟨tg,iter,ifs,0⟩] scope pos) 0 (.ref it) (.ref s2.heap.objs.size) (compEnvC scope cl G.objs.size X.env)) (RR (.ref s2.heap.objs.size) G.objs.size) s3:=by
  rintro s3 rfl;obtain⟨W,⟨m0,w0⟩,turn⟩:=hW _ hD
  refine mq (λn s'=>∃i R H',R.length=k/\Inv (bB X N scope cl f G.objs.size s2 h) [] (cV x fr R) H' s'/\tn i s'.heap/\(∀b∈f,H' b=none)/\W i n H') ?_ m0
   ⟨0,List.replicate k none,_,nM,I',a5,λb a=>by
    rw[ay (by obtain⟨o,e,_⟩:=T.obj _ _ a1 b a;exact xS (Heap.lt_size e))];exact(I b a).1,w0⟩
  rintro n s' ⟨i,R,H',b5,I3,a4,a8,w3⟩;rcases turn i n H' w3 with⟨b0,qn⟩|⟨go,step⟩
  .refine thn (T.done (bB X N scope cl f G.objs.size s2 h) U U U hc i [] s' _ H' _ I3 (mr a8) a4 b0) λr s4 ⟨hr,I4⟩=>?_
   subst hr;obtain⟨m,V,_⟩:=I4.loc;refine fin _ _ s4 H' (by rw[Y];exact yl _) I4.free ⟨m,V⟩ (g.call' (ch:=f) I4.os I4.base I4.hok I4.bare λb a=>?_) qn;exact⟨(I b a).2.2.2.1,(I b a).2.1,(I b a).2.2.2.2.1,(I b a).2.2.2.2.2⟩
  .refine thn (T.item (bB X N scope cl f G.objs.size s2 h) U U U hc i [] s' _ H' _ I3 (mr a8) a4 go) λr s4 ⟨u,hr,h4⟩=>?_
   subst hr;refine thn h4 λ_ s5 ⟨y,H5,I5,r5,y5,a0,b6⟩=>?_
   have c0:=I5.pinned (mr b6) (T.obj _ _ a0);refine thn (hg f G.objs.size s2 h _ s5 _ H5 y u _ c0 r5 (step y H5 y5 R b5)) λ_ s6 ⟨c1,H6,I6,⟨a3,Dr,e6⟩,q6⟩=>?_
   subst e6
   have again:∀{Z:St}{H7:Hp}{s7:Shared}{S:Nat},Z=cV x fr a3->Inv (bB X N scope cl f G.objs.size s2 h) ([]++kA f s5.heap) Z H7 s7->S<n->W (i+1) S H7 ->
     ∃m,m<n/\∃i R H',R.length=k/\Inv (bB X N scope cl f G.objs.size s2 h) [] (cV x fr R) H' s7/\tn i s7.heap/\(∀b∈f,H' b=none)/\W i m H':=λ{Z H7 s7 S} e7 I7 V w7=>by
    subst e7;refine⟨S,V,i+1,a3,H7,Dr,I7.unpinned,T.keep _ _ _ a0 λb a o e=>(I7.pin (b,o) (iR _ (iR _ (dI a e)))).1,λb a=>?_,w7⟩;obtain⟨o,e,d⟩:=T.obj _ _ a0 b a;exact(I7.pin (b,o) (iR _ (iR _ (dI a e)))).2.1
   refine thn (ht f G.objs.size s2 h _ s6 _ H6 _ I6 q6) λok s7 ⟨H7,I7,q7⟩=>?_
   cases ok with
   |false =>
    rw[if_neg Bool.false_ne_true]at q7⊢;obtain⟨S,V,w7⟩:=q7;exact again U I7 V w7
   |true =>
    rw[if_pos U]at q7⊢;refine thn (he f G.objs.size s2 h _ s7 _ H7 _ I7 q7) λu8 s8 ⟨v8,H8,I8,r8,ys,b4,b1,S,V,w8⟩=>?_
    refine thn (bg (X:=bB X N scope cl f G.objs.size s2 h) _ s8 _ H8 (.ref s2.heap.objs.size) [v8] _ [u8] (λ_ H9=>W (i+1) S H9) I8 U (.cons r8 .nil) ⟨_,ys,v8,U,U,b4,b1,w8⟩) λ_ s9 ⟨_,H9,I9,_,w9⟩=>?_
    exact again U I9 V w9
 exact codeAny_compStart_list (P _ U) (T.self _ 0 _ _ _ a5 (P _ U))
theorem dU{i:TI}(hi:PI X tg iter i)(O:mw X N k fr scope cl)(u:X.calm=true)(r:∀b C s H,PG (bB X N scope cl b C s H) tg gt)(l:∀b C s H,PIf (bB X N scope cl b C s H) ifs tt)(t:∀b C s H,PE (bB X N scope cl b C s H) elt te)
  (n:∀v,foldedSetIterable iter X.env v=pure v:=by intro _;rfl):PE X (.ListComp elt [⟨tg,iter,ifs,0⟩] scope pos) (wA i gt k fr tt te):=by
 intro a s g H Q I h;rw[eval_ListComp];refine wpAny_comprehension_free (use:=none) U n O.clos O.kind O.names (thn (hi a s g H _ I h) λv M B=>thn B λK s2 z=>?_);obtain⟨it,b,L,J,S,e,j,T,c,E,x⟩:=z;subst e;refine my (RR:=λf C=>compPost (model X.prog X.w) X.A X.xe none (EP X a g Q) f C) O u j T c E l t r x λD C P G y o ⟨m,p⟩ F q=>?_
 exact⟨m,p,λR d=>⟨.ref D,G,j.left F y o d,U,q⟩⟩
theorem eQ{K:W.Frag}{a:Addr}{xs:List V}{j:St}{f:Hp}{Q:VK}(c:Addr->Nat->List V->Hp->Prop)(s:∀D,f D=none->c D 0 [] (upd f D (.lst [])))
  (r:∀D i ys H,f D=none->i<=xs.length->c D i ys H->SqL K H a xs)
  (o:∀D i x ys H,f D=none->xs[i]?=some x->c D i ys H->∀ts:St,ts.length=k->gt x (cV j fr ts) H λd t=>(∃g:St,g.length=k/\d=cV j fr g)/\tt d t λb n=>if b=true then te d n (cP c D i xs.length)else eH c D i xs.length n)
  (hd:∀D ys H,f D=none->c D xs.length ys H->Q (.ref D) H):iG (Itl K a) gt k fr tt te j Q f:=by
 intro D h;refine⟨λi m H=>m=xs.length-i/\i<=xs.length/\∃ys,c D i ys H,⟨_,U,yh _,[],s D h⟩,?_⟩;rintro i m H ⟨rfl,hi,ys,p⟩;have q:=r D i ys H h hi p;by_cases l:i<xs.length
 .refine .inr ⟨⟨xs,xs[i],q,by simp[l]⟩,λx u y=>?_⟩;obtain⟨e,y⟩:=y;subst e;exact o D i x ys _ h (y xs q) p
 .have e:i=xs.length:=by lia
  subst e;exact .inl ⟨⟨xs,q,w5 _⟩,hd D ys H h p⟩
end
theorem jW{X:Cx}{K:W.Frag}{a:List Expr}{k:Nat}{t:TGs}{n:Nat}{pos:Pos}(e:X.K=K)(d:X.calm=true)(h:PGs X a t)(c:(assignEach a X.env).length=n:=by rfl)(b:(assignEach a X.env).findIdx? (·.1)=none:=by rfl):PG X (.Tuple a k pos) (BA K n t):=e ▸ eO d h c b
end L2
namespace Srt
open PySem PySem.W PyProof.Rows
def Ok(n:Nat)(lt:Nat->Nat->Bool){α:Type}:KasT α->(α->Prop)->Prop
 | .ret a,Q=>Q a
 | .ask i j k,Q=>i<n/\j<n/\Ok n lt (k (lt i j)) Q
section
variable{n:Nat}{lt:Nat->Nat->Bool}
abbrev g(p:Array Nat)(i:Nat):Nat:=p.getD i 0
structure Ord(lt:Nat->Nat->Bool):Prop where
 tr:∀a b c,lt b a=false->lt c b=false->lt c a=false
 as:∀a b,lt a b=true->lt b a=false
end
end Srt
namespace L2
open PySem PySem.Spec PySem.W PyProof.Rows
variable{prog:Program}{w:World}{A:Around}{E:Value->Shared->Prop}{s:Shared}
variable{X:Cx}
theorem uk{n:Int}{p:Pr}:inR n p=true↔p.1<=n/\n<=p.2:=by
 unfold inR;simp only[AI,decide_eq_true_eq]
theorem um{n:Int}{R:List Pr}:inP R n=true↔∃p∈R,p.1<=n/\n<=p.2:=by
 unfold inP;rw[w4];exact⟨λ⟨p,h,e⟩=>⟨p,h,uk.mp e⟩,λ⟨p,h,e⟩=>⟨p,h,uk.mpr e⟩⟩
structure Gd(S A B A0 B0:List Pr):Prop where
 ap:Apart S
 aA:Apart A
 aB:Apart B
 mem:∀n,(inP A0 n && inP B0 n)=(inP S n || (inP A n && inP B n))
 gap:∀s∈S,(∀p∈A,s.2+2<=p.1)\/(∀p∈B,s.2+2<=p.1)
structure Gp(F T:List Pr)(lo hi st:Int):Prop where
 ap:Apart F
 lt:∀s∈F,s.2+2<=st
 rng:∀s∈F,lo<=s.1/\s.2<=hi
 tk:∀p∈T,p.2<st
 fr:st=lo\/∃p∈T,st=p.2+1
 ge:lo<=st
 mem:∀n,lo<=n->n<=hi->n<st->inP F n = !inP T n
structure Walk(ts:List (Int×Int×Int)):Prop where
 le:∀t∈ts,t.1<=t.2.1
 nx:∀(i:Nat) a b,ts[i]?=some a->ts[i+1]?=some b->b.1=a.2.1+1
def pcs(msk:Int->Bool)(ts:List (Int×Int×Int))(n:Int):Bool:=ts.any λt=>inR n (t.1,t.2.1) && msk t.2.2
structure Gq(R:List Pr)(ts:List (Int×Int×Int))(msk:Int->Bool)(i:Nat)(at_:Int):Prop where
 ap:Apart R
 mem:∀n,inP R n=pcs msk (ts.take i) n
 lt:∀r∈R,r.2<at_
 few:2*R.length<=i\/(2*R.length<=i+1/\∃R' l,R=R'++[l]/\l.2=at_-1)
variable{i:Nat}
section
variable{R:List Pr}{ts:List (Int×Int×Int)}{msk:Int->Bool}{at_:Int}{t:Int×Int×Int}
end
def ends(R:List Pr):List Int:=R.flatMap λp=>[p.1,p.2+1]
theorem oM(R:List Pr)(p:Pr):ends (R++[p])=ends R++[p.1,p.2+1]:=by
 unfold ends;rw[List.flatMap_append];simp
theorem uR(R:List Pr)(p:Pr):ends (p :: R)=p.1 :: (p.2+1) :: ends R:=rfl
theorem mz{R:List Pr}{e:Int}:e∈ends R↔∃p∈R,e=p.1\/e=p.2+1:=by
 unfold ends;rw[nU];simp
theorem qI{l:List Int}(h:l.Pairwise (· < ·)){i j:Nat}{x y:Int}(hi:l[i]?=some x)(b:l[j]?=some y)(a:i<j):x<y:=by
 obtain⟨d,rfl⟩:=GI.mp hi;obtain⟨c,rfl⟩:=GI.mp b;exact oD.mp h i j d c a
def b2(b:Bool):Int:=if b=true then 1 else 0
theorem lC(a:List Int):∀k,k<=a.length->preSum (λi=>a.getD i 0) k=(a.take k).sum
 |0,_=>rfl
 |k+1,h=>by
  have b:=lC a k (by lia);show preSum (λi=>a.getD i 0) k+a.getD k 0=_;have e:a[k]?=some a[k]:=GH (by lia);rw[b,md,e,List.sum_append,dE,e];simp
theorem fA(D:X.calm=true):dr X (.builtin "sum") (λus H Q=>∃(a:Addr)(c:List Int),us=[.ref a]/\SqL X.K H a (c.map V.int)/\Q (.int c.sum) H):=by
 intro p s J H us L Q I r h;obtain⟨a,c,rfl,B,q⟩:=h;obtain⟨u,rfl,x⟩:=r.one;cases (show u=Value.ref a from x);obtain⟨d,l,j,N⟩:=I.list B;have k:=l.length;rw[bx]at k;obtain⟨M,G,_⟩:=id j.isList;have f:a<s.heap.objs.size:=Heap.lt_size G;refine call_sum_walkG (wpAny_pyIter_list j.isList ?_);refine⟨s.heap.objs.size,[s.heap.objs.size,a],[s.heap.objs.size],_,_,_,λi=>c.getD i 0,U,Walks.list (A:=X.A.in1) (I.ok.hd D) _ a (xS f) d.toArray,⟨⟨_,Heap.get?_push_size _ U,U,U⟩,j.isList.at λo e=>Heap.get?_push_of_some _ e⟩,λb E=>?_,λi v e=>?_,λO w t' C=>?_⟩
 .show b<(s.heap.push _).objs.size;rw[Heap.size_push];rcases dt.mp E with z|z
  .rw[z];exact yB _
  .have g:b=a:=by simpa using z
   rw[g];exact yi f
 .have n:d[i]?=some v:=by simpa using e
  have hi:i<c.length:=by rw[k];exact(GI.mp n).1
  have F:(c.map V.int)[i]?=some (.int c[i]):=by rw[fo,GH hi];rfl
  obtain⟨u,m,y⟩:=l.get F;rw[n]at m;cases m;obtain⟨t,rfl⟩:=y;exact⟨t,by show Value.int c[i] t=Value.int (c.getD i 0) t;rw[dE,GH hi];rfl⟩
 .refine⟨.int c.sum,H,I.kept (t':=w) λb o e=>C b o (λz=>?_) (Heap.get?_push_of_some _ e),⟨t',?_⟩,q⟩
  .have g:b=s.heap.objs.size:=by simpa using z
   exact absurd (Heap.lt_size e) (by rw[g];exact yE _)
  .rw[dV,←k,lC c _ (w5 _),iv]
def NeS(W:List (Int×Int×Int)):Prop:=∀(j:Nat) a b,W[j]?=some a->W[j+1]?=some b->a.2.2≠b.2.2
structure Ge(G ts:List (Int×Int×Int))(i:Nat):Prop where
 walk:Walk G
 ne:NeS G
 pcs:∀msk n,pcs msk G n=L2.pcs msk (ts.take i) n
 hd:∀t,ts[0]?=some t->0<i->∃g,G[0]?=some g/\g.1=t.1
 lst:∀t,ts[i-1]?=some t->0<i->∃G' g,G=G'++[g]/\g.2.1=t.2.1/\g.2.2=t.2.2
 len:G.length<=i
 stt:∀g∈G,∃t∈ts,g.2.2=t.2.2
section
variable{G ts:List (Int×Int×Int)}{t:Int×Int×Int}
end
def Its(z:Str):It:=⟨λi _=>i<z.cps.size,λi H x a=>a=H/\∃c,z.cps[i]?=some c/\x=.str ⟨#[c]⟩,λi _=>z.cps.size<=i⟩
theorem sJ{P:Program}{w:World}{K:W.Frag}{L:Expr}(z:Str)(t:Tok)(it:Addr):Turn P w K L (Its z) [it] it (λi h=>h.IsStrIter it "str_ascii_iterator" z t i) where
 mem:=by simp
 obj:=λi h f b g=>by
  obtain⟨o,e,c,d⟩:=f;rw[show b=it by simpa using g];exact⟨o,e,λv q=>by rw[d]at q;cases q⟩
 keep:=λi h m ⟨o,e,r⟩ k=>⟨o,k it (by simp) o e,r⟩
 item:=by
  intro X u n x J i a s G H E I l f p;subst u n x;have F:i<z.cps.size:=p;have hi:z.cps[i]?=some z.cps[i]:=zw F;obtain⟨D,C,N,B,A,y⟩:=l it (by simp);refine wpAny_pyNext_ascii_item f hi λm j M=>?_
  have Q:Inv X a G H { s with heap:=m,toks:=s.toks+1 }:=I.turned (t':=s.toks+1) (λb o g e=>(M.2 b g).trans e) D C B A y;obtain⟨o,e,c,d⟩:=id j;exact⟨_,U,qw (s:={ s with heap:=m,toks:=s.toks+1 }) e c d (by decide) ⟨.str ⟨#[z.cps[i]]⟩,H,Q,⟨_,U⟩,⟨U,_,hi,U⟩,j,λb g=>(l b g).1⟩⟩
 done:=by
  intro X u n x J i a s G H E I l f p;subst u n x;obtain⟨D,C,N,B,A,y⟩:=l it (by simp);exact wpAny_pyNext_ascii_end (I.ok.hd J) f (by simpa using(show z.cps.size<=i from p)) λm O=>⟨U,I.turned (t':=s.toks) (λb o g e=>O b o g e) D C B A y⟩
 self:=λ_ _ _ _ _ f h=>wpAny_pyIter_striter_ascii f h
theorem uS{P:Program}{w:World}{K:W.Frag}{L:Expr}(z:Str)(t:Tok)(it:Addr):Turn P w K L (Its z) [it] it (λi h=>h.IsStrIter it "str_iterator" z t i) where
 mem:=by simp
 obj:=λi h f b g=>by
  obtain⟨o,e,c,d⟩:=f;rw[show b=it by simpa using g];exact⟨o,e,λv q=>by rw[d]at q;cases q⟩
 keep:=λi h m ⟨o,e,r⟩ k=>⟨o,k it (by simp) o e,r⟩
 item:=by
  intro X u n x J i a s G H E I l f p;subst u n x;have F:i<z.cps.size:=p;have hi:z.cps[i]?=some z.cps[i]:=zw F;obtain⟨D,C,N,B,A,y⟩:=l it (by simp);refine wpAny_pyNext_wide_item f hi λm j M=>?_
  have Q:Inv X a G H { s with heap:=m,toks:=s.toks+1 }:=I.turned (t':=s.toks+1) (λb o g e=>(M.2 b g).trans e) D C B A y;obtain⟨o,e,c,d⟩:=id j;exact⟨_,U,qw (s:={ s with heap:=m,toks:=s.toks+1 }) e c d (by decide) ⟨.str ⟨#[z.cps[i]]⟩,H,Q,⟨_,U⟩,⟨U,_,hi,U⟩,j,λb g=>(l b g).1⟩⟩
 done:=by
  intro X u n x J i a s G H E I l f p;subst u n x;obtain⟨D,C,N,B,A,y⟩:=l it (by simp);exact wpAny_pyNext_wide_end (I.ok.hd J) f (by simpa using(show z.cps.size<=i from p)) λm O=>⟨U,I.turned (t':=s.toks) (λb o g e=>O b o g e) D C B A y⟩
 self:=λ_ _ _ _ _ f h=>wpAny_pyIter_striter_wide f h
section
variable{tg:Expr}
inductive zH  (R:(It->Hp->Prop))(x:V)(H1:Hp):Prop
 |mk (z:_)(_:x=.str z)(_:R (Its z) H1):zH R x H1
def Ds(b:TE):W.Frag->St->Hp->(It->Hp->Prop)->Prop:=λ_ a H R=>b a H λx c=>zH R x c
theorem Ax{l:Expr}{i:TE}(n:PE X l i):PI X tg l (Ds i X.K):=by
 intro c s j H R I h;refine thn (n c s j H _ I h) λv a ⟨x,g,f,k,m⟩=>?_
 obtain⟨z,e,q⟩:=m;subst e;obtain⟨t,rfl⟩:=k;have d:∀b∈[a.heap.objs.size],kz X c g b:=λb p=>by
  rw[show b=a.heap.objs.size by simpa using p];exact f.fpOk (w5 _) (f.hok.fresh (w5 _))
 cases ha:z.cps.all (· < 128) with
 |true=>exact wpAny_pyIter_ascii ha ⟨a.heap.objs.size,[a.heap.objs.size],_,_,g,U,f.kept (t':=a.toks) λb o e=>Heap.get?_push_of_some _ e,sJ z t _,⟨_,Heap.get?_push_size _ U,U,U⟩,d,q⟩
 |false=>exact wpAny_pyIter_wide ha ⟨a.heap.objs.size,[a.heap.objs.size],_,_,g,U,f.kept (t':=a.toks) λb o e=>Heap.get?_push_of_some _ e,uS z t _,⟨_,Heap.get?_push_size _ U,U,U⟩,d,q⟩
end
theorem yC{z:Str}{g:TG}{k:TS}{D:Ends}{a:St}{H:Hp}(b:Nat->St->Hp->Prop)(t:b 0 a H)
  (r:∀i c a H,z.cps.toList[i]?=some c->b i a H->g (.str ⟨#[c]⟩) a H λd j=>k { D with nx:=b (i+1),ct:=b (i+1),bk:=D.nx } d j)(s:∀a H,b z.cps.size a H->D.nx a H) :
  ∃W:Nat->Nat->St->Hp->Prop,(∃m,W 0 m a H)/\∀i m a H,W i m a H ->
   ((Its z).stop i H/\D.nx a H)\/((Its z).go i H/\∃N:St->Hp->Prop,(∀f H',N f H'->∃l,l<m/\W (i+1) l f H')/\∀x H',(Its z).yld i H x H'->g x a H' λd j=>k { D with nx:=N,ct:=N,bk:=D.nx } d j):=by
 refine⟨λi m a H=>m=z.cps.size-i/\i<=z.cps.size/\b i a H,⟨_,U,yh _,t⟩,?_⟩;rintro i m a H ⟨rfl,hi,p⟩;by_cases h:i<z.cps.size
 .refine .inr ⟨h,b (i+1),λf H' q=>⟨z.cps.size-(i+1),by lia,U,h,q⟩,λx H' y=>?_⟩;obtain⟨e,c,o,n⟩:=y;subst e;subst n;exact r i c a _ (by simpa using o) p
 .have e:i=z.cps.size:=by lia
  subst e;exact .inl ⟨w5 _,s a H p⟩
theorem lD{x:Str}{v:V}{pos:Pos}(a:Gl X x)(h:∃u,X.mg x=some u/\RelV v u)(b:(x == ("__debug__" : Str))=false:=by decide):PE X (.Name x pos) (tC v):=by
 obtain⟨_,m,r⟩:=h;exact cC a m r b
def sg(g:Str)(c:Nat):Bool:=!(Builtin.Str.occurrences g ⟨#[c]⟩ 0 g.length 1).isEmpty
def mB(z g:Str):Bool:=z.cps.toList.all (sg g)
open PySem.NumText
theorem oN{v:Value}{o:Option Int}(h:IsPart v o):∃p:Option (Int×Tok),v=partValue p/\p.map (·.1)=o:=by
 cases h with
 |none=>exact⟨none,U,U⟩
 |int i t=>exact⟨some (i,t),U,U⟩
inductive BS  (x:V)(lo:Option Int)(hi:Option Int)(H:Hp)(Q:VK):Prop
 |mk (z:_)(_:x=.str z)(_:z.length<=sizeLine)(_:Q (.str (Txt.slice z lo hi)) H):BS x lo hi H Q
theorem wB:SlR X BS:=by
 intro b s m H x v o n lo hi p Q I d i f e h;obtain⟨z,rfl,g,q⟩:=h;obtain⟨t,rfl⟩:=d;obtain⟨l,rfl,k⟩:=oN f;obtain⟨u,rfl,j⟩:=oN e;refine⟨"str",_,slot_str_getitem.lookup,typeIs_str s z t,?_⟩;refine wpAny_getItem_str_slice (l:=l) (u:=u) (st:=none) i U ?_;unfold sliceMade slicePicked;rw[k,j];unfold Txt.slice at q;show Made.post (if ((1:Int) == 1 && (Builtin.Str.strSliceIndices lo hi 1 z.length).length == z.length)=true then _ else _) _ _;by_cases c:((1:Int) == 1 && (Builtin.Str.strSliceIndices lo hi 1 z.length).length == z.length)=true
 .rw[if_pos c]at q⊢;exact⟨.str z,H,I,⟨_,U⟩,q⟩
 .have a:=Txt.slice_le z lo hi;unfold Txt.slice at a;rw[if_neg c]at q a⊢;exact⟨yc a g,.str _,H,I.tok _,⟨_,U⟩,q⟩
structure Gr(cs:List Nat):Prop where
 all:AllDigits cs
 one:cs.length=1\/∃c r,cs=c :: r/\49<=c
def Dt(h:Heap)(e T:Addr)(cls f:Value):Prop :=
 ∃b a d c,h.get? e=some b/\(b.cls=cls/\a[0]?=some f)/\b.data=.fields a/\a[1]?=some (.ref T)/\T≠e/\h.get? T=some d/\d.data=.fields c/\c[3]?=some .none
structure Stp(F X:List Addr)(h h':Heap):Prop where
 keep:∀b o,b ∉ F->b ∉ X->h.get? b=some o->h'.get? b=some o
 slot:∀b o,b∈F->h.get? b=some o->∃sl,h'.get? b=some { o with slots:=sl }
variable{base:Heap}{e:Addr}{oe:Obj}
section
variable{M:Model}{env:Env}{outer:List Env}{L T:Addr}{vs:Array Value}{a0 cls:Value}{Q:Unit->Shared->Prop}
end
variable{P:Program}{H:Hp}
section
variable{H':Hp}{h h':Heap}{a:Addr}{o:HO}{F Y fs:List Addr}
end
structure zI(X:Cx)(pins:List (Addr×Obj))(H:Hp)(b:Addr):Prop where
 ent:X.s₀.heap.get? b=none
 unt:H b=none
 loc:b≠X.env.locals
 cel:∀x c,X.env.cells.lookup x=some c->c≠b
 pin:∀p∈X.pn++pins,p.1≠b
variable{pins:List (Addr×Obj)}{σ:St}
section
variable{h':Heap}{T:Addr}
end
structure Du(K:W.Frag)(C:Addr):Prop where
 ex:∃(bmB bmN:List Value)(newId B Bn nid Ay inN:String),W.excIn K C bmB newId=true/\ExcBaseFacts Bn newId inN bmN/\bmB.contains (Value.type Bn)=true/\ExcBaseFacts B nid Ay bmB
variable{K:W.Frag}
section
variable{mg:Str->Option Value}{N:List Str}{qual:Str}{scope:Scope}{f:Addr}{cd:Value}{outer:List Env}{s0:Shared}{H0:Hp}{E:XK}
end
def XP(X:Cx)(pins:List (Addr×Obj))(σ:St)(d:Addr->Hp->Prop)(b:Value)(s':Shared):Prop :=
 ∃(e T C:Addr)(c:Value)(a:Hp),b=.ref e/\Inv X pins σ a s'/\Dt s'.heap e T (.ref C) c/\zI X pins a e/\zI X pins a T/\d C a
section
variable{s':Shared}
end
variable{k:Nat}{x:Str}{ps:List Str}{sp:Sp}{pos:Pos}
section
variable{e:Expr}{es:List Expr}{t:TA}{p:Pos}
abbrev TSX:=Ends->St->Hp->(Addr->Hp->Prop)->Prop
end
section
variable{s':Shared}
end
section
variable{st b₀:Stmt}{su:List Stmt}{tb:TSX}{ts:Addr->Addr->TS}{Tn n:Str}{B:Addr}{np Dv:Pos}
end
structure CY(K:W.Frag)(C:Addr):Prop where
 ga:W.findIn K (.ref C) "__getattribute__" = some (some (.builtin "BaseException.__getattribute__"))
 hk:W.findIn K (.ref C) "__getattr__" = some none
 cl:W.findIn K (.ref C) "__class__" = some (some (.builtin "object.__class__"))
 gt:W.specialIn K (.builtin "object.__class__") "__get__" = some (some (.builtin "getset_descriptor.__get__"))
 tk:W.takesIn K (.builtin "object.__class__")=some true
 ob:W.mroIn K C (.type "object")=some true
 be:W.mroIn K C (.type "BaseException")=some true
 me:W.kitCls K (.ref C) (.ref C)=some true
variable{C:Addr}
theorem len_app(x y:Str):(x++y).length=x.length+y.length:=by
 show(Str.append x y).cps.size=x.cps.size+y.cps.size;unfold Str.append;simp
def bj(CX:CXT)(P:Program)(w:World)(K:W.Frag)(b:Str->Option Value)(base:Heap)(k:Nat)(C:Addr)(m:Str)(ps:List Str)(sp:Sp):Prop :=
 ∃f a,Meth K C m f/\aL P w K b base CX k f a ps sp/\Binds K a ps []
def bh(CX:CXT)(P:Program)(w:World)(K:W.Frag)(a:Str->Option Value)(base:Heap)(k:Nat)(x:Str)(C:Addr)(ps:List Str)(sp:Sp):Prop :=
 ∃f b,Mk K C f/\aL P w K a base CX k f b ps sp/\Binds K b ps []/\a x=some (.ref C)
structure BU(K:W.Frag)(B:Addr)(m:Str)(f:Addr):Prop where
 sp:W.specialIn K (.ref B) "__getattribute__" = some (some (.builtin "type.__getattribute__"))
 rd:W.readsIn K B (.type "type")=true
 at_:W.findCls K (.ref B) (.type "type") m=some (.val (.ref f))
 kp:W.keepIn K (.ref f)=true
def cc(CX:CXT)(P:Program)(w:World)(K:W.Frag)(a:Str->Option Value)(base:Heap)(k:Nat)(x:Str)(m:Str)(ps:List Str)(sp:Sp):Prop :=
 ∃f b B,BU K B m f/\aL P w K a base CX k f b ps sp/\Binds K b ps []/\a x=some (.ref B)
section
variable{CX:CXT}{mg:Str->Option Value}{j:Nat}{m:Str}
theorem bj.mono(c:bj CX P w K mg base j C m ps sp)(h:j<=k):bj CX P w K mg base k C m ps sp:=by
 obtain⟨f,a,M,F,b⟩:=c;exact⟨f,a,M,F.mono h,b⟩
theorem bh.mono(c:bh CX P w K mg base j x C ps sp)(h:j<=k):bh CX P w K mg base k x C ps sp:=by
 obtain⟨f,a,M,F,b⟩:=c;exact⟨f,a,M,F.mono h,b⟩
theorem cc.mono(c:cc CX P w K mg base j x m ps sp)(h:j<=k):cc CX P w K mg base k x m ps sp:=by
 obtain⟨f,a,B,M,F,b⟩:=c;exact⟨f,a,B,M,F.mono h,b⟩
end
inductive BV(C:Addr)(m:Str)(sp:Sp)(t:TA)(σ:St)(Q:VK)(x:V)(H1:Hp):Prop
 |mk (a dx fs:_)(_:x=.ref a)(_:H1 a=some (.ins C dx fs))(_:fs.lookup m=none)(_:t σ H1 λvs H2=>sp (x :: vs) H2 Q E0)
def tMt(C:Addr)(m:Str)(sp:Sp)(a:TE)(t:TA):TE:=λσ H Q=>a σ H λx b=>BV C m sp t σ Q x b
def tMk(C:Addr)(sp:Sp)(t:TA):TE:=λσ H Q=>t σ H λc b=>∀x a,b x=none->b a=none->a≠x ->
 sp (.ref x :: c) (upd (upd b a (.own x)) x (.ins C a [])) (λv d=>v=.non/\Q (.ref x) d) E0
section
variable{CX:CXT}{f:Addr}{fd:FuncData}{m:Str}{p np apos:Pos}{e o:Expr}{es:List Expr}{ta:TE}{t:TA}
theorem Az{pins:List (Addr×Obj)}{σ:St}{H:Hp}{s:Shared}{Q:VK}{us:List Value}{vs:List V}{E:XK}(F:aL X.prog X.w X.K X.mg X.base CX k f fd ps sp)(b:bP k X.A)(c:Binds X.K fd ps [])(a:Passes CX X E)
  (I:Inv X pins σ H s)(r:Vals vs us)(h:sp vs H Q E):wpAny (model X.prog X.w) X.A (call (.ref f) us) (EP X pins σ Q) X.xe s :=
 pH (dvs:=[]) (ds:=[]) F b c .nil a I r (by rw[jt];exact h)
theorem oO{pl:Sem Bool}(M:bj CX X.prog X.w X.K X.mg X.base k C m ps sp)(z:Passes CX X E0)(c:Cls X.K C)(D:bP k X.A)(E:PE X o ta)(J:PA X (e :: es) t)
  (b:starEach (e :: es) X.env=(false,eval e X.env) :: starEach es X.env:=by rfl)(d:(backTo pos (starEach es X.env)).any (·.1)=false:=by rfl)
  (B:eval (.Call (.Attribute o m apos) (e :: es) [] pos) X.env=(do
   let g ←eval o X.env
   standAt apos.atName
   let (f,first) ←holding [g] (getMethod g m pl)
   callWith pos f first (backTo pos (starEach (e :: es) X.env)) (backToKw pos (keywordEach [] X.env))):=by rfl) :
  PE X (.Call (.Attribute o m apos) (e :: es) [] pos) (tMt C m sp ta t):=by
 obtain⟨f,fd,i,F,G⟩:=M;intro pins s σ H Q I h;refine W.methodCall_KW (pl:=pl) (thn (E pins s σ H _ I h) λu p ⟨x,O,n,v,a,P,fs,L,N,l,q⟩=>?_) B;subst L;obtain rfl:u=Value.ref a:=v;refine ml n N c i l ?_;refine W.callWith_K (first:=[.ref a]) (h₀:=X.base) I.ok.mod.kin i.kp (thn (J pos pins p σ O _ n q) λus s2 ⟨vs,R,j,r,y⟩=>⟨j.kIn,?_⟩) b d;exact Az (us:=.ref a :: us) (vs:=.ref a :: vs) F D G z j (.cons U r) y
theorem fj{pl:Sem Bool}(M:cc CX X.prog X.w X.K X.mg X.base k x m ps sp)(l:Passes CX X E0)(o:bP k X.A)(q:Gl X x)(y:PA X (e :: es) t)(d:(x == ("__debug__" : Str))=false:=by decide)
  (b:starEach (e :: es) X.env=(false,eval e X.env) :: starEach es X.env:=by rfl)(c:(backTo pos (starEach es X.env)).any (·.1)=false:=by rfl)
  (n:eval (.Call (.Attribute (.Name x np) m apos) (e :: es) [] pos) X.env=(do
   let g ←eval (.Name x np) X.env
   standAt apos.atName
   let (f,first) ←holding [g] (getMethod g m pl)
   callWith pos f first (backTo pos (starEach (e :: es) X.env)) (backToKw pos (keywordEach [] X.env))):=by rfl) :
  PE X (.Call (.Attribute (.Name x np) m apos) (e :: es) [] pos) (tFn sp t):=by
 obtain⟨f,fd,B,a,F,u,p⟩:=M;intro pins s σ H Q I h;refine W.methodCall_KW (pl:=pl) (gi I q p ?_ d) n;refine W.method_cls I.kIn a.sp (W.cls_value (mc:=.type "type") I.kIn a.rd a.at_ (oE (v:=.ref f) U) ?_);refine W.callWith_K (first:=[]) (h₀:=X.base) I.ok.mod.kin a.kp (thn (y pos pins _ σ H _ (I.tok _) h) λus s2 ⟨vs,z,i,r,j⟩=>⟨i.kIn,?_⟩) b c;exact Az (us:=us) (vs:=vs) F o u l i r j
theorem qJ(M:bh CX X.prog X.w X.K X.mg X.base k x C ps sp)(l:Passes CX X E0)(m:bP (k+1) X.A)(o:Gl X x)(u:PA X (e :: es) t)(i:(x == ("__debug__" : Str))=false:=by decide)
  (he:starEach (e :: es) X.env=(false,eval e X.env) :: starEach es X.env:=by rfl)(g:(backTo pos (starEach es X.env)).any (·.1)=false:=by rfl) :
  PE X (.Call (.Name x p) (e :: es) [] pos) (tMk C sp t):=by
 obtain⟨f,fd,M,F,r,n⟩:=M;have h:=yx (E:=E0) (dvs:=[]) (ds:=[]) (p:=p) M F m o n r .nil l u i he g;intro pins s σ H Q I q;refine h pins s σ H Q I ?_;have j:t σ H λc b=>∀x a,b x=none->b a=none->a≠x->sp (.ref x :: c) (upd (upd b a (.own x)) x (.ins C a [])) (λv d=>v=.non/\Q (.ref x) d) E0:=q
 show t σ H λc b=>∀x a,b x=none->b a=none->a≠x->sp (.ref x :: (c++[])) (upd (upd b a (.own x)) x (.ins C a [])) (λv d=>v=.non/\Q (.ref x) d) E0
 have y:(λ(c:List V)(b:Hp)=>∀x a,b x=none->b a=none->a≠x->sp (.ref x :: (c++[])) (upd (upd b a (.own x)) x (.ins C a [])) (λv d=>v=.non/\Q (.ref x) d) E0)=λc b=>∀x a,b x=none->b a=none->a≠x->sp (.ref x :: c) (upd (upd b a (.own x)) x (.ins C a [])) (λv d=>v=.non/\Q (.ref x) d) E0:=by
  funext c b
  rw[jt]
 rw[y];exact j
end
inductive wC(K:W.Frag)(neg:Bool)(x:V)(y:V)(H:Hp)(Q:VK):Prop
 |mk (a b xs ys:_)(_:x=.ref a)(_:y=.ref b)(_:SqT K H a xs)(_:SqT K H b ys)(f:Nat->Bool)(_:(∀j x y,xs[j]?=some x->ys[j]?=some y->EqI K H x y (f j)))(_:Q (.bl (if neg then !((List.range (min xs.length ys.length)).all f && xs.length == ys.length) else(List.range (min xs.length ys.length)).all f && xs.length == ys.length)) H)
theorem AA{k:Nat}(o:bP k X.A):OpR X (compareOp .Eq) (wC X.K false):=by
 intro pins s σ H x y v u Q I j i h;obtain⟨a,b,C,B,rfl,rfl,z,w,f,t,q⟩:=h;cases (show v=Value.ref a from j);cases (show u=Value.ref b from i);obtain⟨d,r,p,_⟩:=I.tuple z;obtain⟨c,g,l,_⟩:=I.tuple w;have n:=r.length;have m:=g.length;have D:=o.units;refine SeqAt.eq_tupleAt (e:=f) (show s.heap.IsTuple a d.toArray from p) (show s.heap.IsTuple b c.toArray from l) (by lia) (pL I (by show X.A.units+1+1<cLine;lia) r g t) ⟨.bl _,H,I,U,?_⟩;simp only[dV];rw[←n,←m];exact q
theorem AB{k:Nat}(o:bP k X.A):OpR X (compareOp .NotEq) (wC X.K true):=by
 intro pins s σ H x y v u Q I j i h;obtain⟨a,b,D,C,rfl,rfl,B,z,f,t,q⟩:=h;cases (show v=Value.ref a from j);cases (show u=Value.ref b from i);obtain⟨d,r,p,_⟩:=I.tuple B;obtain⟨c,g,l,_⟩:=I.tuple z;have n:=r.length;have m:=g.length;have E:=o.units;refine SeqAt.RcNeAt.tuples (e:=f) (show s.heap.IsTuple a d.toArray from p) (show s.heap.IsTuple b c.toArray from l) (by lia) (pL I (by show X.A.units+1+1<cLine;lia) r g t) X.prog X.w X.xe _ ⟨.bl _,H,I,U,?_⟩;simp only[dV];rw[←n,←m];exact q
theorem aL.no{P:Program}{w:World}{K:W.Frag}{a:Str->Option Value}{base:Heap}{CX:CXT}{k:Nat}{f:Addr}{b:FuncData}{ps:List Str}{sp:Sp}(h:∀vs H Q E,¬ sp vs H Q E):aL P w K a base CX k f b ps sp :=
 ⟨λvs H Q E q=>(h vs H Q E q).elim,λ_ _ _ H _ _ vs Q E _ _ _ _ q=>(h vs H Q E q).elim⟩
theorem lW{X:Cx}{K:W.Frag}{e:Expr}{f:Str}{pos:Pos}{a:TE}(h:X.K=K)(b:PE X e a)(c:attributeBase e f X.env (eval e X.env)=eval e X.env):PE X (.Attribute e f pos) (BI K a f):=h ▸ bc b c
set_option maxRecDepth 100000
inductive DEq(K:W.Frag)(H:Hp):Nat->V->V->Bool->Prop where
 |flat {n:Nat}{x y:V}(fx:fh x=true)(fy:fh y=true):DEq K H n x y (eqV x y)
 |same {n:Nat}(a:Addr):DEq K H n (.ref a) (.ref a) true
 |lst {n:Nat}{a b:Addr}{xs ys:List V}{f:Nat->Bool}(ne:a≠b)(ha:SqL K H a xs)(hb:SqL K H b ys)(hl:xs.length=ys.length)(h:∀(j:Nat)(x y:V),xs[j]?=some x->ys[j]?=some y->DEq K H n x y (f j)):DEq K H (n+1) (.ref a) (.ref b) ((List.range xs.length).all f)
 |lst_ne {n:Nat}{a b:Addr}{xs ys:List V}(ne:a≠b)(ha:SqL K H a xs)(hb:SqL K H b ys)(hl:xs.length≠ys.length):DEq K H (n+1) (.ref a) (.ref b) false
 |tup {n:Nat}{a b:Addr}{xs ys:List V}{f:Nat->Bool}(ne:a≠b)(ha:SqT K H a xs)(hb:SqT K H b ys)(h:∀(j:Nat)(x y:V),xs[j]?=some x->ys[j]?=some y->DEq K H n x y (f j)):DEq K H (n+1) (.ref a) (.ref b) ((List.range (min xs.length ys.length)).all f && xs.length == ys.length)
theorem DEq.mono{K:W.Frag}{H:Hp}{n m:Nat}{x y:V}{b:Bool}(e:DEq K H n x y b)(h:n<=m):DEq K H m x y b:=by
 induction e generalizing m with
 |flat q p=>exact .flat q p
 |same a=>exact .same a
 |lst c f d i _ g =>
  obtain⟨m,rfl⟩:∃k,m=k+1:=⟨m-1,by lia⟩;exact .lst c f d i λj x y o l=>g j x y o l (by lia)
 |lst_ne c f d i =>
  obtain⟨m,rfl⟩:∃k,m=k+1:=⟨m-1,by lia⟩;exact .lst_ne c f d i
 |tup c f d _ g =>
  obtain⟨m,rfl⟩:∃k,m=k+1:=⟨m-1,by lia⟩;exact .tup c f d λj x y o l=>g j x y o l (by lia)
theorem gW{xs:List V}{a:List Value}(r:Vals xs a){j:Nat}(h:j<a.toArray.size):∃x,xs[j]?=some x/\RelV x a.toArray[j]:=by
 have f:j<a.length:=by simpa using h
 have i:=r.length;have b:xs[j]?=some xs[j]:=GH (by lia);obtain⟨d,c,e⟩:=r.get b;have g:a.toArray[j]=d:=by
  have:=GH f;rw[this]at c;simpa using Option.some.inj c
 exact⟨xs[j],b,g ▸ e⟩
theorem DEq.at{n:Nat}{x y:V}{b:Bool}(e:DEq X.K H n x y b)(I:Inv X pins σ H s):∀{A:Around}{u v:Value},A.units+n<cLine->RelV x u->RelV y v->SeqAt.EqAt A s u v b:=by
 induction e with
 |flat G F=>intro A u v o i g;exact sG i g G F
 |same a =>
  intro A u v o i g;cases (show u=Value.ref a from i);cases (show v=Value.ref a from g);exact SeqAt.EqAt.same _
 | @lst n a b xs ys f ne ha hb hl h ih =>
  intro A u v o i g;cases (show u=Value.ref a from i);cases (show v=Value.ref b from g);obtain⟨d,r,p,_⟩:=I.list ha;obtain⟨c,k,l,_⟩:=I.list hb;have E:=r.length;have D:=k.length;have m:=SeqAt.RcAt.lists (A:=A) (e:=f) p.isList l.isList (by simp only[dV];lia) (by lia) (λj z w=>by
   obtain⟨x,C,t⟩:=gW r z;obtain⟨y,B,q⟩:=gW k w;exact ih j x y C B (by show A.units+1+n<cLine;lia) t q)
  rw[show d.toArray.size=xs.length by simp only[dV];lia]at m;exact SeqAt.EqAt.of_refs ne m
 | @lst_ne n a b xs ys ne ha hb hl =>
  intro A u v o i g;cases (show u=Value.ref a from i);cases (show v=Value.ref b from g);obtain⟨d,r,p,_⟩:=I.list ha;obtain⟨c,k,l,_⟩:=I.list hb;have E:=r.length;have D:=k.length;exact SeqAt.EqAt.of_refs ne (SeqAt.RcAt.lists_lengths p.isList l.isList (by simp only[dV,bne_iff_ne,ne_eq];lia) (by lia))
 | @tup n a b xs ys f ne ha hb h ih =>
  intro A u v o i g;cases (show u=Value.ref a from i);cases (show v=Value.ref b from g);obtain⟨d,r,p,_⟩:=I.tuple ha;obtain⟨c,k,l,_⟩:=I.tuple hb;have E:=r.length;have D:=k.length;have m:=SeqAt.RcAt.tuples (A:=A) (e:=f) (show s.heap.IsTuple a d.toArray from p) (show s.heap.IsTuple b c.toArray from l) (by lia) (λj z w=>by
   obtain⟨x,C,t⟩:=gW r z;obtain⟨y,B,q⟩:=gW k w;exact ih j x y C B (by show A.units+1+n<cLine;lia) t q)
  rw[show d.toArray.size=xs.length by simp only[dV];lia,show c.toArray.size=ys.length by simp only[dV];lia]at m;exact SeqAt.EqAt.of_refs ne m
set_option maxRecDepth 100000
section
variable{tg:Expr}
inductive sL(K:W.Frag)(x:V)(y:V)(H:Hp)(Q:VK):Prop
 |mk (a b xs ys:_)(_:x=.ref a)(_:y=.ref b)(_:SqT K H a xs)(_:SqT K H b ys)(_:xs.length+ys.length<=sizeLine)(_:(xs=[]->Q (.ref b) H))(_:(xs≠[]->ys=[]->Q (.ref a) H))(_:(xs≠[]->ys≠[]->∀p,H p=none->Q (.ref p) (upd H p (.tup (xs++ys)))))
theorem wD:OpR X (binaryOp .Add) (sL X.K):=by
 intro pins s σ H x y v u Q I o m h;obtain⟨a,b,l,A,rfl,rfl,w,t,O,G,E,D⟩:=h;by_cases c:l=[]
 .cases o;cases m;obtain⟨d,C,L,_⟩:=I.tuple w;obtain⟨M,S,J,_⟩:=I.tuple t;have P:d=[]:=C.nil_iff.mpr c;obtain⟨⟨R,dd,z,B⟩,p,r,n,q⟩:=id L;obtain⟨⟨T,j,k,i⟩,e,g,N,f⟩:=id J;simp only at r q g f;subst r q g f
  exact concat_meets ⟨_,p,U⟩ ⟨_,e,U⟩ noFill_tuple_add seq_tuple_add PySem.F.slot_tuple_add PySem.F.entry_tuple_add (PySem.F.args_tuple_add_2 _ _)
   (tuple_addW0 a b d.toArray M.toArray n N dd j B i (by simp[P])) ⟨p,e,⟨.ref b,H,I,U,G c⟩⟩
 .exact yz pins s σ H (.ref a) (.ref b) v u Q I o m ⟨a,b,l,A,U,U,w,t,c,O,E c,D c⟩
end
end L2
namespace HT
open PySem PyProof.Rows
section
open PySem.SeqAt
open PySem.AutoSeq1 (wpAny_loadPart')
open PySem.MeetsSeq PySem.MeetsSeq2 PySem.MeetsSeq3
end
end HT
namespace L2
open PySem PySem.Spec PyProof.Rows
section
variable{X:Cx}
end
end L2
namespace HT
open PySem PyProof.Rows
section
open PySem.SeqAt
open PySem.AutoSeq1 (wpAny_loadPart')
open PySem.MeetsSeq PySem.MeetsSeq2 PySem.MeetsSeq3
end
end HT
namespace L2
open PySem PySem.Spec PyProof.Rows
variable{X:Cx}
variable{prog:Program}{w:World}{A:Around}{E:Value->Shared->Prop}{s:Shared}
section
variable{κ:Type} [DecidableEq κ]
def cntK(ks:List κ):Nat->Nat
 |0=>0
 |i+1=>match ks[i]? with
  |some k=>if k∈ks.take i then cntK ks i else cntK ks i+1
  |none=>cntK ks i
theorem jX(ks:List κ):∀i,cntK ks i<=i
 |0=>w5 _
 |i+1=>by
  have a:=jX ks i;unfold cntK;split
  .split <;> lia
  .lia
theorem kE(ks:List κ):∀i,i<=ks.length->(cntK ks i=i↔(ks.take i).Nodup)
 |0,_=>by simp[cntK]
 |i+1,h=>by
  have c:=kE ks i (by lia);have le:=jX ks i;have e:ks[i]?=some ks[i]:=GH (by lia);have g:ks.take (i+1)=ks.take i++[ks[i]]:=by rw[md,e];rfl
  unfold cntK;rw[e,g,rQ];dsimp only;by_cases m:ks[i]∈ks.take i
  .rw[if_pos m];exact⟨λz=>absurd z (by lia),λz=>absurd U (z.2.2 _ m _ (by simp))⟩
  .rw[if_neg m];refine⟨λz=>⟨c.mp (by lia),by simp,λa f b d=>?_⟩,λz=>by rw[c.mpr z.1]⟩;rw[show b=ks[i] by simpa using d];exact λq=>m (q ▸ f)
variable{knd:KeyKind prog w κ}
theorem gn{h h':Heap}{a:Addr}{S:κ->Bool}{n:Nat}(x:h.SetOf knd a S n)(k:∀o,h.get? a=some o->h'.get? a=some o):h'.SetOf knd a S n:=by
 obtain⟨o,c,d,t,b,r⟩:=x;exact⟨o,c,d,t,k o b,r⟩
theorem mC{h:Heap}{a:Addr}{S c:κ->Bool}{n b:Nat}(x:h.SetOf knd a S n)(e:S=c)(d:n=b):h.SetOf knd a c b:=e ▸ d ▸ x
theorem uT{R:Result->Shared->Prop}{I:Addr}{H h:List Addr}{G:Array GenState->Array GenState->Prop}{n:Nat}{P:Nat->Value->Prop}{St:Nat->Shared->Prop}(W:WalksS prog w A.in1 I H h G n P St){a:Addr}(E:a ∉ H){ks:List κ}
  (T:∀i v,P i v->∃k,ks[i]?=some k/\knd.is k v=true/\v.scannable=true)(g:n+1<scanBound):∀(d i:Nat)(s:Shared),n=i+d->St i s->s.heap.SetOf knd a (λk=>decide (k∈ks.take i)) (cntK ks i) ->
   (∀s',Moved (a :: h) G s s'->s'.heap.SetOf knd a (λk=>decide (k∈ks.take n)) (cntK ks n)->R (.ok (.ret .none)) s')->codeAny (model prog w) A (.builtin "set.update.loop" ⟨[.ref a,.ref I],[]⟩) R s:=by
 have D:a ∉ h:=λz=>E (W.sub a z)
 intro d;induction d with
 |zero =>
  intro i s e j x c;rw[show n=i by lia]at W c;refine codeAny_builtin (R:=R) (A:=A) F.entry_set_update_loop ?_;rw[Around.under_plainId (A:=A) F.plain_set_update_loop _];show wpAny (model prog w) A.in1 (pyNext (.ref I) >>= _) _ _ s;exact BY (W.done s _ _ j λs' m=>C0 (c s' (m.mono λb g=>iC a g) (gn x λo q=>m.heap a o D q)))
 |succ d S =>
  intro i s e j x c;refine codeAny_builtin (R:=R) (A:=A) F.entry_set_update_loop ?_;rw[Around.under_plainId (A:=A) F.plain_set_update_loop _];show wpAny (model prog w) A.in1 (pyNext (.ref I) >>= _) _ _ s;refine BY (W.item i s _ _ (by lia) j λv f p r m=>?_);obtain⟨k,J,C,O⟩:=T i v p;have N:=gn x λo q=>m.heap a o D q
  show wpAny (model prog w) A.in1 (holding [v] (setAdd a v) >>= _) _ _ f;refine BY (Dl (show wpAny (model prog w) A.in1 (setAdd a v) _ _ f from ?_));unfold setAdd;refine Dl (BY (knd.pyHash C ?_));have le:=jX ks i;refine wpAny_setAddHashed_of (knd:=knd) (s:={ f with toks:=f.toks+1 }) C O N (by lia) λl B M=>?_
  have V:ks.take (i+1)=ks.take i++[k]:=by rw[md,J];rfl
  have L:l.SetOf knd a (λq=>decide (q∈ks.take (i+1))) (cntK ks (i+1)):=by
   refine mC M (funext λq=>?_) ?_
   .rw[V];by_cases z:q∈ks.take i <;> by_cases y:q=k <;> simp[z,y]
   .show(if decide (k∈ks.take i)=true then cntK ks i else cntK ks i+1)=match ks[i]? with|some k=>if k∈ks.take i then cntK ks i else cntK ks i+1|none=>cntK ks i
    rw[J];by_cases z:k∈ks.take i <;> simp[z]
  refine C0 ⟨plainId_quiet F.plain_set_update_loop _,S (i+1) { f with heap:=l,toks:=f.toks+1 } (by lia) (W.frame (i+1) f l (f.toks+1) r (yl _) λb u o q=>(B.2 b λz=>E (z ▸ u)).trans q) L λs2 Q K=>?_⟩;refine c s2 (Moved.trans W.gtrans ((m.mono λb g=>iC a g).then_heap (yl _) λb o t q=>?_) Q) K;exact(B.2 b λz=>t (z ▸ fb)).trans q
abbrev dj(led:Bool):Obj:={ cls:=.type "set",dict:=none,data:=.set #[] 0 (.fresh 0 0 led) }
def Filled(knd:KeyKind prog w κ)(s:Shared)(ks:List κ)(h':Heap):Prop :=
 h'.SetOf knd s.heap.objs.size (λk=>decide (k∈ks)) (cntK ks ks.length)/\∀b o,b<s.heap.objs.size->s.heap.get? b=some o->h'.get? b=some o
theorem wF{l:Addr}{items:Array Value}{ks:List κ}{led:Bool}(H:A.handled=none)(D:s.heap.IsList l items)(G:∀(i:Nat)(v:Value),items[i]?=some v->∃k,ks[i]?=some k/\knd.is k v=true/\v.scannable=true)(C:ks.length=items.size)(I:items.size+1<scanBound) :
  codeAny (model prog w) A (.call (.builtin "set.__init__") ⟨[.ref s.heap.objs.size,.ref l],[]⟩) (wants (λr s2=>r=.none/\∃h' n,s2={ s with heap:=h',toks:=n }/\Filled knd s ks h') E) { s with heap:=s.heap.push (dj led) }:=by
 have j:(s.heap.push (dj led)).get? s.heap.objs.size=some (dj led):=Heap.get?_push_size s.heap U;have ty:Shared.TypeIs { s with heap:=s.heap.push (dj led) } (.ref s.heap.objs.size) "set" := ⟨dj led,j,U⟩;refine codeAny_call_builtin F.called_set.init.plain F.entry_set_init (check_set_init_1 ty ?_);obtain⟨⟨T,O,S,N⟩,f,h,m,g⟩:=D;dsimp only at h g;subst h g;have K:(s.heap.push (dj led)).get? l=some { cls:=.type "list",dict:=O,data:=.seq items m,slots:=N }:=Heap.get?_push_of_some _ f;have R:=F.sub_list_set;have Q:=F.sub_list_frozenset;have P:(Value.type "list" == Value.type "dict")=false:=by decide
 have e:(s.heap.push (dj led)).IsList l items:=⟨_,K,U,m,U⟩;have lt:l<s.heap.objs.size:=Heap.lt_size f;unfold Builtin.«set.__init__» Builtin.Frozenset.updateFrom noKeywords;generalize J:pyIter=it
 wp_walk
 subst J;refine wpAny_pyIter_list e (BY (wpAny_runValue ?_));have y:l≠(s.heap.push (dj led)).objs.size:=by rw[Heap.size_push];exact xS (yi lt)
 have B:s.heap.objs.size ∉ [(s.heap.push (dj led)).objs.size,l]:=by
  rw[Heap.size_push];intro z;rcases dt.mp z with z|z
  .exact absurd z (xS (yB _))
  .exact absurd (by simpa using z) (yg lt)
 refine uT (knd:=knd) ((Walks.list (by simp[H]) _ l y items).toS) B (ks:=ks) G I items.size 0 _ (Nat.zero_add _).symm ⟨⟨_,Heap.get?_push_size _ U,U,U⟩,e.push _⟩ (mC ((setObjOf_fresh (knd:=knd) led).setOf (Heap.get?_push_of_some _ j) (by unfold scanBound;lia)) (funext λk=>by simp) U) λt c x=>?_
 obtain⟨h',L,M,p,u⟩:=t;obtain rfl:L=s.gens:=c.gens;obtain rfl:M=s.drawn:=c.drawn;obtain rfl:u=s.os:=c.os;refine C0 (show wpAny (model prog w) _ (ret Value.none) _ _ _ from C0 ⟨U,h',p,U,?_,λb o a q=>?_⟩)
 .rw[←C]at x;exact mC x (funext λk=>by rw[iv]) U
 .refine c.heap b o (λz=>?_) (Heap.get?_push_of_some _ (Heap.get?_push_of_some _ q));rcases dt.mp z with z|z
  .exact absurd z (xS a)
  .have d:b=(s.heap.push (dj led)).objs.size:=by simpa using z
   rw[Heap.size_push]at d;exact absurd d (xS (yi a))
set_option maxRecDepth 100000 in
theorem oP{l:Addr}{items:Array Value}{ks:List κ}{Q:Value->Shared->Prop}(q:A.handled=none)(o:s.heap.IsList l items)(p:∀(i:Nat)(v:Value),items[i]?=some v->∃k,ks[i]?=some k/\knd.is k v=true/\v.scannable=true)(n:ks.length=items.size)(t:items.size+1<scanBound)
  (h:∀h' d,Filled knd s ks h'->Q (.ref s.heap.objs.size) { s with heap:=h',toks:=d }):wpAny (model prog w) A (call (.type "set") [.ref l]) Q E s:=by
 obtain⟨c,z,mro⟩:=F.called_set.mro;have I:=F.called_set.made;have H:=F.called_set.sub;have G:=F.called_set.notType;have D:=F.called_set.canCreate;have C:=F.typeCall_set_1 (.ref l);refine wpAny_call (codeAny_of_tree (show wpAny (model prog w) _ (callAny (.type "set") _) _ _ _ from C0 ⟨Code.quiet_builtin _ (by decide+kernel),codeAny_builtin F.entry_type_call ?_⟩));rw[Around.under_plain (A:=A) (weight_type_call_type "set" [.ref l] []) U]
 repeat (any_goals (first|assumption|wp_step))
 refine codeAny_mono (code_set_new_1 (.ref l) (E:=E) (Q₁:=λj g=>∃a,j=.ref s.heap.objs.size/\g={ s with heap:=s.heap.push (dj a) }) λa=>⟨a,U,U⟩) λr g f=>?_
 cases r with
 |error e=>exact f
 |ok fl =>
  cases fl with
  |ret j =>
   obtain⟨a,rfl,rfl⟩:=f;have u:(s.heap.push (dj a)).get? s.heap.objs.size=some (dj a):=Heap.get?_push_size s.heap U;have ty:Shared.TypeIs { s with heap:=s.heap.push (dj a) } (.ref s.heap.objs.size) "set" := ⟨dj a,u,U⟩;have B:=F.called_set.init.lookup;have b2:=F.called_set.init.bind (.ref s.heap.objs.size)
   repeat (any_goals (first|assumption|wp_step))
   refine codeAny_mono (wF (E:=E) (knd:=knd) (by simp[q]) o p n t) λm s2 b=>?_
   cases m with
   |error e=>exact b
   |ok y =>
    cases y with
    |ret r =>
     obtain⟨rfl,h',d,rfl,x⟩:=b
     repeat (any_goals (first|assumption|wp_step))
     exact h h' d x
    |_=>exact b.elim
  |_=>exact f.elim
end
def nX(P:Program)(w:World)(a:Addr)(zs:List Str):HO:=.ext λh=>h.SetOf (strKind P w) a (λz=>decide (z∈zs)) (cntK zs zs.length)
theorem oQ:∀{zs:List Str}{us:List Value},Vals (zs.map V.str) us->∀(i:Nat)(v:Value),us[i]?=some v->∃z t,zs[i]?=some z/\v=.str z t
 | [],_,.nil,i,v,h=>by simp at h
 |z :: zs,_,.cons ⟨t,e⟩ r,0,v,h=>by simp at h;exact⟨z,t,U,by rw[←h,e]⟩
 |z :: zs,_,.cons _ r,i+1,v,h=>by
  obtain⟨a,t,c,b⟩:=oQ r i v (by simpa using h);exact⟨a,t,by simpa using c,b⟩
theorem i3(C:X.calm=true):dr X (.type "set") (λxs H Q=>∃(p:Addr)(zs:List Str),xs=[.ref p]/\SqL X.K H p (zs.map V.str)/\zs.length<=1000/\∀l,H l=none->Q (.ref l) (upd H l (nX X.prog X.w l zs))):=by
 intro j s G H xs J Q I r h;obtain⟨p,zs,rfl,D,L,q⟩:=h;obtain⟨u,rfl,A⟩:=r.one;obtain rfl:u=Value.ref p:=A;obtain⟨F,d,B,_⟩:=I.list D;have f:=d.length;rw[bx]at f;refine oP (knd:=strKind X.prog X.w) (ks:=zs) (I.ok.hd C) B.isList (λi v e=>?_) (by simpa using f) (by unfold scanBound;simp;lia) λh' n x=>?_
 .obtain⟨z,t,E,rfl⟩:=oQ d i v (by simpa using e);exact⟨z,E,by show Value.isStrOf z (.str z t)=true;simp[Value.isStrOf],U⟩
 .obtain⟨c,m⟩:=x;refine⟨.ref s.heap.objs.size,_,I.laid (a:=s.heap.objs.size) (o:=nX X.prog X.w s.heap.objs.size zs) (h':=h') (t':=n) (λb o q=>m b o (Heap.lt_size q) q) (w5 _) ?_,U,q _ I.fresh⟩;refine⟨c,?_,λN M y k=>gn y k⟩;obtain⟨o,_,_,_,g,_⟩:=c;exact⟨o,g⟩
def Asc(xs:Array Nat):Prop:=xs.toList.Pairwise (· < ·)
theorem Asc.lt{xs:Array Nat}(h:Asc xs){i j:Nat}(a:i<j)(b:j<xs.size):xs[i]<xs[j]:=by
 have:=oD.mp h i j (by simp;lia) (by simpa using b) a;simpa using this
theorem wG{xs:Array Nat}(h:Asc xs)(j:Nat):∀(a lo hi:Nat),lo<=hi->hi<=xs.size->hi-lo<=a ->
  (∀(i:Nat)(b:i<xs.size),i<lo->xs[i]<j)->(∀(i:Nat)(b:i<xs.size),hi<=i->j<=xs[i]) ->
  SetTable.below.go xs j a lo hi<=xs.size/\(∀(i:Nat)(b:i<xs.size),i<SetTable.below.go xs j a lo hi->xs[i]<j)/\(∀(i:Nat)(b:i<xs.size),SetTable.below.go xs j a lo hi<=i->j<=xs[i]):=by
 intro a;induction a with
 |zero =>
  intro lo hi o k n g f;have e:lo=hi:=by lia
  subst e;exact⟨by unfold SetTable.below.go;exact k,by unfold SetTable.below.go;exact g,by unfold SetTable.below.go;exact f⟩
 |succ a l =>
  intro lo hi o k n g f;unfold SetTable.below.go;by_cases c:lo<hi
  .rw[if_pos c];have m:(lo+hi) / 2<xs.size:=by lia
   have p:xs.getD ((lo+hi) / 2) j=xs[(lo+hi) / 2]:=by simp[Array.getD,m]
   dsimp only;rw[p];by_cases d:xs[(lo+hi) / 2]<j
   .rw[if_pos d];refine l _ _ (by lia) k (by lia) (λi b q=>?_) f;by_cases e:i=(lo+hi) / 2
    .subst e;exact d
    .exact Nat.lt_trans (h.lt (by lia) m) d
   .rw[if_neg d];refine l _ _ (by lia) (by lia) (by lia) g λi b r=>?_
    by_cases e:i=(lo+hi) / 2
    .subst e;lia
    .exact yc (Nat.le_of_not_lt d) (yj (h.lt (by lia) b))
  .rw[if_neg c];have e:lo=hi:=by lia
   subst e;exact⟨k,g,f⟩
theorem je{xs:Array Nat}(h:Asc xs)(j:Nat):SetTable.below xs j<=xs.size/\(∀(i:Nat)(hi:i<xs.size),i<SetTable.below xs j->xs[i]<j)/\(∀(i:Nat)(hi:i<xs.size),SetTable.below xs j<=i->j<=xs[i]) :=
 wG h j xs.size 0 xs.size (yh _) (w5 _) (by lia) (λ_ _ z=>absurd z (by lia)) (λi hi z=>absurd z (by lia))
theorem sM{xs:Array Nat}(h:Asc xs){i:Nat}(hi:i<xs.size):SetTable.below xs (xs[i]+1)=i+1:=by
 obtain⟨d,b2,a⟩:=je h (xs[i]+1);have c:¬ SetTable.below xs (xs[i]+1)<=i:=λz=>absurd (a i hi z) (by lia)
 have b:¬ i+1<SetTable.below xs (xs[i]+1):=λz=>by
  have:=b2 (i+1) (by lia) z;have:=h.lt (show i<i+1 by lia) (show i+1<xs.size by lia);lia
 lia
theorem qK{xs:Array Nat}(h:Asc xs):SetTable.below xs 0=0:=by
 obtain⟨b,b2,a⟩:=je h 0;by_cases z:SetTable.below xs 0=0
 .exact z
 .exact absurd (b2 0 (by lia) (by lia)) (by lia)
theorem sN{xs:Array Nat}(h:Asc xs){j:Nat}(m:xs[SetTable.below xs j]?≠some j):Asc (SetTable.insertAt xs (SetTable.below xs j) j):=by
 obtain⟨r,b2,g⟩:=je h j;unfold Asc;rw[SetTable.toList_insertAt,ny];refine⟨h.sublist (ro _ _),rR.mpr ⟨λb f=>?_,h.sublist (List.drop_sublist _ _)⟩,λa n b f=>?_⟩
 .obtain⟨k,d,rfl⟩:=List.mem_iff_getElem.mp f;have c:SetTable.below xs j+k<xs.size:=by simp at d;lia
  have z:=g _ c (by lia);have e:(xs.toList.drop (SetTable.below xs j))[k]=xs[SetTable.below xs j+k]:=by simp
  rw[e];by_cases q:j=xs[SetTable.below xs j+k]
  .exfalso;by_cases l:k=0
   .subst l;refine m ?_;rw[zw (by lia)];simpa using q.symm
   .have p:=g _ (show SetTable.below xs j<xs.size by lia) (w5 _);have o:=h.lt (show SetTable.below xs j<SetTable.below xs j+k by lia) c;lia
  .lia
 .have i:a<j:=by
   obtain⟨k,d,rfl⟩:=List.mem_iff_getElem.mp n;have c:k<SetTable.below xs j/\k<xs.size:=by simp at d;lia
   have:=b2 k c.2 c.1;simpa using this
  rcases dt.mp f with rfl|f
  .exact i
  .obtain⟨k,d,rfl⟩:=List.mem_iff_getElem.mp f;have c:SetTable.below xs j+k<xs.size:=by simp at d;lia
   have z:=g _ c (by lia);have e:(xs.toList.drop (SetTable.below xs j))[k]=xs[SetTable.below xs j+k]:=by simp
   rw[e];lia
def qL(t:SetTable)(j:Nat):Prop:=t.place[SetTable.below t.place j]?≠some j
theorem mD{t:SetTable}{j:Nat}(h:t.slot j=.empty\/t.slot j=.dummy):qL t j:=by
 intro e;have:t.slot j=.live (SetTable.below t.place j):=by
  unfold SetTable.slot;simp[e]
 rw[this]at h;rcases h with h|h <;> cases h
theorem sO(t:SetTable)(f:Nat->Int)(h:Int):∀(a:Nat)(p:SetTable.Probe),(∀d,p.dummy=some d->qL t d)->∀j c,SetTable.probe.go t f h a p=some (.empty j c)->qL t j/\∀d,c=some d->qL t d:=by
 intro a;induction a with
 |zero=>intro p _ j c e;unfold SetTable.probe.go at e;cases e
 |succ a i =>
  intro p k j c e;unfold SetTable.probe.go at e;have g:∀q:SetTable.Probe,(t.advance q).dummy=q.dummy:=λq=>by
   unfold SetTable.advance;split <;> rfl
  split at e
  .rename_i he
   injection e with e;injection e with m l;subst m l;exact⟨mD (.inl he),k⟩
  .rename_i he
   refine i _ (λd b=>?_) j c e;rw[g]at b;injection b with b;subst b;exact mD (.inr he)
  .split at e
   .injection e with e;cases e
   .refine i _ (λd b=>k d ?_) j c e;rw[g]at b;exact b
theorem nY{t:SetTable}{h:Int}{j:Nat}{b:Bool}(e:t.freeSlot h=some (j,b)):qL t j:=by
 unfold SetTable.freeSlot at e;split at e
 .rename_i j' dm he
  obtain⟨g,f⟩:=sO t _ h _ _ (λd a=>by simp[SetTable.probeStart]at a) _ _ he;injection e with e;injection e with c i;subst c;cases dm with
  |none=>exact g
  |some d=>exact f d U
 .cases e
theorem uU(n:Nat):Asc (Array.range n):=by
 unfold Asc;rw[Array.toList_range];exact List.pairwise_lt_range
theorem fk(t:SetTable)(n:Nat):Asc (t.standIn n).place:=uU n
theorem sP{t:SetTable}(c:Asc t.place)(a:Array (Int×Value))(h:Int)(x:Value):Asc (layNew t a h x).2.1.place/\(layNew t a h x).2.1.led=t.led:=by
 unfold layNew;split
 .rename_i slot wd e
  have b:Asc (t.put slot).1.place:=sN c (nY e);dsimp only;unfold SetTable.orStandIn;split
  .exact⟨b,U⟩
  .exact⟨fk _ _,U⟩
 .exact⟨fk _ _,U⟩
theorem qM(f:Nat->Option Nat):∀l:List Nat,((l.filterMap λj=>(f j).map (j,·)).map (·.1)).Sublist l
 | []=>by simp
 |j :: l=>by
  have a:=qM f l;rw[qP];cases e:f j with
  |none=>exact a.trans (List.sublist_cons_self _ _)
  |some v=>exact a.cons_cons j
theorem sQ{t t':SetTable}{b:Array Int}{n:Nat}{o:Array Nat}(e:t.relaid b n=some (t',o)):Asc t'.place/\t'.led=t.led:=by
 unfold SetTable.relaid SetTable.laid at e;cases hc:SetTable.layClean (SetTable.sizeAbove n-1) b with
 |none=>rw[hc]at e;cases e
 |some a =>
  rw[hc]at e;injection e with e;injection e with c d;subst c;exact⟨List.pairwise_lt_range.sublist (qM _ _),U⟩
theorem pN{t:SetTable}(b:Asc t.place)(a:Array (Int×Value))(n:Nat):Asc (relayAll t a n).2.1.place/\(relayAll t a n).2.1.led=t.led:=by
 unfold relayAll;split
 .rename_i t' o e
  dsimp only;split
  .exact sQ e
  .exact⟨fk _ _,U⟩
 .exact⟨fk _ _,U⟩
theorem fB{α:Type}:∀{l:List α}{i:Nat}{x:α},l[i]?=some x->(x :: l.eraseIdx i).Perm l
 | [],i,x,h=>by simp at h
 |a :: l,0,x,h=>by simp at h;subst h;exact .refl _
 |a :: l,i+1,x,h=>by
  have b:=fB (l:=l) (i:=i) (x:=x) (by simpa using h);rw[List.eraseIdx_cons_succ];exact(List.Perm.swap _ _ _).trans (b.cons a)
theorem yD{α:Type}(next:Nat->Nat):∀(a k:Nat)(left:List α)(out:Array α),a=left.length->∃l:List α,l.Perm left/\(pickOrder.go next a k left out).toList=out.toList++l:=by
 intro a;induction a with
 |zero =>
  intro k left out e;exact⟨left,.refl _,by unfold pickOrder.go;rw[oT.mp e.symm];simp⟩
 |succ a d =>
  intro k left out e;have b:next k%left.length<left.length:=zm _ (by lia);have c:left[next k%left.length]?=some left[next k%left.length]:=GH b;unfold pickOrder.go;rw[c];dsimp only;obtain⟨l,p,f⟩:=d (k+1) (left.eraseIdx (next k%left.length)) (out.push left[next k%left.length]) (by rw[List.length_eraseIdx_of_lt b];lia);exact⟨left[next k%left.length] :: l,(p.cons _).trans (fB c),by rw[f];simp⟩
theorem uV{α:Type}(next:Nat->Nat)(xs:Array α):(pickOrder next xs).toList.Perm xs.toList:=by
 obtain⟨l,p,e⟩:=yD next xs.size 0 xs.toList #[] (by simp);have:(pickOrder next xs).toList=l:=by unfold pickOrder;rw[e];simp
 rw[this];exact p
def dN(w:World):Bool:=w.params.followText "set-order"
def kF:Value->Int
 | .int k _=>k
 |_=>0
structure gX(es:Array (Int×Value))(ks:List Int):Prop where
 ent:∀e∈es.toList,e.1=hashInt (kF e.2)/\∃u,e.2=.int (kF e.2) u
 nd:(es.toList.map λe=>kF e.2).Nodup
 mem:∀k,k∈ks↔k∈es.toList.map λe=>kF e.2
theorem gX.perm{b a:Array (Int×Value)}{ks:List Int}(h:gX b ks)(p:a.toList.Perm b.toList):gX a ks :=
 ⟨λe c=>h.ent e (p.mem_iff.mp c),(p.map _).nodup_iff.mpr h.nd,λk=>(h.mem k).trans (p.map _).mem_iff.symm⟩
theorem gX.push{d:Array (Int×Value)}{ks:List Int}{k:Int}{u:Tok}(h:gX d ks)(f:k ∉ ks):gX (d.push (hashInt k,.int k u)) (ks++[k]):=by
 refine⟨λe c=>?_,?_,λq=>?_⟩
 .rw[zJ]at c;rcases gg.mp c with c|c
  .exact h.ent e c
  .rw[hZ]at c;subst c;exact⟨U,u,U⟩
 .rw[zJ,ij,rQ];refine⟨h.nd,by simp,λa i b g=>?_⟩;have j:b=k:=by simpa[kF]using g
  subst j;exact λe=>f ((h.mem b).mpr (e ▸ i))
 .rw[zJ,ij,gg,gg,h.mem q];simp[kF]
theorem gX.again{a:Array (Int×Value)}{ks:List Int}{k:Int}(h:gX a ks)(b:k∈ks):gX a (ks++[k]) :=
 ⟨h.ent,h.nd,λq=>by
  rw[←h.mem q,gg,hZ];exact⟨λz=>z.elim id λz=>z ▸ b,.inl⟩⟩
theorem gX.elems{b:Array (Int×Value)}{ks:List Int}(h:gX b ks):ElemsOf (intKind prog w) b.toList:=λe c=>by
 obtain⟨d,u,a⟩:=h.ent e c;refine⟨⟨kF e.2,?_,d⟩,?_⟩
 .rw[a];exact intKind_is _ _ _ _
 .rw[a];rfl
theorem gX.found{b:Array (Int×Value)}{ks:List Int}(h:gX b ks){k:Int}{e:Int×Value}(a:e∈b.toList)(c:(intKind prog w).is k e.2=true):k∈ks:=by
 obtain⟨_,u,d⟩:=h.ent e a;refine(h.mem k).mpr (en.mpr ⟨e,a,?_⟩);exact(intKind prog w).inj e.2 _ _ (by rw[d];exact intKind_is _ _ _ _) c
def dF(h:Heap)(a:Addr)(led:Bool)(ks:List Int)(n:Nat):Prop :=
 ∃o b c t,h.get? a=some o/\o.ExactSet/\o.data=.set b c t/\gX b ks/\b.size<scanBound/\t.fits b.size=true/\Asc t.place/\t.led=led/\b.size=n
theorem dF.stay{h h':Heap}{a:Addr}{led:Bool}{ks:List Int}{n:Nat}(x:dF h a led ks n)(k:∀o,h.get? a=some o->h'.get? a=some o):dF h' a led ks n:=by
 obtain⟨o,c,d,t,b,r⟩:=x;exact⟨o,c,d,t,k o b,r⟩
theorem dF.store{h:Heap}{a:Addr}{o:Obj}{m:Array (Int×Value)}{c:Nat}{t:SetTable}(g:h.get? a=some o)(d:o.ExactSet)(f:o.data=.set m c t)
  {b:Array (Int×Value)}{t':SetTable}{ks:List Int}(j:gX b ks)(k:b.size<scanBound)(i:t'.fits b.size=true)(l:Asc t'.place) :
  (h.update a (Obj.putSet b t')).get? a=some { o with data:=.set b (c+1) t' }/\dF (h.update a (Obj.putSet b t')) a t'.led ks b.size:=by
 have e:(h.update a (Obj.putSet b t')).get? a=some { o with data:=.set b (c+1) t' }:=by
  have:=Heap.get?_update_self (Obj.putSet b t') g (by rw[putSet_of b t' f];rfl);rw[putSet_of b t' f]at this;exact this
 exact⟨e,_,b,c+1,t',e,d,U,j,k,i,l,U,U⟩
theorem qN{g:Bool->Sem Unit}(I:∀(b:Bool)(e:Shared)(F:Unit->Shared->Prop),F () e->wpAny (model prog w) A (g b) F E e)
  {a:Addr}{o:Obj}{J:Array (Int×Value)}{K:Nat}{t:SetTable}(C:s.heap.get? a=some o)(p:o.ExactSet)(D:o.data=.set J K t)
  {c:Array (Int×Value)}{d:SetTable}{ks:List Int}{led:Bool}(q:gX c ks)
  (j:c.size<scanBound)(B:d.fits c.size=true)(u:Asc d.place)(n:d.led=led){H:Bool}{R:Option Bool->Shared->Prop}
  (h:∀h',Heap.SameBut a s.heap h'->dF h' a led ks c.size->R (some true) { s with heap:=h' }) :
  wpAny (model prog w) A (do
    storeSet a c d
    if (!H && d.tooFull)=true then do
      g (relayAll d c (SetTable.grown c.size)).2.2
      storeSet a (relayAll d c (SetTable.grown c.size)).1 (relayAll d c (SetTable.grown c.size)).2.1
      pure (some true)
     else pure (some true)) R E s:=by
 refine BY (wpAny_storeSet_of C D ?_ (fits_of_scanBound j));obtain⟨m,x⟩:=dF.store C p D q j B u;rw[n]at x;have G:=Heap.SameBut.update s.heap a (Obj.putSet c d);split
 .have z:=relayAll_perm d c (SetTable.grown c.size);have i:=relayAll_fits d c (SetTable.grown c.size);obtain⟨k,f⟩:=pN u c (SetTable.grown c.size);generalize L:relayAll d c (SetTable.grown c.size)=Rl at z i k f⊢;obtain⟨y,M,N⟩:=Rl;dsimp only at z i k f⊢;have l:y.size=c.size:=by rw[←zz,z.length_eq,zz]
  have r:y.size<scanBound:=by rw[l];exact j
  refine BY (I _ _ _ ?_);refine BY (wpAny_storeSet_of m U ?_ (fits_of_scanBound r));obtain⟨_,v⟩:=dF.store m p U (q.perm z) r i k;rw[l,f,n]at v;exact C0 (h _ (G.trans (Heap.SameBut.update _ a _)) v)
 .exact C0 (h _ G x)
theorem addW{a:Addr}{led:Bool}{ks:List Int}{n:Nat}{k:Int}{u:Tok}{Q:Bool->Shared->Prop}(hS:dF s.heap a led ks n)(R:n+1<scanBound)
  (h:∀h' T b,Heap.SameBut a s.heap h'->T<=n+1->dF h' a led (ks++[k]) T->Q b { s with heap:=h' }) :
  wpAny (model prog w) A (setAddHashed a (.int k u) ((intKind prog w).hash k)) Q E s:=by
 obtain⟨o,p,ep,t,B,r,C,x,W,N,X,I,K⟩:=hS;have Am:(intKind prog w).is k (.int k u)=true:=intKind_is _ _ _ _;have F:(Value.int k u).scannable=true:=rfl;have G:=x.elems (prog:=prog) (w:=w);have a0:p.size+1<scanBound:=by rw[K];exact R
 unfold setAddHashed setAddHashedIn;refine Dl (BY (wpAny_setState_of B C N ?_));dsimp only;rw[byScan_of F W G];simp only[↓reduceIte];unfold setAddByScan;refine BY ?_;refine BY (wpAny_rule ?_);refine BY (wpAny_setScan_of Am B C N G ?_);cases hr:List.findIdx? (λe=>(intKind prog w).is k e.2) p.toList with
 |some j =>
  dsimp only;obtain⟨Z,O,_⟩:=List.findIdx?_eq_some_iff_getElem.mp hr;have M:k∈ks:=x.found (lI Z) O;refine C0 (C0 ?_);have e:s={ s with heap:=s.heap }:=by cases s;rfl
  rw[e];exact h s.heap n false (Heap.SameBut.refl a s.heap) (yl _) ⟨o,p,ep,t,B,r,C,x.again M,W,N,X,I,K⟩
 |none =>
  dsimp only;have M:k ∉ ks:=λz=>by
   obtain⟨e,V,q⟩:=en.mp ((x.mem k).mp z);have:=List.findIdx?_eq_none_iff.mp hr e V;obtain⟨_,v,h2⟩:=x.ent e V;rw[h2]at this;rw[←q]at this;rw[intKind_is]at this;exact Bool.noConfusion this
  have P:∀(b:Bool){c:Shared}{D:Unit->Shared->Prop},D () c->wpAny (model prog w) A (match b with|true=>rule "set.scan.the-table-gave-way" | false=>pure ()) D E c :=
   λb c D m=>by cases b <;> first|exact C0 m|exact wpAny_rule m
  have J:=layNew_perm t p ((intKind prog w).hash k) (.int k u);have y:=layNew_fits t p ((intKind prog w).hash k) (.int k u);obtain⟨i,f⟩:=sP X p ((intKind prog w).hash k) (.int k u);generalize hL:layNew t p ((intKind prog w).hash k) (.int k u)=L at J y i f⊢;obtain⟨l,t1,qO,Gs⟩:=L;dsimp only at J y i f⊢;have H:gX l (ks++[k]):=(x.push (u:=u) M).perm J;have Dw:l.size=n+1:=by rw[←zz,J.length_eq,zz,Array.size_push,K]
  have Y:l.size<scanBound:=by rw[Dw];exact R
  refine BY (P _ ?_);have S:∀h',Heap.SameBut a s.heap h'->dF h' a led (ks++[k]) l.size->Q true { s with heap:=h' }:=λh' d g=>h h' _ true d (by lia) g
  split
  .refine BY ?_;rw[hashByValue_scannable 8 F];refine C0 ?_;refine qN ?_ B r C H Y ?_ ?_ (led:=led) ?_ ?_
   .intro b c D m;cases b <;> first|exact C0 m|exact wpAny_rule m
   .split
    .exact y
    .exact SetTable.fits_plain_off y
   .split
    .exact i
    .exact i
   .split
    .exact f.trans I
    .exact f.trans I
   .intro h' d g;dsimp only;exact C0 (S h' d g)
  .refine BY (C0 ?_);simp only[↓reduceIte];refine qN ?_ B r C H Y y i (f.trans I) ?_
   .intro b c D m;cases b <;> first|exact C0 m|exact wpAny_rule m
   .intro h' d g;dsimp only;exact C0 (S h' d g)
theorem sS(a:Value){Q₁:Value->Shared->Prop}
  (h:Q₁ (.ref s.heap.objs.size) { s with heap:=s.heap.push { cls:=.type "set",dict:=none,data:=.set #[] 0 (.fresh 0 0 (!dN w)) } }) :
  codeAny (model prog w) A (.call (.builtin "set.__new__") ⟨[.type "set",a],[]⟩) (wants Q₁ E) s:=by
 refine codeAny_of_tree ?_;show wpAny _ A.in1 (do checkBuiltinCall "set.__new__" ⟨[.type "set",a],[]⟩;again (.builtin "set.__new__" ⟨[.type "set",a],[]⟩)) _ _ s;refine BY (wpAny_of_eq (F.newCall_set_1 a) (C0 ⟨plainId_quiet F.plain_set_new _,codeAny_builtin F.entry_set_new ?_⟩));rw[Around.under_plainId F.plain_set_new _];unfold Builtin.«set.__new__» Builtin.Frozenset.newClass;have c:=sub_set_self;obtain⟨f,g,d,b,e⟩:=s;dsimp only
 wp_walk
 refine wpAny_askSetting (C0 ?_);dsimp only;simp only[newObj];refine BY (wpAny_alloc (C0 ?_));exact C0 h
theorem AE{R:Result->Shared->Prop}{I:Addr}{N j:List Addr}{G:Array GenState->Array GenState->Prop}{n:Nat}{P:Nat->Value->Prop}{St:Nat->Shared->Prop}(W:WalksS prog w A.in1 I N j G n P St){a:Addr}(L:a ∉ N){ks:List Int}{led:Bool}
  (X:∀i v,P i v->∃k u,ks[i]?=some k/\v=.int k u)(h:n+1<scanBound):∀(d i:Nat)(s:Shared)(m:Nat),n=i+d->m<=i->St i s->dF s.heap a led (ks.take i) m ->
   (∀s' H,Moved (a :: j) G s s'->dF s'.heap a led (ks.take n) H->H<=n->R (.ok (.ret .none)) s')->codeAny (model prog w) A (.builtin "set.update.loop" ⟨[.ref a,.ref I],[]⟩) R s:=by
 have J:a ∉ j:=λz=>L (W.sub a z)
 intro d;induction d with
 |zero =>
  intro i s m e K l x c;rw[show n=i by lia]at W c;refine codeAny_builtin (R:=R) (A:=A) F.entry_set_update_loop ?_;rw[Around.under_plainId (A:=A) F.plain_set_update_loop _];show wpAny (model prog w) A.in1 (pyNext (.ref I) >>= _) _ _ s;exact BY (W.done s _ _ l λs' g=>C0 (c s' m (g.mono λb h=>iC a h) (x.stay λo q=>g.heap a o J q) K))
 |succ d V =>
  intro i s m e K l x c;refine codeAny_builtin (R:=R) (A:=A) F.entry_set_update_loop ?_;rw[Around.under_plainId (A:=A) F.plain_set_update_loop _];show wpAny (model prog w) A.in1 (pyNext (.ref I) >>= _) _ _ s;refine BY (W.item i s _ _ (by lia) l λv f p r g=>?_);obtain⟨k,u,Z,rfl⟩:=X i v p;have Q:=x.stay λo q=>g.heap a o J q
  show wpAny (model prog w) A.in1 (holding [.int k u] (setAdd a (.int k u)) >>= _) _ _ f;refine BY (Dl (show wpAny (model prog w) A.in1 (setAdd a (.int k u)) _ _ f from ?_));unfold setAdd;refine Dl (BY ((intKind prog w).pyHash (k:=k) (intKind_is _ _ _ _) ?_));refine addW (s:={ f with toks:=f.toks+1 }) Q (by lia) λM S _ E a0 D=>?_
  have Y:ks.take (i+1)=ks.take i++[k]:=by rw[md,Z];rfl
  rw[←Y]at D;refine C0 ⟨plainId_quiet F.plain_set_update_loop _,V (i+1) { f with heap:=M,toks:=f.toks+1 } S (by lia) (by lia) (W.frame (i+1) f M (f.toks+1) r (yl _) λb C o q=>(E.2 b λz=>L (z ▸ C)).trans q) D λs2 T t O y=>?_⟩;refine c s2 T (Moved.trans W.gtrans ((g.mono λb h=>iC a h).then_heap (yl _) λb o B q=>?_) t) O y;exact(E.2 b λz=>B (z ▸ fb)).trans q
theorem AF{l:Addr}{items:Array Value}{ks:List Int}(K:A.handled=none)(I:s.heap.IsList l items)(J:∀(i:Nat)(v:Value),items[i]?=some v->∃k u,ks[i]?=some k/\v=.int k u)(H:ks.length=items.size)(L:items.size+1<scanBound) :
  codeAny (model prog w) A (.call (.builtin "set.__init__") ⟨[.ref s.heap.objs.size,.ref l],[]⟩) (wants (λr s2=>r=.none/\∃h' n m,s2={ s with heap:=h',toks:=n }/\dF h' s.heap.objs.size (!dN w) ks m/\m<=ks.length/\∀b o,b<s.heap.objs.size->s.heap.get? b=some o->h'.get? b=some o) E) { s with heap:=s.heap.push (dj (!dN w)) }:=by
 have j:(s.heap.push (dj (!dN w))).get? s.heap.objs.size=some (dj (!dN w)):=Heap.get?_push_size s.heap U;have ty:Shared.TypeIs { s with heap:=s.heap.push (dj (!dN w)) } (.ref s.heap.objs.size) "set" := ⟨dj (!dN w),j,U⟩;refine codeAny_call_builtin F.called_set.init.plain F.entry_set_init (check_set_init_1 ty ?_);obtain⟨⟨Z,R,Y,Q⟩,f,h,m,g⟩:=I;dsimp only at h g;subst h g;have N:(s.heap.push (dj (!dN w))).get? l=some { cls:=.type "list",dict:=R,data:=.seq items m,slots:=Q }:=Heap.get?_push_of_some _ f;have W:=F.sub_list_set;have V:=F.sub_list_frozenset;have T:(Value.type "list" == Value.type "dict")=false:=by decide
 have e:(s.heap.push (dj (!dN w))).IsList l items:=⟨_,N,U,m,U⟩;have lt:l<s.heap.objs.size:=Heap.lt_size f;have t:dF (s.heap.push (dj (!dN w))) s.heap.objs.size (!dN w) [] 0:=⟨_,#[],0,_,j,⟨U,U,U⟩,U,⟨by simp,by simp,by simp⟩,by unfold scanBound;decide,U,List.Pairwise.nil,U,U⟩;unfold Builtin.«set.__init__» Builtin.Frozenset.updateFrom noKeywords;generalize M:pyIter=it;generalize X:dN w=bt at *
 wp_walk
 subst M;refine wpAny_pyIter_list e (BY (wpAny_runValue ?_));have C:l≠(s.heap.push (dj (!bt))).objs.size:=by rw[Heap.size_push];exact xS (yi lt)
 have D:s.heap.objs.size ∉ [(s.heap.push (dj (!bt))).objs.size,l]:=by
  rw[Heap.size_push];intro z;rcases dt.mp z with z|z
  .exact absurd z (xS (yB _))
  .exact absurd (by simpa using z) (yg lt)
 refine AE ((Walks.list (by simp[K]) _ l C items).toS) D (ks:=ks) (led:=!bt) J L items.size 0 _ 0 (Nat.zero_add _).symm (w5 _) ⟨⟨_,Heap.get?_push_size _ U,U,U⟩,e.push _⟩ (t.stay λo q=>Heap.get?_push_of_some _ q) λy G c x S=>?_
 obtain⟨h',O,P,p,B⟩:=y;obtain rfl:O=s.gens:=c.gens;obtain rfl:P=s.drawn:=c.drawn;obtain rfl:B=s.os:=c.os;refine C0 (show wpAny (model prog w) _ (ret Value.none) _ _ _ from C0 ⟨U,h',p,G,U,?_,by lia,λb o a q=>?_⟩)
 .rw[←H,iv]at x;exact x
 .refine c.heap b o (λz=>?_) (Heap.get?_push_of_some _ (Heap.get?_push_of_some _ q));rcases dt.mp z with z|z
  .exact absurd z (xS a)
  .have d:b=(s.heap.push (dj (!bt))).objs.size:=by simpa using z
   rw[Heap.size_push]at d;exact absurd d (xS (yi a))
set_option maxRecDepth 100000 in
theorem uW{l:Addr}{items:Array Value}{ks:List Int}{Q:Value->Shared->Prop}(B:A.handled=none)(y:s.heap.IsList l items)(z:∀(i:Nat)(v:Value),items[i]?=some v->∃k u,ks[i]?=some k/\v=.int k u)(q:ks.length=items.size)(C:items.size+1<scanBound)
  (h:∀h' d m,dF h' s.heap.objs.size (!dN w) ks m->m<=ks.length->(∀b o,b<s.heap.objs.size->s.heap.get? b=some o->h'.get? b=some o)->Q (.ref s.heap.objs.size) { s with heap:=h',toks:=d }):wpAny (model prog w) A (call (.type "set") [.ref l]) Q E s:=by
 obtain⟨c,H,mro⟩:=F.called_set.mro;have N:=F.called_set.made;have M:=F.called_set.sub;have L:=F.called_set.notType;have K:=F.called_set.canCreate;have J:=F.typeCall_set_1 (.ref l);refine wpAny_call (codeAny_of_tree (show wpAny (model prog w) _ (callAny (.type "set") _) _ _ _ from C0 ⟨Code.quiet_builtin _ (by decide+kernel),codeAny_builtin F.entry_type_call ?_⟩));rw[Around.under_plain (A:=A) (weight_type_call_type "set" [.ref l] []) U]
 repeat (any_goals (first|assumption|wp_step))
 refine codeAny_mono (sS (.ref l) (E:=E) (Q₁:=λj g=>j=.ref s.heap.objs.size/\g={ s with heap:=s.heap.push (dj (!dN w)) }) ⟨U,U⟩) λr g f=>?_
 cases r with
 |error e=>exact f
 |ok fl =>
  cases fl with
  |ret j =>
   obtain⟨rfl,rfl⟩:=f;have D:(s.heap.push (dj (!dN w))).get? s.heap.objs.size=some (dj (!dN w)):=Heap.get?_push_size s.heap U;have ty:Shared.TypeIs { s with heap:=s.heap.push (dj (!dN w)) } (.ref s.heap.objs.size) "set" := ⟨dj (!dN w),D,U⟩;have I:=F.called_set.init.lookup;have b2:=F.called_set.init.bind (.ref s.heap.objs.size)
   repeat (any_goals (first|assumption|wp_step))
   refine codeAny_mono (AF (E:=E) (by simp[B]) y z q C) λn s2 a=>?_
   cases n with
   |error e=>exact a
   |ok G =>
    cases G with
    |ret r =>
     obtain⟨rfl,h',d,m,rfl,x,t,p⟩:=a
     repeat (any_goals (first|assumption|wp_step))
     exact h h' d m x t p
    |_=>exact a.elim
  |_=>exact f.elim
set_option maxRecDepth 100000
theorem aU:Slot "set_iterator" "__next__" "set_iterator.__next__" :=
 .of (owner := "set_iterator") (n := "__next__") (by rw[typeLookup_type,builtinLookup_eq_fast];kernel_rfl) (by decide+kernel) (by decide+kernel) (by decide+kernel)
  (by first|exact .inl (by decide+kernel)|exact .inr (by decide+kernel)) (by rw[isSubtype_type];kernel_rfl)
theorem gL:Slot "set_iterator" "__iter__" "set_iterator.__iter__" :=
 .of (owner := "set_iterator") (n := "__iter__") (by rw[typeLookup_type,builtinLookup_eq_fast];kernel_rfl) (by decide+kernel) (by decide+kernel) (by decide+kernel)
  (by first|exact .inl (by decide+kernel)|exact .inr (by decide+kernel)) (by rw[isSubtype_type];kernel_rfl)
theorem cQ:entryFor table "set_iterator.__next__" = some Builtin.«set_iterator.__next__»:=entryFor_of_fast (by kernel_rfl)
theorem kG:entryFor table "set_iterator.__iter__" = some Builtin.«dict_keyiterator.__iter__» :=
 entryFor_alias (id' := "dict_keyiterator.__iter__") (by kernel_rfl) U (by decide+kernel) (by kernel_rfl)
theorem mE:entryFor table "set.__iter__" = some Builtin.«frozenset.__iter__» :=
 entryFor_alias (id' := "frozenset.__iter__") (by kernel_rfl) U (by decide+kernel) (by kernel_rfl)
theorem dg(a:Value):argsOk "set_iterator.__next__" ⟨[a],[]⟩:=by unfold argsOk;kernel_rfl
theorem lK(a:Value):argsOk "set_iterator.__iter__" ⟨[a],[]⟩:=by unfold argsOk;kernel_rfl
abbrev eR(first:Value)(i:Int)(s:Value)(n a:Nat):Obj:={ cls:=.type "set_iterator",data:=.fields #[first,.int i 0,s,.int n 0,.int a 0] }
theorem pO{a:Source}{n:Nat}{Q:Nat->Shared->Prop}(b:n≠0)(h:Q (w.draws a (s.drawn.get a)%n) { s with drawn:=s.drawn.bump a }) :
  wpAny (model prog w) A (choose a n) Q E s:=λ_ _ _=>⟨b,h⟩
theorem mF{α:Type}:∀(n:Nat)(xs:List α)(s:Shared){Q:List α->Shared->Prop},n=xs.length->(∀ys d,ys.Perm xs->Q ys { s with drawn:=d })->wpAny (model prog w) A (drawOrder n xs) Q E s:=by
 intro n;induction n with
 |zero =>
  intro xs s Q e h;have:xs=[]:=oT.mp e.symm;subst this;unfold drawOrder;exact C0 (h [] s.drawn (.refl _))
 |succ n c =>
  intro xs s Q e h;cases xs with
  |nil=>simp at e
  |cons x r =>
   unfold drawOrder;refine BY (pO (by simp) ?_);generalize hi:w.draws Source.order (s.drawn.get Source.order)%(x :: r).length=i;have a:i<(x :: r).length:=by rw[←hi];exact zm _ (by simp)
   have b:(x :: r)[i]?=some (x :: r)[i]:=GH a;rw[b]
   try dsimp only
   refine BY (c _ _ (by rw[List.length_eraseIdx_of_lt a];lia) λys d p=>C0 ?_);exact h _ d ((p.cons _).trans (fB b))
theorem uX{I a:Addr}{b i:Nat}{o:Obj}{c:Array (Int×Value)}{d:Nat}{t:SetTable}{Q:Option Value->Shared->Prop}
  (e:s.heap.get? I=some (eR (.int b 0) i (.ref a) c.size d))(k:s.heap.get? a=some o)(n:o.data=.set c d t)(l:t.fits c.size=true)
  {x:Value}{nx:Nat}(q:∀(j:Option (Value×Nat)->Shared->Prop) E',j (some (x,nx)) s->wpAny (model prog w) A.in1 (setNext a b i d) j E' s)
  (p:∀h',h'.get? I=some (eR (.int nx 0) ((i+1:Nat):Int) (.ref a) c.size d)->Heap.SameBut I s.heap h'->Q (some x) { s with heap:=h' }) :
  wpAny (model prog w) A (pyNext (.ref I)) Q E s:=by
 have h:s.TypeIs (.ref I) "set_iterator" := ⟨_,e,U⟩;unfold pyNext;refine BY (wpAny_attempt (wpAny_callSpecial?_slot (name:=s!"__next__") h aU (wpAny_call_entry aU h cQ ?_ (dg _))));unfold Builtin.«set_iterator.__next__»;refine BY (m:=slotArgs "__next__" 0 _) (C0 ?_);refine BY (wpAny_fieldsOf e U ?_)
 try dsimp only
 refine BY (wpAny_setEntries_of k n l ?_);rw[if_neg (by simp)]
 try dsimp only
 simp only[Bt];refine BY (q _ _ ?_)
 try dsimp only
 refine BY (wpAny_setField_rec e (by simp) λu y g=>?_);refine BY (wpAny_setField_rec (s:={ s with heap:=u }) y (by simp) λr v f=>?_);refine C0 ⟨x,U,C0 (p r ?_ (g.trans f))⟩;rw[v];simp[eR,rawInt]
theorem uY{I a:Addr}{c i:Nat}{o:Obj}{e:Array (Int×Value)}{f:Nat}{t:SetTable}{Q:Option Value->Shared->Prop}(k:A.handled=none)
  (d:s.heap.get? I=some (eR (.int c 0) i (.ref a) e.size f))(j:s.heap.get? a=some o)(n:o.data=.set e f t)(l:t.fits e.size=true)
  (q:∀(h:Option (Value×Nat)->Shared->Prop) E',h none s->wpAny (model prog w) A.in1 (setNext a c i f) h E' s)
  (p:∀h',Heap.ExtBut I s.heap h'->Q none { s with heap:=h' }) :
  wpAny (model prog w) A (pyNext (.ref I)) Q E s:=by
 have g:s.TypeIs (.ref I) "set_iterator" := ⟨_,d,U⟩;unfold pyNext;refine BY (wpAny_attempt (wpAny_callSpecial?_slot (name:=s!"__next__") g aU (wpAny_call_entry aU g cQ ?_ (dg _))));unfold Builtin.«set_iterator.__next__»;refine BY (m:=slotArgs "__next__" 0 _) (C0 ?_);refine BY (wpAny_fieldsOf d U ?_)
 try dsimp only
 refine BY (wpAny_setEntries_of j n l ?_);rw[if_neg (by simp)]
 try dsimp only
 simp only[Bt];refine BY (q _ _ ?_)
 try dsimp only
 refine BY (wpAny_setField d U (by simp) ?_);show wpAny _ _ (newExc (.type "StopIteration") [] >>= _) _ _ _;refine BY ?_;simp only[newExc,newTuple];refine BY (wpAny_newObj_type ?_ (by size_fits));refine BY (m:=firstArgMember _ _) (wpAny_of_eq (a:=Value.none) (by first|rfl|(simp only[firstArgMember];rfl)) ?_);refine wpAny_newObj_type ?_ (by size_fits);simp only[raiseNew];refine BY (wpAny_handled ?_);rw[show A.in1.handled=none from k];refine BY (C0 (wpAny_throw ?_));refine BY (wpAny_isInstance (T := "StopIteration") (b:=true) ⟨_,Heap.get?_push_size _ U,U⟩ isSubtype_stop ?_);exact C0 (p _ (((Heap.SameBut.update ..).extBut.push _).push _))
theorem sU{I a tp:Addr}{i:Nat}{o:Obj}{b:Array (Int×Value)}{d:Nat}{t:SetTable}{places:List Nat}{m:Nat}{to:Obj}{Q:Option Value->Shared->Prop}
  (c:s.heap.get? I=some (eR (.ref tp) i (.ref a) b.size d))(n:s.heap.get? tp=some to)(g:to.data=.seq (places.map λ(p:Nat)=>rawInt p).toArray m)(h:s.heap.get? a=some o)(k:o.data=.set b d t)(j:t.fits b.size=true)
  {p:Nat}(q:places[i]?=some p){e:Int×Value}(r:b[p]?=some e)
  (u:∀h',h'.get? I=some (eR (.ref tp) ((i+1:Nat):Int) (.ref a) b.size d)->Heap.SameBut I s.heap h'->Q (some e.2) { s with heap:=h' }) :
  wpAny (model prog w) A (pyNext (.ref I)) Q E s:=by
 have l:s.TypeIs (.ref I) "set_iterator" := ⟨_,c,U⟩;unfold pyNext;refine BY (wpAny_attempt (wpAny_callSpecial?_slot (name:=s!"__next__") l aU (wpAny_call_entry aU l cQ ?_ (dg _))));unfold Builtin.«set_iterator.__next__»;refine BY (m:=slotArgs "__next__" 0 _) (C0 ?_);refine BY (wpAny_fieldsOf c U ?_)
 try dsimp only
 refine BY (wpAny_setEntries_of h k j ?_);rw[if_neg (by simp)]
 try dsimp only
 refine BY (wpAny_seqItems n g ?_)
 try dsimp only
 have y:(places.map λ(p:Nat)=>rawInt p).toArray[(i:Int).toNat]?=some (.int p 0):=by simp[q,rawInt]
 rw[y]
 try dsimp only
 unfold setNextDrawn;refine BY (BY (wpAny_setState_of h k j ?_))
 try dsimp only
 rw[if_neg (by simp)];refine BY (C0 ?_);simp only[Bt,r];refine C0 ?_;refine BY (wpAny_setField_rec c (by simp) λv x f=>?_);refine C0 ⟨e.2,U,C0 (u v ?_ f)⟩;rw[x];simp[eR,rawInt]
theorem mG{I a tp:Addr}{i:Nat}{o:Obj}{d:Array (Int×Value)}{j:Nat}{t:SetTable}{places:List Nat}{m:Nat}{to:Obj}{Q:Option Value->Shared->Prop}(n:A.handled=none)
  (c:s.heap.get? I=some (eR (.ref tp) i (.ref a) d.size j))(k:s.heap.get? tp=some to)(f:to.data=.seq (places.map λ(p:Nat)=>rawInt p).toArray m)(l:s.heap.get? a=some o)(r:o.data=.set d j t)(q:t.fits d.size=true)
  (g:places[i]?=none)(u:∀h',Heap.ExtBut I s.heap h'->Q none { s with heap:=h' }) :
  wpAny (model prog w) A (pyNext (.ref I)) Q E s:=by
 have h:s.TypeIs (.ref I) "set_iterator" := ⟨_,c,U⟩;unfold pyNext;refine BY (wpAny_attempt (wpAny_callSpecial?_slot (name:=s!"__next__") h aU (wpAny_call_entry aU h cQ ?_ (dg _))));unfold Builtin.«set_iterator.__next__»;refine BY (m:=slotArgs "__next__" 0 _) (C0 ?_);refine BY (wpAny_fieldsOf c U ?_)
 try dsimp only
 refine BY (wpAny_setEntries_of l r q ?_);rw[if_neg (by simp)]
 try dsimp only
 refine BY (wpAny_seqItems k f ?_)
 try dsimp only
 have y:(places.map λ(p:Nat)=>rawInt p).toArray[(i:Int).toNat]?=none:=by simp at g⊢;exact g
 rw[y]
 try dsimp only
 refine BY (wpAny_setField_rec c (by simp) λv x e=>?_);refine BY (wpAny_setField (s:={ s with heap:=v }) x U (by simp) ?_);show wpAny _ _ (newExc (.type "StopIteration") [] >>= _) _ _ _;refine BY ?_;simp only[newExc,newTuple];refine BY (wpAny_newObj_type ?_ (by size_fits));refine BY (m:=firstArgMember _ _) (wpAny_of_eq (a:=Value.none) (by first|rfl|(simp only[firstArgMember];rfl)) ?_);refine wpAny_newObj_type ?_ (by size_fits);simp only[raiseNew];refine BY (wpAny_handled ?_);rw[show A.in1.handled=none from n];refine BY (C0 (wpAny_throw ?_));refine BY (wpAny_isInstance (T := "StopIteration") (b:=true) ⟨_,Heap.get?_push_size _ U,U⟩ isSubtype_stop ?_);exact C0 (u _ (((e.trans (Heap.SameBut.update ..)).extBut.push _).push _))
theorem mH{I:Addr}{first:Value}{i:Int}{v:Value}{n c:Nat}{Q:Value->Shared->Prop}(b:s.heap.get? I=some (eR first i v n c))(h:Q (.ref I) s):wpAny (model prog w) A (pyIter (.ref I)) Q E s:=by
 have a:s.TypeIs (.ref I) "set_iterator" := ⟨_,b,U⟩;refine wpAny_pyIter_slot a gL (wpAny_call_entry gL a kG ?_ (lK _));show wpAny _ _ (ret (.ref I)) _ _ s;exact C0 ⟨_,U,"set_iterator",_,a,aU.lookup,h⟩
theorem jY{a:Addr}{o:Obj}{d:Array (Int×Value)}{f:Nat}{t:SetTable}{b i:Nat}(l:dN w=true)(g:s.heap.get? a=some o)(k:o.data=.set d f t)(j:t.fits d.size=true)
  {Q:Option (Value×Nat)->Shared->Prop}(h:Q (((pickOrder (w.params.setOrder a f) d)[i]?).map λe=>(e.2,b)) s):wpAny (model prog w) A (setNext a b i f) Q E s:=by
 have c:((Setting.mk prog w.params).params.followText "set-order")=true:=l;unfold setNext;refine BY (wpAny_setState_of g k j ?_)
 try dsimp only
 unfold setsByText;refine BY (BY (wpAny_askSetting (C0 ?_)));show wpAny _ _ (if (Setting.mk prog w.params).params.followText "set-order" = true then _ else _) _ _ _;rw[if_pos c,if_neg (by simp)];unfold setWalk;refine BY (BY (wpAny_setState_of g k j ?_))
 try dsimp only
 unfold setsByText;refine BY (BY (wpAny_askSetting (C0 ?_)));show wpAny _ _ (if (Setting.mk prog w.params).params.followText "set-order" = true then _ else _) _ _ _;rw[if_pos c];refine BY (wpAny_askSetting (C0 (C0 h)))
theorem i4{a:Addr}{o:Obj}{c:Array (Int×Value)}{e:Nat}{t:SetTable}{b i:Nat}(n:dN w=false)(g:s.heap.get? a=some o)(m:o.data=.set c e t)(l:t.fits c.size=true)(k:t.led=true)(f:(!t.plain && decide (c.size>1))=false)
  {Q:Option (Value×Nat)->Shared->Prop}(h:Q (match c[SetTable.below t.place b]?,t.place[SetTable.below t.place b]? with|some (_,x),some j=>some (x,j+1)|_,_=>none) s):wpAny (model prog w) A (setNext a b i e) Q E s:=by
 have d:((Setting.mk prog w.params).params.followText "set-order")=false:=n;unfold setNext;refine BY (wpAny_setState_of g m l ?_)
 try dsimp only
 unfold setsByText;refine BY (BY (wpAny_askSetting (C0 ?_)));show wpAny _ _ (if (Setting.mk prog w.params).params.followText "set-order" = true then _ else _) _ _ _;rw[if_neg (by rw[d];exact Bool.false_ne_true)];show wpAny _ _ (if (!t.plain && decide (c.size>1))=true then _ else _) _ _ _;rw[if_neg (by rw[f];exact Bool.false_ne_true)];show wpAny _ _ ((if (!t.led && !c.isEmpty)=true then unsupported "set:maker-not-led" else pure ()) >>= _) _ _ _;rw[k,if_neg (by simp)];exact BY (C0 (C0 h))
set_option maxRecDepth 100000
abbrev qR:Array GenState->Array GenState->Prop:=λg a=>a=g
theorem oS{I:Addr}{h':Heap}(a:Heap.SameBut I s.heap h'):Moved [I] qR s { s with heap:=h' } :=
 ⟨λb o c e=>(a.2 b λz=>c (z ▸ fb)).trans e,U,U,U,w5 _⟩
theorem oU{I:Addr}{h':Heap}(a:Heap.ExtBut I s.heap h'):Moved [I] qR s { s with heap:=h' } :=
 ⟨λb o c e=>a b o (λz=>c (z ▸ fb)) e,U,U,U,w5 _⟩
theorem mI(C:A.handled=none){I a:Addr}(m:a≠I){o:Obj}{e:Array (Int×Value)}{l:Nat}{t:SetTable}(r:o.data=.set e l t)(p:t.fits e.size=true){ord:List Value}(B:ord.length=e.size)(h:Nat->Nat)
  (D:∀(i:Nat)(x:Value)(s:Shared)(d:Option (Value×Nat)->Shared->Prop) f,s.heap.get? a=some o->ord[i]?=some x->d (some (x,h (i+1))) s->wpAny (model prog w) A.in1 (setNext a (h i) i l) d f s)
  (F:∀(s:Shared)(d:Option (Value×Nat)->Shared->Prop) f,s.heap.get? a=some o->d none s->wpAny (model prog w) A.in1 (setNext a (h e.size) e.size l) d f s) :
  WalksS prog w A I [I,a] [I] qR e.size (λi v=>ord[i]?=some v) (λi s=>s.heap.get? I=some (eR (.int (h i) 0) i (.ref a) e.size l)/\s.heap.get? a=some o) where
 sub:=λb u=>by simp at u;simp[u]
 grefl:=λ_=>U
 gtrans:=λ_ _ _ H G=>G.trans H
 frame:=λi s y K c _ k=>⟨k I (by simp) _ c.1,k a (by simp) _ c.2⟩
 item:=λi s Q E hi c j=>by
  have z:ord[i]?=some ord[i]:=GH (by lia);refine uX c.1 c.2 r p (x:=ord[i]) (nx:=h (i+1)) (λd f q=>D i _ s d f c.2 z q) λy g n=>?_
  exact j _ _ z ⟨g,(n.2 a m).trans c.2⟩ (oS n)
 done:=λs Q E c j=>uY C c.1 c.2 r p (λd f q=>F s d f c.2 q) λy J=>j _ (oU J)
 self:=λi s Q E c j=>mH c.1 j
theorem qS(C:A.handled=none){I a tp:Addr}(r:a≠I)(q:tp≠I){o to:Obj}{d:Array (Int×Value)}{B m:Nat}{t:SetTable}(x:o.data=.set d B t)(u:t.fits d.size=true){places:List Nat}(h:to.data=.seq (places.map λ(p:Nat)=>rawInt p).toArray m)
  (H:places.length=d.size){ord:List Value}(G:∀(i:Nat),i<d.size->∃p e,places[i]?=some p/\d[p]?=some e/\ord[i]?=some e.2) :
  WalksS prog w A I [I,a,tp] [I] qR d.size (λi v=>ord[i]?=some v) (λi s=>s.heap.get? I=some (eR (.ref tp) i (.ref a) d.size B)/\s.heap.get? a=some o/\s.heap.get? tp=some to) where
 sub:=λb y=>by simp at y;simp[y]
 grefl:=λ_=>U
 gtrans:=λ_ _ _ n l=>l.trans n
 frame:=λi s z J c _ k=>⟨k I (by simp) _ c.1,k a (by simp) _ c.2.1,k tp (by simp) _ c.2.2⟩
 item:=λi s Q E hi c f=>by
  obtain⟨p,e,n,l,D⟩:=G i hi;refine sU c.1 c.2.2 h c.2.1 x u n l λz g j=>?_
  exact f _ _ D ⟨g,(j.2 a r).trans c.2.1,(j.2 tp q).trans c.2.2⟩ (oS j)
 done:=λs Q E c f=>mG C c.1 c.2.2 h c.2.1 x u (mu (by lia)) λz F=>f _ (oU F)
 self:=λi s Q E c f=>mH c.1 f
theorem wH{a:Addr}{o:Obj}{f:Array (Int×Value)}{B:Nat}{t:SetTable}{Q:Value->Shared->Prop}(C:s.heap.get? a=some o)(Y:o.ExactSet)(r:o.data=.set f B t)(y:f.size<scanBound)(n:t.fits f.size=true)(ha:Asc t.place)(hl:t.led = !dN w)
  (h:∀(I:Addr)(h':Heap)(d:Drawn)(ord:List Value)(fp:List Addr)(St:Nat->Shared->Prop),(∀b u,s.heap.get? b=some u->h'.get? b=some u)->ord.Perm (f.toList.map (·.2)) ->
   (∀L:Around,L.handled=none->WalksS prog w L I fp [I] qR f.size (λi v=>ord[i]?=some v) St)->St 0 { s with heap:=h',drawn:=d }->s.heap.objs.size<=I->(∀b∈fp,b=a\/s.heap.objs.size<=b)->Q (.ref I) { s with heap:=h',drawn:=d }) :
  wpAny (model prog w) A (pyIter (.ref a)) Q E s:=by
 have hT:s.TypeIs (.ref a) "set" := ⟨o,C,Y.1⟩;have la:a<s.heap.objs.size:=Heap.lt_size C;refine wpAny_pyIter_slot hT F.slot_set_iter (wpAny_call_entry F.slot_set_iter hT mE ?_ (F.args_set_iter_1 _));unfold Builtin.«frozenset.__iter__» Builtin.Frozenset.slot0;refine BY (BY (m:=slotArgs "__iter__" 0 _) (C0 ?_));unfold Builtin.Frozenset.addrOf;refine C0 ?_;unfold Builtin.Frozenset.sizeOf;refine BY (BY (wpAny_setEntries_of C r n (C0 ?_)));unfold setDrawn;refine BY (BY (wpAny_setState_of C r n ?_))
 try dsimp only
 unfold setsByText;refine BY (BY (wpAny_askSetting (C0 ?_)));refine C0 ?_;show wpAny _ _ (if (!dN w && (!t.plain && decide (f.size>1)))=true then _ else _) _ _ _;have H:f.toList.length=f.size:=zz;by_cases c:(!dN w && (!t.plain && decide (f.size>1)))=true
 .rw[if_pos c];refine BY (mF f.size (List.range f.size) s (by simp) λj d p=>?_);refine BY (wpAny_newTuple ?_ ?_)
  rotate_left
  .rw[bx,p.length_eq,jQ];unfold scanBound at y;unfold sizeLine;lia
  generalize M:({ cls:=.type "tuple",data:=.seq (j.map λ(i:Nat)=>rawInt i).toArray }:Obj)=to;have gt:(s.heap.push to).get? s.heap.objs.size=some to:=by rw[←M];exact Heap.get?_push_size _ U
  have ga:(s.heap.push to).get? a=some o:=Heap.get?_push_of_some _ C;refine BY (m:=setEpoch a) (wpAny_setEpoch_of (s:={ s with heap:=s.heap.push to,drawn:=d }) ga r n ?_);refine BY (wpAny_newObj_type ?_ (by size_fits));have J:((s.heap.push to).push (eR (.ref s.heap.objs.size) (0:Nat) (.ref a) f.size B)).get? (s.heap.push to).objs.size=some (eR (.ref s.heap.objs.size) (0:Nat) (.ref a) f.size B):=Heap.get?_push_size _ U;refine C0 ⟨_,U,"set_iterator",_,⟨_,J,U⟩,aU.lookup,?_⟩;have T:∀i,i<f.size->∃p e,j[i]?=some p/\f[p]?=some e/\(j.map λp=>(f[p]?.map (·.2)).getD .none)[i]?=some e.2:=λi hi=>by
   have O:i<j.length:=by rw[p.length_eq,jQ];exact hi
   have G:j[i]?=some j[i]:=GH O;have lt:j[i]<f.size:=jr.mp (p.mem_iff.mp (lI O));have V:f[j[i]]?=some f[j[i]]:=zw lt;exact⟨j[i],f[j[i]],G,V,by rw[fo,G];simp[V]⟩
  have oR:(j.map λp=>(f[p]?.map (·.2)).getD Value.none).Perm (f.toList.map (·.2)):=by
   refine(p.map _).trans (List.Perm.of_eq ?_);apply List.ext_getElem
   .simp
   .intro i h1 h2;simp at h1;simp[h1]
  refine h _ _ d _ [(s.heap.push to).objs.size,a,s.heap.objs.size] _ (λb u e=>Heap.get?_push_of_some _ (Heap.get?_push_of_some _ e)) oR
   (λL K=>qS K (places:=j) (to:=to) (m:=0) (by rw[Heap.size_push];exact xS (yi la)) (by rw[Heap.size_push];exact xS (yB _)) r n (by rw[←M]) (by rw[p.length_eq,jQ]) T)
   ⟨J,Heap.get?_push_of_some _ ga,Heap.get?_push_of_some _ gt⟩ (by rw[Heap.size_push];exact yl _) λb y=>?_
  rcases dt.mp y with rfl|y
  .exact .inr (by rw[Heap.size_push];exact yl _)
  .rcases dt.mp y with rfl|y
   .exact .inl U
   .have:b=s.heap.objs.size:=by simpa using y
    exact .inr (by rw[this];exact w5 _)
 .rw[if_neg c];refine BY (C0 ?_);refine BY (m:=setEpoch a) (wpAny_setEpoch_of C r n ?_);refine BY (wpAny_newObj_type ?_ (by size_fits));have J:(s.heap.push (eR (.int (0:Nat) 0) (0:Nat) (.ref a) f.size B)).get? s.heap.objs.size=some (eR (.int (0:Nat) 0) (0:Nat) (.ref a) f.size B):=Heap.get?_push_size _ U;refine C0 ⟨_,U,"set_iterator",_,⟨_,J,U⟩,aU.lookup,?_⟩;have ne:a≠s.heap.objs.size:=xS la;have P:∀b∈[s.heap.objs.size,a],b=a\/s.heap.objs.size<=b:=λb y=>by
   rcases dt.mp y with rfl|y
   .exact .inr (w5 _)
   .exact .inl (by simpa using y)
  cases hbt:dN w with
  |true =>
   have pp:=uV (w.params.setOrder a B) f;have D:((pickOrder (w.params.setOrder a B) f).toList.map (·.2)).length=f.size:=by rw[bx,pp.length_eq,H]
   refine h _ _ s.drawn ((pickOrder (w.params.setOrder a B) f).toList.map (·.2)) [s.heap.objs.size,a] _ (λb u e=>Heap.get?_push_of_some _ e) (pp.map _)
    (λL K=>mI K ne r n D (λ_=>0) (λi x S W X g l q=>jY hbt g r n ?_) λS W X g q=>jY hbt g r n ?_) ⟨J,Heap.get?_push_of_some _ C⟩ (w5 _) P
   .rw[fo,Af]at l;cases e:(pickOrder (w.params.setOrder a B) f)[i]? with
    |none=>rw[e]at l;cases l
    |some z=>rw[e]at l;injection l with l;subst l;exact q
   .have e:(pickOrder (w.params.setOrder a B) f)[f.size]?=none:=by
     rw[←Af];exact mu (by rw[bx]at D;lia)
    rw[e];exact q
  |false =>
   have N:t.led=true:=by rw[hl,hbt];rfl
   have T:(!t.plain && decide (f.size>1))=false:=by
    rw[hbt]at c;simpa using c
   have a0:t.place.size=f.size:=by
    have:=n;simp only[SetTable.fits,AI,beq_iff_eq]at this;exact this.1
   have R:∀i,i<=f.size->SetTable.below t.place (match i with|0=>0|k+1=>t.place.getD k 0+1)=i:=λi hi=>by
    cases i with
    |zero=>exact qK ha
    |succ k =>
     have hk:k<t.place.size:=by lia
     have eg:t.place.getD k 0=t.place[k]:=by simp[Array.getD,hk]
     show SetTable.below t.place (t.place.getD k 0+1)=k+1;rw[eg];exact sM ha hk
   refine h _ _ s.drawn (f.toList.map (·.2)) [s.heap.objs.size,a] _ (λb u e=>Heap.get?_push_of_some _ e) (.refl _)
    (λL K=>mI K ne r n (by rw[bx,H]) (λi=>match i with|0=>0|k+1=>t.place.getD k 0+1) (λi x S W X g l q=>i4 hbt g r n N T ?_) λS W X g q=>i4 hbt g r n N T ?_) ⟨J,Heap.get?_push_of_some _ C⟩ (w5 _) P
   .have hi:i<f.size:=by
     obtain⟨z,_⟩:=GI.mp l;rw[bx,H]at z;exact z
    rw[R i (yj hi)];have G:f[i]?=some f[i]:=zw hi;have V:t.place[i]?=some t.place[i]:=zw (by lia);have e3:x=f[i].2:=by
     rw[fo,Af,G]at l;injection l with l;exact l.symm
    rw[G,V];have e4:t.place.getD i 0=t.place[i]:=by simp[Array.getD,show i<t.place.size by lia]
    subst e3;have Z:W (some (f[i].2,t.place.getD i 0+1)) S:=q;rw[e4]at Z;exact Z
   .rw[R f.size (w5 _)];have G:f[f.size]?=none:=Array.getElem?_eq_none (w5 _);rw[G];exact q
set_option maxRecDepth 100000
theorem uZ{ord:List Value}{a:Array Value}{n:Nat}(h:ItemsOf (λi v=>ord[i]?=some v) a n)(b:ord.length=n):a.toList=ord:=by
 apply List.ext_getElem
 .rw[zz,h.1,b]
 .intro i d c;have e:ord[i]?=some a[i]:=h.2 i a[i] (zw (by simpa using d));rw[GH c]at e;injection e with e;simpa using e.symm
theorem qT{a:Addr}{o:Obj}{p:Array (Int×Value)}{ep:Nat}{t:SetTable}{Q:List Value->Shared->Prop}(hh:A.handled=none)(R:s.heap.get? a=some o)(k:o.ExactSet)(hd:o.data=.set p ep t)(r:p.size<scanBound)(hf:t.fits p.size=true)(ha:Asc t.place)(Z:t.led = !dN w)
  (h:∀(ord:List Value)(s':Shared),ord.Perm (p.toList.map (·.2))->(∀b u,s.heap.get? b=some u->s'.heap.get? b=some u)->s'.gens=s.gens->s'.os=s.os->s.heap.objs.size<s'.heap.objs.size->Q ord s') :
  wpAny (model prog w) A (collect (.ref a)) Q E s:=by
 have P:a<s.heap.objs.size:=Heap.lt_size R;unfold collect;refine BY (wpAny_runValue (codeAny_builtin F.entry_proto_collect ?_));rw[Around.under_plainId F.plain_proto_collect _];show wpAny _ A.in1 (newList [] >>= λl=>again (.builtin "list.__iadd__" ⟨[l,.ref a],[]⟩)) _ _ s;refine BY (wpAny_newObj_type ?_);refine C0 ⟨plainId_quiet F.plain_list_iadd _,codeAny_builtin F.entry_list_iadd ?_⟩;rw[Around.under_plainId F.plain_list_iadd _];generalize y:({ cls:=.type "list",data:=.seq ([]:List Value).toArray }:Obj)=lo;have H:(s.heap.push lo).get? a=some o:=Heap.get?_push_of_some _ R;have gS:(s.heap.push lo).get? s.heap.objs.size=some lo:=by rw[←y];exact Heap.get?_push_size _ U
 have L:Shared.TypeIs { s with heap:=s.heap.push lo } (.ref a) "set" := ⟨o,H,k.1⟩;show wpAny _ A.in1 (Builtin.List.listExtendWith (.ref s.heap.objs.size) (.ref a) (.ref s.heap.objs.size)) _ _ _;unfold Builtin.List.listExtendWith;refine BY (wpAny_typeOf L ?_);have h1:Builtin.List.listSameRef (.ref s.heap.objs.size) (.ref a)=false:=by simp[Builtin.List.listSameRef];exact yg P
 have h2:(Value.type "set" == Value.type "list")=false:=by decide
 have h3:(Value.type "set" == Value.type "tuple")=false:=by decide
 simp only[h1,h2,h3,Bool.or_false,A9,if_false];refine BY (wH (s:={ s with heap:=s.heap.push lo }) H k hd r hf ha Z λI i d ord fp St G O W V hI K=>?_);have g2:i.get? a=some o:=G a o H;have m:Shared.TypeIs { s with heap:=i,drawn:=d } (.ref a) "set" := ⟨o,g2,k.1⟩;refine BY (Dl ?_);unfold Builtin.List.listLengthHint;refine BY (wpAny_specialOf m F.slot_set_len.lookup ?_)
 (generalize j:("set.__len__" : String)=id0;(fail_if_success (clear j id0));wp_delta;rw[show splitId id0=some ("set","__len__")from by subst j;decide+kernel];subst j)
 refine BY (wpAny_isInstance (b:=true) m sub_set_self ?_);refine BY (wpAny_typeOf m ?_);refine C0 ?_;show wpAny _ A.in1 (rule "list.extend.makes-room" >>= λ_=>Builtin.List.listTouch (.ref s.heap.objs.size) >>= λ_ =>
  again (.builtin "list.extend.loop" ⟨[.ref s.heap.objs.size,.ref I,.ref s.heap.objs.size],[]⟩)) _ _ _
 refine BY (wpAny_rule ?_);have c:i.get? s.heap.objs.size=some lo:=G _ _ gS;rw[←y]at c;refine BY ?_;show wpAny _ A.in1 (updateSeq s.heap.objs.size (·.push .none) >>= λ_=>updateSeq s.heap.objs.size (·.pop)) _ _ _;refine BY (wpAny_updateSeq c U ?_);have g:=Heap.get?_update_self (Obj.mapSeq (·.push Value.none)) c U;refine wpAny_updateSeq g U ?_;have n:=Heap.get?_update_self (Obj.mapSeq (·.pop)) g U
 have x:∀b u,b≠s.heap.objs.size->i.get? b=some u ->
   ((i.update s.heap.objs.size (Obj.mapSeq (·.push Value.none))).update s.heap.objs.size (Obj.mapSeq (·.pop))).get? b=some u :=
  λb u r e=>(Heap.get?_update_other _ _ (Ne.symm r)).trans ((Heap.get?_update_other _ _ (Ne.symm r)).trans e)
 have v:(s.heap.push lo).objs.size=s.heap.objs.size+1:=Heap.size_push ..;have B:s.heap.objs.size ∉ fp:=λq=>by
  rcases K _ q with z|z
  .exact yg P z
  .have N:(s.heap.push lo).objs.size<=s.heap.objs.size:=z;rw[v]at N;exact Nat.not_succ_le_self _ N
 have S:=W A.in1 (by simp[hh]);have D:ord.length=p.size:=by rw[O.length_eq,bx,zz]
 have J:=S.frame 0 ({ s with heap:=i,drawn:=d }:Shared) ((i.update s.heap.objs.size (Obj.mapSeq (·.push Value.none))).update s.heap.objs.size (Obj.mapSeq (·.pop))) s.toks V (w5 _) λb f X e=>x b X (λz=>B (z ▸ f)) e
 refine C0 ⟨plainId_quiet F.plain_extend_loop _,codeAny_extend_loopS S (by unfold scanBound at r;unfold sizeLine;lia) _ B _ p.size 0 _ _ _ U (yh _)
  J n (ItemsOf.nil _) λs' sV c' q C Y=>?_⟩
 show wpAny _ A (load s.heap.objs.size >>= _) _ _ s';refine BY (wpAny_load C ?_);refine C0 ?_;rw[uZ Y D];refine h ord s' O (λb u e=>?_) q.gens q.os (Heap.lt_size C);have f:b<s.heap.objs.size:=Heap.lt_size e;refine q.heap b u (λz=>?_) (x b u (xS f) (G b u (Heap.get?_push_of_some _ e)));rcases dt.mp z with z|z
 .exact xS f z
 .have T:b=I:=by simpa using z
  have M:(s.heap.push lo).objs.size<=I:=hI;rw[v,←T]at M;exact yE _ (xT f (Nat.le_of_succ_le M))
variable{base:Heap}
section
variable{M:Model}{env:Env}{outer:List Env}{L e T:Addr}{a0 cls fl:Value}{Q:Unit->Shared->Prop}{Ts:List Addr}
end
variable{pins:List (Addr×Obj)}{σ:St}{H:Hp}{h':Heap}
section
variable{Y:List Addr}
end
variable{P:Program}{K:W.Frag}{mg:Str->Option Value}{N:List Str}{scope:Scope}{f:Addr}
section
variable{qual:Str}{cd:Value}{outer:List Env}{s0:Shared}{H0:Hp}{E:XK}
end
theorem i5:dr X (.builtin "len") (λxs H Q=>∃(l:Addr)(zs:List Str),xs=[.ref l]/\H l=some (nX X.prog X.w l zs)/\zs.length<=1000/\Q (.int ((cntK zs zs.length:Nat):Int)) H):=by
 intro pins s σ H xs i Q I r h;obtain⟨l,zs,rfl,e,j,q⟩:=h;obtain⟨u,rfl,b⟩:=r.one;obtain rfl:u=Value.ref l:=b;obtain⟨⟨o,k,m,t,g,f,d,_,_,_,c,a⟩,_,_⟩:=I.hok l _ e;have le:=jX zs zs.length;refine call_len_set g f d c (by rw[a];lia) ⟨.int _,H,I.tok _,⟨_,U⟩,?_⟩;rw[a];exact q
variable{k:Nat}{C:Addr}{fd:FuncData}{ps:List Str}{sp:Sp}{x m:Str}{p np pos:Pos}{e:Expr}{es:List Expr}{t:TA}
section
variable{apos:Pos}{o:Expr}{ta:TE}{E:XK}
end
theorem jf:∀{b:List Int}{us:List Value},Vals (b.map V.int) us->∃xs:List (Int×Tok),us.toArray=intItems xs.toArray/\b=xs.map (·.1)
 | [],_,.nil=>⟨[],by simp[intItems],U⟩
 |n :: b,_,.cons ⟨t,e⟩ r=>by
  obtain⟨xs,d,c⟩:=jf r;refine⟨(n,t) :: xs,?_,by rw[c];rfl⟩;subst e;have a:=congrArg Array.toList d;simp[intItems]at a⊢;exact a
theorem oV{xs:Array (Int×Tok)}{i:Nat}(h:i<xs.size):numAt xs i∈xs.toList.map (·.1):=by
 rw[numAt_eq];exact getD_mem (by rw[bx,zz];lia)
theorem fC(C:X.calm=true):dr X (.builtin "min") (λus H Q=>∃(a:Addr)(c:List Int),us=[.ref a]/\SqL X.K H a (c.map V.int)/\0<c.length/\∀m,m∈c->(∀b∈c,m<=b)->Q (.int m) H):=by
 intro pins s σ H us G Q I r h;obtain⟨a,c,rfl,y,d,q⟩:=h;obtain⟨u,rfl,n⟩:=r.one;cases (show u=Value.ref a from n);obtain⟨F,p,w,J⟩:=I.list y;obtain⟨xs,E,f⟩:=jf p;have i:=w.isList;rw[E]at i;have g:0<xs.toArray.size:=by
  rw[f,bx]at d;simpa using d
 refine min_intList (I.ok.hd C) i g λv h' l x A=>?_
 obtain⟨t,rfl⟩:=intItems_at x;obtain⟨L,D⟩:=argBest_lt (numAt xs.toArray) (xs.toArray.size-1);refine⟨.int _,H,I.kept (t':=l) λb o e=>A b o e,⟨t,U⟩,q _ ?_ λb k=>?_⟩
 .rw[f];exact oV (xs:=xs.toArray) (by lia)
 .rw[f]at k;obtain⟨j,B,rfl⟩:=mem_getD k;rw[bx]at B;have z:=D j (by simp;lia);rw[numAt_eq]at z⊢;rw[numAt_eq]at z;simpa using z
theorem fD(C:X.calm=true):dr X (.builtin "max") (λus H Q=>∃(a:Addr)(c:List Int),us=[.ref a]/\SqL X.K H a (c.map V.int)/\0<c.length/\∀m,m∈c->(∀b∈c,b<=m)->Q (.int m) H):=by
 intro pins s σ H us G Q I r h;obtain⟨a,c,rfl,y,d,q⟩:=h;obtain⟨u,rfl,n⟩:=r.one;cases (show u=Value.ref a from n);obtain⟨F,p,w,J⟩:=I.list y;obtain⟨xs,E,f⟩:=jf p;have i:=w.isList;rw[E]at i;have g:0<xs.toArray.size:=by
  rw[f,bx]at d;simpa using d
 refine max_intList (I.ok.hd C) i g λv h' l x A=>?_
 obtain⟨t,rfl⟩:=intItems_at x;obtain⟨L,D⟩:=argBest_gt (numAt xs.toArray) (xs.toArray.size-1);refine⟨.int _,H,I.kept (t':=l) λb o e=>A b o e,⟨t,U⟩,q _ ?_ λb k=>?_⟩
 .rw[f];exact oV (xs:=xs.toArray) (by lia)
 .rw[f]at k;obtain⟨j,B,rfl⟩:=mem_getD k;rw[bx]at B;have z:=D j (by simp;lia);rw[numAt_eq]at z⊢;rw[numAt_eq]at z;simpa using z
def yF(P:Program)(w:World)(a:Addr)(b:List Int):HO:=.ext λh=>h.SetOf (intKind P w) a (λz=>decide (z∈b)) (cntK b b.length)
theorem mJ:∀{zs:List Int}{us:List Value},Vals (zs.map V.int) us->∀(i:Nat)(v:Value),us[i]?=some v->∃z t,zs[i]?=some z/\v=.int z t
 | [],_,.nil,i,v,h=>by simp at h
 |z :: zs,_,.cons ⟨t,e⟩ r,0,v,h=>by simp at h;exact⟨z,t,U,by rw[←h,e]⟩
 |z :: zs,_,.cons _ r,i+1,v,h=>by
  obtain⟨a,t,c,b⟩:=mJ r i v (by simpa using h);exact⟨a,t,by simpa using c,b⟩
theorem nZ(B:X.calm=true):dr X (.type "set") (λxs H Q=>∃(p:Addr)(zs:List Int),xs=[.ref p]/\SqL X.K H p (zs.map V.int)/\zs.length<=1000/\∀l,H l=none->Q (.ref l) (upd H l (yF X.prog X.w l zs))):=by
 intro pins s σ H xs F Q I r h;obtain⟨p,zs,rfl,C,G,q⟩:=h;obtain⟨u,rfl,n⟩:=r.one;obtain rfl:u=Value.ref p:=n;obtain⟨E,d,A,_⟩:=I.list C;have f:=d.length;rw[bx]at f;refine oP (knd:=intKind X.prog X.w) (ks:=zs) (I.ok.hd B) A.isList (λi v e=>?_) (by simpa using f) (by unfold scanBound;simp;lia) λh' m x=>?_
 .obtain⟨z,t,D,rfl⟩:=mJ d i v (by simpa using e);exact⟨z,D,by show Value.isInt z (.int z t)=true;simp[Value.isInt],U⟩
 .obtain⟨c,j⟩:=x;refine⟨.ref s.heap.objs.size,_,I.laid (a:=s.heap.objs.size) (o:=yF X.prog X.w s.heap.objs.size zs) (h':=h') (t':=m) (λb o q=>j b o (Heap.lt_size q) q) (w5 _) ?_,U,q _ I.fresh⟩;refine⟨c,?_,λL J y k=>gn y k⟩;obtain⟨o,_,_,_,g,_⟩:=c;exact⟨o,g⟩
theorem n4:dr X (.builtin "len") (λxs H Q=>∃(l:Addr)(zs:List Int),xs=[.ref l]/\H l=some (yF X.prog X.w l zs)/\zs.length<=1000/\Q (.int ((cntK zs zs.length:Nat):Int)) H):=by
 intro pins s σ H xs i Q I r h;obtain⟨l,zs,rfl,e,j,q⟩:=h;obtain⟨u,rfl,b⟩:=r.one;obtain rfl:u=Value.ref l:=b;obtain⟨⟨o,es,k,t,g,f,d,_,_,_,c,a⟩,_,_⟩:=I.hok l _ e;have le:=jX zs zs.length;refine call_len_set g f d c (by rw[a];lia) ⟨.int _,H,I.tok _,⟨_,U⟩,?_⟩;rw[a];exact q
theorem qU{b:Type} [DecidableEq b] {k:b}{ks:List b}:∀i,i<=ks.length->1<=cntK (k :: ks) (i+1)/\(cntK (k :: ks) (i+1)=1↔∀x∈ks.take i,x=k)
 |0,_=>by simp[cntK]
 |i+1,h=>by
  obtain⟨d,c⟩:=qU (k:=k) (ks:=ks) i (by lia);have e:(k :: ks)[i+1]?=some ks[i]:=by simp
  have j:ks[i]?=some ks[i]:=GH (by lia);have f:ks.take (i+1)=ks.take i++[ks[i]]:=by rw[md,j];rfl
  have g:(k :: ks).take (i+1)=k :: ks.take i:=rfl;rw[show cntK (k :: ks) (i+1+1)=match (k :: ks)[i+1]? with
   |some x=>if x∈(k :: ks).take (i+1)then cntK (k :: ks) (i+1)else cntK (k :: ks) (i+1)+1
   |none=>cntK (k :: ks) (i+1)from U,e,f,g]
  dsimp only;by_cases m:ks[i]∈k :: ks.take i
  .rw[if_pos m];refine⟨d,c.trans ⟨λz x a=>?_,λz x a=>z x (jD _ a)⟩⟩;rcases gg.mp a with a|a
   .exact z x a
   .have:x=ks[i]:=by simpa using a
    rw[this];rcases dt.mp m with m|m
    .exact m
    .exact z _ m
  .rw[if_neg m];refine⟨by lia,⟨λz=>absurd z (by lia),λz=>?_⟩⟩;exact absurd (z ks[i] (iR _ (by simp))) λq=>m (by rw[q];exact fb)
theorem oW{a:Type} [DecidableEq a] {k:a}{ks:List a}:cntK (k :: ks) (k :: ks).length=1↔∀x∈ks,x=k:=by
 have:=(qU (k:=k) (ks:=ks) ks.length (w5 _)).2;rw[iv]at this;exact this
def TyG(K:W.Frag)(H:Hp)(x:V)(t:Value):Prop:=kD K H x t\/∃a b,x=.ref a/\SqT K H a b/\t=.type "tuple"
inductive ClV:V->Value->Prop where
 |ty (T:String):ClV (.ty T) (.type T)
 |ref (C:Addr):ClV (.ref C) (.ref C)
theorem cj:dr X (.builtin "isinstance") (λxs H Q=>∃x c d t b,xs=[x,c]/\ClV c d/\TyG X.K H x t/\W.kitOne X.K t d=some b/\Q (.bl b) H):=by
 intro pins s σ H xs v Q I r h;obtain⟨x,c,d,t,b,rfl,i,ty,e,q⟩:=h;cases r with
 |cons g j =>
  cases j with
  | @cons _ cu _ _ ry r3 =>
   cases r3;have n:cu=d:=by cases i <;> exact ry
   subst n;rcases ty with ty|⟨a,u,rfl,k,rfl⟩
   .exact uL I g ty e λf=>⟨.bl b,H,I.tok f,U,q⟩
   .cases (show _=Value.ref a from g);obtain⟨p,r,⟨o,m,l,_⟩,_⟩:=I.tuple k;exact W.kia_one W.kitx_tuple I.kIn ⟨o,m,l⟩ e (λz=>nomatch z) λf=>⟨.bl b,H,I.tok f,U,q⟩
structure mK(K:W.Frag)(C:Addr):Prop where
 cl:Cls K C
 ha:W.findIn K (.ref C) "__class__" = some (some (.builtin "object.__class__"))
 hn:W.specialIn K (.builtin "object.__class__") "__get__" = some (some (.builtin "getset_descriptor.__get__"))
 tk:W.takesIn K (.builtin "object.__class__")=some true
 hm:W.mroIn K C (.type "object")=some true
theorem mK.ty{K:W.Frag}{C:Addr}(h:mK K C){H:Hp}{a b:Addr}{fs:List (Str×V)}(e:H a=some (.ins C b fs)):TyG K H (.ref a) (.ref C):=.inl (.ins e h.cl h.ha h.hn h.tk h.hm)
def yG(CX:CXT)(P:Program)(w:World)(K:W.Frag)(mg:Str->Option Value)(base:Heap)(k:Nat)(m:Str)(ps:List Str)(a:List (Addr×Sp)):Prop :=
 ∀p∈a,bj CX P w K mg base k p.1 m ps p.2/\Cls K p.1
variable{CX:CXT}
section
variable{cs:List (Addr×Sp)}
theorem BZ:yG CX P w K mg base k m ps []:=λ_ h=>nomatch h
theorem qV(M:bj CX P w K mg base k C m ps sp)(c:Cls K C)(r:yG CX P w K mg base k m ps cs):yG CX P w K mg base k m ps ((C,sp) :: cs):=λp h=>by
 rcases dt.mp h with rfl|h
 .exact⟨M,c⟩
 .exact r p h
end
inductive zK(cs:List (Addr×Sp))(m:Str)(t:TA)(σ:St)(Q:VK)(x:V)(H1:Hp):Prop
 |mk (a p dx fs:_)(_:x=.ref a)(_:p∈cs)(_:H1 a=some (.ins p.1 dx fs))(_:fs.lookup m=none)(_:t σ H1 λvs H2=>p.2 (x :: vs) H2 Q E0):zK cs m t σ Q x H1
def Dy(b:List (Addr×Sp))(m:Str)(a:TE)(t:TA):TE:=λσ H Q=>a σ H λx c=>zK b m t σ Q x c
section
variable{apos:Pos}{o:Expr}{ta:TE}{cs:List (Addr×Sp)}
theorem wI{pl:Sem Bool}(M:yG CX X.prog X.w X.K X.mg X.base k m ps cs)(B:Passes CX X E0)(D:bP k X.A)(G:PE X o ta)(L:PA X (e :: es) t)
  (b:starEach (e :: es) X.env=(false,eval e X.env) :: starEach es X.env:=by rfl)(d:(backTo pos (starEach es X.env)).any (·.1)=false:=by rfl)
  (C:eval (.Call (.Attribute o m apos) (e :: es) [] pos) X.env=(do
   let g ←eval o X.env
   standAt apos.atName
   let (f,first) ←holding [g] (getMethod g m pl)
   callWith pos f first (backTo pos (starEach (e :: es) X.env)) (backToKw pos (keywordEach [] X.env))):=by rfl) :
  PE X (.Call (.Attribute o m apos) (e :: es) [] pos) (Dy cs m ta t):=by
 intro pins s σ H Q I h;refine W.methodCall_KW (pl:=pl) (thn (G pins s σ H _ I h) λu v ⟨x,P,n,y,a,p,R,fs,N,E,O,l,q⟩=>?_) C;obtain⟨⟨f,fd,i,F,J⟩,c⟩:=M p E;subst N;obtain rfl:u=Value.ref a:=y;refine ml n O c i l ?_;refine W.callWith_K (first:=[.ref a]) (h₀:=X.base) I.ok.mod.kin i.kp (thn (L pos pins v σ P _ n q) λus s2 ⟨vs,S,j,r,z⟩=>⟨j.kIn,?_⟩) b d;exact Az (us:=.ref a :: us) (vs:=.ref a :: vs) F D J B j (.cons U r) z
theorem kH(M:bh CX X.prog X.w X.K X.mg X.base k x C ps sp)(b:Passes CX X E0)(c:bP (k+1) X.A)(e:Gl X x)(a:(x == ("__debug__" : Str))=false:=by decide) :
  PE X (.Call (.Name x p) [] [] pos) (tMk C sp An):=by
 obtain⟨f,fd,M,F,g,d⟩:=M;have h:=wm (E:=E0) (dvs:=[]) (ds:=[]) (p:=p) (pos:=pos) M F c e d g .nil b a;intro pins s σ H Q I q;exact h pins s σ H Q I q
end
def ModT(K:W.Frag)(a:Addr)(xs:List V):Prop:=∃(o:Obj)(b:Array Value)(n:Nat),K.lookup a=some o/\o.cls=.type "tuple" /\ o.data=.seq b n/\b.size<=sizeLine/\Vals xs b.toList
theorem ModT.sq{K:W.Frag}{a:Addr}{xs:List V}(h:ModT K a xs)(H:Hp):SqT K H a xs:=.inr h
theorem ModT.mk{K:W.Frag}{a:Addr}{xs:List V}{d:Option Addr}{b:Array Value}{n:Nat}{c:Array (Option Value)}(h:K.lookup a=some ⟨.type "tuple",d,.seq b n,c⟩) (f:b.size<=sizeLine)(e:Vals xs b.toList):ModT K a xs :=
 ⟨_,b,n,h,U,U,f,e⟩
theorem fm{c A B:Prop} [Decidable c] (a:c)(h:A):if decide c=true then A else B:=by rw[if_pos (decide_eq_true a)];exact h
theorem cm{c A B:Prop} [Decidable c] (a:¬ c)(h:B):if decide c=true then A else B:=by rw[if_neg (by rw[decide_eq_false a];decide)];exact h
theorem ls0{P:List Value->Prop}(h:P []):∀us:List Value,us.length=0->P us:=λus e=>by
 cases us
 .exact h
 .cases e
theorem lsS{P:List Value->Prop}{n:Nat}(h:∀a us,us.length=n->P (a :: us)):∀us:List Value,us.length=n+1->P us:=λus e=>by
 cases us
 .cases e
 .exact h _ _ (Nat.succ.inj e)
theorem ls1{P:List Value->Prop}(h:∀a,P [a]):∀us:List Value,us.length=1->P us:=lsS λa=>ls0 (P:=λv=>P (a :: v)) (h a)
theorem ls2{P:List Value->Prop}(h:∀a b,P [a,b]):∀us:List Value,us.length=2->P us:=lsS λa=>ls1 (P:=λv=>P (a :: v)) (h a)
theorem ls3{P:List Value->Prop}(h:∀a b c,P [a,b,c]):∀us:List Value,us.length=3->P us:=lsS λa=>ls2 (P:=λv=>P (a :: v)) (h a)
theorem ls4{P:List Value->Prop}(h:∀a b c d,P [a,b,c,d]):∀us:List Value,us.length=4->P us:=lsS λa=>ls3 (P:=λv=>P (a :: v)) (h a)
theorem ls5{P:List Value->Prop}(h:∀a b c d e,P [a,b,c,d,e]):∀us:List Value,us.length=5->P us:=lsS λa=>ls4 (P:=λv=>P (a :: v)) (h a)
theorem ls6{P:List Value->Prop}(h:∀a b c d e f,P [a,b,c,d,e,f]):∀us:List Value,us.length=6->P us:=lsS λa=>ls5 (P:=λv=>P (a :: v)) (h a)
theorem ls7{P:List Value->Prop}(h:∀a b c d e f g,P [a,b,c,d,e,f,g]):∀us:List Value,us.length=7->P us:=lsS λa=>ls6 (P:=λv=>P (a :: v)) (h a)
theorem lb1{fd:FuncData}{ps:List Str}(h:∀a,bindArgs fd ⟨[a],[]⟩=pure (ps.zip [a])):∀us:List Value,us.length=1->bindArgs fd ⟨us,[]⟩=pure (ps.zip us):=ls1 (P:=λus=>bindArgs fd ⟨us,[]⟩=pure (ps.zip us)) h
theorem lb2{fd:FuncData}{ps:List Str}(h:∀a b,bindArgs fd ⟨[a,b],[]⟩=pure (ps.zip [a,b])):∀us:List Value,us.length=2->bindArgs fd ⟨us,[]⟩=pure (ps.zip us):=ls2 (P:=λus=>bindArgs fd ⟨us,[]⟩=pure (ps.zip us)) h
theorem lb3{fd:FuncData}{ps:List Str}(h:∀a b c,bindArgs fd ⟨[a,b,c],[]⟩=pure (ps.zip [a,b,c])):∀us:List Value,us.length=3->bindArgs fd ⟨us,[]⟩=pure (ps.zip us):=ls3 (P:=λus=>bindArgs fd ⟨us,[]⟩=pure (ps.zip us)) h
theorem lb4{fd:FuncData}{ps:List Str}(h:∀a b c d,bindArgs fd ⟨[a,b,c,d],[]⟩=pure (ps.zip [a,b,c,d])):∀us:List Value,us.length=4->bindArgs fd ⟨us,[]⟩=pure (ps.zip us):=ls4 (P:=λus=>bindArgs fd ⟨us,[]⟩=pure (ps.zip us)) h
theorem lb6{fd:FuncData}{ps:List Str}(h:∀a b c d e f,bindArgs fd ⟨[a,b,c,d,e,f],[]⟩=pure (ps.zip [a,b,c,d,e,f])):∀us:List Value,us.length=6->bindArgs fd ⟨us,[]⟩=pure (ps.zip us):=ls6 (P:=λus=>bindArgs fd ⟨us,[]⟩=pure (ps.zip us)) h
theorem lb7{fd:FuncData}{ps:List Str}(h:∀a b c d e f g,bindArgs fd ⟨[a,b,c,d,e,f,g],[]⟩=pure (ps.zip [a,b,c,d,e,f,g])):∀us:List Value,us.length=7->bindArgs fd ⟨us,[]⟩=pure (ps.zip us):=ls7 (P:=λus=>bindArgs fd ⟨us,[]⟩=pure (ps.zip us)) h
section
variable{j:Nat}{q:Str}{st:Stmt}
theorem fsc{P:List Str}{f:Scope}(a:f.kind=.function:=by rfl)(b:f.isCoroutine=false:=by rfl)(c:f.isGenerator=false:=by rfl)(d:N.Nodup:=by decide+kernel)(e:N.take P.length=P:=by rfl)(g:∀x∈P,f.names.lookup x=some .local\/f.names.lookup x=some .cell:=by decide+kernel)(h:∀y∈f.names,y.2≠.free:=by decide+kernel):ao N P f:=⟨a,b,c,d,e,g,h⟩
theorem Fun.okA(F:Fun K x q st f fd)(S:ao N ps (ak st))(d:∀(b:Value)(A:Around)(a:List Env)(s:Shared)(H:Hp)(vs:List V)(Q:VK)(E:XK),bP k (A.deeper (envOfC q (ak st) s.heap.objs.size f b))->sp vs H Q E->∃t,PSs (qC CX0 P w K mg base N q (ak st) f b A a s H E).nox (du st) t/\t { nx:=λ_ H'=>Q .non H',rt:=Q } (start N vs) H)(c:∀vs H Q E,sp vs H Q E->vs.length=ps.length:=by intro vs H Q E h;cases h;subst_vars;rfl):aL P w K mg base CX0 (k+1) f fd ps sp:=F.ok S c d
theorem Callee.up(c:Callee P w K mg base j x ps sp)(h:j<=k:=by decide):Callee P w K mg base k x ps sp:=c.mono h
theorem bj.up(c:bj CX P w K mg base j C m ps sp)(h:j<=k:=by decide):bj CX P w K mg base k C m ps sp:=c.mono h
theorem bh.up(c:bh CX P w K mg base j x C ps sp)(h:j<=k:=by decide):bh CX P w K mg base k x C ps sp:=c.mono h
theorem cc.up(c:cc CX P w K mg base j x m ps sp)(h:j<=k:=by decide):cc CX P w K mg base k x m ps sp:=c.mono h
inductive GF(K:W.Frag)(x q:Str)(st:Stmt):Prop
 |mk {f:Addr}{fd:FuncData}(a:W.nsIn K mainGlobals x=some (some (.ref f)))(F:Fun K q q st f fd)
inductive MF(K:W.Frag)(C:Addr)(x q:Str)(st:Stmt):Prop
 |mk {f:Addr}{fd:FuncData}(a:W.findIn K (.ref C) x=some (some (.ref f)))(i:W.isFn K (.ref f)=true)(F:Fun K x q st f fd)
inductive KF(K:W.Frag)(C:Addr)(x q:Str)(st:Stmt):Prop
 |mk {f:Addr}{fd:FuncData}(a:W.findIn K (.ref C) "__init__" = some (some (.ref f))) (i:W.isFn K (.ref f)=true)(m:W.makesIn K C=true)(k:W.keepIn K (.ref C)=true)(n:W.nsIn K mainGlobals x=some (some (.ref C)))(F:Fun K "__init__" q st f fd)
inductive BF(K:W.Frag)(C:Addr)(x m q:Str)(st:Stmt):Prop
 |mk {f:Addr}{fd:FuncData}(s:W.specialIn K (.ref C) "__getattribute__" = some (some (.builtin "type.__getattribute__"))) (r:W.readsIn K C (.type "type")=true) (a:W.findCls K (.ref C) (.type "type") m=some (.val (.ref f))) (n:W.nsIn K mainGlobals x=some (some (.ref C)))(F:Fun K m q st f fd)
inductive Zb(P:Program)(w:World)(K:W.Frag)(mg:Str->Option Value)(base:Heap):Prop
 |mk {h:Heap}(X:K.In h)(G:h.Ns mainGlobals mg)
theorem Zb.g(Z:Zb P w K mg base){v:Value}(e:W.nsIn K mainGlobals x=some (some v)):mg x=some v:=by cases Z with|mk X G=>exact W.mg_of X G e
theorem mkC(Z:Zb P w K mg base)(h:GF K x q st)(O:∀{f:Addr}{fd:FuncData},Fun K q q st f fd->aL P w K mg base CX0 k f fd ps sp)(b:∀{f:Addr}{fd:FuncData},Fun K q q st f fd->Binds K fd ps []:=by exact λF=>F.binds λ_ _ _ _ _ _=>by first|exact L2.lb0 rfl|exact L2.lb1 λ_=>U|exact L2.lb2 λ_ _=>U|exact L2.lb3 λ_ _ _=>U|exact L2.lb4 λ_ _ _ _=>U|exact L2.lb5 λ_ _ _ _ _=>U|exact L2.lb6 λ_ _ _ _ _ _=>U|exact L2.lb7 λ_ _ _ _ _ _ _=>U|exact L2.lb8 λ_ _ _ _ _ _ _ _=>U|exact L2.lb9 λ_ _ _ _ _ _ _ _ _=>U):Callee P w K mg base k x ps sp:=by
 cases h with|mk a F=>exact⟨_,_,O F,b F,F.kp,Z.g a⟩
theorem mkM(_:Zb P w K mg base)(h:MF K C m q st)(O:∀{f:Addr}{fd:FuncData},Fun K m q st f fd->aL P w K mg base CX k f fd ps sp)(b:∀{f:Addr}{fd:FuncData},Fun K m q st f fd->Binds K fd ps []:=by exact λF=>F.binds λ_ _ _ _ _ _=>by first|exact L2.lb0 rfl|exact L2.lb1 λ_=>U|exact L2.lb2 λ_ _=>U|exact L2.lb3 λ_ _ _=>U|exact L2.lb4 λ_ _ _ _=>U|exact L2.lb5 λ_ _ _ _ _=>U|exact L2.lb6 λ_ _ _ _ _ _=>U|exact L2.lb7 λ_ _ _ _ _ _ _=>U|exact L2.lb8 λ_ _ _ _ _ _ _ _=>U|exact L2.lb9 λ_ _ _ _ _ _ _ _ _=>U):bj CX P w K mg base k C m ps sp:=by
 cases h with|mk a i F=>exact⟨_,_,⟨a,i,F.kp⟩,O F,b F⟩
theorem mkK(Z:Zb P w K mg base)(h:KF K C x q st)(O:∀{f:Addr}{fd:FuncData},Fun K "__init__" q st f fd->aL P w K mg base CX k f fd ps sp) (b:∀{f:Addr}{fd:FuncData},Fun K "__init__" q st f fd->Binds K fd ps []:=by exact λF=>F.binds λ_ _ _ _ _ _=>by first|exact L2.lb0 rfl|exact L2.lb1 λ_=>U|exact L2.lb2 λ_ _=>U|exact L2.lb3 λ_ _ _=>U|exact L2.lb4 λ_ _ _ _=>U|exact L2.lb5 λ_ _ _ _ _=>U|exact L2.lb6 λ_ _ _ _ _ _=>U|exact L2.lb7 λ_ _ _ _ _ _ _=>U|exact L2.lb8 λ_ _ _ _ _ _ _ _=>U|exact L2.lb9 λ_ _ _ _ _ _ _ _ _=>U):bh CX P w K mg base k x C ps sp:=by
 cases h with|mk a i m k n F=>exact⟨_,_,⟨m,a,i,k⟩,O F,b F,Z.g n⟩
theorem mkB(Z:Zb P w K mg base)(h:BF K C x m q st)(O:∀{f:Addr}{fd:FuncData},Fun K m q st f fd->aL P w K mg base CX k f fd ps sp)(b:∀{f:Addr}{fd:FuncData},Fun K m q st f fd->Binds K fd ps []:=by exact λF=>F.binds λ_ _ _ _ _ _=>by first|exact L2.lb0 rfl|exact L2.lb1 λ_=>U|exact L2.lb2 λ_ _=>U|exact L2.lb3 λ_ _ _=>U|exact L2.lb4 λ_ _ _ _=>U|exact L2.lb5 λ_ _ _ _ _=>U|exact L2.lb6 λ_ _ _ _ _ _=>U|exact L2.lb7 λ_ _ _ _ _ _ _=>U|exact L2.lb8 λ_ _ _ _ _ _ _ _=>U|exact L2.lb9 λ_ _ _ _ _ _ _ _ _=>U):cc CX P w K mg base k x m ps sp:=by
 cases h with|mk s r a n F=>exact⟨_,_,_,⟨s,r,a,F.kp⟩,O F,b F,Z.g n⟩
theorem mkR{sp:Nat->Sp}(Z:Zb P w K mg base)(h:GF K x q st)(k n:Nat)(z:∀{vs:List V}{H:Hp}{Q:VK}{E:XK},¬ sp 0 vs H Q E)(O:∀{f:Addr}{fd:FuncData}(n:Nat),Fun K q q st f fd->Callee P w K mg base (k+n) x ps (sp n)->aL P w K mg base CX0 (k+n+1) f fd ps (sp (n+1)))(b:∀{f:Addr}{fd:FuncData},Fun K q q st f fd->Binds K fd ps []:=by exact λF=>F.binds λ_ _ _ _ _ _=>by first|exact L2.lb0 rfl|exact L2.lb1 λ_=>U|exact L2.lb2 λ_ _=>U|exact L2.lb3 λ_ _ _=>U|exact L2.lb4 λ_ _ _ _=>U|exact L2.lb5 λ_ _ _ _ _=>U|exact L2.lb6 λ_ _ _ _ _ _=>U|exact L2.lb7 λ_ _ _ _ _ _ _=>U|exact L2.lb8 λ_ _ _ _ _ _ _ _=>U|exact L2.lb9 λ_ _ _ _ _ _ _ _ _=>U):Callee P w K mg base (k+n) x ps (sp n):=by
 cases h with|mk a F =>
 refine⟨_,_,?_,b F,F.kp,Z.g a⟩;induction n with
 |zero=>exact aL.no λ_ _ _ _ h=>z h
 |succ n c=>exact O n F ⟨_,_,c,b F,F.kp,Z.g a⟩
theorem gv_mk{v:V}{u:Value}(a:W.nsIn K mainGlobals x=some (some u))(r:RelV v u):∃u,W.nsIn K mainGlobals x=some (some u)/\RelV v u:=⟨u,a,r⟩
end
theorem Inv.turnedPair{ch:List Addr}{T:Addr}{x y:V}{u v:Value}(I:Inv X pins σ H s)(h:∀b∈ch,kz X pins H b)(k:∀b o,b ∉ ch->s.heap.get? b=some o->h'.get? b=some o)
  (A:s.heap.get? T=none)(D:H T=none)(E:IsPair h' T u v)(t:RelV x u)(p:RelV y v):Inv X pins σ (upd H T (.tup [x,y])) { s with heap:=h' }:=by
 have out:∀b u,H b=some u->b ∉ ch:=λb u e z=>by
  have f:=(h b z).1;rw[f]at e;cases e
 have j:∀{b o},s.heap.get? b=some o->b≠T:=λe z=>by rw[z,A]at e;cases e
 have a:∀{b u},H b=some u->b≠T:=λe z=>by rw[z,D]at e;cases e
 have J:=Inv.step (H':=upd H T (.tup [x,y])) (h':=h') (g':=s.gens) (d':=s.drawn) (t':=s.toks) (ch:=ch) I
  (λb g=>by obtain⟨_,i,_,K,G,F⟩:=h b g;exact⟨K,i,G,F⟩)
  (λb o _ _ d e _=>k b o d e)
  (λb o _ _ d e _=>⟨o.slots,k b o d e⟩)
  (λb o _ e n=>by rw[ay (j e)];exact n)
  (λb o d e=>⟨o,k b o d e⟩)
  (λb l e=>by rw[ay (a e)];exact e)
  (λb o w e=>by rw[ay (a e)];exact e)
  (λb ps e=>⟨#[],by rw[ay (a e),e];simp⟩)
  (λm C=>by
   obtain⟨o,es,L,B,r⟩:=C;refine⟨o,es,L,k _ o (λz=>?_) B,r⟩;obtain⟨_,i,_⟩:=h _ z;exact i U)
  (λb w e=>by
   by_cases g:b=T
   .subst g;rw[ab]at e;cases e;exact⟨by show 2<=sizeLine;decide,[u,v],.cons t (.cons p .nil),_,E,U,_,U⟩
   .rw[ay g]at e;refine(I.hok b w e).stay (λc z d q=>k c z ?_ q) (λc q=>?_) λc l q=>?_
    .rcases d with z|z
     .rw[z];exact out b w e
     .exact out c _ z
    .rw[ay (a q)];exact q
    .rw[ay (a q)];exact q)
  I.bare
 exact J
theorem Inv.turnedL{ch:List Addr}(I:Inv X pins σ H s)(d:∀b∈ch,kz X pins H b)(k:∀b o,b ∉ ch->s.heap.get? b=some o->h'.get? b=some o):Inv X pins σ H { s with heap:=h' }:=by
 have out:∀b u,H b=some u->b ∉ ch:=λb u e z=>by
  have f:=(d b z).1;rw[f]at e;cases e
 have J:=Inv.step (H':=H) (h':=h') (g':=s.gens) (d':=s.drawn) (t':=s.toks) (ch:=ch) I
  (λb l=>by obtain⟨_,g,_,v,t,p⟩:=d b l;exact⟨v,g,t,p⟩)
  (λb o _ _ a e _=>k b o a e)
  (λb o _ _ a e _=>⟨o.slots,k b o a e⟩)
  (λb o _ _ n=>n)
  (λb o a e=>⟨o,k b o a e⟩)
  (λb h e=>e) (λb o w e=>e) (λb ps e=>⟨#[],by rw[e];simp⟩)
  (λm j=>by
   obtain⟨o,es,x,i,r⟩:=j;refine⟨o,es,x,k _ o (λz=>?_) i,r⟩;obtain⟨_,g,_⟩:=d _ z;exact g U)
  (λb w e=>by
   refine(I.hok b w e).stay (λc z a q=>k c z ?_ q) (λc q=>q) λc h q=>q
   rcases a with z|z
   .rw[z];exact out b w e
   .exact out c _ z)
  I.bare
 exact J
def Itz(K:W.Frag)(a b:Addr):It :=
 ⟨λi H=>∃d c x y,SqL K H a d/\SqL K H b c/\d[i]?=some x/\c[i]?=some y,
 λi H v e=>∃T,H T=none/\v=.ref T/\∀d c x y,SqL K H a d->SqL K H b c->d[i]?=some x->c[i]?=some y->e=upd H T (.tup [x,y]),
 λi H=>∃d c,SqL K H a d/\SqL K H b c/\(d.length<=i\/c.length<=i)⟩
def zL(z TI TO d c a b:Addr)(i:Nat)(h:Heap):Prop:=IsZip h z TI TO .none/\IsPair h TI (.ref d) (.ref c)/\(∃p q,IsPair h TO p q)/\h.IsListIter d a i/\h.IsListIter c b i
theorem wJ{P:Program}{w:World}{K:W.Frag}{A:List Expr} {x1} {tp:Pos}{z TI TO t r a b:Addr}(D:ZipApart z TI TO t r a b) :
  Turn P w K (.Tuple A x1 tp) (Itz K a b) [z,TI,TO,t,r] z (zL z TI TO t r a b) where
 mem:=by simp
 obj:=λi h f c d=>by
  obtain⟨n,g,⟨p,q,m⟩,⟨o4,l,_,d4⟩,⟨o5,j,_,d5⟩⟩:=f;simp only[dt,ju,or_false]at d;rcases d with rfl|rfl|rfl|rfl|rfl
  .exact⟨_,n,λv q=>nomatch q⟩
  .exact⟨_,g,λv q=>nomatch q⟩
  .exact⟨_,m,λv q=>nomatch q⟩
  .exact⟨_,l,λv q=>by rw[d4]at q;cases q⟩
  .exact⟨_,j,λv q=>by rw[d5]at q;cases q⟩
 keep:=λi h h' f k=>by
  obtain⟨n,g,⟨p,q,m⟩,l,j⟩:=f;exact⟨k z (by simp) _ n,k TI (by simp) _ g,⟨p,q,k TO (by simp) _ m⟩,l.at λo e=>k t (by simp) o e,j.at λo e=>k r (by simp) o e⟩
 item:=by
  intro X R N S d i pins s σ H E I F f Q;subst R N S;obtain⟨xs,ys,x,y,C,B,ex,ey⟩:=Q;obtain⟨n,g,⟨p,q,m⟩,l,j⟩:=f;obtain⟨us,L,M,_⟩:=I.list C;obtain⟨vs,G,pv,_⟩:=I.list B;obtain⟨u,eu,r1⟩:=L.get ex;obtain⟨v,ev,r2⟩:=G.get ey;refine wpAny_pyNext_zip_item D n g m l j M.isList pv.isList (x:=u) (y:=v) (by simpa using eu) (by simpa using ev) λh1 a1 a2 a3 a4 a5 a6 a7=>?_
  refine⟨_,U,wpAny_letOwnedTupleGo_zip (s:={ s with heap:=h1 }) a1 λV b1 b2=>?_⟩;have nT:s.heap.get? s.heap.objs.size=none:=by
   cases q:s.heap.get? s.heap.objs.size with
   |none=>rfl
   |some o=>exact absurd (Heap.lt_size q) (yE _)
  have hT:H s.heap.objs.size=none:=I.hok.fresh (w5 _);have nz:s.heap.objs.size≠z:=yg (Heap.lt_size n);have kk:∀c o,c ∉ [z,TO,t,r]->s.heap.get? c=some o->V.get? c=some o:=λc o d e=>by
   simp only[dt,ju,or_false,not_or]at d;exact b2.extBut _ _ d.1 (a7 c o d.1 d.2.1 d.2.2.1 d.2.2.2 e)
  have J:=I.turnedPair (h':=V) (ch:=[z,TO,t,r]) (T:=s.heap.objs.size) (x:=x) (y:=y) (u:=u) (v:=v) (λc d=>F c (by simp at d⊢;rcases d with e|e|e|e <;> simp[e])) kk nT hT (b2.extBut _ _ nz a5) r1 r2;refine⟨.ref s.heap.objs.size,upd H s.heap.objs.size (.tup [x,y]),J,U,⟨_,hT,U,λb0 a9 x' y' q1 q2 Z Y=>?_⟩,⟨b1,b2.extBut _ _ D.TIz (a7 TI _ D.TIz D.TITO D.TIi1 D.TIi2 g),⟨_,_,b2.extBut _ _ D.TOz a2⟩,a3.extBut b2.extBut D.i1z,a4.extBut b2.extBut D.i2z⟩,λc d=>?_⟩
  .rw[I.list_inj q1 C]at Z;rw[I.list_inj q2 B]at Y;rw[ex]at Z;rw[ey]at Y;cases Z;cases Y;rfl
  .have h0:=(F c d).1;have:c≠s.heap.objs.size:=by
    obtain⟨o4,a8,_⟩:=l;obtain⟨o5,a0,_⟩:=j;simp only[dt,ju,or_false]at d;rcases d with rfl|rfl|rfl|rfl|rfl
    .exact nz.symm
    .exact xS (Heap.lt_size g)
    .exact xS (Heap.lt_size m)
    .exact xS (Heap.lt_size a8)
    .exact xS (Heap.lt_size a0)
   rw[ay this];exact h0
 done:=by
  intro X R N S d i pins s σ H E I F f Q;subst R N S;obtain⟨xs,ys,C,B,O⟩:=Q;obtain⟨n,g,⟨p,q,m⟩,l,j⟩:=f;obtain⟨us,L,M,_⟩:=I.list C;obtain⟨vs,G,pv,_⟩:=I.list B;have l1:=L.length;have l2:=G.length;refine wpAny_pyNext_zip_end (I.ok.hd d) D n g m l j M.isList pv.isList ?_ λV k=>⟨U,I.turnedL (ch:=[z,TO,t,r]) (λc d=>F c (by simp at d⊢;rcases d with e|e|e|e <;> simp[e])) λc o d e=>?_⟩
  .rcases O with O|O
   .exact .inl (by simp;lia)
   .exact .inr (by simp;lia)
  .simp only[dt,ju,or_false,not_or]at d;exact k c o d.1 d.2.1 d.2.2.1 d.2.2.2 e
 self:=λ_ _ _ _ _ f h=>wpAny_pyIter_zip f.1 h
inductive zM(K:W.Frag)(R:It->Hp->Prop)(vs:List V)(H1:Hp):Prop
 |mk (a b:_)(_:vs=[.ref a,.ref b])(_:(∃xs,SqL K H1 a xs))(_:(∃ys,SqL K H1 b ys))(_:R (Itz K a b) H1)
def Dz(K:W.Frag)(b:TA):TI:=λσ H R=>b σ H λa c=>zM K R a c
theorem pP{k e:Expr}{l:TA}{p pos:Pos}{j:List Expr} {x1} {tp:Pos}(M:Gl X "zip") (hm:X.mg "zip" = none) (N:PA X [k,e] l)
  (L:starEach [k,e] X.env=[(false,eval k X.env),(false,eval e X.env)]:=by rfl)(g:starEach [e] X.env=[(false,eval e X.env)]:=by rfl) :
  PI X (.Tuple j x1 tp) (.Call (.Name "zip" p) [k,e] [] pos) (Dz X.K l):=by
 intro pins s σ H R I h;refine Call_ (eN I M hm PyProof.Rows.boot_zip (PyProof.Rows.callWith_type1 (thn (N pos pins s σ H _ I h) λB d ⟨A,Q,f,E,J⟩=>?_) (by rw[L,g]) (by rw[g];rfl)));obtain⟨a,b,rfl,⟨V,G⟩,⟨T,F⟩,q⟩:=J;obtain⟨u,v,rfl,D,C⟩:=E.two;cases (show u=Value.ref a from D);cases (show v=Value.ref b from C);obtain⟨B,_,m,_⟩:=f.list G;obtain⟨A,_,pv,_⟩:=f.list F;obtain⟨Y,P,_⟩:=id m.isList;obtain⟨W,O,_⟩:=id pv.isList;have o:a<d.heap.objs.size:=Heap.lt_size P;have n:b<d.heap.objs.size:=Heap.lt_size O;refine call_zip_2 m.isList pv.isList λh' z1 z y x w S t=>?_
 refine wpAny_pyIter_zip (s:={ d with heap:=h' }) z1 ?_;refine⟨d.heap.objs.size+4,[d.heap.objs.size+4,d.heap.objs.size+2,d.heap.objs.size+3,d.heap.objs.size,d.heap.objs.size+1],zL (d.heap.objs.size+4) (d.heap.objs.size+2) (d.heap.objs.size+3) d.heap.objs.size (d.heap.objs.size+1) a b,Itz X.K a b,Q,U,f.kept (t':=d.toks) t,wJ ?_,⟨z1,z,⟨_,_,y⟩,x,w⟩,λc r=>?_,q⟩
 .refine⟨?_,?_,?_,?_,?_,?_,?_,?_,?_,?_,?_,?_,?_,?_,?_,?_,?_,?_⟩ <;> first|exact xS (by lia)|exact yg (by lia)|exact xS o|exact xS n|exact xS (xT o (y9 _ _))|exact xS (xT n (y9 _ _))
 .have i:d.heap.objs.size<=c:=by
   simp only[dt,ju,or_false]at r;rcases r with rfl|rfl|rfl|rfl|rfl <;> lia
  exact f.fpOk i (f.hok.fresh i)
theorem pQ{K:W.Frag}{a b:Addr}{xs ys:List V}{g:TG}{o:TS}{D:Ends}{σ:St}{H:Hp}(c:Nat->St->Hp->Prop)(z:c 0 σ H)(u:∀i σ H,c i σ H->SqL K H a xs/\SqL K H b ys)
  (t:∀i x y σ H T,xs[i]?=some x->ys[i]?=some y->c i σ H->H T=none->g (.ref T) σ (upd H T (.tup [x,y])) λd n=>o { D with nx:=c (i+1),ct:=c (i+1),bk:=D.nx } d n)
  (hd:∀σ H,c (min xs.length ys.length) σ H->D.nx σ H) :
  ∃W:Nat->Nat->St->Hp->Prop,(∃m,W 0 m σ H)/\∀i m σ H,W i m σ H ->
   ((Itz K a b).stop i H/\D.nx σ H)\/((Itz K a b).go i H/\∃N:St->Hp->Prop,(∀f H',N f H'->∃q,q<m/\W (i+1) q f H')/\∀x H',(Itz K a b).yld i H x H'->g x σ H' λd n=>o { D with nx:=N,ct:=N,bk:=D.nx } d n):=by
 refine⟨λi m σ H=>m=min xs.length ys.length-i/\i<=min xs.length ys.length/\c i σ H,⟨min xs.length ys.length,by simp,yh _,z⟩,?_⟩;rintro i m σ H ⟨rfl,hi,p⟩;obtain⟨j,h⟩:=u i σ H p;by_cases lt:i<min xs.length ys.length
 .have l:xs[i]?=some xs[i]:=GH (by lia);have k:ys[i]?=some ys[i]:=GH (by lia);refine .inr ⟨⟨xs,ys,_,_,j,h,l,k⟩,c (i+1),λf H' s=>⟨_,?_,U,lt,s⟩,λv H' r=>?_⟩
  .lia
  .obtain⟨T,w,rfl,e⟩:=r;rw[e xs ys _ _ j h l k];exact t i _ _ σ H T l k p w
 .have e:i=min xs.length ys.length:=by lia
  subst e;exact .inl ⟨⟨xs,ys,j,h,by lia⟩,hd σ H p⟩
theorem n5{X:Cx}{K:W.Frag}(h:X.K=K):dr X (.type "list") (λxs H Q=>∃p ys,xs=[.ref p]/\(SqL K H p ys\/SqT K H p ys)/\∀l,H l=none->Q (.ref l) (upd H l (.lst ys))):=h ▸ cn
set_option maxRecDepth 100000
abbrev jg(h:Heap)(z TI TO a:Addr)(b:Bool):Prop :=
 h.get? z=some { cls:=.type "zip",dict:=none,data:=.fields #[rawInt a,.bool b,.bool false,.ref TI,.ref TO],slots:=#[] }
theorem jZ{a:Addr}{Q:Option Obj->Shared->Prop}(h:Q (s.heap.get? a) s):wpAny (model prog w) A (loadIfAlive a) Q E s:=λ_ _ _=>h
theorem oX{z TI TO a:Addr}{b:Bool}{o:Obj}{Q:Bool->Shared->Prop}(hz:jg s.heap z TI TO a b)(d:s.heap.get? a=some o)
  (h:∀h',jg h' z TI TO a true->Heap.SameBut z s.heap h'->Q false { s with heap:=h' }):wpAny (model prog w) A (Builtin.SmallTypes.ownedTupleIsFree (.ref z)) Q E s:=by
 unfold Builtin.SmallTypes.ownedTupleIsFree;refine BY (wpAny_field hz U (x:=rawInt a) U ?_);show wpAny _ _ (loadIfAlive ((a:Int).toNat) >>= _) _ _ _;refine BY (jZ ?_);rw[Bt,d];simp only[Option.isNone_some,A9,if_false];refine BY (wpAny_field hz U (x:=.bool b) U ?_);cases b with
 |true =>
  rw[if_neg (by simp)];refine C0 ?_;have e:s={ s with heap:=s.heap }:=by cases s;rfl
  rw[e];exact h s.heap hz (Heap.SameBut.refl z s.heap)
 |false =>
  rw[if_pos (by decide)];refine BY (wpAny_setField_rec hz (by simp) λf g c=>?_);exact C0 (h f g c)
theorem u7{z TI TO v i p q t:Addr}{Y:Bool}{u B:Nat}{xs ys:Array Value}{x y a b:Value}{o:Obj}{Q:Option Value->Shared->Prop}(D:ZipApart z TI TO i p q t)
  (hz:jg s.heap z TI TO v Y)(I:s.heap.get? v=some o)(H:IsPair s.heap TI (.ref i) (.ref p))(Z:IsPair s.heap TO a b)
  (T:s.heap.IsListIter i q u)(S:s.heap.IsListIter p t B)(G:s.heap.IsList q xs)(C:s.heap.IsList t ys)(P:xs[u]?=some x)(O:ys[B]?=some y)
  (R:∀h',jg h' z TI TO v true->h'.IsListIter i q (u+1)->h'.IsListIter p t (B+1)->IsPair h' s.heap.objs.size x y->h'.objs.size=s.heap.objs.size+1 ->
   (∀c o,c≠z->c≠i->c≠p->s.heap.get? c=some o->h'.get? c=some o)->Q (some (.ref s.heap.objs.size)) { s with heap:=h' }) :
  wpAny (model prog w) A (pyNext (.ref z)) Q E s:=by
 have J:s.TypeIs (.ref z) "zip" := ⟨_,hz,U⟩;unfold pyNext;refine BY (wpAny_attempt (wpAny_callSpecial?_slot (name:=s!"__next__") J F.slot_zip_next (wpAny_call_entry F.slot_zip_next J F.entry_zip_next ?_ (F.args_zip_next_1 _))));show wpAny _ _ (field (.ref z) 2 >>= _) _ _ _;refine BY (wpAny_field hz U (x:=.bool false) U ?_);show wpAny _ _ (field (.ref z) 3 >>= _) _ _ _;refine BY (wpAny_field hz U (x:=.ref TI) U ?_);refine BY (wpAny_seqItems H U ?_);show wpAny _ _ (Builtin.SmallTypes.ownedTupleIsFree (.ref z) >>= _) _ _ _;refine BY (oX hz I λM k d=>?_);simp only[A9,if_false];refine BY ?_;rw[←Array.forIn_toList];simp only[List.forIn_cons,List.forIn_nil];refine BY (BY (Dl ?_));show wpAny _ _ (Builtin.SmallTypes.nextOf (.ref i) >>= _) _ _ _;refine BY (wpAny_nextOf_list_item (T.extBut d.extBut D.i1z) (G.extBut d.extBut D.l1z) P λL n g=>C0 ?_);refine C0 ?_;dsimp only;refine BY (BY (Dl ?_));show wpAny _ _ (Builtin.SmallTypes.nextOf (.ref p) >>= _) _ _ _;refine BY (wpAny_nextOf_list_item ((S.extBut d.extBut D.i2z).extBut g.extBut D.i12.symm) ((C.extBut d.extBut D.l2z).extBut g.extBut D.l2i1) O λf l h=>C0 ?_);refine C0 ?_;dsimp only;refine C0 ?_;refine BY (wpAny_newTuple ?_ (by show 2<=sizeLine;decide));have r:f.objs.size=s.heap.objs.size:=by rw[h.1,g.1,d.1]
 refine C0 ⟨_,U,C0 ?_⟩;show Q (some (.ref f.objs.size)) _;have j:jg f z TI TO v true:=h.extBut _ _ D.i2z.symm (g.extBut _ _ D.i1z.symm k);have m:f.IsListIter i q (u+1):=n.extBut h.extBut D.i12;have K:(f.push { cls:=.type "tuple",data:=.seq #[x,y] }).get? f.objs.size=some { cls:=.type "tuple",data:=.seq #[x,y] }:=Heap.get?_push_size _ U;have N:(f.push { cls:=.type "tuple",data:=.seq #[x,y] }).objs.size=s.heap.objs.size+1:=by rw[Heap.size_push,r]
 rw[r]at K⊢;exact R _ (Heap.get?_push_of_some _ j) (m.at λo e=>Heap.get?_push_of_some _ e) (l.at λo e=>Heap.get?_push_of_some _ e) K N λc o X W V e=>Heap.get?_push_of_some _ (h.extBut _ _ V (g.extBut _ _ W (d.extBut _ _ X e)))
theorem wK{z TI TO R j i r p:Addr}{bb:Bool}{u t:Nat}{xs ys:Array Value}{a b:Value}{o:Obj}{Q:Option Value->Shared->Prop}(M:A.handled=none)(D:ZipApart z TI TO j i r p)
  (hz:jg s.heap z TI TO R bb)(J:s.heap.get? R=some o)(I:IsPair s.heap TI (.ref j) (.ref i))(a0:IsPair s.heap TO a b)
  (O:s.heap.IsListIter j r u)(h2:s.heap.IsListIter i p t)(l:s.heap.IsList r xs)(G:s.heap.IsList p ys)(W:xs[u]?=none\/ys[t]?=none)
  (Z:∀h',(∀c o,c≠z->c≠j->c≠i->s.heap.get? c=some o->h'.get? c=some o)->Q none { s with heap:=h' }) :
  wpAny (model prog w) A (pyNext (.ref z)) Q E s:=by
 have N:s.TypeIs (.ref z) "zip" := ⟨_,hz,U⟩;unfold pyNext;refine BY (wpAny_attempt (wpAny_callSpecial?_slot (name:=s!"__next__") N F.slot_zip_next (wpAny_call_entry F.slot_zip_next N F.entry_zip_next ?_ (F.args_zip_next_1 _))));show wpAny _ _ (field (.ref z) 2 >>= _) _ _ _;refine BY (wpAny_field hz U (x:=.bool false) U ?_);show wpAny _ _ (field (.ref z) 3 >>= _) _ _ _;refine BY (wpAny_field hz U (x:=.ref TI) U ?_);refine BY (wpAny_seqItems I U ?_);show wpAny _ _ (Builtin.SmallTypes.ownedTupleIsFree (.ref z) >>= _) _ _ _;refine BY (oX hz J λV K d=>?_);simp only[A9,if_false];refine BY ?_;rw[←Array.forIn_toList];simp only[List.forIn_cons,List.forIn_nil];refine BY (BY (Dl ?_));show wpAny _ _ (Builtin.SmallTypes.nextOf (.ref j) >>= _) _ _ _
 have m:∀h' e,(∀c o,c≠z->c≠j->c≠i->s.heap.get? c=some o->h'.get? c=some o)->(∃o,h'.get? e=some o/\o.cls=.type "StopIteration") ->
   wpAny (model prog w) A (do if ←isInstance (.ref e) (.type "StopIteration")then pure none else throw (.ref e)) Q E { s with heap:=h' }:=λh' e k ⟨X,C,H⟩=>by
  refine BY (wpAny_isInstance (T := "StopIteration") (b:=true) ⟨X,C,H⟩ isSubtype_stop ?_);exact C0 (Z _ k)
 cases hx:xs[u]? with
 |none =>
  refine BY (wpAny_nextOf_list_end M (O.extBut d.extBut D.i1z) (l.extBut d.extBut D.l1z) hx λn e f v=>?_);exact m _ _ (λc o B y P q=>f _ _ y (d.extBut _ _ B q)) v
 |some x =>
  have Y:ys[t]?=none:=by rcases W with h|h;rw[hx]at h;cases h;exact h
  refine BY (wpAny_nextOf_list_item (O.extBut d.extBut D.i1z) (l.extBut d.extBut D.l1z) hx λn L f=>C0 ?_);refine C0 ?_;dsimp only;refine BY (BY (Dl ?_));show wpAny _ _ (Builtin.SmallTypes.nextOf (.ref i) >>= _) _ _ _;refine BY (wpAny_nextOf_list_end M ((h2.extBut d.extBut D.i2z).extBut f.extBut D.i12.symm) ((G.extBut d.extBut D.l2z).extBut f.extBut D.l2i1) Y λS e g v=>?_);exact m _ _ (λc o B y P q=>g _ _ P (f.extBut _ _ y (d.extBut _ _ B q))) v
section
variable{R:Result->Shared->Prop}
theorem neA{a T:Addr}{N:Nat}(h:a<N)(h':N<=T):T≠a:=yg (xT h h')
def zN(h:Heap)(z TI TO:Addr)(N:Nat)(i:Nat):Prop:=(i=0/\IsZip h z TI TO .none)\/∃a b o,N<=a/\a≠z/\jg h z TI TO a b/\h.get? a=some o/\o.cls=.type "tuple"
theorem sW{z TI TO C B L K S:Addr}{xs ys:Array Value}{I:Value}(hh:A.handled=none)(D:ZipApart z TI TO C B L K)(N:Nat)(hz:z<N)(c1:TI<N)(a8:TO<N)(X:C<N)(W:B<N)(c0:L<N)(b6:K<N)(hS:S<N)
  (m:S≠z/\S≠TI/\S≠TO/\S≠C/\S≠B/\S≠L/\S≠K)(hn:min xs.size ys.size<=sizeLine) :
  ∀(d i:Nat)(s:Shared)(l:Array Value)(c:Nat)(ts:List Addr),min xs.size ys.size=i+d->N<=s.heap.objs.size->zN s.heap z TI TO N i->IsPair s.heap TI (.ref C) (.ref B)->(∃a b,IsPair s.heap TO a b) ->
   s.heap.IsListIter C L i->s.heap.IsListIter B K i->s.heap.IsList L xs->s.heap.IsList K ys->s.heap.get? S=some { cls:=.type "list",dict:=none,data:=.seq l c,slots:=#[] } ->
   l.toList=ts.map Value.ref->ts.length=i->ts.Nodup->(∀(j:Nat)(T:Addr),ts[j]?=some T->N<=T/\∃x y,xs[j]?=some x/\ys[j]?=some y/\IsPair s.heap T x y) ->
   (∀(h':Heap)(sV:Array Value)(c':Nat)(n:List Addr),(∀b o,b<N->b≠S->b≠z->b≠TO->b≠C->b≠B->s.heap.get? b=some o->h'.get? b=some o)->h'.get? S=some { cls:=.type "list",dict:=none,data:=.seq sV c',slots:=#[] } ->
    sV.toList=n.map Value.ref->n.length=min xs.size ys.size->n.Nodup->(∀(j:Nat)(T:Addr),n[j]?=some T->N<=T/\∃x y,xs[j]?=some x/\ys[j]?=some y/\IsPair h' T x y)->R (.ok (.ret I)) { s with heap:=h' }) ->
   codeAny (model prog w) A (.builtin "list.extend.loop" ⟨[.ref S,.ref z,I],[]⟩) R s:=by
 intro d;induction d with
 |zero =>
  intro i s l c ts e hN r Y ⟨a,b,p2⟩ t1 t2 q1 q2 g ea el nd hts v;refine codeAny_builtin F.entry_extend_loop ?_;rw[Around.under_plainId F.plain_extend_loop _];show wpAny _ A.in1 (pyNext (.ref z) >>= _) _ _ s;have sR:xs[i]?=none\/ys[i]?=none:=by
   by_cases hx:xs.size<=i
   .exact .inl (Array.getElem?_eq_none hx)
   .exact .inr (Array.getElem?_eq_none (by lia))
  have Q:∀h',(∀b o,b≠z->b≠TO->b≠C->b≠B->s.heap.get? b=some o->h'.get? b=some o)->R (.ok (.ret I)) { s with heap:=h' }:=λh' k=>by
   refine v h' l c ts (λb o _ _ P b2 O M q=>k b o P b2 O M q) (k S _ m.1 m.2.2.1 m.2.2.2.1 m.2.2.2.2.1 g) ea (by lia) nd λj T E=>?_
   obtain⟨h,x,y,V,H,G⟩:=hts j T E;exact⟨h,x,y,V,H,k T _ (neA hz h) (neA a8 h) (neA X h) (neA W h) G⟩
  rcases r with⟨_,r⟩|⟨T0,bb,o,J,_,r,gT,_⟩
  .exact BY (wpAny_pyNext_zip_end (by simp[hh]) D r Y p2 t1 t2 q1 q2 sR λh' k=>C0 (Q h' k))
  .exact BY (wK (by simp[hh]) D r gT Y p2 t1 t2 q1 q2 sR λh' k=>C0 (Q h' λb o P _ O M q=>k b o P O M q))
 |succ d ih =>
  intro i s l c ts e hN r Y ⟨a,b,p2⟩ t1 t2 q1 q2 g ea el nd hts v;have ix:i<xs.size:=by lia
  have iy:i<ys.size:=by lia
  refine codeAny_builtin F.entry_extend_loop ?_;rw[Around.under_plainId F.plain_extend_loop _];show wpAny _ A.in1 (pyNext (.ref z) >>= _) _ _ s;have a0:l.size=i:=by rw[←zz,ea,bx,el]
  have go:∀h',zN h' z TI TO N (i+1)->(∃a b,IsPair h' TO a b)->h'.IsListIter C L (i+1)->h'.IsListIter B K (i+1)->IsPair h' s.heap.objs.size xs[i] ys[i]->h'.objs.size=s.heap.objs.size+1 ->
    (∀b o,b≠z->b≠TO->b≠C->b≠B->s.heap.get? b=some o->h'.get? b=some o) ->
    wpAny (model prog w) A.in1 (updateSeq S (·.push (.ref s.heap.objs.size)) >>= λ_=>again (.builtin "list.extend.loop" ⟨[.ref S,.ref z,I],[]⟩))
     (λv s'=>match v with | .done f=>R (.ok f) s' | .again c'=>c'.quiet=true/\codeAny (model prog w) A c' R s') (λe s'=>R (.error e) s') { s with heap:=h' }:=λh' z1 z2 z3 z4 z5 z6 k=>by
   have gS:h'.get? S=some { cls:=.type "list",dict:=none,data:=.seq l c,slots:=#[] }:=k S _ m.1 m.2.2.1 m.2.2.2.1 m.2.2.2.2.1 g;refine BY (wpAny_updateSeq gS U ?_ (by rw[a0];lia) (by show(l.push _).size<=sizeLine+1;rw[Array.size_push,a0];lia));have gU:=Heap.get?_update_self (Obj.mapSeq (·.push (Value.ref s.heap.objs.size))) gS U;generalize hH:h'.update S (Obj.mapSeq (·.push (Value.ref s.heap.objs.size)))=h2 at gU⊢;have sb:Heap.SameBut S h' h2:=hH ▸ Heap.SameBut.update ..;have p:∀b o,b≠S->h'.get? b=some o->h2.get? b=some o:=λb o hb q=>(sb.2 b hb).trans q
   have a9:h2.objs.size=s.heap.objs.size+1:=by rw[sb.1,z6]
   refine C0 ⟨plainId_quiet F.plain_extend_loop _,ih (i+1) { s with heap:=h2 } (l.push (.ref s.heap.objs.size)) _ (ts++[s.heap.objs.size]) (by lia) (by rw[a9];lia) ?_ (p TI _ m.2.1.symm (k TI _ D.TIz D.TITO D.TIi1 D.TIi2 Y)) ?_ (z3.at λo q=>p C o m.2.2.2.1.symm q) (z4.at λo q=>p B o m.2.2.2.2.1.symm q)
    ((q1.at λo q=>k L o D.l1z D.l1TO D.l1i1 D.l1i2 q).at λo q=>p L o m.2.2.2.2.2.1.symm q) ((q2.at λo q=>k K o D.l2z D.l2TO D.l2i1 D.l2i2 q).at λo q=>p K o m.2.2.2.2.2.2.symm q) gU (by rw[zJ,ea,ij];rfl) (by simp[el]) ?_ (λj T E=>?_) λh3 sV c' n k3 g3 e3 l3 n3 f3=>?_⟩
   .rcases z1 with⟨z',_⟩|⟨T0,bb,o,h,V,H,G,Z⟩
    .exact absurd z' (by lia)
    .exact .inr ⟨T0,bb,o,h,V,p z _ m.1.symm H,p T0 _ (neA hS h) G,Z⟩
   .obtain⟨a',b',q⟩:=z2;exact⟨a',b',p TO _ m.2.2.1.symm q⟩
   .rw[rQ];refine⟨nd,by simp,λt ht u hu=>?_⟩;have eu:u=s.heap.objs.size:=by simpa using hu
    obtain⟨j,E⟩:=List.mem_iff_getElem?.mp ht;obtain⟨_,x,y,_,_,gp⟩:=hts j t E;have:=Heap.lt_size gp;exact λq=>yE _ (by rw[q,eu]at this;exact this)
   .rw[List.getElem?_append]at E;split at E
    .obtain⟨h,x,y,V,H,G⟩:=hts j T E;exact⟨h,x,y,V,H,p T _ (neA hS h) (k T _ (neA hz h) (neA a8 h) (neA X h) (neA W h) G)⟩
    .rename_i hlt
     have b5:j=i:=by
      obtain⟨q,_⟩:=GI.mp E;simp at q;lia
     subst b5;rw[el,Nat.sub_self]at E;have eT:s.heap.objs.size=T:=by simpa using E
     subst eT;exact⟨hN,xs[j],ys[j],zw ix,zw iy,p _ _ (neA hS hN) z5⟩
   .exact v h3 sV c' n (λb o b0 bS P b2 O M q=>k3 b o b0 bS P b2 O M (p b o bS (k b o P b2 O M q))) g3 e3 l3 n3 f3
  rcases r with⟨_,r⟩|⟨T0,bb,o,J,B1,r,gT,cT⟩
  .refine BY (wpAny_pyNext_zip_item D r Y p2 t1 t2 q1 q2 (x:=xs[i]) (y:=ys[i]) (zw ix) (zw iy) λh' h V H G Z a6 a7=>?_);exact go h' (.inr ⟨s.heap.objs.size,false,_,hN,yg (xT hz hN),h,Z,U⟩) ⟨_,_,V⟩ H G Z a6 a7
  .refine BY (u7 D r gT Y p2 t1 t2 q1 q2 (x:=xs[i]) (y:=ys[i]) (zw ix) (zw iy) λh' h H G Z a6 a7=>?_);exact go h' (.inr ⟨T0,true,o,J,B1,h,a7 T0 o B1 (neA X J) (neA W J) gT,cT⟩) ⟨_,_,a7 TO _ D.TOz D.TOi1 D.TOi2 p2⟩ H G Z a6 λb o P _ O M q=>a7 b o P O M q
end
set_option maxRecDepth 100000
theorem sZ:typeLookup (.type "zip") "__len__" = pure none:=by rw[typeLookup_type,builtinLookup_eq_fast];kernel_rfl
theorem qW:typeLookup (.type "zip") "__length_hint__" = pure none:=by rw[typeLookup_type,builtinLookup_eq_fast];kernel_rfl
theorem n6{z TI TO m l J I:Addr}{xs ys:Array Value}{Q:Value->Shared->Prop}(hh:A.handled=none)(D:ZipApart z TI TO m l J I)(H:IsZip s.heap z TI TO .none)(W:IsPair s.heap TI (.ref m) (.ref l))(V:IsPair s.heap TO .none .none)
  (t1:s.heap.IsListIter m J 0)(P:s.heap.IsListIter l I 0)(S:s.heap.IsList J xs)(R:s.heap.IsList I ys)(hn:min xs.size ys.size<=sizeLine)
  (h:∀(h':Heap)(i:Array Value)(c:Nat)(ts:List Addr),(∀b o,b≠z->b≠TO->b≠m->b≠l->s.heap.get? b=some o->h'.get? b=some o)->h'.get? s.heap.objs.size=some { cls:=.type "list",dict:=none,data:=.seq i c,slots:=#[] } ->
   i.toList=ts.map Value.ref->ts.length=min xs.size ys.size->ts.Nodup->(∀(j:Nat)(T:Addr),ts[j]?=some T->s.heap.objs.size+1<=T/\∃x y,xs[j]?=some x/\ys[j]?=some y/\IsPair h' T x y)->Q (.ref s.heap.objs.size) { s with heap:=h' }) :
  wpAny (model prog w) A (call (.type "list") [.ref z]) Q E s:=by
 have M:z<s.heap.objs.size:=Heap.lt_size H;have C:TI<s.heap.objs.size:=Heap.lt_size W;have B:TO<s.heap.objs.size:=Heap.lt_size V;have v:m<s.heap.objs.size:=let ⟨_,e,_⟩:=t1;Heap.lt_size e;have u:l<s.heap.objs.size:=let ⟨_,e,_⟩:=P;Heap.lt_size e;have t:J<s.heap.objs.size:=let ⟨_,e,_⟩:=S;Heap.lt_size e;have r:I<s.heap.objs.size:=let ⟨_,e,_⟩:=R;Heap.lt_size e
 refine callType_codes (Q₁:=λq k=>q=.ref s.heap.objs.size/\k={ s with heap:=s.heap.push { cls:=.type "list",data:=.seq #[] } }) F.called_list (F.typeCall_list_1 _) F.entry_list_init
  (code_list_new _ ⟨U,U⟩) λq k G=>?_
 obtain⟨rfl,rfl⟩:=G;have L:(s.heap.push { cls:=.type "list",data:=.seq #[] }).get? s.heap.objs.size=some { cls:=.type "list",data:=.seq #[] }:=Heap.get?_push_size _ U;refine⟨⟨_,L,U⟩,F.args_list_init_2 _ _,?_⟩;show wpAny _ _ (do let O ←Builtin.List.listItems (.ref s.heap.objs.size);Builtin.List.listUpdate (.ref s.heap.objs.size) (λ_=>#[]);letGo O.toList.reverse;Builtin.List.listExtendWith (.ref s.heap.objs.size) (.ref z) .none) _ _ _;refine BY ?_;unfold Builtin.List.listItems;refine BY (wpAny_seqItems L U (C0 ?_));show wpAny _ _ (updateSeq s.heap.objs.size (λ_=>#[]) >>= λ_=>letGo (#[]:Array Value).toList.reverse >>= λ_=>Builtin.List.listExtendWith (.ref s.heap.objs.size) (.ref z) .none) _ _ _;refine BY (wpAny_updateSeq L U ?_);have a:=Heap.get?_update_self (Obj.mapSeq (λ_=>(#[]:Array Value))) L U;refine BY (wpAny_letGo ?_);have K:∀b o,s.heap.get? b=some o->((s.heap.push { cls:=.type "list",data:=.seq #[] }).update s.heap.objs.size (Obj.mapSeq (λ_=>(#[]:Array Value)))).get? b=some o:=λb o e =>
  (Heap.get?_update_other _ _ (yg (Heap.lt_size e))).trans (Heap.get?_push_of_some _ e)
 have p:((s.heap.push { cls:=.type "list",data:=.seq #[] }).update s.heap.objs.size (Obj.mapSeq (λ_=>(#[]:Array Value)))).objs.size=s.heap.objs.size+1:=by rw[Heap.size_update,Heap.size_push]
 generalize (s.heap.push { cls:=.type "list",data:=.seq #[] }).update s.heap.objs.size (Obj.mapSeq (λ_=>(#[]:Array Value)))=hA at a K p⊢;have N:Shared.TypeIs { s with heap:=hA } (.ref z) "zip" := ⟨_,K _ _ H,U⟩;unfold Builtin.List.listExtendWith;refine BY (wpAny_typeOf N ?_);have h1:Builtin.List.listSameRef (.ref s.heap.objs.size) (.ref z)=false:=by simp[Builtin.List.listSameRef];exact yg M
 have h2:(Value.type "zip" == Value.type "list")=false:=by decide
 have h3:(Value.type "zip" == Value.type "tuple")=false:=by decide
 simp only[h1,h2,h3,Bool.or_false,A9,if_false];refine BY (wpAny_pyIter_zip (s:={ s with heap:=hA }) (K _ _ H) ?_);refine BY (Dl ?_);unfold Builtin.List.listLengthHint;refine BY (wpAny_specialOf N sZ ?_);show wpAny _ _ (specialOf (Value.ref z) s!"__length_hint__" >>= _) _ _ _;refine BY (wpAny_specialOf N qW ?_);refine C0 ?_;show wpAny _ _ (rule "list.extend.makes-room" >>= λ_=>Builtin.List.listTouch (.ref s.heap.objs.size) >>= λ_ =>
  again (.builtin "list.extend.loop" ⟨[.ref s.heap.objs.size,.ref z,.none],[]⟩)) _ _ _
 refine BY (wpAny_rule ?_);refine BY ?_;show wpAny _ _ (updateSeq s.heap.objs.size (·.push .none) >>= λ_=>updateSeq s.heap.objs.size (·.pop)) _ _ _;refine BY (wpAny_updateSeq (s:={ s with heap:=hA }) a U ?_);have f:=Heap.get?_update_self (Obj.mapSeq (·.push Value.none)) a U;refine wpAny_updateSeq (hz:=by seq_fits) f U ?_;have d:=Heap.get?_update_self (Obj.mapSeq (·.pop)) f U;have g:∀b o,s.heap.get? b=some o->((hA.update s.heap.objs.size (Obj.mapSeq (·.push Value.none))).update s.heap.objs.size (Obj.mapSeq (·.pop))).get? b=some o :=
  λb o e=>(Heap.get?_update_other _ _ (yg (Heap.lt_size e))).trans ((Heap.get?_update_other _ _ (yg (Heap.lt_size e))).trans (K b o e))
 have n:((hA.update s.heap.objs.size (Obj.mapSeq (·.push Value.none))).update s.heap.objs.size (Obj.mapSeq (·.pop))).objs.size=s.heap.objs.size+1:=by rw[Heap.size_update,Heap.size_update,p]
 generalize (hA.update s.heap.objs.size (Obj.mapSeq (·.push Value.none))).update s.heap.objs.size (Obj.mapSeq (·.pop))=hB at d g n⊢
 refine C0 ⟨plainId_quiet F.plain_extend_loop _,sW (by simp[hh]) D (s.heap.objs.size+1) (yi M) (yi C) (yi B) (yi v) (yi u) (yi t) (yi r) (yB _)
  ⟨yg M,yg C,yg B,yg v,yg u,yg t,yg r⟩ hn (min xs.size ys.size) 0 { s with heap:=hB } #[] _ [] (Nat.zero_add _).symm (by rw[n];exact w5 _)
  (.inl ⟨U,g _ _ H⟩) (g _ _ W) ⟨_,_,g _ _ V⟩ (t1.at λo e=>g _ _ e) (P.at λo e=>g _ _ e) (S.at λo e=>g _ _ e) (R.at λo e=>g _ _ e) d U U tD (λj T hj=>by simp at hj) λh' i c ts Z g3 e3 Y X f3=>?_⟩
 exact⟨U,h h' i c ts (λb o b1 b2 b3 b4 e=>Z b o (yi (Heap.lt_size e)) (xS (Heap.lt_size e)) b1 b2 b3 b4 (g b o e)) g3 e3 Y X f3⟩
set_option maxRecDepth 100000
theorem bJ:∀{l L:List Int},l.Nodup->(∀x∈l,x∈L)->l.length<=L.length
 | [],_,_,_=>yh _
 |x :: l,L,hn,hs=>by
  obtain⟨f,d⟩:=lz.mp hn;have b:=hs x fb;have c:=bJ (L:=L.erase x) d λy a=>(List.mem_erase_of_ne (λ(e:y=x)=>f (e ▸ a))).mpr (hs y (iC _ a))
  rw[List.length_erase_of_mem b]at c;have:0<L.length:=List.length_pos_of_mem b;rw[ik];lia
theorem uo:∀{vs:List Value},(∀v∈vs,∃u,v=.int (kF v) u)->IntsAre vs (vs.map kF)
 | [],_=>.nil
 |v :: vs,h=>by
  obtain⟨u,e⟩:=h v fb;rw[e];exact .cons _ u (uo λx a=>h x (iC _ a))
theorem oY:∀{vs:List Value}{a:List Int},IntsAre vs a->Vals (a.map V.int) vs
 |_,_,.nil=>.nil
 |_,_,.cons n t r=>.cons ⟨t,U⟩ (oY r)
theorem gY:∀{a:List Int},a.Pairwise (· <= ·)->a.Nodup->a.Pairwise (· < ·)
 | [],_,_=>.nil
 |n :: a,h1,h2=>by
  obtain⟨f,d⟩:=rR.mp h1;obtain⟨c,b2⟩:=lz.mp h2;refine .cons (λm b=>?_) (gY d b2);have:=f m b;have:n≠m:=λe=>c (e ▸ b)
  lia
theorem tj{a:Addr}{ks:List Int}{m:Nat}{Q:Value->Shared->Prop}(P:A.handled=none)(Y:dF s.heap a (!dN w) ks m)(hm:m<64)
  (h:∀(p:List Int)(vs:List Value)(s':Shared)(D:Addr)(c:Nat),Vals (p.map V.int) vs->p.Pairwise (· < ·)->(∀k,k∈p↔k∈ks)->s.heap.objs.size<=D->(∀b u,s.heap.get? b=some u->s'.heap.get? b=some u)->s'.heap.get? D=some (seqObj "list" vs.toArray c)->s'.gens=s.gens->s'.os=s.os->p.length=m->Q (.ref D) s') :
  wpAny (model prog w) A (call (.builtin "sorted") [.ref a]) Q E s:=by
 obtain⟨o,es,ep,t,M,H,W,y,r,S,X,O,N⟩:=Y;refine Calls.call_function_entry kind_sorted plain_sorted entry_sorted (args_sorted1 _) ?_;unfold Builtin.«sorted»;refine BY (m:=checkCount "sorted" 1 1 _) (C0 ?_);refine BY (qT (by simp[P]) M H W r S X O λord d x J R F C=>?_);have l:ord.length=m:=by rw[x.length_eq,bx,zz,N]
 have n:∀v∈ord,∃u,v=.int (kF v) u:=λv L=>by
  obtain⟨e,T,rfl⟩:=en.mp (x.mem_iff.mp L);exact(y.ent e T).2
 have Z:=uo n;have I:(ord.map kF).Perm (es.toList.map λe=>kF e.2):=by
  have:=x.map kF;rw[List.map_map]at this;exact this
 refine BY (wpAny_newList ?_ (by rw[sizeLine_eq];lia));have f:(d.heap.push (seqObj "list" ord.toArray 0)).get? d.heap.objs.size=some (seqObj "list" ord.toArray 0):=Heap.get?_push_size _ U;have keep:∀b u,s.heap.get? b=some u->(d.heap.push (seqObj "list" ord.toArray 0)).get? b=some u:=λb u q=>Heap.get?_push_of_some _ (J b u q)
 show wpAny _ _ _ _ _ { d with heap:=d.heap.push (seqObj "list" ord.toArray 0) };refine BY (Dl (wpAny_call_entry slot_list_sort ⟨_,f,U⟩ entry_list_sort ?body (args_list_sort _)))
 case body =>
  refine list_sort_tree (s:={ d with heap:=d.heap.push (seqObj "list" ord.toArray 0) }) f Z (by lia) λout i a1 B a3=>⟨_,U,C0 ⟨_,U,?_⟩⟩
  have nd:i.Nodup:=B.nodup_iff.mpr (I.nodup_iff.mpr y.nd);have j:d.heap.objs.size<(d.heap.push (seqObj "list" ord.toArray 0)).objs.size:=Heap.lt_size f;obtain⟨z,G⟩:∃z,((d.heap.push (seqObj "list" ord.toArray 0)).update d.heap.objs.size (Obj.mapSeq λ_=>#[])).get? d.heap.objs.size=some (seqObj "list" #[] z):=⟨_,get?_update_seq f (λ_=>#[])⟩;have K:∀b,b<(d.heap.push (seqObj "list" ord.toArray 0)).objs.size->((((d.heap.push (seqObj "list" ord.toArray 0)).update d.heap.objs.size (Obj.mapSeq λ_=>#[])).push (seqObj "tuple" ord.toArray 0)).push (seqObj "list" #[] 0)).get? b=((d.heap.push (seqObj "list" ord.toArray 0)).update d.heap.objs.size (Obj.mapSeq λ_=>#[])).get? b:=λb r=>by
   rw[Heap.get?_push_ne _ _ _ (by rw[size_push',Heap.size_update];exact xS (yi r)),Heap.get?_push_ne _ _ _ (by rw[Heap.size_update];exact xS r)]
  have e6:((((d.heap.push (seqObj "list" ord.toArray 0)).update d.heap.objs.size (Obj.mapSeq λ_=>#[])).push (seqObj "tuple" ord.toArray 0)).push (seqObj "list" #[] 0)).get? d.heap.objs.size=some (seqObj "list" #[] z):=by rw[K _ j];exact G
  have sz:s.heap.objs.size<=d.heap.objs.size:=yj C;refine h i out.toList { d with heap:=sortedHeap (d.heap.push (seqObj "list" ord.toArray 0)) d.heap.objs.size ord out } d.heap.objs.size _ (oY a1) (gY a3 nd) (λk=>(B.mem_iff).trans ((I.mem_iff).trans (y.mem k).symm)) sz (λb u q=>?_) (get?_update_seq e6 (λ_=>out)) R F ?_
  .have g:b<d.heap.objs.size:=Heap.lt_size (J b u q);show(Heap.update _ _ _).get? b=some u;rw[Heap.get?_update_ne _ _ _ _ (xS g),K _ (Nat.lt_trans g j),Heap.get?_update_ne _ _ _ _ (xS g)];exact keep b u q
  .rw[B.length_eq,bx,l]
variable{H':Hp}
theorem Inv.grow{s':Shared}(I:Inv X pins σ H s)(k:∀b o,s.heap.get? b=some o->s'.heap.get? b=some o)(l:s'.gens=s.gens)(d:s'.os=s.os)(a:∀b,b<s.heap.objs.size->H' b=H b)
  (t:∀b u,s.heap.objs.size<=b->H' b=some u->cS X.prog X.w H' s'.heap b u):Inv X pins σ H' s':=by
 obtain⟨h',g',d',t',h⟩:=s';obtain rfl:g'=s.gens:=l;obtain rfl:h=s.os:=d;have lt:∀{b u},H b=some u->b<s.heap.objs.size:=λ{b u} e=>by
  rcases zp b s.heap.objs.size with z|z
  .exact z
  .rw[I.hok.fresh z]at e;cases e
 have same:∀{b u},H b=some u->H' b=some u:=λe=>by rw[a _ (lt e)];exact e
 exact I.step (h':=h') (g':=s.gens) (d':=d') (t':=t') (ch:=[]) (λ_ z=>nomatch z) (λb o _ _ _ e _=>k b o e) (λb o _ _ _ e _=>⟨o.slots,k b o e⟩)
  (λb o _ e n=>by rw[a _ (Heap.lt_size e)];exact n) (λb o _ e=>⟨o,k b o e⟩) (λb f e=>same e) (λb o u e=>same e) (λb ps e=>⟨#[],by rw[same e];simp⟩)
  (λm j=>by
   obtain⟨o,es,p,i,r⟩:=j;exact⟨o,es,p,k _ o i,r⟩)
  (λb u e=>by
   rcases zp b s.heap.objs.size with z|z
   .rw[a _ z]at e;exact(I.hok b u e).stay (λc g _ q=>k c g q) (λc q=>same q) λc f q=>same q
   .exact t b u z e)
  I.bare
def tm(w:World)(a:Addr)(zs:List Int):HO:=.ext λh=>∃m,dF h a (!dN w) zs m
theorem mL:∀{zs:List Int}{us:List Value},Vals (zs.map V.int) us->∀(i:Nat)(v:Value),us[i]?=some v->∃z t,zs[i]?=some z/\v=.int z t
 | [],_,.nil,i,v,h=>by simp at h
 |z :: zs,_,.cons ⟨t,e⟩ r,0,v,h=>by simp at h;exact⟨z,t,U,by rw[←h,e]⟩
 |z :: zs,_,.cons _ r,i+1,v,h=>by
  obtain⟨a,t,c,b⟩:=mL r i v (by simpa using h);exact⟨a,t,by simpa using c,b⟩
theorem oZ{w:World}(A:X.w=w)(B:X.calm=true):dr X (.type "set") (λxs H Q=>∃(p:Addr)(zs:List Int),xs=[.ref p]/\SqL X.K H p (zs.map V.int)/\zs.length<=1000/\∀l,H l=none->Q (.ref l) (upd H l (tm w l zs))):=by
 subst A;intro pins s σ H xs E Q I r h;obtain⟨p,zs,rfl,C,F,q⟩:=h;obtain⟨u,rfl,j⟩:=r.one;obtain rfl:u=Value.ref p:=j;obtain⟨D,c,n,_⟩:=I.list C;have d:=c.length;rw[bx]at d;refine uW (ks:=zs) (I.ok.hd B) n.isList (λi v e=>?_) (by simpa using d) (by unfold scanBound;simp;lia) λh' f m x G z=>?_
 .exact mL c i v (by simpa using e)
 .refine⟨.ref s.heap.objs.size,_,I.laid (a:=s.heap.objs.size) (o:=tm X.w s.heap.objs.size zs) (h':=h') (t':=f) (λb o q=>z b o (Heap.lt_size q) q) (w5 _) ?_,U,q _ I.fresh⟩;refine⟨⟨m,x⟩,?_,λL J ⟨t,y⟩ k=>⟨t,y.stay k⟩⟩;obtain⟨o,_,_,_,g,_⟩:=x;exact⟨o,g⟩
theorem fN{w:World}(n:X.w=w)(B:X.calm=true):dr X (.builtin "sorted") (λus H Q=>∃(a:Addr)(zs L:List Int),us=[.ref a]/\H a=some (tm w a zs)/\L.length<64/\(∀k∈zs,k∈L) /\
  ∀(D:Addr)(d:List Int),H D=none->d.Pairwise (· < ·)->(∀k,k∈d↔k∈zs)->Q (.ref D) (upd H D (.lst (d.map V.int)))):=by
 subst n;intro pins s σ H us O Q I r h;obtain⟨a,zs,L,rfl,e,R,p,q⟩:=h;obtain⟨u,rfl,l⟩:=r.one;obtain rfl:u=Value.ref a:=l;obtain⟨⟨m,x⟩,_,_⟩:=I.hok a _ e;have y:m<64:=by
  obtain⟨o,es,S,t,_,_,_,i,_,_,_,_,v⟩:=id x;have:=bJ (L:=L) i.nd λk A=>p k ((i.mem k).mpr A)
  rw[bx,zz,v]at this;lia
 refine tj (I.ok.hd B) x y λd us P D c N M K j J G F E T=>?_
 have C:H D=none:=I.hok.fresh j;refine⟨.ref D,upd H D (.lst (d.map V.int)),I.grow J F E (λb g=>by rw[ay (xS (xT g j))]) (λb u g f=>?_),U,q D d C M K⟩;by_cases z:b=D
 .subst z;rw[ab]at f;cases f;exact⟨by rw[bx,sizeLine_eq];lia,us,c,N,G⟩
 .rw[ay z,I.hok.fresh g]at f;cases f
inductive B2(K:W.Frag)(Q:VK)(vs:List V)(H1:Hp):Prop
 |mk (a b xs ys:_)(_:vs=[.ref a,.ref b])(_:SqL K H1 a xs)(_:SqL K H1 b ys)(_:∀(D:Addr)(ts:List Addr)(H2:Hp),ts.length=min xs.length ys.length->(∀c o,H1 c=some o->H2 c=some o)->H1 D=none->H2 D=some (.lst (ts.map V.ref)) ->
  (∀(j:Nat)(x y:V),xs[j]?=some x->ys[j]?=some y->∃T,ts[j]?=some T/\H1 T=none/\H2 T=some (.tup [x,y]))->Q (.ref D) H2):B2 K Q vs H1
def tLZ(K:W.Frag)(b:TA):TE:=λσ H Q=>b σ H λa c=>B2 K Q a c
theorem ltA{c n:Nat}(h:c<n)(k:Nat):c≠n+k:=xS (xT h (y9 _ _))
def gZ(xs ys:List V)(ts:List Addr)(b:Addr):Option HO :=
 match ts.idxOf? b with
 |some j=>match xs[j]?,ys[j]? with
  |some x,some y=>some (.tup [x,y])
  |_,_=>none
 |none=>none
theorem tq{J C:Expr}{ta:TA}{p1 p2 wL Z:Pos}(a6:X.calm=true)(hg:Gl X "list") (hm:X.mg "list" = none) (a5:Gl X "zip") (a4:X.mg "zip" = none) (ha:PA X [J,C] ta)
  (hs:starEach [J,C] X.env=[(false,eval J X.env),(false,eval C X.env)]:=by rfl)(M:starEach [C] X.env=[(false,eval C X.env)]:=by rfl) :
  PE X (.Call (.Name "list" p1) [.Call (.Name "zip" p2) [J,C] [] Z] [] wL) (tLZ X.K ta):=by
 intro pins s σ H Q I h;refine Dn (eN I hg hm PyProof.Rows.boot_list ?_);refine PyProof.Rows.callWith_type1 ?_ U U;show wpAny _ _ (spliced ((false,eval (.Call (.Name "zip" p2) [J,C] [] Z) X.env) :: backTo wL (starEach [] X.env))) _ _ s;refine Calls.spliced_cons ?_;refine Dn (eN I a5 a4 PyProof.Rows.boot_zip ?_);refine PyProof.Rows.callWith_type1 (thn (ha Z pins s σ H _ I h) λus f ⟨vs,S,B,r1,q1⟩=>?_) (by rw[hs,M]) (by rw[M];rfl);obtain⟨a,b,p,n,rfl,qa,qb,q⟩:=q1;obtain⟨u,v,rfl,ru,rv⟩:=r1.two;cases (show u=Value.ref a from ru);cases (show v=Value.ref b from rv);obtain⟨us,vu,pu,zu⟩:=B.list qa;obtain⟨vs,vv,pv,zv⟩:=B.list qb;obtain⟨oa,ea,_⟩:=id pu.isList;obtain⟨ob,eb,_⟩:=id pv.isList;have la:a<f.heap.objs.size:=Heap.lt_size ea;have lb:b<f.heap.objs.size:=Heap.lt_size eb;have l1:=vu.length;have l2:=vv.length;refine call_zip_2 pu.isList pv.isList λh' z1 z2 z3 z4 z5 z6 Y=>?_
 refine Calls.spliced_nil ?_;have D:ZipApart (f.heap.objs.size+4) (f.heap.objs.size+2) (f.heap.objs.size+3) f.heap.objs.size (f.heap.objs.size+1) a b:=by
  refine⟨?_,?_,?_,?_,?_,?_,?_,?_,?_,?_,?_,?_,?_,?_,?_,?_,?_,?_⟩ <;> first|exact xS (by lia)|exact yg (by lia)|exact xS la|exact xS lb|exact xS (xT la (y9 _ _))|exact xS (xT lb (y9 _ _))
 refine n6 (s:={ f with heap:=h' }) (B.ok.hd a6) D z1 z2 z3 z4 z5 (pu.isList.at λo e=>Y _ _ e) (pv.isList.at λo e=>Y _ _ e) (by simp;lia) λh2 b0 c d k3 g3 e3 n3 nd R=>?_
 have a3:Shared.heap { f with heap:=h' }=h':=rfl;rw[a3]at g3 R k3;rw[z6]at g3 R;have kp:∀c o,f.heap.get? c=some o->h2.get? c=some o:=λc o e=>by
  have:=Heap.lt_size e;exact k3 c o (ltA this _) (ltA this _) (xS this) (ltA this _) (Y c o e)
 have N:d.length=min p.length n.length:=by rw[n3];simp;lia
 have F:∀(j:Nat)(T:Addr),d[j]?=some T->d.idxOf? T=some j:=λj T w=>by
  obtain⟨G,ej⟩:=GI.mp w;rw[List.idxOf?,List.findIdx?_eq_some_iff_getElem];refine⟨G,by simp[ej],λi hi=>?_⟩;have:d[i]≠d[j]:=λq=>by
   have:=(wh nd).mp q;lia
  simpa[←ej]using this
 have L:∀(T:Addr)(j:Nat),d.idxOf? T=some j->d[j]?=some T:=λT j w=>by
  rw[List.idxOf?,List.findIdx?_eq_some_iff_getElem]at w;obtain⟨G,e,_⟩:=w;rw[GH G];simpa using e
 have E:∀(T:Addr)(j:Nat),d.idxOf? T=some j->f.heap.objs.size+6<=T:=λT j w=>by
  obtain⟨a1,_⟩:=R j T (L T j w);lia
 show EP X pins σ Q _ _;rw[show(Shared.heap { f with heap:=h' }).objs.size=f.heap.objs.size+5 from z6];generalize m:(λ(b:Addr)=>if b=f.heap.objs.size+5 then some (HO.lst (d.map V.ref))else match gZ p n d b with|some o=>some o|none=>S b)=H2;have hD:H2 (f.heap.objs.size+5)=some (.lst (d.map V.ref)):=by rw[←m];exact if_pos U
 have hO:∀c,c<f.heap.objs.size->H2 c=S c:=λc hc=>by
  rw[←m];show(if c=f.heap.objs.size+5 then _ else _)=_;rw[if_neg (ltA hc 5)];have:gZ p n d c=none:=by
   unfold gZ;cases e:d.idxOf? c with
   |none=>rfl
   |some j=>exact absurd (xT hc (yc (y9 _ 6) (E c j e))) (yE _)
  rw[this]
 have hT:∀(j:Nat)(x y:V)(T:Addr),p[j]?=some x->n[j]?=some y->d[j]?=some T->H2 T=some (.tup [x,y]):=λj x y T l A g=>by
  have:=E T j (F j T g);rw[←m];show(if T=f.heap.objs.size+5 then _ else _)=_;rw[if_neg (yg (xT (yB _) this))];have:gZ p n d T=some (.tup [x,y]):=by unfold gZ;rw[F j T g];dsimp only;rw[l,A]
  rw[this]
 refine⟨.ref (f.heap.objs.size+5),H2,B.grow (s':={ f with heap:=h2 }) kp U U hO (λb u hb k=>?_),U,q _ d H2 N (λc o e=>?_) (B.hok.fresh (y9 _ _)) hD λj x y l A=>?_⟩
 .rw[←m]at k;replace k:(if b=f.heap.objs.size+5 then some (HO.lst (d.map V.ref))else match gZ p n d b with|some o=>some o|none=>S b)=some u:=k
  by_cases W:b=f.heap.objs.size+5
  .rw[if_pos W]at k;cases k;subst W;have rv:∀d:List Addr,Vals (d.map V.ref) (d.map Value.ref):=λd=>by
    induction d with
    |nil=>exact .nil
    |cons t r ih=>exact .cons U ih
   refine⟨by rw[bx,N];lia,d.map Value.ref,c,rv d,?_⟩;rw[←e3];exact g3
  .rw[if_neg W]at k;cases g:gZ p n d b with
   |none=>rw[g]at k;replace k:S b=some u:=k;rw[B.hok.fresh hb]at k;cases k
   |some o =>
    rw[g]at k;cases k;unfold gZ at g;cases ei:d.idxOf? b with
    |none=>rw[ei]at g;cases g
    |some j =>
     rw[ei]at g;dsimp only at g;cases l:p[j]? with
     |none=>rw[l]at g;cases g
     |some x =>
      cases A:n[j]? with
      |none=>rw[l,A]at g;cases g
      |some y =>
       rw[l,A]at g;cases g;obtain⟨_,x',y',fx,fy,gp⟩:=R j b (L b j ei);obtain⟨u1,a8,a2⟩:=vu.get l;obtain⟨v1,a7,a0⟩:=vv.get A;have P:us[j]?=some x':=by simpa using fx
       have O:vs[j]?=some y':=by simpa using fy
       rw[a8]at P;rw[a7]at O;cases P;cases O;exact⟨by show 2<=sizeLine;decide,[x',y'],.cons a2 (.cons a0 .nil),_,gp,U,_,U⟩
 .have:c<f.heap.objs.size:=by
   rcases zp c f.heap.objs.size with z|z
   .exact z
   .rw[B.hok.fresh z]at e;cases e
  rw[hO c this];exact e
 .have w:j<d.length:=by
   obtain⟨h1,_⟩:=GI.mp l;obtain⟨a9,_⟩:=GI.mp A;lia
  have g:d[j]?=some d[j]:=GH w;exact⟨d[j],g,B.hok.fresh (yc (y9 _ 6) (E _ j (F j _ g))),hT j x y _ l A g⟩
def Ite(K:W.Frag)(a:Addr):It :=
 ⟨λi H=>∃b x,SqL K H a b/\b[i]?=some x,
 λi H v H'=>∃T,H T=none/\v=.ref T/\∀b x,SqL K H a b->b[i]?=some x->H'=upd H T (.tup [.int i,x]),
 λi H=>∃b,SqL K H a b/\b.length<=i⟩
def wM(e it a:Addr)(i:Nat)(h:Heap):Prop:=(∃b,IsEnum h e it i b)/\h.IsListIter it a i
theorem u9{P:Program}{w:World}{K:W.Frag}{n:List Expr} {x1} {tp:Pos}{e it a:Addr}(m:e≠it) :
  Turn P w K (.Tuple n x1 tp) (Ite K a) [e,it] e (wM e it a) where
 mem:=by simp
 obj:=λi h d c b=>by
  obtain⟨⟨f,l⟩,⟨Y,j,_,d2⟩⟩:=d;simp only[dt,ju,or_false]at b;rcases b with rfl|rfl
  .exact⟨_,l,λv q=>nomatch q⟩
  .exact⟨_,j,λv q=>by rw[d2]at q;cases q⟩
 keep:=λi h h' d k=>by
  obtain⟨⟨f,l⟩,j⟩:=d;exact⟨⟨f,k e (by simp) _ l⟩,j.at λo q=>k it (by simp) o q⟩
 item:=by
  intro X C A D b i pins s σ H E I r d B;subst C A D;obtain⟨Q,x,p,N⟩:=B;obtain⟨⟨f,l⟩,j⟩:=d;obtain⟨R,t,z,_⟩:=I.list p;obtain⟨u,eu,S⟩:=t.get N;refine wpAny_pyNext_enum_item l j z.isList (x:=u) (by simpa using eu) m λh1 a1 a2 a3 a4 a5=>?_
  refine⟨_,U,wpAny_letOwnedTupleGo_enum (s:={ s with heap:=h1,toks:=s.toks+1 }) a1 λF b1 b2=>?_⟩;have Z:s.heap.get? s.heap.objs.size=none:=by
   cases q:s.heap.get? s.heap.objs.size with
   |none=>rfl
   |some o=>exact absurd (Heap.lt_size q) (yE _)
  have M:H s.heap.objs.size=none:=I.hok.fresh (w5 _);have L:s.heap.objs.size≠e:=yg (Heap.lt_size l);have kk:∀c o,c ∉ [e,it]->s.heap.get? c=some o->F.get? c=some o:=λc o b q=>by
   simp only[dt,ju,or_false,not_or]at b;exact b2.extBut _ _ b.1 (a5 c o b.1 b.2 q)
  have J:=I.turnedPair (h':=F) (ch:=[e,it]) (T:=s.heap.objs.size) (x:=.int i) (y:=x) (u:=.int i s.toks) (v:=u) (λc b=>r c (by simp at b⊢;rcases b with q|q <;> simp[q])) kk Z M (b2.extBut _ _ L a3) ⟨_,U⟩ S;refine⟨.ref s.heap.objs.size,upd H s.heap.objs.size (.tup [.int i,x]),J.tok _,U,⟨_,M,U,λa0 x' V O=>?_⟩,⟨⟨_,b1⟩,a2.extBut b2.extBut m.symm⟩,λc b=>?_⟩
  .rw[I.list_inj V p,N]at O;cases O;rfl
  .have h0:=(r c b).1;have:c≠s.heap.objs.size:=by
    obtain⟨Y,G,_⟩:=j;simp only[dt,ju,or_false]at b;rcases b with rfl|rfl
    .exact L.symm
    .exact xS (Heap.lt_size G)
   rw[ay this];exact h0
 done:=by
  intro X C A D b i pins s σ H E I r d B;subst C A D;obtain⟨Q,p,hl⟩:=B;obtain⟨⟨f,l⟩,j⟩:=d;obtain⟨R,t,z,_⟩:=I.list p;have l1:=t.length;refine wpAny_pyNext_enum_end (I.ok.hd b) l j z.isList (by simp;lia) λF k=>⟨U,I.turnedL (ch:=[e,it]) (λc b=>r c (by simp at b⊢;rcases b with q|q <;> simp[q])) λc o b q=>?_⟩
  simp only[dt,ju,or_false,not_or]at b;exact k c o b.2 q
 self:=λ_ _ _ _ _ d h=>let ⟨⟨_,g⟩,_⟩:=d;wpAny_pyIter_enum g h
inductive wN(K:W.Frag)(R:It->Hp->Prop)(vs:List V)(H1:Hp):Prop
 |mk (a:_)(_:vs=[.ref a])(_:(∃xs,SqL K H1 a xs))(_:R (Ite K a) H1)
def B3(K:W.Frag)(b:TA):TI:=λσ H R=>b σ H λa c=>wN K R a c
theorem yH{f:Expr}{i:TA}{p pos:Pos}{e:List Expr} {x1} {tp:Pos}(x:Gl X "enumerate") (hm:X.mg "enumerate" = none) (y:PA X [f] i)
  (w:starEach [f] X.env=[(false,eval f X.env)]:=by rfl) :
  PI X (.Tuple e x1 tp) (.Call (.Name "enumerate" p) [f] [] pos) (B3 X.K i):=by
 intro pins s σ H R I h;refine Call_ (eN I x hm PyProof.Rows.boot_enumerate (PyProof.Rows.callWith_type1 (thn (y pos pins s σ H _ I h) λm b ⟨C,z,g,o,t⟩=>?_) (by rw[w];rfl) U));obtain⟨a,rfl,⟨B,r⟩,q⟩:=t;obtain⟨u,rfl,n⟩:=o.one;cases (show u=Value.ref a from n);obtain⟨m,_,v,_⟩:=g.list r;refine call_enumerate_list v.isList λh' z1 l A k=>?_
 refine wpAny_pyIter_enum (s:={ b with heap:=h' }) z1 ?_;refine⟨b.heap.objs.size+1,[b.heap.objs.size+1,b.heap.objs.size],wM (b.heap.objs.size+1) b.heap.objs.size a,Ite X.K a,z,U,g.kept (t':=b.toks) k,u9 (yg (yB _)),⟨⟨_,z1⟩,l⟩,λc j=>?_,q⟩;have d:b.heap.objs.size<=c:=by
  simp only[dt,ju,or_false]at j;rcases j with rfl|rfl
  .exact yl _
  .exact w5 _
 exact g.fpOk d (g.hok.fresh d)
variable{gt:TG}{fr:List Nat}{tt:TT}{te:TE}
theorem tE{K:W.Frag}{a:Addr}{xs:List V}{σ:St}{f:Hp}{Q:VK}(c:Addr->Nat->List V->Hp->Prop)(t:∀D,f D=none->c D 0 [] (upd f D (.lst [])))
  (r:∀D i ys H,f D=none->i<=xs.length->c D i ys H->SqL K H a xs)
  (o:∀D i x ys H T,f D=none->xs[i]?=some x->c D i ys H->H T=none->∀ts:St,ts.length=k->gt (.ref T) (cV σ fr ts) (upd H T (.tup [.int i,x])) λd u=>(∃g:St,g.length=k/\d=cV σ fr g)/\tt d u λb n=>if b=true then te d n (cP c D i xs.length)else eH c D i xs.length n)
  (hd:∀D ys H,f D=none->c D xs.length ys H->Q (.ref D) H):iG (Ite K a) gt k fr tt te σ Q f:=by
 intro D h;refine⟨λi m H=>m=xs.length-i/\i<=xs.length/\∃ys,c D i ys H,⟨_,U,yh _,[],t D h⟩,?_⟩;rintro i m H ⟨rfl,hi,ys,p⟩;have q:=r D i ys H h hi p;by_cases l:i<xs.length
 .have j:xs[i]?=some xs[i]:=GH l;refine .inr ⟨⟨xs,xs[i],q,j⟩,λx H' y=>?_⟩;obtain⟨T,s,rfl,e⟩:=y;rw[e xs _ q j];exact o D i _ ys _ T h j p s
 .have e:i=xs.length:=by lia
  subst e;exact .inl ⟨⟨xs,q,w5 _⟩,hd D ys H h p⟩
theorem vb{K:W.Frag}{a b:Addr}{xs ys:List V}{σ:St}{f:Hp}{Q:VK}(c:Addr->Nat->List V->Hp->Prop)(u:∀D,f D=none->c D 0 [] (upd f D (.lst [])))
  (s:∀D i zs H,f D=none->i<=min xs.length ys.length->c D i zs H->SqL K H a xs/\SqL K H b ys)
  (r:∀D i x y zs H T,f D=none->xs[i]?=some x->ys[i]?=some y->c D i zs H->H T=none->∀ts:St,ts.length=k->gt (.ref T) (cV σ fr ts) (upd H T (.tup [x,y])) λd v=>(∃g:St,g.length=k/\d=cV σ fr g)/\tt d v λb q=>if b=true then te d q (cP c D i (min xs.length ys.length))else eH c D i (min xs.length ys.length) q)
  (hd:∀D zs H,f D=none->c D (min xs.length ys.length) zs H->Q (.ref D) H):iG (Itz K a b) gt k fr tt te σ Q f:=by
 intro D h;refine⟨λi m H=>m=min xs.length ys.length-i/\i<=min xs.length ys.length/\∃zs,c D i zs H,⟨_,U,yh _,[],u D h⟩,?_⟩;rintro i m H ⟨rfl,hi,zs,p⟩;obtain⟨l,j⟩:=s D i zs H h hi p;by_cases w:i<min xs.length ys.length
 .have o:xs[i]?=some xs[i]:=GH (by lia);have n:ys[i]?=some ys[i]:=GH (by lia);refine .inr ⟨⟨xs,ys,xs[i],ys[i],l,j,o,n⟩,λx H' y=>?_⟩;obtain⟨T,t,rfl,e⟩:=y;rw[e xs ys _ _ l j o n];exact r D i _ _ zs _ T h o n p t
 .have e:i=min xs.length ys.length:=by lia
  subst e;exact .inl ⟨⟨xs,ys,l,j,by lia⟩,hd D zs H h p⟩
theorem fq{X:Cx}{N:List Str}{k:Nat}{fr:List Nat}{scope:Scope}{cl:List (Str×Addr)}(clos:closureFor scope X.env=pure cl)(kind:scope.kind=.function)(a:∀y∈scope.names,y.2≠.cell)
  (names:∀y∈scope.names,y.2=.local->scope.names.lookup y.1=some .local)(b:N.length=k+fr.length)
  (sub:((List.range fr.length).all λi=>match N[k+i]?,fr[i]? with|some y,some j=>(X.N[j]? == some y) && ((X.env.kindOf y == some .cell) && ((relabel scope X.env).names.lookup y == some .cell))|_,_=>false)=true)
  (cells:∀p∈cl,X.env.cells.lookup p.1=some p.2)(d:((relabel scope X.env).names.all λp=>(p.2 != .cell && p.2 != .free) || (cl.lookup p.1).isSome)=true):mw X N k fr scope cl:=by
 refine⟨clos,kind,a,names,b,λi y e=>?_,λy c e=>cells _ (mem_of_lookup e),λy h=>?_⟩
 .have hi:i<fr.length:=by have:=(GI.mp e).1;lia
  have z:=jq.mp sub i (jr.mpr hi);rw[e,GH hi]at z;simp only[AI,beq_iff_eq]at z;exact⟨_,GH hi,z.1,.inl z.2.1,.inl z.2.2⟩
 .have look:∀k,(relabel scope X.env).names.lookup y=some k->(k=.cell\/k=.free)->∃c,cl.lookup y=some c:=λk e f=>by
   have z:=jq.mp d _ (mem_of_lookup e);rcases f with rfl|rfl
   .exact BQ.mp (by simpa using z)
   .exact BQ.mp (by simpa using z)
  rcases h with h|h
  .exact look _ h (.inl U)
  .exact look _ h (.inr U)
theorem vc{K:W.Frag}(f:X.K=K){a:Expr}{c:TE}(e:PE X a c)(d:∀b,isTrue a X.env b=(do let v ←b;standAt a.pos;holding [v] (truthy v)):=by intro _;rfl) :
  PT X a (λσ H Q=>c σ H λx H'=>∃k,Aj K x H' k/\Q k H'):=f ▸ c9 e d
section
variable{elt iter tg:Expr}{ifs:List Expr}{cl:List (Str×Addr)}
theorem wO{B:TI}{i:Nat}{y:Str}{c x:Pos}(hN:X.N.Nodup)(E:X.N[i]?=some y)(R:Loc X.env.scope y)(hi:PI X tg iter B)(O:mw X N k fr scope cl)(Y:X.calm=true)(S:∀d C s H,PG (bB X N scope cl d C s H) tg gt)
  (F:∀d C s H,PIf (bB X N scope cl d C s H) ifs tt)(W:∀d C s H,PE (bB X N scope cl d C s H) elt te)(G:∀v,foldedSetIterable iter X.env v=pure v:=by intro _;rfl)
  (n:swapsWith (.ListComp elt [⟨tg,iter,ifs,0⟩] scope pos) (some (.Name y c)) x.line X.env=pure true:=by rfl)(V:X.fn y=true\/X.env.scope.names.lookup y=some .local:=by first|exact .inl U|exact .inr U|assumption) :
  PS X (.Assign [.Name y c] (.ListComp elt [⟨tg,iter,ifs,0⟩] scope pos) x) (yp (wA B gt k fr tt te) (oB i)):=by
 intro pins s σ H j I h;rw[exec_Assign_Name_used _ _ _ _ n];refine BY (wpAny_standAt (BY ?_));show wpAny _ X.A (do let _ ←comprehension (.ListComp elt [⟨tg,iter,ifs,0⟩] scope pos) scope X.env _ (newList []) false (eval iter X.env) (some (assign (.Name y c) X.env))) _ _ s;refine BY (wpAny_mono (wpAny_comprehension_free (use:=some (assign (.Name y c) X.env)) (Q:=λ_ b=>SP X pins j .next b) U G O.clos O.kind O.names (thn (hi pins s σ H _ I h) λv s1 h1=>thn h1 λa0 s2 h2=>?_)) (λ_ b K=>C0 (C0 K)) λ_ _ z=>z);obtain⟨it,d,tn,J,H2,e,f,T,l,f2,hW⟩:=h2;subst e;refine my (Q:=λv H1=>oB i v σ H1 j.nx) (RR:=λu C=>compPost (model X.prog X.w) X.A X.xe (some (assign (.Name y c) X.env)) (λ_ b=>SP X pins j .next b) u C) O Y f T l f2 F W S hW λD C b H' g M ⟨m,P⟩ I' q=>?_
 show wpAny _ X.A (assign (.Name y c) X.env (.ref D)) _ _ b;refine wpAny_assign_Name (kx I' hN E R (v:=.ref D) U (λs3 I3 ⟨a,p,Z⟩=>?_) V);have t:C≠a:=by
  rcases Z with z|z
  .rw[z];exact yg (xT f.lt g)
  .obtain⟨v,o,L,_⟩:=f.cell y a z;exact yg (xT (Heap.lt_size L) g)
 exact⟨m,P.sameBut p t,λh' r=>⟨_,H',f.left I3 g M r,q⟩⟩
end
set_option maxRecDepth 100000
theorem AG:PIp X .Mult (λx y H Q=>∃i j,x=.int i/\y=.int j/\IntMulOk i j/\Q (.int (i*j)) H):=by
 intro pins s σ H x y v u Q I b a h;obtain⟨i,j,e,d,c,q⟩:=h;subst e;subst d;obtain⟨t,rfl⟩:=b;obtain⟨f,rfl⟩:=a;exact PyProof.Rows.imul_int ⟨.int _,H,I.tok _,⟨_,U⟩,q⟩ c
set_option maxRecDepth 100000
theorem vd:typeLookup (.type "list_reverseiterator") "__len__" = pure none:=by rw[typeLookup_type,builtinLookup_eq_fast];kernel_rfl
theorem wQ:typeLookup (.type "list_reverseiterator") "__length_hint__" = pure (some (.builtin "list_reverseiterator.__length_hint__")):=by rw[typeLookup_type,builtinLookup_eq_fast];kernel_rfl
theorem n8{l I:Addr}{items:Array Value}{Q:Value->Shared->Prop}(S:A.handled=none)(B:l≠I)(h:s.heap.IsRevIter I l ((items.size:Int)-1))(K:s.heap.IsList l items)(R:items.size<=sizeLine)
  (V:∀(h':Heap)(G:Nat)(m:Array Value)(c:Nat),s.toks<=G->(∀b o,b≠I->s.heap.get? b=some o->h'.get? b=some o)->h'.get? s.heap.objs.size=some { cls:=.type "list",dict:=none,data:=.seq m c,slots:=#[] } ->
   m.size=items.size->(∀(j:Nat) v,m[j]?=some v->items[items.size-1-j]?=some v)->∀d,d=s.drawn->Q (.ref s.heap.objs.size) { s with heap:=h',toks:=G,drawn:=d }) :
  wpAny (model prog w) A (call (.type "list") [.ref I]) Q E s:=by
 have W:=(Walks.listRev (prog:=prog) (w:=w) (A:=A.in1.in1) (by simp[S]) I l B items).toS;have H:I<s.heap.objs.size:=let ⟨_,e,_⟩:=h;Heap.lt_size e;have P:l<s.heap.objs.size:=let ⟨_,e,_⟩:=K;Heap.lt_size e;have C:s.heap.objs.size ∉ [I,l]:=λf=>by
  rcases dt.mp f with e|f
  .exact yE _ (e ▸ H)
  .exact yE _ ((hZ.mp f) ▸ P)
 refine callType_codes (Q₁:=λp g=>p=.ref s.heap.objs.size/\g={ s with heap:=s.heap.push { cls:=.type "list",data:=.seq #[] } }) F.called_list (F.typeCall_list_1 _) F.entry_list_init
  (code_list_new _ ⟨U,U⟩) λp g t=>?_
 obtain⟨rfl,rfl⟩:=t;have x:(s.heap.push { cls:=.type "list",data:=.seq #[] }).get? s.heap.objs.size=some { cls:=.type "list",data:=.seq #[] }:=Heap.get?_push_size _ U;refine⟨⟨_,x,U⟩,F.args_list_init_2 _ _,?_⟩;show wpAny _ _ (do let z ←Builtin.List.listItems (.ref s.heap.objs.size);Builtin.List.listUpdate (.ref s.heap.objs.size) (λ_=>#[]);letGo z.toList.reverse;Builtin.List.listExtendWith (.ref s.heap.objs.size) (.ref I) .none) _ _ _;refine BY ?_;unfold Builtin.List.listItems;refine BY (wpAny_seqItems x U (C0 ?_));show wpAny _ _ (updateSeq s.heap.objs.size (λ_=>#[]) >>= λ_=>letGo (#[]:Array Value).toList.reverse >>= λ_=>Builtin.List.listExtendWith (.ref s.heap.objs.size) (.ref I) .none) _ _ _;refine BY (wpAny_updateSeq x U ?_);have a:=Heap.get?_update_self (Obj.mapSeq (λ_=>(#[]:Array Value))) x U;refine BY (wpAny_letGo ?_);have n:∀b o,s.heap.get? b=some o->((s.heap.push { cls:=.type "list",data:=.seq #[] }).update s.heap.objs.size (Obj.mapSeq (λ_=>(#[]:Array Value)))).get? b=some o:=λb o e =>
  (Heap.get?_update_other _ _ (yg (Heap.lt_size e))).trans (Heap.get?_push_of_some _ e)
 generalize (s.heap.push { cls:=.type "list",data:=.seq #[] }).update s.heap.objs.size (Obj.mapSeq (λ_=>(#[]:Array Value)))=hA at a n⊢;have u:Shared.TypeIs { s with heap:=hA } (.ref I) "list_reverseiterator" := (h.at λo e=>n _ o e:Heap.IsRevIter hA I l _).typeIs;have r:(λ(i:Nat)(s:Shared)=>i<=items.size/\s.heap.IsRevIter I l ((items.size:Int)-1-(i:Int))/\s.heap.IsList l items) 0 { s with heap:=hA } :=
  ⟨yh _,by rw[show(items.size:Int)-1-((0:Nat):Int)=(items.size:Int)-1 by lia];exact h.at λo e=>n _ o e,K.at λo e=>n _ o e⟩
 unfold Builtin.List.listExtendWith;refine BY (wpAny_typeOf u ?_);have X:Builtin.List.listSameRef (.ref s.heap.objs.size) (.ref I)=false:=by simp[Builtin.List.listSameRef];exact yg H
 rw[if_neg (by rw[X];decide)];refine BY (W.self 0 _ _ _ r ?_);refine BY (Dl ?_);unfold Builtin.List.listLengthHint;refine BY (wpAny_specialOf u vd ?_);show wpAny _ _ (specialOf (Value.ref I) s!"__length_hint__" >>= _) _ _ _;refine BY (wpAny_specialOf u wQ ?_)
 (generalize k:("list_reverseiterator.__length_hint__" : String)=id0;(fail_if_success (clear k id0));wp_delta;rw[show splitId id0=some ("list_reverseiterator","__length_hint__")from by subst k;decide+kernel];subst k)
 refine BY (wpAny_isInstance (b:=true) u (by rw[isSubtype_type];kernel_rfl) ?_);refine C0 ?_;rw[if_neg (by decide)];refine C0 ⟨plainId_quiet F.plain_extend_loop _,codeAny_extend_loopS W R _ C _ items.size 0 _ _ _ (by lia) (yh _) r a (ItemsOf.nil _) λN M c' f D J=>?_⟩;refine⟨U,?_⟩;obtain⟨h',Y,Z,L,O⟩:=N;obtain rfl:Y=s.gens:=f.gens;obtain rfl:O=s.os:=f.os;exact V h' L M c' f.toks (λb o T e=>f.heap b o (λy=>by
  rcases dt.mp y with q|y
  .exact xS (Heap.lt_size e) q
  .exact T (hZ.mp y)) (n b o e)) D J.1 J.2 Z f.drawn
inductive B4(K:W.Frag)(Q:VK)(vs:List V)(H1:Hp):Prop
 |mk (a xs:_)(_:vs=[.ref a])(_:SqL K H1 a xs)(_:∀p,H1 p=none->Q (.ref p) (upd H1 p (.lst xs.reverse)))
def tLR(K:W.Frag)(b:TA):TE:=λσ H Q=>b σ H λa c=>B4 K Q a c
theorem tF{k:Expr}{B:TA}{O C z p:Pos}(x:X.calm=true)(W:Gl X "list") (hm:X.mg "list" = none) (w:Gl X "reversed") (v:X.mg "reversed" = none) (Y:PA X [k] B)
  (V:starEach [k] X.env=[(false,eval k X.env)]:=by rfl) :
  PE X (.Call (.Name "list" O) [.Call (.Name "reversed" C) [k] [] p] [] z) (tLR X.K B):=by
 intro pins s σ H Q I h;refine Dn (eN I W hm PyProof.Rows.boot_list ?_);refine PyProof.Rows.callWith_type1 ?_ U U;show wpAny _ _ (spliced ((false,eval (.Call (.Name "reversed" C) [k] [] p) X.env) :: backTo z (starEach [] X.env))) _ _ s;refine Calls.spliced_cons ?_;refine Dn (eN I w v PyProof.Rows.boot_reversed ?_);refine PyProof.Rows.callWith_type1 (thn (Y p pins s σ H _ I h) λg f ⟨vs,H1,n,L,N⟩=>?_) (by rw[V];rfl) U;obtain⟨a,F,rfl,M,q⟩:=N;obtain⟨u,rfl,J⟩:=vals1 L;cases (show u=Value.ref a from J);obtain⟨g,A,r,E⟩:=n.list M;obtain⟨oa,ea,_⟩:=id r.isList;have R:a<f.heap.objs.size:=Heap.lt_size ea;have l1:=A.length;refine call_reversed_list r.isList ?_;refine Calls.spliced_nil ?_;have m:∀b o,f.heap.get? b=some o->(f.heap.push (revObj a ((g.toArray.size:Int)-1))).get? b=some o:=λb o e=>Heap.get?_push_of_some _ e
 have Z:(f.heap.push (revObj a ((g.toArray.size:Int)-1))).get? f.heap.objs.size=some (revObj a ((g.toArray.size:Int)-1)):=Heap.get?_push_size _ U;have sz:(f.heap.push (revObj a ((g.toArray.size:Int)-1))).objs.size=f.heap.objs.size+1:=Heap.size_push ..;refine n8 (s:={ f with heap:=f.heap.push (revObj a ((g.toArray.size:Int)-1)) }) (l:=a) (items:=g.toArray) (n.ok.hd x) (xS R) ⟨_,Z,U,U⟩ (r.isList.at λo e=>m _ o e) (by simp;lia) λt G i c a1 T g3 P f3 d hd=>?_
 subst hd;have S:∀b o,f.heap.get? b=some o->t.get? b=some o:=λb o e=>T b o (xS (Heap.lt_size e)) (m b o e)
 have DB:i.toList=g.reverse:=by
  apply vf
  intro j;have a0:i.size=g.length:=by simpa using P
  rw[Af];by_cases D:j<i.size
  .have:=f3 j i[j] (zw D);rw[zw D,List.getElem?_reverse (by lia),←this];simp
  .rw[Array.getElem?_eq_none (by lia),mu (by simp;lia)]
 have y:t.get? (f.heap.objs.size+1)=some { cls:=.type "list",dict:=none,data:=.seq g.reverse.toArray c,slots:=#[] }:=by
  rw[←DB];rw[←sz];exact g3
 show EP X pins σ Q _ _;refine⟨.ref (f.heap.objs.size+1),_,n.laid (h':=t) (t':=G) (a:=f.heap.objs.size+1) (o:=.lst F.reverse) S (yl _) ⟨by simpa using E,g.reverse,c,(Vals.reverse A),y⟩,?_,q _ (n.hok.fresh (yl _))⟩;show Value.ref _=_;rw[sz]
theorem wR{X:Cx}{K:W.Frag}(h:X.K=K):SlR X (Aq K):=h ▸ dR
structure DC(X:Cx)(N:List Str)(k:Nat)(fr:List Nat)(scope:Scope)(cl:List (Str×Addr)):Prop where
 clos:closureFor scope X.env=pure cl
 kind:scope.kind=.function
 names:∀y∈scope.names,y.2=.local->scope.names.lookup y.1=some .local
 len:N.length=k+fr.length
 sub:∀(i:Nat)(y:Str),N[k+i]?=some y->∃j,fr[i]?=some j/\X.N[j]?=some y/\(X.env.kindOf y=some .cell\/X.env.kindOf y=some .free)/\((relabel scope X.env).names.lookup y=some .cell\/(relabel scope X.env).names.lookup y=some .free)/\∃c,cl.lookup y=some c/\∀C:Addr,(cellsFrom (C+1) scope.names cl).lookup y=some c
 cells:∀y c,cl.lookup y=some c->X.env.cells.lookup y=some c
 has:∀(C:Addr)(y:Str),((relabel scope X.env).names.lookup y=some .cell\/(relabel scope X.env).names.lookup y=some .free)->∃c,(cellsFrom (C+1) scope.names cl).lookup y=some c
section
variable{elt iter tg:Expr}{ifs:List Expr}{cl:List (Str×Addr)}
end
section
variable{st b₀:Stmt}{su:List Stmt}{tb:TSX}{ts:Addr->Addr->TS}{Tn:Str}{B:Addr}{Dv:Pos}
end
theorem o6{K:W.Frag}{a:Addr}{xs:List V}{σ:St}{f:Hp}{Q:VK}(c:Addr->Nat->List V->Hp->Prop)(r:∀D,f D=none->c D 0 [] (upd f D (.lst [])))
  (o:∀D i ys H,f D=none->i<=xs.length->c D i ys H->SqT K H a xs)
  (n:∀D i x ys H,f D=none->xs[i]?=some x->c D i ys H->∀ts:St,ts.length=k->gt x (cV σ fr ts) H λd s=>(∃g:St,g.length=k/\d=cV σ fr g)/\tt d s λb l=>if b=true then te d l (cP c D i xs.length)else eH c D i xs.length l)
  (hd:∀D ys H,f D=none->c D xs.length ys H->Q (.ref D) H):iG (Itt K a) gt k fr tt te σ Q f:=by
 intro D h;refine⟨λi m H=>m=xs.length-i/\i<=xs.length/\∃ys,c D i ys H,⟨_,U,yh _,[],r D h⟩,?_⟩;rintro i m H ⟨rfl,hi,ys,p⟩;have q:=o D i ys H h hi p;by_cases j:i<xs.length
 .refine .inr ⟨⟨xs,xs[i],q,by simp[j]⟩,λx H' y=>?_⟩;obtain⟨e,y⟩:=y;subst e;exact n D i x ys _ h (y xs q) p
 .have e:i=xs.length:=by lia
  subst e;exact .inl ⟨⟨xs,q,w5 _⟩,hd D ys H h p⟩
abbrev TTh:HO:=.ext λ_=>True
theorem qX{P:Program}{w:World}{H:Hp}{h:Heap}{a:Addr}{o:Obj}(e:h.get? a=some o):cS P w H h a (.frz o TTh):=⟨e,trivial,⟨o,e⟩,λ_ _ _ _=>trivial⟩
def hideL(H:Hp)(a:List Addr):Hp:=λb=>if b∈a then none else H b
def hU(H:Hp)(fz:List (Addr×Obj)):Hp:=λb=>match fz.lookup b with
 |some o=>some (.frz o TTh)
 |none=>H b
def backL(H H':Hp)(a:List Addr):Hp:=λb=>if b∈a then H b else H' b
theorem j3{H:Hp}{a:List Addr}{b:Addr}(h:b∈a):hideL H a b=none:=if_pos h
theorem bT{H:Hp}{a:List Addr}{b:Addr}(h:b ∉ a):hideL H a b=H b:=if_neg h
theorem mM{H H':Hp}{a:List Addr}{b:Addr}(h:b∈a):backL H H' a b=H b:=if_pos h
theorem cR{H H':Hp}{a:List Addr}{b:Addr}(h:b ∉ a):backL H H' a b=H' b:=if_neg h
theorem gq{H:Hp}{a:List Addr}{b:Addr}(h:H b=none):hideL H a b=none:=by
 unfold hideL;split
 .rfl
 .exact h
theorem tG{H:Hp}{a:List Addr}{b:Addr}{o:HO}(h:hideL H a b=some o):b ∉ a/\H b=some o:=by
 unfold hideL at h;split at h
 .cases h
 .rename_i n
  exact⟨n,h⟩
def Fzs(H:Hp)(a:List Addr):Prop:=∀c∈a,∃o,H c=some (.frz o TTh)
theorem Fzs.out{H:Hp}{a:List Addr}(h:Fzs H a){b:Addr}{u:HO}(e:H b=some u)(n:∀o,u≠.frz o TTh):b ∉ a:=λz=>by
 obtain⟨o,q⟩:=h b z;rw[e]at q;exact n o (Option.some.inj q)
section
variable{h:Heap}{cs:List Addr}
theorem HOk.hideL(x:HOk P w H h)(f:Fzs H cs):HOk P w (hideL H cs) h:=λb o e=>by
 obtain⟨n,e⟩:=tG e;refine(x b o e).stay (λ_ _ _ q=>q) (λc q=>?_) λc a q=>?_
 .rw[bT (f.out q λ_ z=>by cases z)];exact q
 .rw[bT (f.out q λ_ z=>by cases z)];exact q
theorem HOk.backL(x:HOk P w H' h')(f:Fzs H cs)(n:∀c∈cs,H' c=none)(k:∀c∈cs,∀o,H c=some (.frz o TTh)->h'.get? c=some o):HOk P w (backL H H' cs) h':=λb o e=>by
 by_cases a:b∈cs
 .rw[mM a]at e;obtain⟨d,q⟩:=f b a;rw[q]at e;cases e;exact qX (k b a d q)
 .rw[cR a]at e;have out:∀{c:Addr}{u:HO},H' c=some u->c ∉ cs:=λ{c u} q z=>by rw[n c z]at q;cases q
  refine(x b o e).stay (λ_ _ _ q=>q) (λc q=>?_) λc g q=>?_
  .rw[cR (out q)];exact q
  .rw[cR (out q)];exact q
theorem mN(s:aq (hideL H cs) H'):aq H (backL H H' cs):=λb o e=>by
 by_cases a:b∈cs
 .rw[mM a];exact e
 .rw[cR a];exact s b o (by rw[bT a];exact e)
end
section
variable{fs:List Addr}{h:Heap}{cs:List Addr}
theorem Un.backL(u:Un fs [] (hideL H cs) H' h h')(f:Fzs H cs):Un fs [] H (backL H H' cs) h h' where
 keep:=λb o e n a c=>u.keep b o e (gq n) a c
 slot:=λb o e n a c=>u.slot b o e (gq n) a c
 free:=λb o e n c=>by
  have:b ∉ cs:=λz=>by obtain⟨g,q⟩:=f b z;rw[n]at q;cases q
  rw[cR this];exact u.free b o e (gq n) c
 there:=u.there
 tups:=λb d e=>by
  have a:=f.out e λ_ z=>by cases z
  rw[cR a];exact u.tups b d (by rw[bT a];exact e)
 frzs:=λb o v e=>by
  by_cases a:b∈cs
  .rw[mM a];exact e
  .rw[cR a];exact u.frzs b o v (by rw[bT a];exact e)
 tbls:=λb ps e=>by
  have a:=f.out e λ_ z=>by cases z
  rw[cR a];exact u.tbls b ps (by rw[bT a];exact e)
end
def qY(b:Obj)(qual:Str):Prop:=∃a t,b.data=.fields a/\a[1]?=some (.str qual t)
structure pR(N ps:List Str)(sc:Scope)(cl:List (Str×Addr)):Prop where
 kind:sc.kind=.function
 co:sc.isCoroutine=false
 gen:sc.isGenerator=false
 nd:N.Nodup
 pre:N.take ps.length=ps
 par:∀x∈ps,sc.names.lookup x=some .local
 nocell:∀y∈sc.names,y.2≠.cell
 has:∀y∈sc.names,y.2=.free->∃c,cl.lookup y.1=some c
def cxC(CX:CXT)(P:Program)(w:World)(K:W.Frag)(mg:Str->Option Value)(base:Heap)(N:List Str)(qual:Str)(scope:Scope)(f:Addr)(b:Value)(cl:List (Str×Addr))(A:Around)(outer:List Env)(s:Shared)(H:Hp)(E:XK):Cx where
 prog:=P
 w:=w
 K:=K
 mg:=mg
 base:=base
 A:=A.deeper (W.envX qual scope s.heap.objs.size f b cl)
 N:=N
 s₀:=s
 H₀:=hideL H (cl.map (·.2))
 env:=W.envX qual scope s.heap.objs.size f b cl
 outer:=outer
 stack:=W.envX qual scope s.heap.objs.size f b cl :: outer
 ex:=[]
 calm:=true
 fn:=λ_=>false
 pn:=[]
 xe:=λe c=>wpAny (model P w) (A.deeper (W.envX qual scope s.heap.objs.size f b cl)) (leaving (W.envX qual scope s.heap.objs.size f b cl) e) (λ_ a=>CX outer H s E e a) (λd a=>CX outer H s E d a) c
def ft(H:Hp)(cl:List (Str×Addr))(ws:List (Str×V)):Prop :=
 (∀c∈cl.map (·.2),∃o v,H c=some (.frz o TTh)/\o.data=.cell v)/\∀(x:Str)(v:V),ws.lookup x=some v->∃c o u,cl.lookup x=some c/\H c=some (.frz o TTh)/\o.data=.cell (some u)/\RelV v u
theorem ft.fzs{H:Hp}{cl:List (Str×Addr)}{ws:List (Str×V)}(h:ft H cl ws):Fzs H (cl.map (·.2)):=λc a=>let ⟨o,_,e,_⟩:=h.1 c a;⟨o,e⟩
theorem ft.same{H H':Hp}{cl:List (Str×Addr)}{ws:List (Str×V)}(h:ft H cl ws)(s:aq H H'):ft H' cl ws :=
 ⟨λc f=>let ⟨o,v,e,d⟩:=h.1 c f;⟨o,v,s _ _ e,d⟩,λx v e=>let ⟨c,o,u,a,b,d,r⟩:=h.2 x v e;⟨c,o,u,a,s _ _ b,d,r⟩⟩
def kI(N ps:List Str)(vs:List V)(ws:List (Str×V)):St:=vs.map some++(N.drop ps.length).map λx=>ws.lookup x
theorem mO{cl:List (Str×Addr)}{x:Str}{c:Addr}(h:cl.lookup x=some c):c∈cl.map (·.2):=en.mpr ⟨(x,c),mem_of_lookup h,U⟩
theorem tH{ps:List Str}{us:List Value}{i:Nat}{y:Str}{u:Value}(d:ps.Nodup)(g:ps[i]?=some y)(f:us[i]?=some u)(h:us.length=ps.length):(ps.zip us).reverse.lookup y=some u:=by
 have c:((ps.zip us).map (·.1)).Nodup:=by rw[vl (by lia)];exact d
 rw[PySem.lookup_reverse_of_nodup _ c];have b:(y,u)∈ps.zip us:=by
  have:(ps.zip us)[i]?=some (y,u):=by rw[pk];exact⟨g,f⟩
  exact GJ this
 cases e:(ps.zip us).lookup y with
 |none =>
  exact absurd b (by
   intro b;have:=List.lookup_eq_none_iff.mp e (y,u) b;simp at this)
 |some v =>
  have:=mem_of_lookup e;obtain⟨j,a⟩:=js this;rw[pk]at a;have:=jP d a.1 g;subst this;rw[f]at a;rw[Option.some.inj a.2]
def HFn(P:Program)(w:World)(K:W.Frag)(mg:Str->Option Value)(base:Heap)(k:Nat)(f:Addr)(sp:Sp):Prop:=∃fd ps,aL P w K mg base CX0 k f fd ps sp/\Binds K fd ps []
def FnO(H:Hp)(f:Addr):Prop:=∃o fd,H f=some (.frz o TTh)/\o.data=.func fd
variable{i:Nat}
inductive wU(X:Cx)(k i:Nat)(t:TA)(σ:St)(H:Hp)(Q:VK):Prop
 |mk (f:Addr)(sp:Sp)(_:σ[i]?=some (some (.ref f)))(_:FnO H f)(_:HFn X.prog X.w X.K X.mg X.base k f sp)(_:t σ H λvs H1=>FnO H1 f/\sp vs H1 Q E0)
theorem pS(D:bP k X.A)(L:X.N[i]?=some x)(C:Vis X.env.scope x)(K:PA X (e :: es) t)(G:(x == ("__debug__" : Str))=false:=by decide) (c:(x == ("__classdict__" : Str))=false:=by decide)
  (he:starEach (e :: es) X.env=(false,eval e X.env) :: starEach es X.env:=by rfl)(b:(backTo pos (starEach es X.env)).any (·.1)=false:=by rfl):PE X (.Call (.Name x p) (e :: es) [] pos) (wU X k i t):=by
 intro pins s σ H Q I h;obtain⟨f,sp,O,M,⟨fd,V,F,J⟩,h⟩:=h;have a:∀{H:Hp}{s:Shared}{σ:St},Inv X pins σ H s->FnO H f->W.FnAt f s.heap:=λP ⟨o,fd,e,d⟩=>by
  have:=(P.hok f _ e).1;obtain⟨B,z,Y,m⟩:=o;simp only at d;subst d;exact⟨B,z,fd,m,this⟩
 refine Dn (thn (rT L C G c pins s σ H (λv H'=>v=.ref f/\H'=H) I ⟨_,O,U,U⟩) λu n ⟨v,R,l,r,y⟩=>?_);obtain⟨rfl,rfl⟩:=y;cases (show u=Value.ref f from r);refine W.callWith_F (a l M) (thn (K pos pins n σ R _ l h) λT s2 ⟨S,Z,j,q,g,w⟩=>⟨a j g,?_⟩) he b;exact pH (E:=E0) (dvs:=[]) (ds:=[]) F D J .nil bM j q (by rw[jt];exact w)
theorem cF{H:Hp}{fz:List (Addr×Obj)}{b:Addr}(h:b ∉ fz.map (·.1)):hU H fz b=H b:=by
 unfold hU;cases e:fz.lookup b with
 |none=>rfl
 |some o=>exact absurd (en.mpr ⟨(b,o),W.mem_of_lookupK e,U⟩) h
theorem gu{H:Hp}{fz:List (Addr×Obj)}{b:Addr}(h:b∈fz.map (·.1)):∃o,(b,o)∈fz/\hU H fz b=some (.frz o TTh):=by
 unfold hU;cases e:fz.lookup b with
 |none =>
  obtain⟨⟨c,o⟩,a,rfl⟩:=en.mp h;have:=List.lookup_eq_none_iff.mp e _ a;simp at this
 |some o=>exact⟨o,W.mem_of_lookupK e,U⟩
structure pT(X:Cx)(s:Shared)(fz:List (Addr×Obj)):Prop where
 cell:∀p∈fz,∃x,X.env.cells.lookup x=some p.1
 nb:∀p∈fz,X.base.get? p.1=none
 nf:∀p∈fz,p.1 ∉ X.fs
 at_:∀p∈fz,s.heap.get? p.1=some p.2
theorem pT.free{fz:List (Addr×Obj)}(z:pT X s fz)(I:Inv X pins σ H s):∀b∈fz.map (·.1),H b=none:=λb c=>by
 obtain⟨p,a,rfl⟩:=en.mp c;obtain⟨x,e⟩:=z.cell p a;exact I.freeC x _ e
theorem pT.hok{fz:List (Addr×Obj)}(z:pT X s fz)(I:Inv X pins σ H s):HOk X.prog X.w (hU H fz) s.heap:=λb u e=>by
 by_cases a:b∈fz.map (·.1)
 .obtain⟨o,c,q⟩:=gu (H:=H) a;rw[q]at e;cases e;exact qX (z.at_ _ c)
 .rw[cF a]at e;have out:∀{d:Addr}{u:HO},H d=some u->hU H fz d=some u:=λ{d u} q=>by
   rw[cF λm=>by rw[z.free I d m]at q;cases q];exact q
  exact(I.hok b u e).stay (λ_ _ _ q=>q) (λd q=>out q) λd f q=>out q
theorem pT.env0{fz:List (Addr×Obj)}(z:pT X s fz)(I:Inv X pins σ H s):qA X.prog X.w X.K X.mg X.base X.A X.stack s (hU H fz):=by
 have e:=I.env0;refine⟨e.frames,e.mod,λb o q=>⟨(e.bs b o q).1,?_⟩,e.bsz,e.funs,λb c=>?_,z.hok I,e.bare⟩
 .rw[cF λm=>?_]
  .exact(e.bs b o q).2
  .obtain⟨p,a,rfl⟩:=en.mp m;rw[z.nb p a]at q;cases q
 .rw[cF λm=>?_]
  .exact e.frf b c
  .obtain⟨p,a,rfl⟩:=en.mp m;rcases dt.mp (I.stkSub _ c)with q|q
   .obtain⟨x,d⟩:=z.cell p a;exact I.cne x _ d q
   .exact z.nf p a q
theorem Inv.cellNew(I:Inv X pins σ H s){x:Str}{c:Addr}(e:X.env.cells.lookup x=some c)(d:X.fn x=true):X.base.get? c=none/\c ∉ X.fs:=by
 have a:=I.ok.cab x c d e;refine⟨Heap.get?_none_of_le (yc I.ok.bsz a),λq=>?_⟩;obtain⟨_,o,b,_⟩:=I.ok.funs.mem q;exact absurd (Heap.lt_size b) (zq.mpr a)
theorem pT.after{fz:List (Addr×Obj)}{Q:VK}{u:Value}{s':Shared}(z:pT X s fz)(I:Inv X pins σ H s)(h:CE X.stack X.prog X.w (hU H fz) s (λv k=>Q v (hideL k (fz.map (·.1)))) u s'):EP X pins σ Q u s':=by
 obtain⟨v,k,A,j,un,hok,r,q⟩:=h;have fzs:Fzs k (fz.map (·.1)):=λc B=>by
  obtain⟨o,_,e⟩:=gu (H:=H) B;exact⟨o,un.frzs c o _ e⟩
 have out:∀{d:Addr}{u:HO},H d=some u->d ∉ fz.map (·.1):=λ{d u} q m=>by rw[z.free I d m]at q;cases q
 refine⟨v,hideL k (fz.map (·.1)),I.call' (ch:=[]) A ⟨λb o e n g f=>?_,λb o e n g f=>?_,λb o e n f=>?_,un.there,λb x e=>?_,λb o y e=>?_,λb ps e=>?_⟩ (hok.hideL fzs) j (λb g=>absurd g (by simp)),r,q⟩
 .by_cases a:b∈fz.map (·.1)
  .obtain⟨p,t,l⟩:=gu (H:=H) a;have:=(hok b _ (un.frzs b p _ l)).1;have i:=z.at_ _ t;rw[e]at i;cases i;exact this
  .exact un.keep b o e (by rw[cF a];exact n) g f
 .by_cases a:b∈fz.map (·.1)
  .obtain⟨p,t,l⟩:=gu (H:=H) a;have:=(hok b _ (un.frzs b p _ l)).1;have i:=z.at_ _ t;rw[e]at i;cases i;exact⟨_,this⟩
  .exact un.slot b o e (by rw[cF a];exact n) g f
 .by_cases a:b∈fz.map (·.1)
  .exact j3 a
  .rw[bT a];exact un.free b o e (by rw[cF a];exact n) f
 .have a:=out e;rw[bT a];exact un.tups b x (by rw[cF a];exact e)
 .have a:=out e;rw[bT a];exact un.frzs b o y (by rw[cF a];exact e)
 .have a:=out e;rw[bT a];exact un.tbls b ps (by rw[cF a];exact e)
def tZ(zs:List (Str×Nat×Addr))(sp:Sp)(t:TA):TE:=λσ H Q=>t σ H λc b=>∀a:List Obj,a.length=zs.length->(∀z∈zs,b z.2.2=none) ->
 (∀(j:Nat)(z:Str×Nat×Addr),zs[j]?=some z->∃o w,a[j]?=some o/\o.data=.cell w/\∀v,σ[z.2.1]?=some (some v)->∃u,w=some u/\RelV v u) ->
 sp c (hU b ((zs.map (·.2.2)).zip a)) (λv d=>Q v (hideL d (zs.map (·.2.2)))) E0
theorem o7{pins:List (Addr×Obj)}{σ:St}{H:Hp}{s:Shared}(I:Inv X pins σ H s):∀(zs:List (Str×Nat×Addr)),(∀z∈zs,X.N[z.2.1]?=some z.1/\(X.env.scope.names.lookup z.1=some .cell\/X.env.scope.names.lookup z.1=some .free)/\X.env.cells.lookup z.1=some z.2.2/\(X.fn z.1=true\/(X.base.get? z.2.2=none/\z.2.2 ∉ X.fs))) ->
  ∃f:List Obj,f.length=zs.length/\(∀(j:Nat)(z:Str×Nat×Addr),zs[j]?=some z->∃o w,f[j]?=some o/\s.heap.get? z.2.2=some o/\o.data=.cell w/\∀v,σ[z.2.1]?=some (some v)->∃u,w=some u/\RelV v u)
 | [],_=>⟨[],U,λj z e=>by simp at e⟩
 |z :: zs,h=>by
  obtain⟨f,y,x⟩:=o7 I zs λq a=>h q (iC _ a)
  obtain⟨A,b,n,E⟩:=h z fb;obtain⟨w,o,e,d⟩:=I.cell _ _ n;refine⟨o :: f,by rw[ik,ik,y],λj q a=>?_⟩
  match j,a with
  |0,a =>
   cases a;refine⟨o,w,U,e,d,λv t=>?_⟩;obtain⟨m,D,B⟩:=I.loc;obtain⟨u,r,l⟩:=B _ _ v A t (.inr b);rcases l with⟨g,_⟩|⟨_,c,k,C,p,i⟩
   .have g:X.env.scope.names.lookup z.1=some .local:=g;rcases b with b|b <;> rw[b]at g <;> cases g
   .rw[n]at k;cases k;rw[e]at p;cases p;rw[d]at i;injection i with i;exact⟨u,i,r⟩
  |j+1,a=>exact x j q (by simpa using a)
theorem AH{pins:List (Addr×Obj)}{σ:St}{H:Hp}{s:Shared}{zs:List (Str×Nat×Addr)}{g:List Obj}(I:Inv X pins σ H s)
  (hz:∀z∈zs,X.N[z.2.1]?=some z.1/\(X.env.scope.names.lookup z.1=some .cell\/X.env.scope.names.lookup z.1=some .free)/\X.env.cells.lookup z.1=some z.2.2/\(X.fn z.1=true\/(X.base.get? z.2.2=none/\z.2.2 ∉ X.fs)))(n:g.length=zs.length)
  (k:∀(j:Nat)(z:Str×Nat×Addr),zs[j]?=some z->∃o w,g[j]?=some o/\s.heap.get? z.2.2=some o/\o.data=.cell w/\∀v,σ[z.2.1]?=some (some v)->∃u,w=some u/\RelV v u):pT X s ((zs.map (·.2.2)).zip g):=by
 have b:∀p∈(zs.map (·.2.2)).zip g,∃z∈zs,z.2.2=p.1/\s.heap.get? p.1=some p.2:=λp a=>by
  obtain⟨j,d⟩:=js a;rw[pk,fo]at d;cases ez:zs[j]? with
  |none=>rw[ez]at d;cases d.1
  |some z =>
   rw[ez]at d;have i:z.2.2=p.1:=Option.some.inj d.1;obtain⟨o,w,h,m,_⟩:=k j z ez;rw[d.2]at h;cases h;exact⟨z,GJ ez,i,i ▸ m⟩
 have new:∀z∈zs,X.base.get? z.2.2=none/\z.2.2 ∉ X.fs:=λz c=>by
  obtain⟨_,_,l,f⟩:=hz z c;rcases f with f|f
  .exact I.cellNew l f
  .exact f
 refine⟨λp a=>?_,λp a=>?_,λp a=>?_,λp a=>?_⟩
 .obtain⟨z,c,e,_⟩:=b p a;exact⟨z.1,e ▸ (hz z c).2.2.1⟩
 .obtain⟨z,c,e,_⟩:=b p a;rw[←e];exact(new z c).1
 .obtain⟨z,c,e,_⟩:=b p a;rw[←e];exact(new z c).2
 .obtain⟨z,c,e,h⟩:=b p a;exact h
theorem wV{zs:List (Str×Nat×Addr)}(C:Callee X.prog X.w X.K X.mg X.base k x ps sp)(O:bP k X.A)(R:Gl X x)(S:PA X (e :: es) t)(hz:∀z∈zs,X.N[z.2.1]?=some z.1/\(X.env.scope.names.lookup z.1=some .cell\/X.env.scope.names.lookup z.1=some .free)/\X.env.cells.lookup z.1=some z.2.2/\(X.fn z.1=true\/(X.base.get? z.2.2=none/\z.2.2 ∉ X.fs)))
  (v:(x == ("__debug__" : Str))=false:=by decide) (he:starEach (e :: es) X.env=(false,eval e X.env) :: starEach es X.env:=by rfl)(l:(backTo pos (starEach es X.env)).any (·.1)=false:=by rfl):PE X (.Call (.Name x p) (e :: es) [] pos) (tZ zs sp t):=by
 obtain⟨f,fd,F,b,M,m⟩:=C;intro pins s σ H Q I h;refine Dn (gi I R m ?_ v);refine W.callWith_K (h₀:=X.base) I.ok.mod.kin M (thn (S pos pins s σ H _ I h) λg i ⟨J,V,a,r,q⟩=>⟨a.kIn,?_⟩) he l;obtain⟨B,G,E⟩:=o7 a zs hz;have Y:((zs.map (·.2.2)).zip B).map (·.1)=zs.map (·.2.2):=vl (by rw[bx];lia);have d:=AH a hz G E;have D:=q B G (λz P=>a.freeC z.1 _ (hz z P).2.2.1) λj z T=>let ⟨o,w,a1,_,a3,a4⟩:=E j z T;⟨o,w,a1,a3,a4⟩
 have n:g.length=ps.length:=by rw[←r.length];exact F.len _ _ _ _ D
 refine wpAny_call (codeAny_mono (F.run X.A X.stack i _ ⟨g,[]⟩ g J _ E0 O (d.env0 a) (by have:=b i g a.kIn (by rw[jt];exact n);rw[jt]at this;exact this) r D) λL y c=>?_);cases L with
 |error e=>exact bM pins σ V i e y a c
 |ok fl =>
  cases fl with
  |ret u =>
   have c:CE X.stack X.prog X.w _ i _ u y:=c;refine d.after a ?_;rw[Y];exact c
  |next=>exact False.elim c
  |brk=>exact False.elim c
  |cont=>exact False.elim c
open PySem.W
def wW(tabs:List (Addr×Addr))(H:Hp):Prop:=∀b,H b=none\/(∃o a,H b=some (.frz o (.lst a)))\/(b∈tabs.map (·.2)/\H b=some (.tbl #[]))
theorem ve{P:Program}{w:World}{K:W.Frag}{mg mb:Str->Option Value}{CX:CXT}{k:Nat}{fa a:Addr}{fd:FuncData}{x:Str}{sp:Sp}{c:Shared}{vs:List Value}{L:List Int}{tabs:List (Addr×Addr)}
  (KX:K.In c.heap)(C:c.heap.Ns mainGlobals mg)(hb:c.heap.Ns builtinsNs mb)(a9:∀x:Str,x ≠ "__name__" -> mb x=bootBuiltins x) (DE:c.heap.NoLimit)(hg:c.gens = #[])
  (G:c.heap.get? a=some { cls:=.type "list",data:=.seq vs.toArray }) (hi:IntsAre vs L)(hl:L.length<=sizeLine)(hr:bP k callerA)
  (M:TabsAt tabs c.heap)(a7:noTabs K=true)(a8:∃Q A,mg "__builtins__" = some (.ref Q)/\Q≠builtinsNs/\c.heap.get? Q=some A/\A.cls=.type "module" /\ A.dict=some builtinsNs/\A.data=.plain)
  (F:∀base:Heap,K.In base->base.Ns mainGlobals mg->(∀q∈tabs,CodeHd base q.1 q.2/\base.BuiltinsAt mg q.2)->aL P w K mg base CX k fa fd [x] sp)(B5:∀(s:Shared)(u:Value),BindsTo s fd ⟨[u],[]⟩ [(x,u)])
  (a5:∀H:Hp,wW tabs H->SqL K H a (L.map V.int)->(∀q∈tabs,H q.2=some (.tbl #[]))->sp [.ref a] H (λv _=>v=.bl true) λ_ _ _=>False)
  (c1:∀H e s',CX [] H c (λ_ _ _=>False) e s'->False) :
  codeAny (model P w) callerA (.call (.ref fa) ⟨[.ref a],[]⟩) (λr s'=>r=.ok (.ret (.bool true))/\OldK c.heap s'.heap/\s'.os=c.os/\AllBare s'.gens) c:=by
 have rv:=oJ hi;have DF:=hi.length;have E:∀b∈tabs.map (·.2),c.heap.get? b=some (tabObj #[]):=λb f=>by
  obtain⟨q,i,rfl⟩:=en.mp f;exact(M q i).2
 have aT:a ∉ tabs.map (·.2):=λz=>by
  have e:=E a z;rw[G]at e;cases e
 have B:∀H:Hp,wW tabs H->SqL K H a (L.map V.int)->HOk P w H c.heap->(∀b,H b≠none->b=a\/b∈tabs.map (·.2))->(H a≠none->K.lookup a=none)->(∀q∈tabs,H q.2=some (.tbl #[])) ->
   codeAny (model P w) callerA (.call (.ref fa) ⟨[.ref a],[]⟩) (λr s'=>r=.ok (.ret (.bool true))/\OldK c.heap s'.heap/\s'.os=c.os/\AllBare s'.gens) c:=by
  intro H hO hS hok hA hK X;have lX:∀{b:Addr}{o:Obj},c.heap.get? b=some o->H b=none->(l8 c.heap H).get? b=some o:=λe n=>vS e n
  have R:∀{b:Addr}{o:Obj},c.heap.get? b=some o->(b=a->False)->o≠tabObj #[]->H b=none:=λ{b o} e n1 n2=>by
   cases q:H b with
   |none=>rfl
   |some u =>
    rcases hA b (by rw[q];simp)with z|z
    .exact(n1 z).elim
    .have:=E b z;rw[e]at this;exact absurd (Option.some.inj this) n2
  have a3:∀{b:Addr}{o:Obj}{es:Array DictEntry}{I:Nat},c.heap.get? b=some o->o.data=.dict es I->H b=none:=λ{b o es I} e d=>R e (λz=>by
   subst z;rw[G]at e;cases e;have O:Data.seq vs.toArray _=Data.dict es I:=d;cases O) (λz=>by rw[z]at d;cases d)
  have S:∀{b:Addr}{o:Obj}{T:String},c.heap.get? b=some o->o.cls=.type T->T ≠ "list" -> H b=none:=λ{b o T} e d c0=>R e (λz=>by
   subst z;rw[G]at e;cases e;have O:Value.type "list" = Value.type T:=d;injection O with O;exact c0 O.symm) (λz=>by rw[z]at d;cases d)
  have y:∀{b:Addr}{m:Str->Option Value},c.heap.Ns b m->(l8 c.heap H).Ns b m:=λ{b m} ⟨o,es,I,e,d,r⟩=>⟨o,es,I,lX e (a3 e d),d,r⟩
  have Y:K.In (l8 c.heap H):=λb o e=>lX (KX b o e) (by
   cases q:H b with
   |none=>rfl
   |some u =>
    rcases hA b (by rw[q];simp)with z|z
    .subst z;rw[hK (by rw[q];simp)]at e;cases e
    .have j:=E b z;rw[KX b o e]at j;cases j;have h2:=jq.mp a7 (b,tabObj #[]) (mem_of_lookupK e);exact absurd (show false=true from h2) Bool.false_ne_true)
  have hM:Mod K mg (l8 c.heap H):=⟨Y,y C,⟨mb,y hb,a9⟩,let ⟨mc,h1,h2⟩:=DE;⟨mc,y h1,h2⟩⟩;have e0:qA P w K mg (l8 c.heap H) callerA [] c H:=⟨U,hM,λb o e=>ym e,Nat.le_of_eq (uG _ _),trivial,λb hb=>absurd (show b∈([]:List Addr)from hb) (by simp),hok,.of_eq hg⟩;have b0:∀q∈tabs,CodeHd (l8 c.heap H) q.1 q.2/\(l8 c.heap H).BuiltinsAt mg q.2:=λq i=>by
   obtain⟨o,a2,a0,tf,D,tg,a4,Z,tt,N,r1,r2⟩:=(M q i).1;obtain⟨Q,A,b1,b2,J,b4,b5,b6⟩:=a8;refine⟨⟨o,a2,a0,tf,D,tg,a4,Z,tt,lX N (S N r1 (by decide)),r1,r2⟩,Q,A,b1,b2,λz=>?_,λz=>?_,lX J (S J b4 (by decide)),b4,b5,b6⟩
   .obtain⟨o',es,I,e,d,_⟩:=C;rw[z,e]at J;cases J;rw[d]at b6;cases b6
   .have j:=(M q i).2;rw[z,j]at J;cases J;cases b4
  refine codeAny_mono ((F _ Y (y C) b0).run callerA [] c H ⟨[.ref a],[]⟩ [.ref a] [.ref a] _ _ hr e0 (B5 c (.ref a)) (.cons U .nil) (a5 H hO hS X)) λr s' h=>?_
  cases r with
  |error e=>exact(c1 H e s' h).elim
  |ok fl =>
   cases fl with
   |next=>exact False.elim h
   |brk=>exact False.elim h
   |cont=>exact False.elim h
   |ret u =>
    obtain⟨v,H',os,a1,un,B6,r',q⟩:=h;have q':v=.bl true:=q;subst q';obtain rfl:u=Value.bool true:=r';have kept:∀b o,b ∉ tabs.map (·.2)->c.heap.get? b=some o->s'.heap.get? b=some o:=λb o f e=>by
     cases q:H b with
     |none=>exact un.keep b o e q (by intro z;exact absurd (show b∈([]:List Addr)from z) (by simp)) (by simp)
     |some u =>
      rcases hO b with z|⟨A,xs,z⟩|⟨z,_⟩
      .rw[q]at z;cases z
      .have z2:=un.frzs b A _ z;obtain⟨N,_⟩:=hok b _ z;obtain⟨j,_⟩:=B6 b _ z2;rw[e]at N;cases N;exact j
      .exact absurd z f
    have l:∀b∈tabs.map (·.2),isCodeTable c.heap b/\∃g,s'.heap.get? b=some (tabObj g):=λb f=>by
     obtain⟨qq,i,rfl⟩:=en.mp f;obtain⟨g,e⟩:=un.tbls _ _ (X qq i);have j:s'.heap.get? qq.2=some (tabObj (#[]++g)):=B6 _ _ e;exact⟨((M qq i).1.tab (M qq i).2).isCodeTable,_,j⟩
    refine⟨U,⟨λb o e=>?_,λb o e=>?_⟩,os,a1⟩
    .by_cases f:b∈tabs.map (·.2)
     .obtain⟨ht,g,j⟩:=l b f;have e3:=E b f;rw[e]at e3;cases e3;exact .inr (.inl ⟨ht,U,#[],g,U,by rw[Array.empty_append];exact j⟩)
     .exact .inl (kept b o f e)
    .by_cases f:b∈tabs.map (·.2)
     .obtain⟨_,g,j⟩:=l b f;exact⟨_,j⟩
     .exact⟨o,kept b o f e⟩
 cases hk:K.lookup a with
 |some o =>
  have e:=KX a o hk;rw[G]at e;cases e;refine B (λb=>if b∈tabs.map (·.2)then some (.tbl #[])else none) (λb=>?_) (.inr ⟨_,vs.toArray,_,hk,U,U,U,by rw[dV,DF];exact hl,by simpa using rv⟩) (λb u z=>?_) (λb z=>?_) (λz=>absurd (if_neg aT) z) λq i=>if_pos (en.mpr ⟨q,i,U⟩)
  .by_cases f:b∈tabs.map (·.2)
   .exact .inr (.inr ⟨f,if_pos f⟩)
   .exact .inl (if_neg f)
  .by_cases f:b∈tabs.map (·.2)
   .have t:=(if_pos f).symm.trans z;cases t;exact E b f
   .have t:=(if_neg f).symm.trans z;cases t
  .by_cases f:b∈tabs.map (·.2)
   .exact .inr f
   .exact absurd (if_neg f) z
 |none =>
  refine B (λb=>if b=a then some (.frz { cls:=.type "list",data:=.seq vs.toArray } (.lst (L.map V.int)))else if b∈tabs.map (·.2)then some (.tbl #[])else none) (λb=>?_) (.inl (.inr ⟨{ cls:=.type "list",data:=.seq vs.toArray },if_pos U⟩)) (λb u z=>?_) (λb z=>?_) (λ_=>hk) λq i=>?_
  .by_cases f:b=a
   .exact .inr (.inl ⟨_,_,if_pos f⟩)
   .by_cases p:b∈tabs.map (·.2)
    .exact .inr (.inr ⟨p,(if_neg f).trans (if_pos p)⟩)
    .exact .inl ((if_neg f).trans (if_neg p))
  .by_cases f:b=a
   .have t:=(if_pos f).symm.trans z;cases t;subst f;exact⟨G,by rw[bx];exact hl,vs,_,rv,G⟩
   .by_cases p:b∈tabs.map (·.2)
    .have t:=((if_neg f).trans (if_pos p)).symm.trans z;cases t;exact E b p
    .have t:=((if_neg f).trans (if_neg p)).symm.trans z;cases t
  .by_cases f:b=a
   .exact .inl f
   .by_cases p:b∈tabs.map (·.2)
    .exact .inr p
    .exact absurd ((if_neg f).trans (if_neg p)) z
  .have hm:q.2∈tabs.map (·.2):=en.mpr ⟨q,i,U⟩;have a6:q.2≠a:=λz=>aT (z ▸ hm)
   exact(if_neg a6).trans (if_pos hm)
theorem walk_ofT{l:W.OpenLaw}{n k:Nat}{q:Program}{i:List Str}{XP:(Str->Option Value)->Heap->Prop}{O:World->Heap->Prop}{d:DefRec}{K:Params->W.Frag}{CX:World->CXT}{sp:World->Sp}{x:Str}{tabs:Params->List (Addr×Addr)}{xs:List Str}
  (Z:l.most=some n)(E:n<=sizeLine)(J:d.params.defaults=[])(X:bP k callerA)
  (hY:∀(w:World)(h:Heap),O w h->(K w.params).In h)(D:∀p:Params,noTabs (K p)=true)
  (B:∀y∈xs,∃d',(recsOf q).find? (λe=>e.name == y)=some d')(Q:∀p:Params,∀t∈tabs p,∃y∈xs,tabIn (K p) y=some t)
  (F:∀(w:World)(mg:Str->Option Value)(z:Addr)(h:Heap),(K w.params).In h->h.Ns mainGlobals mg->mg d.name=some (.ref z) ->
   ∃fd:FuncData,(∀(s:Shared)(u:Value),BindsTo s fd ⟨[u],[]⟩ [(x,u)]) /\
    ∀base:Heap,(K w.params).In base->base.Ns mainGlobals mg->(∀q∈tabs w.params,CodeHd base q.1 q.2/\base.BuiltinsAt mg q.2)->aL l.prog w (K w.params) mg base (CX w) k z fd [x] (sp w))
  (C:∀(w:World)(H:Hp)(a:Addr)(r:List Int),r.length<=n->wW (tabs w.params) H->SqL (K w.params) H a (r.map V.int)->(∀q∈tabs w.params,H q.2=some (.tbl #[]))->sp w [.ref a] H (λv _=>v=.bl true) λ_ _ _=>False)
  (N:∀(w:World)(H:Hp)(s:Shared)(e:Value)(s':Shared),CX w [] H s (λ_ _ _=>False) e s'->False) :
  W.WalkO q i XP O l.row.toRowW d [] (λf vs=>PySem.call f vs):=by
 refine Att.attach_call Z J λw P m mg mb z o pm cd a1 a vs r G Y ho hd a0 I Au j c hg=>?_
 have A:=hY w _ Y;obtain⟨fd,hb,hF⟩:=F w mg z _ A G.T.g I;refine ve A G.T.g G.T.b G.T.builtins G.T.nolimit hg Au j (yc c E) X (tabs:=tabs w.params) (λt S=>?_) (D w.params) G.T.bmain hF hb (λH hO hS M=>C w H a r c hO hS M) λH e s'=>N w H m e s'
 obtain⟨y,R,e⟩:=Q w.params t S;obtain⟨d',L⟩:=B y R;exact tab_of G.T A L e
theorem Fun.okT{x qual:Str}{st:Stmt}{f c:Addr}{fd:FuncData}{N ps:List Str}{k:Nat}{sp:Sp}(F:Fun K x qual st f fd)(b:fd.code=.ref c)(S:ao N ps (ak st))(d:∀vs H Q E,sp vs H Q E->vs.length=ps.length)
  (m:∀(A:Around)(a:List Env)(s:Shared)(H:Hp)(vs:List V)(Q:VK)(E:XK),bP k (A.deeper (envOfC qual (ak st) s.heap.objs.size f (.ref c)))->sp vs H Q E ->
   ∃t,PSs (qC CX0 P w K mg base N qual (ak st) f (.ref c) A a s H E).nox (du st) t/\t { nx:=λ_ H'=>Q .non H',rt:=Q } (start N vs) H):aL P w K mg base CX0 (k+1) f fd ps sp:=by
 obtain⟨u,r,kV,o,p,y,i,v,n,rfl,j,g⟩:=F.ex;have b:i=.ref c:=b;subst b;refine zC j g S d λA a s H vs Q E l e=>?_
 obtain⟨t,h,q⟩:=m A a s H vs Q E l e;exact⟨t,h.nox,q⟩
def i6(H:Hp)(f c':Addr)(b:Obj)(qual:Str)(cl:List (Str×Addr))(ws:List (Str×V)):Prop:=H f=some (.frz b TTh)/\(∃a,H c'=some (.frz a TTh)/\qY a qual)/\ft H cl ws
theorem i6.same{H H':Hp}{f c':Addr}{a:Obj}{qual:Str}{cl:List (Str×Addr)}{ws:List (Str×V)}(h:i6 H f c' a qual cl ws)(s:aq H H'):i6 H' f c' a qual cl ws :=
 ⟨s _ _ h.1,let ⟨oc,e,q⟩:=h.2.1;⟨oc,s _ _ e,q⟩,h.2.2.same s⟩
theorem qZ{zs:List (Str×Nat×Addr)}{f:List Obj}{H:Hp}{σ:St}{cl:List (Str×Addr)}{ws:List (Str×V)}(K:f.length=zs.length)(s:(zs.map (·.2.2)).Nodup)
  (t:∀(j:Nat)(z:Str×Nat×Addr),zs[j]?=some z->∃o w,f[j]?=some o/\o.data=.cell w/\∀v,σ[z.2.1]?=some (some v)->∃u,w=some u/\RelV v u)
  (C:∀c∈cl.map (·.2),∃z∈zs,z.2.2=c)(B:∀(x:Str)(v:V),ws.lookup x=some v->∃z∈zs,cl.lookup x=some z.2.2/\σ[z.2.1]?=some (some v)):ft (hU H ((zs.map (·.2.2)).zip f)) cl ws:=by
 have h:∀z∈zs,∃o w,hU H ((zs.map (·.2.2)).zip f) z.2.2=some (.frz o TTh)/\o.data=.cell w/\∀v,σ[z.2.1]?=some (some v)->∃u,w=some u/\RelV v u:=λz g=>by
  obtain⟨j,p⟩:=js g;obtain⟨o,w,m,l,G⟩:=t j z p;have J:((zs.map (·.2.2)).zip f).map (·.1)=zs.map (·.2.2):=vl (by rw[bx];lia);obtain⟨q,y,F⟩:=gu (H:=H) (fz:=(zs.map (·.2.2)).zip f) (b:=z.2.2) (by rw[J];exact en.mpr ⟨z,g,U⟩);obtain⟨i,k⟩:=js y;rw[pk]at k;have D:(zs.map (·.2.2))[j]?=some z.2.2:=by rw[fo,p];rfl
  obtain⟨M,I⟩:=GI.mp k.1;obtain⟨L,b2⟩:=GI.mp D;have n:i=j:=(wh s).mp (I.trans b2.symm);subst n;have E:o=q:=Option.some.inj (m.symm.trans k.2);subst E;exact⟨o,w,F,l,G⟩
 refine⟨λc A=>?_,λx v e=>?_⟩
 .obtain⟨z,g,rfl⟩:=C c A;obtain⟨o,w,a,b,_⟩:=h z g;exact⟨o,w,a,b⟩
 .obtain⟨z,g,m,l⟩:=B x v e;obtain⟨o,w,a,b,d⟩:=h z g;obtain⟨u,rfl,r⟩:=d v l;exact⟨z.2.2,o,u,m,a,b,r⟩
theorem wY{a:Scope}{cl:List (Str×Addr)}(h:(a.names.all λy=>match y.2 with | .free=>(cl.map (·.1)).any (y.1 == ·)|_=>true)=true):∀y∈a.names,y.2=.free->∃c,cl.lookup y.1=some c:=λy d e=>by
 have:=jq.mp h y d;rw[e]at this;obtain⟨z,b,g⟩:=w4.mp this;obtain⟨p,f,rfl⟩:=en.mp b;cases q:cl.lookup y.1 with
 |some c=>exact⟨c,U⟩
 |none =>
  have:=List.lookup_eq_none_iff.mp q p f;simp[bne,g]at this
theorem uq{N:List Str}{a:Scope}{ws:List (Str×V)}(h:((ws.map (·.1)).all λx=>match a.names.lookup x with|some .free=>true|_=>false)=true):∀y∈N,∀v,ws.lookup y=some v->a.names.lookup y=some .free:=λy _ v e=>by
 have:=jq.mp h y (en.mpr ⟨(y,v),mem_of_lookup e,U⟩);split at this
 .assumption
 .cases this
theorem tab_mk{K:Frag}{x qual:Str}{st:Stmt}{f c P:Addr}{g kV doc pm m:Value}{d n:Option Addr}{b:Array (Option Value)}{j:Value}{i:Option Addr}{vs:Array Value}{h:Array (Option Value)}(a:nsIn K mainGlobals x=some (some (.ref f)))
  (l:K.lookup f=some ⟨g,d,.func (fnOf x qual (gk st) (du st) (ak st) .none kV doc pm n (.ref c) m),b⟩)(k:K.lookup c=some ⟨j,i,.fields vs,h⟩)(e:vs[11]?=some (.ref P)):tabIn K x=some (c,P):=by
 unfold tabIn;rw[a];simp only[l];show(match K.lookup c with|some ⟨_,_,.fields vs,_⟩=>(match (vs[11]?:Option Value)with|some (.ref P)=>some (c,P)|_=>none)|_=>none)=some (c,P);rw[k];simp only[e]
section
variable{zs:List (Str×Nat×Addr)}{os:List Obj}{H2:Hp}
theorem mQ(a:os.length=zs.length):((zs.map (·.2.2)).zip os).map (·.1)=zs.map (·.2.2):=vl (by rw[bx];lia)
theorem mR(c:os.length=zs.length)(d:∀z∈zs,H z.2.2=none):aq H (hU H ((zs.map (·.2.2)).zip os)):=λb u e=>by
 rw[cF λm=>?_]
 .exact e
 .rw[mQ c]at m;obtain⟨z,a,rfl⟩:=en.mp m;rw[d z a]at e;cases e
theorem hide_same(d:os.length=zs.length)(a:∀z∈zs,H z.2.2=none)(s:aq (hU H ((zs.map (·.2.2)).zip os)) H2):aq H (hideL H2 (zs.map (·.2.2))):=λb u e=>by
 rw[bT λm=>?_]
 .exact s _ _ (mR d a _ _ e)
 .obtain⟨z,c,rfl⟩:=en.mp m;rw[a z c]at e;cases e
end
abbrev T3a(α:Type):=Int×Int×α
def Fm(L:Type):Nat->Type
 |0=>L
 |n+1=>List (Int×Int×Fm L n)
def Fm.dec{L:Type} [d:DecidableEq L]:(n:Nat)->DecidableEq (Fm L n)
 |0=>d
 |n+1=>have:=Fm.dec (L:=L) n;(inferInstance:DecidableEq (List (Int×Int×Fm L n)))
instance {L:Type} [DecidableEq L] (n:Nat):DecidableEq (Fm L n):=Fm.dec n
section
variable{α:Type}
def cU [DecidableEq α] (f:List (T3a α))(t:T3a α):List (T3a α):=match f.getLast? with
 |some l=>if l.2.2=t.2.2 then f.dropLast++[(l.1,t.2.1,t.2.2)]else f++[t]
 |none=>f++[t]
def d7 [DecidableEq α] (ts:List (T3a α)):List (T3a α):=ts.foldl cU []
def Ch3:List (T3a α)->Int->Int->Prop
 | [],lo,hi=>lo=hi+1
 |t :: r,lo,hi=>t.1=lo/\lo<=t.2.1/\Ch3 r (t.2.1+1) hi
theorem Ch3.snoc{t:T3a α}:∀{f:List (T3a α)}{lo mid:Int},Ch3 f lo mid->t.1=mid+1->t.1<=t.2.1->Ch3 (f++[t]) lo t.2.1
 | [],lo,mid,h,e,l=>⟨by rw[e];exact h.symm,by have:lo=mid+1:=h;lia,U⟩
 |u :: f,lo,mid,h,e,l=>⟨h.1,h.2.1,Ch3.snoc (f:=f) h.2.2 e l⟩
theorem Ch3.unsnoc{t:T3a α}:∀{f:List (T3a α)}{lo hi:Int},Ch3 (f++[t]) lo hi->t.2.1=hi/\t.1<=t.2.1/\Ch3 f lo (t.1-1)
 | [],lo,hi,h=>⟨by have:t.2.1+1=hi+1:=h.2.2;lia,by have:=h.1;have:=h.2.1;lia,by show lo=t.1-1+1;have:=h.1;lia⟩
 |u :: f,lo,hi,h=>let ⟨a,b,c⟩:=Ch3.unsnoc (f:=f) h.2.2;⟨a,b,h.1,h.2.1,c⟩
def Nbx(ys:List α):Prop:=∀(i:Nat)(a b:α),ys[i]?=some a->ys[i+1]?=some b->a≠b
theorem Nbx.snoc{ys:List α}{y:α}(h:Nbx ys)(e:∀l,ys.getLast?=some l->l≠y):Nbx (ys++[y]):=λi a b d c=>by
 have hi:=(GI.mp c).1;simp only[cK,gI]at hi;by_cases g:i+1<ys.length
 .rw[iP (by lia)]at d;rw[iP g]at c;exact h i a b d c
 .have f:i+1=ys.length:=by lia
  rw[iP (by lia)]at d;rw[f]at c;simp at c;subst c;refine e a ?_;rw[List.getLast?_eq_getElem?];rw[show ys.length-1=i by lia];exact d
def vAt(f:List (T3a α))(c:Int):Option α:=(f.find? λt=>decide (c<=t.2.1)).map (·.2.2)
theorem iH(f g:List (T3a α))(c:Int):vAt (f++g) c=(vAt f c).or (vAt g c):=by
 unfold vAt;rw[List.find?_append];cases f.find? _ <;> rfl
theorem pU(t:T3a α)(c:Int):vAt [t] c=if c<=t.2.1 then some t.2.2 else none:=by
 unfold vAt;by_cases h:c<=t.2.1 <;> simp[h]
structure vg(ts f:List (T3a α))(lo hi:Int):Prop where
 ch:Ch3 f lo hi
 nb:Nbx (f.map (·.2.2))
 va:∀c,vAt f c=vAt ts c
 mem:∀t∈f,∃t'∈ts,t'.2.2=t.2.2
 ne:ts≠[]->f≠[]
theorem vg.step [DecidableEq α] {ts f:List (T3a α)}{lo mid:Int}{t:T3a α}(h:vg ts f lo mid)(e:t.1=mid+1)(l:t.1<=t.2.1):vg (ts++[t]) (cU f t) lo t.2.1:=by
 rcases vr f with j|⟨g,u,j⟩
 .subst j;have:cU [] t=[t]:=rfl;rw[this];refine⟨Ch3.snoc (f:=[]) h.ch e l,λi a b y p=>by simp at p,λc=>?_,λv d=>⟨t,by simp,by rw[hZ.mp d]⟩,λ_=>by simp⟩;rw[iH,←h.va c];rfl
 .rw[vJ]at j;subst j;have o:=h.ch.unsnoc;have s:(g++[u]).getLast?=some u:=by simp
  unfold cU;rw[s];simp only;by_cases q:u.2.2=t.2.2
  .rw[if_pos q];have w:(g++[u]).dropLast=g:=by simp
   rw[w];have r:(g++[((u.1,t.2.1,t.2.2):T3a α)]).map (·.2.2)=(g++[u]).map (·.2.2):=by simp[q]
   refine⟨Ch3.snoc (t:=((u.1,t.2.1,t.2.2):T3a α)) o.2.2 (by show u.1=u.1-1+1;lia) (by show u.1<=t.2.1;lia),by rw[r];exact h.nb,λc=>?_,λv d=>?_,λ_=>by simp⟩
   .rw[iH ts,←h.va c,iH,iH,pU,pU,pU];show(vAt g c).or (if c<=t.2.1 then some t.2.2 else none)=((vAt g c).or (if c<=u.2.1 then some u.2.2 else none)).or (if c<=t.2.1 then some t.2.2 else none);cases vAt g c with
    |some x=>rfl
    |none =>
     by_cases n:c<=u.2.1
     .rw[if_pos n,if_pos (by lia),q];rfl
     .rw[if_neg n];rfl
   .rcases gg.mp d with d|d
    .obtain⟨k,a,b⟩:=h.mem v (jD _ d);exact⟨k,jD _ a,b⟩
    .rw[hZ.mp d];exact⟨t,by simp,U⟩
  .rw[if_neg q];refine⟨h.ch.snoc e l,?_,λc=>?_,λv d=>?_,λ_=>by simp⟩
   .rw[ij];refine Nbx.snoc h.nb λz m=>?_
    rw[ij]at m;simp at m;rw[←m];exact q
   .rw[iH,iH ts,h.va c]
   .rcases gg.mp d with d|d
    .obtain⟨k,a,b⟩:=h.mem v d;exact⟨k,jD _ a,b⟩
    .rw[hZ.mp d];exact⟨t,by simp,U⟩
theorem q8 [DecidableEq α]:∀{r ts f:List (T3a α)}{lo mid hi:Int},vg ts f lo mid->Ch3 r (mid+1) hi->vg (ts++r) (r.foldl cU f) lo hi
 | [],ts,f,lo,mid,hi,h,c=>by
  have:mid=hi:=by have:mid+1=hi+1:=c;lia
  subst this;rw[jt];exact h
 |t :: r,ts,f,lo,mid,hi,h,c=>by
  have:=q8 (r:=r) (h.step c.1 (by have:=c.1;have:=c.2.1;lia)) c.2.2;rw[pA]at this;exact this
theorem dW [DecidableEq α] {ts:List (T3a α)}{lo hi:Int}(h:Ch3 ts lo hi):vg ts (d7 ts) lo hi :=
 q8 (ts:=[]) (f:=[]) (mid:=lo-1) ⟨by show lo=lo-1+1;lia,λi a b e d=>by simp at d,λ_=>U,λt c=>by simp at c,λz=>absurd U z⟩ (by rw[show lo-1+1=lo by lia];exact h)
theorem Ch3.at:∀{f:List (T3a α)}{lo hi c:Int},Ch3 f lo hi->lo<=c->c<=hi->∃(j:Nat)(t:T3a α),f[j]?=some t/\t.1<=c/\c<=t.2.1/\(∀(i:Nat)(u:T3a α),i<j->f[i]?=some u->u.2.1<c)/\vAt f c=some t.2.2
 | [],lo,hi,c,h,h1,h2=>by have:lo=hi+1:=h;lia
 |t :: r,lo,hi,c,h,h1,h2=>by
  by_cases q:c<=t.2.1
  .exact⟨0,t,U,by have:=h.1;lia,q,λi u hi=>absurd hi (zb i),by unfold vAt;rw[ll (by simpa using q)];rfl⟩
  .obtain⟨j,u,a,b,d,e,v⟩:=Ch3.at (f:=r) h.2.2 (c:=c) (by lia) h2;refine⟨j+1,u,by simpa using a,b,d,λi w hi g=>?_,by unfold vAt at v⊢;rw[lq (by simpa using q)];exact v⟩
   match i,g with
   |0,g=>cases g;lia
   |i+1,g=>exact e i w (by lia) (by simpa using g)
end
def lay{L:Type} [DecidableEq L] (g:List Int->L):(cols:List (List (Int×Int)))->List Int->Fm L cols.length
 | [],ah=>g ah
 |c :: cs,ah=>d7 (c.map λp=>((p.1,p.2,lay g cs (ah++[p.1])):T3a (Fm L cs.length)))
def ShS{α:Type}(S:α->List (Int×Int)->Prop)(f:List (T3a α))(ps:List (Int×Int)):Prop:=∃p r,ps=p :: r/\f≠[]/\Ch3 f p.1 p.2/\Nbx (f.map (·.2.2))/\∀t∈f,S t.2.2 r
def cq{L:Type}:(n:Nat)->Fm L n->List (Int×Int)->Prop
 |0,_,ps=>ps=[]
 |n+1,f,ps=>ShS (cq n) f ps
def yI:List (Int×Int)->Int->Int->Prop
 | [],lo,hi=>lo=hi+1
 |p :: r,lo,hi=>p.1=lo/\lo<=p.2/\yI r (p.2+1) hi
theorem wZ{α:Type}(F:Int×Int->α):∀{c:List (Int×Int)}{lo hi:Int},yI c lo hi->Ch3 (c.map λp=>((p.1,p.2,F p):T3a α)) lo hi
 | [],lo,hi,h=>h
 |p :: r,lo,hi,h=>⟨h.1,h.2.1,wZ F h.2.2⟩
inductive fO:List (List (Int×Int))->List (Int×Int)->Prop
 |nil:fO [] []
 |cons {c:List (Int×Int)}{cs:List (List (Int×Int))}{p:Int×Int}{ps:List (Int×Int)}:c≠[]->yI c p.1 p.2->fO cs ps->fO (c :: cs) (p :: ps)
theorem mS{L:Type} [DecidableEq L] {g:List Int->L}{a:List (List (Int×Int))}{ps:List (Int×Int)}(h:fO a ps):∀b:List Int,cq a.length (lay g a b) ps:=by
 induction h with
 |nil=>intro b;exact(rfl:([]:List (Int×Int))=[])
 | @cons c cs p ps hne hc _ ih =>
  intro b;have k:=dW (wZ (λq=>lay g cs (b++[q.1])) hc);refine⟨p,ps,U,k.ne (by simpa using hne),k.ch,k.nb,λt d=>?_⟩;obtain⟨i,f,e⟩:=k.mem t d;obtain⟨q,_,rfl⟩:=en.mp f;rw[←e];exact ih _
def bV(a:List (Int×Int))(c:Int):Int:=((a.find? λp=>decide (c<=p.2)).map (·.1)).getD 0
theorem ur{α:Type}(F:Int×Int->α)(c:Int):∀a:List (Int×Int),vAt (a.map λp=>((p.1,p.2,F p):T3a α)) c=(a.find? λp=>decide (c<=p.2)).map F
 | []=>rfl
 |p :: r=>by
  unfold vAt;rw[kU];by_cases q:c<=p.2
  .rw[ll (by simpa using q),ll (by simpa using q)];rfl
  .rw[lq (by simpa using q),lq (by simpa using q)];exact ur F c r
inductive Tel{L:Type}:(n:Nat)->Fm L n->List Int->L->Prop
 |nil (x:L):Tel 0 x [] x
 |cons {n:Nat}{f:List (T3a (Fm L n))}{c:Int}{cs:List Int}{x:L}{j:Nat}{t:T3a (Fm L n)}:f[j]?=some t->c<=t.2.1->(∀(i:Nat)(u:T3a (Fm L n)),i<j->f[i]?=some u->u.2.1<c)->Tel n t.2.2 cs x->Tel (n+1) f (c :: cs) x
inductive InB:List Int->List (Int×Int)->Prop
 |nil:InB [] []
 |cons {c:Int}{cs:List Int}{p:Int×Int}{ps:List (Int×Int)}:p.1<=c->c<=p.2->InB cs ps->InB (c :: cs) (p :: ps)
theorem lY{L:Type} [DecidableEq L] {g:List Int->L}{a:List (List (Int×Int))}{ps:List (Int×Int)}(h:fO a ps):∀(d b:List Int),InB b ps->Tel a.length (lay g a d) b (g (d++List.zipWith bV a b)):=by
 induction h with
 |nil=>intro d b e;cases e;rw[List.zipWith_nil_left,jt];exact .nil _
 | @cons c a p ps hne hc _ ih =>
  intro d b e;cases e with
  | @cons x b _ _ h1 h2 e =>
   have k:=dW (wZ (λq=>lay g a (d++[q.1])) hc);obtain⟨j,t,o,r,n,m,f⟩:=k.ch.at h1 h2;rw[k.va,ur]at f;cases e6:c.find? (λp=>decide (x<=p.2)) with
   |none=>rw[e6]at f;cases f
   |some q =>
    rw[e6]at f;have l:lay g a (d++[q.1])=t.2.2:=Option.some.inj f;have i:bV c x=q.1:=by unfold bV;rw[e6];rfl
    refine .cons o n m ?_;rw[←l,List.zipWith_cons_cons,i];have:=ih (d++[q.1]) b e;rw[pA]at this;exact this
def FmL{α:Type}(R:α->V->Prop)(H:Hp)(f:List (T3a α))(xs:List V):Prop:=xs.length=f.length/\∀(i:Nat)(t:T3a α),f[i]?=some t->∃(r:Addr)(u:V),xs[i]?=some (.ref r)/\H r=some (.tup [.int t.1,.int t.2.1,u])/\R t.2.2 u
def lL(K:W.Frag)(H:Hp):Prop:=∀(r:Addr)(b a:List V),SqT K H r b->SqT K H r a->b=a
inductive d8(K:W.Frag)(H:Hp):Nat->V->V->Bool->Prop where
 |of {n:Nat}{x y:V}{b:Bool}(h:DEq K H n x y b):d8 K H n x y b
 |ti {n:Nat}{a:Addr}{xs:List V}{i:Int}(h:SqT K H a xs):d8 K H n (.ref a) (.int i) false
 |it {n:Nat}{a:Addr}{xs:List V}{i:Int}(h:SqT K H a xs):d8 K H n (.int i) (.ref a) false
 |tup {n:Nat}{a b:Addr}{xs ys:List V}{f:Nat->Bool}(ne:a≠b)(ha:SqT K H a xs)(hb:SqT K H b ys)(h:∀(j:Nat)(x y:V),xs[j]?=some x->ys[j]?=some y->d8 K H n x y (f j)):d8 K H (n+1) (.ref a) (.ref b) ((List.range (min xs.length ys.length)).all f && xs.length == ys.length)
theorem d8.mono{K:W.Frag}{H:Hp}{n m:Nat}{x y:V}{b:Bool}(e:d8 K H n x y b)(h:n<=m):d8 K H m x y b:=by
 induction e generalizing m with
 |of e=>exact .of (e.mono h)
 |ti e=>exact .ti e
 |it e=>exact .it e
 |tup a f d _ c =>
  obtain⟨m,rfl⟩:∃k,m=k+1:=⟨m-1,by lia⟩;exact .tup a f d λj x y i g=>c j x y i g (by lia)
theorem B7(I:Inv X pins σ H s):lL X.K H:=λr p m l k=>by
 obtain⟨c,h,j,_⟩:=I.tuple l;obtain⟨a,f,i,_⟩:=I.tuple k;obtain⟨o,e,_,n,d⟩:=j;obtain⟨q,g,_,t,b⟩:=i;rw[e]at g;cases g;rw[d]at b;injection b with b;have:c=a:=by simpa using b
 rw[←this]at f;exact Vals.inj h f
theorem d8.at{n:Nat}{x y:V}{b:Bool}(e:d8 X.K H n x y b)(I:Inv X pins σ H s):∀{A:Around}{u v:Value},A.units+n<cLine->RelV x u->RelV y v->SeqAt.EqAt A s u v b:=by
 induction e with
 |of e=>intro A u v l k g;exact e.at I l k g
 | @ti n a xs i h =>
  intro A u v l k g;cases (show u=Value.ref a from k);obtain⟨t,rfl⟩:=g;obtain⟨c,r,p,_⟩:=I.tuple h;exact SeqAt.EqAt.tuple_int i t (show s.heap.IsTuple a c.toArray from p) (by lia)
 | @it n a xs i h =>
  intro A u v l k g;obtain⟨t,rfl⟩:=k;cases (show v=Value.ref a from g);obtain⟨c,r,p,_⟩:=I.tuple h;exact SeqAt.EqAt.int_tuple i t (show s.heap.IsTuple a c.toArray from p) (by lia)
 | @tup n a b xs ys f ne ha hb h ih =>
  intro A u v l k g;cases (show u=Value.ref a from k);cases (show v=Value.ref b from g);obtain⟨c,r,p,_⟩:=I.tuple ha;obtain⟨d,m,z,_⟩:=I.tuple hb;have G:=r.length;have F:=m.length;have o:=SeqAt.RcAt.tuples (A:=A) (e:=f) (show s.heap.IsTuple a c.toArray from p) (show s.heap.IsTuple b d.toArray from z) (by lia) (λj C B=>by
   obtain⟨x,E,w⟩:=gW r C;obtain⟨y,D,q⟩:=gW m B;exact ih j x y E D (by show A.units+1+n<cLine;lia) w q)
  rw[show c.toArray.size=xs.length by simp only[dV];lia,show d.toArray.size=ys.length by simp only[dV];lia]at o;exact SeqAt.EqAt.of_refs ne o
inductive pV(K:W.Frag)(neg:Bool)(x:V)(y:V)(H:Hp)(Q:VK):Prop
 |tt (a b:Addr)(xs ys:List V)(_:x=.ref a)(_:y=.ref b)(_:SqT K H a xs)(_:SqT K H b ys)(f:Nat->Bool)(_:(∀(j:Nat)(x y:V),xs[j]?=some x->ys[j]?=some y->d8 K H 60 x y (f j)))(_:Q (.bl (if neg then !((List.range (min xs.length ys.length)).all f && xs.length == ys.length) else(List.range (min xs.length ys.length)).all f && xs.length == ys.length)) H):pV K neg x y H Q
 |ti (a:Addr)(xs:List V)(i:Int)(_:x=.ref a)(_:y=.int i)(_:SqT K H a xs)(_:Q (.bl neg) H):pV K neg x y H Q
 |it (a:Addr)(xs:List V)(i:Int)(_:x=.int i)(_:y=.ref a)(_:SqT K H a xs)(_:Q (.bl neg) H):pV K neg x y H Q
theorem q9{pins:List (Addr×Obj)}{σ:St}{H:Hp}{s:Shared}{A:Around}{xs ys:List V}{a its':List Value}{f:Nat->Bool}(I:Inv X pins σ H s)(h:A.units+60<cLine)(r:Vals xs a)(d:Vals ys its')
  (hf:∀(j:Nat)(x y:V),xs[j]?=some x->ys[j]?=some y->d8 X.K H 60 x y (f j)):∀j (c:j<a.toArray.size)(b:j<its'.toArray.size),SeqAt.EqAt A s a.toArray[j] its'.toArray[j] (f j):=λj c b=>by
 obtain⟨x,k,g⟩:=gW r c;obtain⟨y,i,e⟩:=gW d b;exact(hf j x y k i).at I h g e
theorem AJ{k:Nat}(E:bP k X.A):OpR X (compareOp .Eq) (pV X.K false):=by
 intro pins s σ H x y v u Q I n m h;have L:=E.units;cases h with
 |tt a b o J j g d G f F q =>
  subst j g;cases (show v=Value.ref a from n);cases (show u=Value.ref b from m);obtain⟨c,r,p,_⟩:=I.tuple d;obtain⟨l,z,B,_⟩:=I.tuple G;have D:=r.length;have C:=z.length;refine SeqAt.eq_tupleAt (e:=f) (show s.heap.IsTuple a c.toArray from p) (show s.heap.IsTuple b l.toArray from B) (by lia) (q9 I (by show X.A.units+1+60<cLine;lia) r z F) ⟨.bl _,H,I,U,?_⟩;simp only[dV];rw[←D,←C];exact q
 |ti a o i j g d q =>
  subst j g;cases (show v=Value.ref a from n);obtain⟨t,rfl⟩:=m;obtain⟨c,r,p,_⟩:=I.tuple d;exact SeqAt.RcAt.tuple_int i t (show s.heap.IsTuple a c.toArray from p) (by lia) X.prog X.w X.xe _ ⟨.bl _,H,I,U,q⟩
 |it a o i j g d q =>
  subst j g;obtain⟨t,rfl⟩:=n;cases (show u=Value.ref a from m);obtain⟨c,r,p,_⟩:=I.tuple d;exact SeqAt.RcAt.int_tuple i t (show s.heap.IsTuple a c.toArray from p) (by lia) X.prog X.w X.xe _ ⟨.bl _,H,I,U,q⟩
theorem AK{k:Nat}(E:bP k X.A):OpR X (compareOp .NotEq) (pV X.K true):=by
 intro pins s σ H x y v u Q I n m h;have L:=E.units;cases h with
 |tt a b o J j g d G f F q =>
  subst j g;cases (show v=Value.ref a from n);cases (show u=Value.ref b from m);obtain⟨c,r,p,_⟩:=I.tuple d;obtain⟨l,z,B,_⟩:=I.tuple G;have D:=r.length;have C:=z.length;refine SeqAt.RcNeAt.tuples (e:=f) (show s.heap.IsTuple a c.toArray from p) (show s.heap.IsTuple b l.toArray from B) (by lia) (q9 I (by show X.A.units+1+60<cLine;lia) r z F) X.prog X.w X.xe _ ⟨.bl _,H,I,U,?_⟩;simp only[dV];rw[←D,←C];exact q
 |ti a o i j g d q =>
  subst j g;cases (show v=Value.ref a from n);obtain⟨t,rfl⟩:=m;obtain⟨c,r,p,_⟩:=I.tuple d;exact SeqAt.RcNeAt.tuple_int i t (show s.heap.IsTuple a c.toArray from p) (by lia) X.prog X.w X.xe _ ⟨.bl _,H,I,U,q⟩
 |it a o i j g d q =>
  subst j g;obtain⟨t,rfl⟩:=n;cases (show u=Value.ref a from m);obtain⟨c,r,p,_⟩:=I.tuple d;exact SeqAt.RcNeAt.int_tuple i t (show s.heap.IsTuple a c.toArray from p) (by lia) X.prog X.w X.xe _ ⟨.bl _,H,I,U,q⟩
def rFm(K:W.Frag):R2:=λx y H Q=>lL K H->rEq x y H Q\/pV K false x y H Q
def B8(K:W.Frag):R2:=λx y H Q=>lL K H->rNe x y H Q\/pV K true x y H Q
structure Lfp(K:W.Frag)(L:Type) [DecidableEq L] where
 R:Hp->L->V->Prop
 mono:∀{H H':Hp}{x:L}{v:V},cb H H'->R H x v->R H' x v
 inj:∀{H:Hp}{x y:L}{v:V},lL K H->R H x v->R H y v->x=y
 deq:∀{H:Hp}{x y:L}{u v:V},lL K H->R H x u->R H y v->d8 K H 2 u v (decide (x=y))
 eq:∀{H:Hp}{x y:L}{u v:V}{Q:VK},lL K H->R H x u->R H y v->Q (.bl (decide (x=y))) H->rEq u v H Q\/pV K false u v H Q
 ne:∀{H:Hp}{x y:L}{u v:V}{Q:VK},lL K H->R H x u->R H y v->Q (.bl (!decide (x=y))) H->rNe u v H Q\/pV K true u v H Q
def FmV{K:W.Frag}{L:Type} [DecidableEq L] (A:Lfp K L)(H:Hp):(n:Nat)->Fm L n->V->Prop
 |0,x,v=>A.R H x v
 |n+1,f,v=>∃(a:Addr)(xs:List V),v=.ref a/\H a=some (.tup xs)/\FmL (FmV A H n) H f xs
theorem FmL.mono{α:Type}{R d:α->V->Prop}{H H':Hp}{f:List (T3a α)}{xs:List V}(h:FmL R H f xs)(k:∀x u,R x u->d x u)(s:cb H H'):FmL d H' f xs:=⟨h.1,λi t e=>by
 obtain⟨r,u,a,b,c⟩:=h.2 i t e;exact⟨r,u,a,s _ _ b,k _ _ c⟩⟩
theorem FmV.mono{K:W.Frag}{L:Type} [DecidableEq L] {A:Lfp K L}{H H':Hp}(s:cb H H'):∀{n:Nat}{f:Fm L n}{v:V},FmV A H n f v->FmV A H' n f v
 |0,_,_,h=>A.mono s h
 |n+1,_,_,h=>by
  obtain⟨a,xs,d,c,b⟩:=h;exact⟨a,xs,d,s _ _ c,b.mono (λ_ _ q=>FmV.mono s q) s⟩
theorem FmL.nil{α:Type}{R:α->V->Prop}{H:Hp}:FmL R H [] []:=⟨U,λi t e=>by simp at e⟩
theorem FmL.snoc{α:Type}{R:α->V->Prop}{H:Hp}{f:List (T3a α)}{xs:List V}{t:T3a α}{r:Addr}{u:V}(h:FmL R H f xs)(k:H r=some (.tup [.int t.1,.int t.2.1,u]))(q:R t.2.2 u):FmL R H (f++[t]) (xs++[.ref r]):=by
 refine⟨by simp[h.1],λi v e=>?_⟩;by_cases hi:i<f.length
 .rw[iP hi]at e;obtain⟨j,g,a,b,c⟩:=h.2 i v e;exact⟨j,g,by rw[iP (by rw[h.1];exact hi)];exact a,b,c⟩
 .have d:i=f.length:=by
   have:=(GI.mp e).1;simp at this;lia
  subst d;simp at e;subst e;exact⟨r,u,by rw[←h.1];simp,k,q⟩
theorem FmL.init{α:Type}{R:α->V->Prop}{H:Hp}{f:List (T3a α)}{xs:List V}{t:T3a α}(h:FmL R H (f++[t]) xs):∃(ys:List V)(r:Addr)(u:V),xs=ys++[.ref r]/\FmL R H f ys/\H r=some (.tup [.int t.1,.int t.2.1,u])/\R t.2.2 u:=by
 obtain⟨r,u,a,b,c⟩:=h.2 f.length t (by simp);have g:=h.1;rw[cK,gI]at g;rcases vr xs with d|⟨ys,y,d⟩
 .subst d;simp at g
 .rw[vJ]at d;subst d;have j:ys.length=f.length:=by simpa using g
  rw[←j]at a;simp at a;subst a;refine⟨ys,r,u,U,⟨j,λi v e=>?_⟩,b,c⟩;have hi:=(GI.mp e).1;obtain⟨m,l,k,o,n⟩:=h.2 i v (by rw[iP hi];exact e);rw[iP (by lia)]at k;exact⟨m,l,k,o,n⟩
theorem FmL.inj{α:Type}{R:α->V->Prop}{H:Hp}{f g:List (T3a α)}{xs:List V}(k:∀x y u,R x u->R y u->x=y)(h:FmL R H f xs)(h':FmL R H g xs):f=g:=by
 refine vf λi=>?_
 cases e:f[i]? with
 |none =>
  have:f.length<=i:=List.getElem?_eq_none_iff.mp e;rw[List.getElem?_eq_none_iff.mpr (by rw[←h'.1,h.1];exact this)]
 |some t =>
  have hi:=(GI.mp e).1;obtain⟨j,m⟩:∃j,g[i]?=some j:=⟨_,GH (l:=g) (i:=i) (by rw[←h'.1,h.1];exact hi)⟩;obtain⟨r,u,a,b,c⟩:=h.2 i t e;obtain⟨A,s,o,d,n⟩:=h'.2 i _ m;rw[a]at o;cases o;rw[b]at d;obtain⟨z,w,v⟩:=t;obtain⟨D,C,B⟩:=j;simp only at d c n;injection d with d;injection d with d;simp only[List.cons.injEq,V.int.injEq,and_true]at d;obtain⟨q,p,rfl⟩:=d;rw[m,q,p,k _ _ _ c n]
theorem FmV.inj{K:W.Frag}{L:Type} [DecidableEq L] {A:Lfp K L}{H:Hp}(e:lL K H):∀{n:Nat}{f g:Fm L n}{v:V},FmV A H n f v->FmV A H n g v->f=g
 |0,_,_,_,h,h'=>A.inj e h h'
 |n+1,_,_,_,h,h'=>by
  obtain⟨a,xs,l,k,j⟩:=h;obtain⟨o,m,c,b,d⟩:=h';rw[l]at c;cases c;rw[k]at b;cases b;exact FmL.inj (R:=FmV A H n) (λx y u q i=>FmV.inj e q i) j d
theorem FmL.deq{α:Type} [DecidableEq α] {R:α->V->Prop}{K:W.Frag}{H:Hp}{m:Nat}{f g:List (T3a α)}{xs ys:List V}(inj:∀x y u,R x u->R y u->x=y)(k:∀x y u v,R x u->R y v->d8 K H m u v (decide (x=y)))
  (h:FmL R H f xs)(h':FmL R H g ys):(∀(j:Nat)(x y:V),xs[j]?=some x->ys[j]?=some y->d8 K H (m+1) x y (decide (f[j]?=g[j]?)))/\((List.range (min xs.length ys.length)).all (λj=>decide (f[j]?=g[j]?)) && xs.length == ys.length)=decide (f=g):=by
 refine⟨λj x y l o=>?_,?_⟩
 .have P:j<f.length:=by rw[←h.1];exact(GI.mp l).1
  have E:j<g.length:=by rw[←h'.1];exact(GI.mp o).1
  have J:=GH P;have I:=GH E;obtain⟨r,u,a,b,c⟩:=h.2 j _ J;obtain⟨N,F,L,p,D⟩:=h'.2 j _ I;rw[l]at a;cases a;rw[o]at L;cases L;rw[J,I];generalize f[j]=t at *
  generalize g[j]=t' at *
  obtain⟨w,s,B⟩:=t;obtain⟨A,z,C⟩:=t';simp only at b p c D;by_cases G:r=N
  .subst G;rw[b]at p;injection p with p;injection p with p;simp only[List.cons.injEq,V.int.injEq,and_true]at p;obtain⟨z1,M,rfl⟩:=p;have:decide (some (w,s,B)=some (A,z,C))=true:=by rw[z1,M,inj _ _ _ c D];simp
   rw[this];exact .of (.same r)
  .have d:=d8.tup (K:=K) (H:=H) (n:=m) (f:=λi=>match i with|0=>decide (w=A)|1=>decide (s=z)|_=>decide (B=C)) G (SqT.of b) (SqT.of p) λi x y l o=>?_
   .have e:((List.range (min [V.int w,V.int s,u].length [V.int A,V.int z,F].length)).all (λi=>match i with|0=>decide (w=A)|1=>decide (s=z)|_=>decide (B=C)) && [V.int w,V.int s,u].length == [V.int A,V.int z,F].length)=decide (some (w,s,B)=some (A,z,C)):=by
     show((List.range 3).all (λi=>match i with|0=>decide (w=A)|1=>decide (s=z)|_=>decide (B=C)) && true)=_;have:List.range 3=[0,1,2]:=rfl;rw[this];simp only[nS,List.all_nil,Bool.and_true,Option.some.injEq,Prod.mk.injEq,Bool.decide_and]
    rw[e]at d;exact d
   .match i,l,o with
    |0,l,o=>cases l;cases o;exact .of (.flat U U)
    |1,l,o=>cases l;cases o;exact .of (.flat U U)
    |2,l,o=>cases l;cases o;exact k _ _ _ _ c D
    |i+3,l,_=>simp at l
 .rw[h.1,h'.1];by_cases e:f=g
  .subst e;simp
  .rw[decide_eq_false e];by_cases O:f.length=g.length
   .rw[Bool.and_eq_false_iff];left
    refine As.mpr λq=>e (vf λi=>?_)
    rw[jq]at q;by_cases hi:i<f.length
    .exact of_decide_eq_true (q i (jr.mpr (by lia)))
    .rw[List.getElem?_eq_none_iff.mpr (by lia),List.getElem?_eq_none_iff.mpr (by lia)]
   .simp[O]
theorem FmV.deq{K:W.Frag}{L:Type} [DecidableEq L] {A:Lfp K L}{H:Hp}(j:lL K H):∀{n:Nat}{f g:Fm L n}{u v:V},FmV A H n f u->FmV A H n g v->d8 K H (2*n+2) u v (decide (f=g))
 |0,f,g,_,_,h,h'=>A.deq j h h'
 |n+1,f,g,_,_,h,h'=>by
  obtain⟨a,xs,rfl,l,k⟩:=h;obtain⟨b,r,rfl,c,i⟩:=h';obtain⟨p,o⟩:=FmL.deq (R:=FmV A H n) (K:=K) (m:=2*n+2) (λx y u q d=>FmV.inj j q d) (λx y u v q d=>FmV.deq j q d) k i;by_cases e:a=b
  .subst e;rw[l]at c;cases c;have:f=g:=FmL.inj (R:=FmV A H n) (λx y u q d=>FmV.inj j q d) k i;rw[decide_eq_true this];exact .of (.same a)
  .have:=d8.tup e (SqT.of l) (SqT.of c) p;rw[o]at this;exact this
theorem o8{f:Value->Value->Sem Value}{r e:R2}(a:OpR X f r)(b:OpR X f e):OpR X f (λx y H Q=>r x y H Q\/e x y H Q):=λpins s σ H x y v u Q I d c h=>h.elim (a pins s σ H x y v u Q I d c) (b pins s σ H x y v u Q I d c)
theorem AL{k:Nat}(c:bP k X.A):OpR X (compareOp .Eq) (rFm X.K):=λpins s σ H x y v u Q I b a h=>o8 bq (AJ c) pins s σ H x y v u Q I b a (h (B7 I))
theorem AM{k:Nat}(c:bP k X.A):OpR X (compareOp .NotEq) (B8 X.K):=λpins s σ H x y v u Q I b a h=>o8 qz (AK c) pins s σ H x y v u Q I b a (h (B7 I))
theorem FmV.eq_to{K:W.Frag}{L:Type} [DecidableEq L] {A:Lfp K L}{H:Hp}{Q:VK}:∀{n:Nat}{f g:Fm L n}{u v:V},n<=20->FmV A H n f u->FmV A H n g v->Q (.bl (decide (f=g))) H->rFm K u v H Q
 |0,f,g,_,_,_,h,h',q=>λc=>A.eq c h h' q
 |n+1,f,g,_,_,hn,h,h',q=>λc=>by
  obtain⟨a,xs,rfl,o,l⟩:=h;obtain⟨b,k,rfl,i,e⟩:=h';obtain⟨t,s⟩:=FmL.deq (R:=FmV A H n) (K:=K) (m:=2*n+2) (λx y u q d=>FmV.inj c q d) (λx y u v q d=>FmV.deq c q d) l e;refine .inr <| .tt a b xs k U U (SqT.of o) (SqT.of i) _ (λj x y r p=>(t j x y r p).mono (by lia)) ?_;rw[if_neg (by decide),s];exact q
theorem w6(x y:Int):decide (V.int x=V.int y)=decide (x=y):=by
 by_cases e:x=y
 .rw[decide_eq_true e,e];simp
 .rw[decide_eq_false e];exact decide_eq_false λz=>e (V.int.inj z)
theorem xa(x y:Int):eqV (.int x) (.int y)=decide (x=y):=by
 show((x:Int) == (y:Int))=decide (x=y);by_cases e:x=y
 .rw[decide_eq_true e,e];simp
 .rw[decide_eq_false e];exact beq_eq_false_iff_ne.mpr e
def xb{K:W.Frag}:Lfp K Int where
 R _ x v:=v=.int x
 mono _ h:=h
 inj _ h h':=V.int.inj (h.symm.trans h')
 deq {H x y u v} _ h h':=by
  cases h;cases h';rw[←xa];exact .of (.flat U U)
 eq {H x y u v Q} _ h h' q:=by
  cases h;cases h';refine .inl ⟨U,?_⟩;rw[w6];exact q
 ne {H x y u v Q} _ h h' q:=by
  cases h;cases h';refine .inl ⟨U,?_⟩;rw[w6];exact q
abbrev SI2:=Str×Int
def tp2(p:SI2):List V:=[.str p.1,.int p.2]
theorem yJ{p q:SI2}(h:tp2 p=tp2 q):p=q:=by
 injection h with b a;injection a with a c;exact Prod.ext (V.str.inj b) (V.int.inj a)
def Vd(K:W.Frag)(H:Hp)(r:Addr)(x:SI2):Prop:=H r=some (.tup (tp2 x))\/ModT K r (tp2 x)
theorem Vd.sq{K:W.Frag}{H:Hp}{r:Addr}{x:SI2}(h:Vd K H r x):SqT K H r (tp2 x):=h.elim (λh=>SqT.of h) λh=>h.sq H
theorem Vd.mono{K:W.Frag}{H H':Hp}{r:Addr}{x:SI2}(s:cb H H')(h:Vd K H r x):Vd K H' r x:=h.imp (λh=>s _ _ h) id
theorem Vd.inj{K:W.Frag}{H:Hp}{r:Addr}{x y:SI2}(a:lL K H)(h:Vd K H r x)(h':Vd K H r y):x=y:=yJ (a r _ _ h.sq h'.sq)
theorem AN(x y:Str):eqV (.str x) (.str y)=decide (x=y):=by unfold eqV;rw[Bool.eq_iff_iff];simp
def fSI(x y:SI2)(j:Nat):Bool:=if j=0 then decide (x.1=y.1)else decide (x.2=y.2)
theorem pW(x y:SI2):((List.range (min (tp2 x).length (tp2 y).length)).all (fSI x y) && (tp2 x).length == (tp2 y).length)=decide (x=y):=by
 show((List.range 2).all (fSI x y) && (2 == 2:Bool))=_;obtain⟨d,c⟩:=x;obtain⟨b,a⟩:=y;unfold fSI;by_cases f:d=b <;> by_cases e:c=a <;> simp[jx,f,e]
theorem tI{K:W.Frag}{H:Hp}{n:Nat}{x y:SI2}(j:Nat)(u v:V)(a:(tp2 x)[j]?=some u)(b:(tp2 y)[j]?=some v):d8 K H n u v (fSI x y j):=by
 match j,a,b with
 |0,a,b =>
  cases a;cases b;show d8 K H n _ _ (decide (x.1=y.1));rw[←AN];exact .of (.flat U U)
 |1,a,b =>
  cases a;cases b;show d8 K H n _ _ (decide (x.2=y.2));rw[←xa];exact .of (.flat U U)
 |j+2,a,_=>simp[tp2]at a
theorem Vd.deq{K:W.Frag}{H:Hp}{n:Nat}{a b:Addr}{x y:SI2}(c:lL K H)(h:Vd K H a x)(h':Vd K H b y):d8 K H (n+1) (.ref a) (.ref b) (decide (x=y)):=by
 by_cases e:a=b
 .subst e;rw[decide_eq_true (Vd.inj c h h')];exact .of (.same a)
 .have:=d8.tup (n:=n) e h.sq h'.sq (f:=fSI x y) tI;rw[pW]at this;exact this
def LVd{K:W.Frag}:Lfp K SI2 where
 R H x v:=∃r,v=.ref r/\Vd K H r x
 mono s:=λ⟨r,e,h⟩=>⟨r,e,h.mono s⟩
 inj {H x y v} hT h h':=by
  obtain⟨r,rfl,h⟩:=h;obtain⟨a,e,h'⟩:=h';cases e;exact Vd.inj hT h h'
 deq {H x y u v} hT h h':=by
  obtain⟨r,rfl,h⟩:=h;obtain⟨a,rfl,h'⟩:=h';exact Vd.deq (n:=1) hT h h'
 eq {H x y u v Q} hT h h' q:=by
  obtain⟨r,rfl,h⟩:=h;obtain⟨a,rfl,h'⟩:=h';refine .inr (.tt r a _ _ U U h.sq h'.sq (fSI x y) tI ?_);rw[if_neg (by decide),pW];exact q
 ne {H x y u v Q} hT h h' q:=by
  obtain⟨r,rfl,h⟩:=h;obtain⟨a,rfl,h'⟩:=h';refine .inr (.tt r a _ _ U U h.sq h'.sq (fSI x y) tI ?_);rw[if_pos U,pW];exact q
def PdV(K:W.Frag)(H:Hp)(t:Addr)(p:SI2×SI2):Prop:=∃a b,H t=some (.tup [.ref a,.ref b])/\Vd K H a p.1/\Vd K H b p.2
theorem PdV.mono{K:W.Frag}{H H':Hp}{t:Addr}{p:SI2×SI2}(s:cb H H')(h:PdV K H t p):PdV K H' t p:=by obtain⟨a,b,e,d,c⟩:=h;exact⟨a,b,s _ _ e,d.mono s,c.mono s⟩
def fPd(x y:SI2×SI2)(j:Nat):Bool:=if j=0 then decide (x.1=y.1)else decide (x.2=y.2)
theorem pX(x y:SI2×SI2)(a b c d:V):((List.range (min [a,b].length [c,d].length)).all (fPd x y) && [a,b].length == [c,d].length)=decide (x=y):=by
 show((List.range 2).all (fPd x y) && (2 == 2:Bool))=_;obtain⟨h,g⟩:=x;obtain⟨f,e⟩:=y;unfold fPd;by_cases j:h=f <;> by_cases i:g=e <;> simp[jx,j,i]
theorem tJ{K:W.Frag}{H:Hp}{n:Nat}{x y:SI2×SI2}{a b c d:Addr}(g:lL K H)(l:Vd K H a x.1)(k:Vd K H b x.2)(i:Vd K H c y.1)(h:Vd K H d y.2)(j:Nat)(u v:V)(e:[V.ref a,V.ref b][j]?=some u)(f:[V.ref c,V.ref d][j]?=some v):d8 K H (n+1) u v (fPd x y j):=by
 match j,e,f with
 |0,e,f=>cases e;cases f;exact Vd.deq g l i
 |1,e,f=>cases e;cases f;exact Vd.deq g k h
 |j+2,e,_=>simp at e
theorem mT{α:Type} [DecidableEq α] (x y:α):decide (some x=some y)=decide (x=y):=by
 by_cases e:x=y
 .rw[decide_eq_true e,e];exact decide_eq_true U
 .rw[decide_eq_false e];exact decide_eq_false λz=>e (Option.some.inj z)
def RPd(K:W.Frag)(H:Hp):Option (SI2×SI2)->V->Prop
 |none,v=>v=.int 0
 |some p,v=>∃t,v=.ref t/\PdV K H t p
def LPd{K:W.Frag}:Lfp K (Option (SI2×SI2)) where
 R:=RPd K
 mono {H H' x v} s h:=by
  cases x with
  |none=>exact h
  |some p=>obtain⟨t,e,h⟩:=h;exact⟨t,e,h.mono s⟩
 inj {H x y v} hT h h':=by
  cases x with
  |none =>
   cases y with
   |none=>rfl
   |some p=>obtain⟨t,e,_⟩:=h';rw[show v=.int 0 from h]at e;cases e
  |some p =>
   obtain⟨t,rfl,a,b,e,j,i⟩:=h;cases y with
   |none=>cases (show V.ref t=.int 0 from h')
   |some q =>
    obtain⟨k,g,r,o,l,d,c⟩:=h';cases g;rw[e]at l;cases l;rw[Prod.ext (Vd.inj hT j d) (Vd.inj hT i c)]
 deq {H x y u v} hT h h':=by
  cases x with
  |none =>
   cases (show u=.int 0 from h);cases y with
   |none=>cases (show v=.int 0 from h');exact .of (.flat U U)
   |some p=>obtain⟨t,rfl,a,b,e,_⟩:=h';exact .it (SqT.of e)
  |some p =>
   obtain⟨t,rfl,a,b,e,j,i⟩:=h;cases y with
   |none=>cases (show v=.int 0 from h');exact .ti (SqT.of e)
   |some q =>
    obtain⟨k,rfl,r,o,g,d,c⟩:=h';rw[mT];by_cases w:t=k
    .subst w;rw[e]at g;cases g;rw[decide_eq_true (Prod.ext (Vd.inj hT j d) (Vd.inj hT i c))];exact .of (.same t)
    .have:=d8.tup (n:=1) w (SqT.of e) (SqT.of g) (f:=fPd p q) (tJ (n:=0) hT j i d c);rw[pX]at this;exact this
 eq {H x y u v Q} hT h h' q:=by
  cases x with
  |none =>
   cases (show u=.int 0 from h);cases y with
   |none=>cases (show v=.int 0 from h');exact .inl ⟨U,q⟩
   |some p=>obtain⟨t,rfl,a,b,e,_⟩:=h';exact .inr (.it t _ 0 U U (SqT.of e) q)
  |some p =>
   obtain⟨t,rfl,a,b,e,j,i⟩:=h;cases y with
   |none=>cases (show v=.int 0 from h');exact .inr (.ti t _ 0 U U (SqT.of e) q)
   |some m =>
    obtain⟨k,rfl,r,o,g,d,c⟩:=h';refine .inr (.tt t k _ _ U U (SqT.of e) (SqT.of g) (fPd p m) (tJ (n:=59) hT j i d c) ?_);rw[if_neg (by decide),pX,←mT];exact q
 ne {H x y u v Q} hT h h' q:=by
  cases x with
  |none =>
   cases (show u=.int 0 from h);cases y with
   |none=>cases (show v=.int 0 from h');exact .inl ⟨U,q⟩
   |some p=>obtain⟨t,rfl,a,b,e,_⟩:=h';exact .inr (.it t _ 0 U U (SqT.of e) q)
  |some p =>
   obtain⟨t,rfl,a,b,e,j,i⟩:=h;cases y with
   |none=>cases (show v=.int 0 from h');exact .inr (.ti t _ 0 U U (SqT.of e) q)
   |some m =>
    obtain⟨k,rfl,r,o,g,d,c⟩:=h';refine .inr (.tt t k _ _ U U (SqT.of e) (SqT.of g) (fPd p m) (tJ (n:=59) hT j i d c) ?_);rw[if_pos U,pX,←mT];exact q
theorem o9(p:Pos)(a b:Int)(c:Value):∀(l:List Value),TriplesOk l->codeAmong p (l++[rawInt a,rawInt b,c])=(codeAmong p l).or (codeAmong p [rawInt a,rawInt b,c])
 | [],_=>rfl
 | .int x t :: .int y u :: d :: rest,h=>by
  have e:=o9 p a b c rest h;show codeAmong p (.int x t :: .int y u :: d :: (rest++[rawInt a,rawInt b,c]))=_;rw[codeAmong,codeAmong];split
  .rfl
  .exact e
def dG(H:Hp)(P:Addr)(L:List (Pos×Str)):Prop:=∃ps,H P=some (.tbl ps)/\TriplesOk ps.toList/\∀p∈L,codeAmong p.1 ps.toList=none\/∃(b:Addr)(a:Obj),codeAmong p.1 ps.toList=some (.ref b)/\H b=some (.frz a TTh)/\qY a p.2
theorem dG.same{H H':Hp}{P:Addr}{L:List (Pos×Str)}(h:dG H P L)(s:aq H H'):dG H' P L:=by
 obtain⟨ps,i,g,f⟩:=h;exact⟨ps,s _ _ i,g,λp e=>(f p e).imp id λ⟨c,o,a,b,d⟩=>⟨c,o,a,s _ _ b,d⟩⟩
theorem dG.new{H:Hp}{P:Addr}{L:List (Pos×Str)}(h:H P=some (.tbl #[])):dG H P L:=⟨#[],h,trivial,λ_ _=>.inl U⟩
def DG(P:Addr)(pos:Pos)(qual:Str)(mk:Value->Addr->Value->Obj)(clos:List (Str×Addr)):TE:=λ_ H Q=>∃L,(pos,qual)∈L/\(∀p∈L,p.1.line=pos.line->p.1.col=pos.col->p.2=qual)/\dG H P L /\
 ∀(f e:Addr)(d:Obj)(g c:Value)(H':Hp),H f=none->(∀b o,b≠P->H b=some o->H' b=some o)->H' f=some (.frz (mk g e c) TTh)->H' e=some (.frz d TTh)->qY d qual->dG H' P L->(∀x y a,clos.lookup x=some a->clos.lookup y=some a->x=y)->Q (.ref f) H'
theorem xc{params:Arguments}{body:Expr}{scope:Scope}{pos:Pos}{c P:Addr}{clos:List (Str×Addr)}(zO:X.env.code=.ref c)
  (C:W.CodeHd X.base c P)(hb:X.base.BuiltinsAt X.mg P)(V:closureFor scope X.env=pure clos)(S:∀p∈clos,X.env.cells.lookup p.1=some p.2)(B9:defaultsOf params X.env=([],[]):=by rfl) :
  PE X (.Lambda params body scope pos) (DG P pos (X.env.qual ++ "<lambda>") (λpm c' ctv=>W.kla_obj "<lambda>" (X.env.qual ++ "<lambda>") params body scope clos pm c' ctv) clos):=by
 intro pins s σ H Q I h;obtain⟨L,hL,b0,⟨ps,r,N,G⟩,k⟩:=h;have B:s.heap.get? P=some (W.tabObj ps):=I.hok P _ r;have J:s.heap.Ns mainGlobals X.mg:=I.mod.glob.keeps I.bk;have a8:mainGlobals≠P:=λq=>by
  obtain⟨o,es,ep,e,M,_⟩:=J;rw[q,B]at e;cases e;cases M
 have inj:∀x y a,clos.lookup x=some a->clos.lookup y=some a->x=y:=λx y a E h2=>I.ok.inj x y a (S _ (mem_of_lookup E)) (S _ (mem_of_lookup h2))
 rcases G _ hL with a7|⟨c',j,hf,K,A⟩
 .refine W.kla_eval B9 (W.kla_makeFunction V I.ok.glob J zO (C.keeps I.bk) B N a7 a8 (hb.keeps I.bk) λc' ctv h' tk a5 l R DH O=>?_);obtain⟨b1,j,vs,t,e2,a6,a9,hv⟩:=DH;cases e2;have T:∀b,s.heap.objs.size<=b->H b=none:=λb f=>I.hok.fresh f
  have Y:P<s.heap.objs.size:=Heap.lt_size B;have a4:c'≠P:=λz=>by rw[z]at l;exact absurd Y (zq.mpr l)
  have g:s.heap.objs.size<=h'.objs.size:=yc l (yj R);have a3:h'.objs.size≠P:=λz=>by rw[z]at g;exact absurd Y (zq.mpr g)
  have a2:h'.objs.size≠c':=yg R;have m:=T _ g;have K:=T _ l;have i:∀{b:Addr}{u:HO},b≠P->H b=some u->upd (upd (upd H P (.tbl (ps ++ #[rawInt pos.line,rawInt pos.col,.ref c']))) c' (.frz j TTh)) h'.objs.size (.frz (W.kla_obj "<lambda>" (X.env.qual ++ "<lambda>") params body scope clos ((X.mg "__name__").getD .none) c' ctv) TTh) b=some u:=λ{b u} f e=>by
   rw[ay (bf e m),ay (bf e K),ay f];exact e
  have a0:upd (upd (upd H P (.tbl (ps ++ #[rawInt pos.line,rawInt pos.col,.ref c']))) c' (.frz j TTh)) h'.objs.size (.frz (W.kla_obj "<lambda>" (X.env.qual ++ "<lambda>") params body scope clos ((X.mg "__name__").getD .none) c' ctv) TTh) P=some (.tbl (ps ++ #[rawInt pos.line,rawInt pos.col,.ref c'])):=by
   rw[ay a3.symm,ay a4.symm,ab]
  have F:∀{b:Addr},H b=none->b≠P:=λe z=>by rw[z,r]at e;cases e
  have keep:∀b o,b≠P->s.heap.get? b=some o->(h'.push (W.kla_obj "<lambda>" (X.env.qual ++ "<lambda>") params body scope clos ((X.mg "__name__").getD .none) c' ctv)).get? b=some o:=λb o f e=>Heap.get?_push_of_some _ (a5 b o f e)
  have un:Un X.fs [] H (upd (upd (upd H P (.tbl (ps ++ #[rawInt pos.line,rawInt pos.col,.ref c']))) c' (.frz j TTh)) h'.objs.size (.frz (W.kla_obj "<lambda>" (X.env.qual ++ "<lambda>") params body scope clos ((X.mg "__name__").getD .none) c' ctv) TTh)) s.heap (h'.push (W.kla_obj "<lambda>" (X.env.qual ++ "<lambda>") params body scope clos ((X.mg "__name__").getD .none) c' ctv)):=by
   refine⟨λb o e n _ _=>keep b o (F n) e,λb o e n _ _=>⟨o.slots,keep b o (F n) e⟩,λb o e n _=>?_,λb o e _=>?_,λb xs e=>i (λz=>by rw[z,r]at e;cases e) e,λb o u e=>i (λz=>by rw[z,r]at e;cases e) e,λb a1 e=>?_⟩
   .have f:=Heap.lt_size e;rw[ay (xS (xT f g)),ay (xS (xT f l)),ay (F n)];exact n
   .by_cases f:b=P
    .subst f;exact⟨_,Heap.get?_push_of_some _ O⟩
    .exact⟨o,keep b o f e⟩
   .by_cases f:b=P
    .subst f;rw[r]at e;cases e;exact⟨_,a0⟩
    .exact⟨#[],by rw[i f e];simp⟩
  have hok:HOk X.prog X.w (upd (upd (upd H P (.tbl (ps ++ #[rawInt pos.line,rawInt pos.col,.ref c']))) c' (.frz j TTh)) h'.objs.size (.frz (W.kla_obj "<lambda>" (X.env.qual ++ "<lambda>") params body scope clos ((X.mg "__name__").getD .none) c' ctv) TTh)) (h'.push (W.kla_obj "<lambda>" (X.env.qual ++ "<lambda>") params body scope clos ((X.mg "__name__").getD .none) c' ctv)):=λb u e=>by
   by_cases E:b=h'.objs.size
   .subst E;rw[ab]at e;cases e;exact qX (Heap.get?_push_size _ U)
   rw[ay E]at e;by_cases h2:b=c'
   .subst h2;rw[ab]at e;cases e;exact qX (Heap.get?_push_of_some _ a6)
   rw[ay h2]at e;by_cases h3:b=P
   .subst h3;rw[ab]at e;cases e;exact Heap.get?_push_of_some _ O
   rw[ay h3]at e;refine(I.hok b u e).stay (λd v M q=>keep d v ?_ q) (λd q=>i (λz=>by rw[z,r]at q;cases q) q) λd xs q=>i (λz=>by rw[z,r]at q;cases q) q
   rcases M with rfl|M
   .exact h3
   .exact λz=>by rw[z,r]at M;cases M
  have I2:=I.un (t':=tk) un hok;have A:qY j (X.env.qual ++ "<lambda>"):=⟨vs,t,a9,hv⟩;have Z:upd (upd (upd H P (.tbl (ps ++ #[rawInt pos.line,rawInt pos.col,.ref c']))) c' (.frz j TTh)) h'.objs.size (.frz (W.kla_obj "<lambda>" (X.env.qual ++ "<lambda>") params body scope clos ((X.mg "__name__").getD .none) c' ctv) TTh) c'=some (.frz j TTh):=(ay a2.symm).trans ab;refine⟨.ref h'.objs.size,_,I2,U,k _ c' j _ ctv _ m (λb o f e=>i f e) ab Z A ⟨_,a0,?_,λp hp=>?_⟩ inj⟩
  .rw[Array.toList_append];exact TriplesOk_snoc _ _ _ _ N
  .rw[Array.toList_append];show codeAmong p.1 (ps.toList++[rawInt pos.line,rawInt pos.col,.ref c'])=none\/∃(d:Addr)(j:Obj),codeAmong p.1 (ps.toList++[rawInt pos.line,rawInt pos.col,.ref c'])=some (.ref d)/\_;rw[o9 _ _ _ _ _ N];rcases G p hp with q|⟨d,od,q1,q2,q3⟩
   .rw[q];show codeAmong p.1 [rawInt pos.line,rawInt pos.col,.ref c']=none\/∃(d:Addr)(j:Obj),codeAmong p.1 [rawInt pos.line,rawInt pos.col,.ref c']=some (.ref d)/\_;by_cases e:p.1.line=pos.line/\p.1.col=pos.col
    .have e3:codeAmong p.1 [rawInt pos.line,rawInt pos.col,.ref c']=some (.ref c'):=by
      show(if ((pos.line:Int) == (p.1.line:Int) && (pos.col:Int) == (p.1.col:Int))=true then some (Value.ref c')else none)=_;rw[e.1,e.2];simp
     exact .inr ⟨c',j,e3,Z,by rw[b0 p hp e.1 e.2];exact A⟩
    .left
     show(if ((pos.line:Int) == (p.1.line:Int) && (pos.col:Int) == (p.1.col:Int))=true then some (Value.ref c')else none)=none;rw[if_neg λz=>e ?_];rw[AI,beq_iff_eq,beq_iff_eq]at z;lia
   .exact .inr ⟨d,od,by rw[q1];rfl,i (λz=>by rw[z,r]at q2;cases q2) q2,q3⟩
 .refine W.kla_eval B9 (W.kla_makeFunctionHit V I.ok.glob J zO (C.keeps I.bk) B N hf (hb.keeps I.bk) λctv h' tk kp g=>?_);have m:H h'.objs.size=none:=I.hok.fresh g;have D:aq H (upd H h'.objs.size (.frz (W.kla_obj "<lambda>" (X.env.qual ++ "<lambda>") params body scope clos ((X.mg "__name__").getD .none) c' ctv) TTh)):=af m _;have keep:∀b o,s.heap.get? b=some o->(h'.push (W.kla_obj "<lambda>" (X.env.qual ++ "<lambda>") params body scope clos ((X.mg "__name__").getD .none) c' ctv)).get? b=some o:=λb o e=>Heap.get?_push_of_some _ (kp b o e)
  have un:Un X.fs [] H (upd H h'.objs.size (.frz (W.kla_obj "<lambda>" (X.env.qual ++ "<lambda>") params body scope clos ((X.mg "__name__").getD .none) c' ctv) TTh)) s.heap (h'.push (W.kla_obj "<lambda>" (X.env.qual ++ "<lambda>") params body scope clos ((X.mg "__name__").getD .none) c' ctv)):=by
   refine⟨λb o e n _ _=>keep b o e,λb o e n _ _=>⟨o.slots,keep b o e⟩,λb o e n _=>?_,λb o e _=>⟨o,keep b o e⟩,λb xs e=>D _ _ e,λb o u e=>D _ _ e,λb a1 e=>⟨#[],by rw[D _ _ e];simp⟩⟩;have f:=Heap.lt_size e;rw[ay (xS (xT f g))];exact n
  have hok:HOk X.prog X.w (upd H h'.objs.size (.frz (W.kla_obj "<lambda>" (X.env.qual ++ "<lambda>") params body scope clos ((X.mg "__name__").getD .none) c' ctv) TTh)) (h'.push (W.kla_obj "<lambda>" (X.env.qual ++ "<lambda>") params body scope clos ((X.mg "__name__").getD .none) c' ctv)):=λb u e=>by
   by_cases E:b=h'.objs.size
   .subst E;rw[ab]at e;cases e;exact qX (Heap.get?_push_size _ U)
   rw[ay E]at e;exact(I.hok b u e).stay (λd v _ q=>keep d v q) (λd q=>D _ _ q) λd xs q=>D _ _ q
  have I2:=I.un (t':=tk) un hok;exact⟨.ref h'.objs.size,_,I2,U,k _ c' j _ ctv _ m (λb o _ e=>D _ _ e) ab (D _ _ K) A (dG.same ⟨ps,r,N,G⟩ D) inj⟩
theorem AO{CX:CXT}{P:Program}{w:World}{K:W.Frag}{mg:Str->Option Value}{base:Heap}{k:Nat}{f c':Addr}{name qual:Str}{params:Arguments}{body:Expr}{scope:Scope}{cl:List (Str×Addr)}{pm ctv:Value}{N ps:List Str}{sp:Sp}
  (S:pR N ps scope cl)(inj:∀x y c,cl.lookup x=some c->cl.lookup y=some c->x=y)
  (len:∀vs H Q E,sp vs H Q E->vs.length=ps.length)
  (gR:∀(A:Around)(g:List Env)(s:Shared)(H:Hp)(vs:List V)(Q:VK)(E:XK),bP k (A.deeper (W.envX qual scope s.heap.objs.size f (.ref c') cl))->sp vs H Q E ->
   (∃M,H f=some (.frz (W.kla_obj name qual params body scope cl pm c' ctv) TTh)/\H c'=some (.frz M TTh)/\qY M qual)/\∃ws,ft H cl ws/\(∀x∈N.drop ps.length,∀v,ws.lookup x=some v->scope.names.lookup x=some .free) /\
   ((∀c∈cl.map (·.2),base.get? c=none/\c ∉ frs g)->∃t:TE,PE (cxC CX P w K mg base N qual scope f (.ref c') cl A g s H E) body t/\t (kI N ps vs ws) (hideL H (cl.map (·.2))) λv H'=>(∀c∈cl.map (·.2),H' c=none)->Q v (backL H H' (cl.map (·.2))))) :
  aL P w K mg base CX (k+1) f (W.kla_fn name qual params body scope cl pm (.ref c') ctv) ps sp:=by
 refine⟨len,λA g s H b0 us vs Q E hr l hb r R=>?_⟩;have hl:=len _ _ _ _ R;obtain⟨⟨M,ef,ec,a0,t',a7,a6⟩,ws,Y,uc,Ca⟩:=gR A g s H vs Q E (hr.deeper _) R;obtain⟨t,ht,hq⟩:=Ca λc D=>by
  obtain⟨o,e⟩:=Y.fzs c D;refine⟨?_,λz=>by rw[l.frf c z]at e;cases e⟩;cases eb:base.get? c with
  |none=>rfl
  |some ob=>rw[(l.bs c ob eb).2]at e;cases e
 have a2:s.heap.NoLimit:=l.mod.nolimit.keeps λb o e=>(l.bs b o e).1
 have eo:s.heap.get? f=some (W.kla_obj name qual params body scope cl pm c' ctv):=(l.hok f _ ef).1;have a9:s.heap.get? c'=some M:=(l.hok c' _ ec).1;have a3:us.length=ps.length:=by rw[←r.length];exact hl
 have a1:ps.Nodup:=by rw[←S.pre];exact S.nd.sublist (ro _ _)
 have fz:=Y.fzs;have T:∀{x:Str}{c:Addr},cl.lookup x=some c->c∈cl.map (·.2):=λe=>mO e
 refine W.kla_callFunE hr.depth eo U S.co S.gen U ⟨c',M,a0,t',U,a9,a7,a6⟩ (hb _ _ _ _ ?_);refine wpAny_newFunctionEnv S.nocell (λx n=>S.par x.1 (ri n).1) (λB a5 a4=>?_) S.kind;have j:∀b o,s.heap.get? b=some o->B.get? b=some o:=λb o e=>a4.extBut b o (xS (Heap.lt_size e)) (Heap.get?_push_of_some _ e)
 refine⟨a2.keeps j,W.kla_codeExpr ?_⟩;have G:∀{b:Addr},H b=none->hideL H (cl.map (·.2)) b=none:=λh=>gq h
 have I:Inv (cxC CX P w K mg base N qual scope f (.ref c') cl A g s H E) [] (kI N ps vs ws) (hideL H (cl.map (·.2))) { s with heap:=B,toks:=s.toks+(ps.zip us).length }:=by
  have F:∀b:Addr,b ∉ (cxC CX P w K mg base N qual scope f (.ref c') cl A g s H E).ex:=λb z=>absurd (show b∈([]:List Addr)from z) (by simp)
  refine⟨⟨l.mod,S.kind,U,U,w5 _,λx y c L m=>inj x y c L m,λx n=>?_,λx c hf=>?_,λ_=>hr.hd,Around.frames_deeper l.frames,.inr ⟨U,U⟩,λb z=>absurd z (F b),λb o e=>⟨(l.bs b o e).1,G (l.bs b o e).2⟩,l.bsz,λb _ _=>F b,λb z=>absurd z (F b),l.funs,λb hb=>G (l.frf b hb)⟩,
   rfl,l.bare,Un.kept j,⟨_,a5,λi x v L m h3=>?_⟩,λx c h=>?_,G (l.hok.fresh (w5 _)),λx c h=>j3 (T h),λp Z=>absurd (show p∈([]:List (Addr×Obj))from Z) (by simp),(l.hok.hideL fz).kept j,?_⟩
  .have n:scope.names.lookup x=some .cell\/scope.names.lookup x=some .free:=n;rcases n with n|n
   .exact absurd U (S.nocell _ (mem_of_lookup n))
   .exact S.has _ (mem_of_lookup n) U
  .exact absurd (show false=true from hf) Bool.false_ne_true
  .have L:N[i]?=some x:=L;unfold kI at m;by_cases hi:i<vs.length
   .rw[iP (by simpa using hi),fo]at m;have ha:vs[i]?=some v:=by
     cases e:vs[i]? with
     |none=>rw[e]at m;cases m
     |some a=>rw[e]at m;cases m;rfl
    obtain⟨u,hu,C⟩:=r.get ha;have Z:ps[i]?=some x:=by rw[←S.pre,List.getElem?_take_of_lt (by lia)];exact L
    exact⟨u,C,.inl ⟨S.par x (GJ Z),tH a1 Z hu a3⟩⟩
   .rw[lg (by simpa using hi),fo,bx]at m;cases e:(N.drop ps.length)[i-vs.length]? with
    |none=>rw[e]at m;cases m
    |some y =>
     rw[e]at m;have m:some (ws.lookup y)=some (some v):=m;have m:=Option.some.inj m;have hy:y=x:=by
      rw[List.getElem?_drop,show ps.length+(i-vs.length)=i by lia,L]at e;exact(Option.some.inj e).symm
     subst hy;obtain⟨c,o,u,e1,e2,e3,C⟩:=Y.2 y v m;exact⟨u,C,.inr ⟨.inr (uc y (GJ e) v m),c,e1,o,j _ _ (l.hok c _ e2).1,e3⟩⟩
  .obtain⟨o,v,e,d⟩:=Y.1 c (T h);exact⟨v,o,j _ _ (l.hok c _ e).1,d⟩
  .unfold kI;show _=N.length;have b1:ps.length<=N.length:=by have:=congrArg List.length S.pre;rw[ip]at this;lia
   rw[cK,bx,bx,jv];lia
 refine wpAny_mono (ht [] _ (kI N ps vs ws) _ _ I hq) (λu X hs=>?_) λe X hs=>hs
 have a8:∀{O:St}{H':Hp}{v:V}{u:Value},Inv (cxC CX P w K mg base N qual scope f (.ref c') cl A g s H E) [] O H' X->RelV v u->((∀c∈cl.map (·.2),H' c=none)->Q v (backL H H' (cl.map (·.2))))->CE g P w H s Q u X:=λ{O H' v u} J C q=>by
  have un:Un (frs g) [] (hideL H (cl.map (·.2))) H' s.heap X.heap:=J.base;have nc:∀c∈cl.map (·.2),H' c=none:=λc D=>by
   obtain⟨⟨x,d⟩,hm,rfl⟩:=en.mp D;obtain⟨o,e⟩:=fz d D;exact un.free d o (l.hok d _ e).1 (j3 D) (by simp)
  refine⟨v,backL H H' (cl.map (·.2)),J.os,J.bare,un.backL fz,J.hok.backL fz nc λc D o e=>?_,C,q nc⟩;refine un.keep c o (l.hok c _ e).1 (j3 D) (λz=>?_) (by simp);rw[l.frf c z]at e;cases e
 obtain⟨v,H',J,C,q⟩:=hs;exact a8 J C q
def zP(st:Stmt)(k:Nat):Expr:=match st with
 | .Assign _ (.Call _ as _ _) _=>as.getD k (.Name "" ⟨0,0,0,0⟩)
 | .Return (some (.Call _ as _ _)) _=>as.getD k (.Name "" ⟨0,0,0,0⟩)
 |_=>.Name "" ⟨0,0,0,0⟩
def pY(e:Expr):Arguments:=match e with
 | .Lambda a _ _ _=>a
 |_=>gk (.Pass ⟨0,0,0,0⟩)
def n9(e:Expr):Expr:=match e with
 | .Lambda _ b _ _=>b
 |e=>e
def j4(e:Expr):Scope:=match e with
 | .Lambda _ _ s _=>s
 |_=>ak (.Pass ⟨0,0,0,0⟩)
def rb(e:Expr):Pos:=match e with
 | .Lambda _ _ _ p=>p
 |_=>⟨0,0,0,0⟩
theorem xf{qual:Str}{ps:List Str}{e:Expr}{f c':Addr}{cl:List (Str×Addr)}{pm ctv:Value}{N:List Str}{k:Nat}{sp:Sp}(S:pR N ps (j4 e) cl)(inj:∀x y c,cl.lookup x=some c->cl.lookup y=some c->x=y)
  (m:∀us:List Value,us.length=ps.length->bindArgs (W.kla_fn "<lambda>" qual (pY e) (n9 e) (j4 e) cl pm (.ref c') ctv) ⟨us,[]⟩=pure (ps.zip us))
  (len:∀vs H Q E,sp vs H Q E->vs.length=ps.length)
  (z:∀(A:Around)(d:List Env)(s:Shared)(H:Hp)(vs:List V)(Q:VK)(E:XK),bP k (A.deeper (W.envX qual (j4 e) s.heap.objs.size f (.ref c') cl))->sp vs H Q E ->
   ∃ws,i6 H f c' (W.kla_obj "<lambda>" qual (pY e) (n9 e) (j4 e) cl pm c' ctv) qual cl ws/\(∀y∈N.drop ps.length,∀v,ws.lookup y=some v->(j4 e).names.lookup y=some .free) /\
   ((∀c∈cl.map (·.2),base.get? c=none/\c ∉ frs d)->∃t:TE,PE (cxC CX0 P w K mg base N qual (j4 e) f (.ref c') cl A d s H E).nox (n9 e) t/\t (kI N ps vs ws) (hideL H (cl.map (·.2))) λv H'=>(∀c∈cl.map (·.2),H' c=none)->Q v (backL H H' (cl.map (·.2))))) :
  HFn P w K mg base (k+1) f sp:=by
 refine⟨_,ps,AO (name := "<lambda>") (qual:=qual) (c':=c') (params:=pY e) (body:=n9 e) (pm:=pm) (ctv:=ctv) S inj len λA d s H vs Q E i g=>?_,.all λus j=>?_⟩
 .obtain⟨ws,⟨u,⟨h,r,q⟩,p⟩,o,n⟩:=z A d s H vs Q E i g;refine⟨⟨h,u,r,q⟩,ws,p,o,λl=>?_⟩;obtain⟨t,a,b⟩:=n l;exact⟨t,a.nox,b⟩
 .exact m us j
inductive TFn(K:W.Frag)(x:Str)(st:Stmt):Prop
 |mk {f c t:Addr}{fd:FuncData}(a:W.nsIn K mainGlobals x=some (some (.ref f)))(F:Fun K x x st f fd)(hc:fd.code=.ref c)(ht:W.tabIn K x=some (c,t))
theorem tfn_mk{K:W.Frag}{x:Str}{st:Stmt}{f c t:Addr}{g kV doc pm n:Value}{d p:Option Addr}{b:Array (Option Value)}{j:Value}{i:Option Addr}{vs:Array Value}{h:Array (Option Value)}(a:W.nsIn K mainGlobals x=some (some (.ref f)))
  (l:K.lookup f=some ⟨g,d,.func (W.fnOf x x (gk st) (du st) (ak st) .none kV doc pm p (.ref c) n),b⟩)(o:W.codeIn K (.ref c) x=true)(m:W.keepIn K (.ref f)=true)(k:K.lookup c=some ⟨j,i,.fields vs,h⟩)(e:vs[11]?=some (.ref t)):TFn K x st :=
 ⟨a,fun_mk l o m,U,tab_mk a l k e⟩
theorem mkT{P:Program}{w:World}{K:W.Frag}{mg:Str->Option Value}{base:Heap}{k:Nat}{x:Str}{ps:List Str}{sp:Sp}{st:Stmt}(Z:Zb P w K mg base)(h:TFn K x st)(e:∀q∈(W.tabIn K x).toList,W.CodeHd base q.1 q.2/\base.BuiltinsAt mg q.2)
  (O:∀{f c t:Addr}{fd:FuncData},Fun K x x st f fd->fd.code=.ref c->W.tabIn K x=some (c,t)->W.CodeHd base c t/\base.BuiltinsAt mg t->aL P w K mg base CX0 k f fd ps sp)
  (b:∀{f:Addr}{fd:FuncData},Fun K x x st f fd->Binds K fd ps []:=by exact λF=>F.binds λ_ _ _ _ _ _=>by first|exact L2.lb0 rfl|exact L2.lb1 λ_=>U|exact L2.lb2 λ_ _=>U|exact L2.lb3 λ_ _ _=>U|exact L2.lb4 λ_ _ _ _=>U|exact L2.lb5 λ_ _ _ _ _=>U|exact L2.lb6 λ_ _ _ _ _ _=>U|exact L2.lb7 λ_ _ _ _ _ _ _=>U|exact L2.lb8 λ_ _ _ _ _ _ _ _=>U|exact L2.lb9 λ_ _ _ _ _ _ _ _ _=>U):Callee P w K mg base k x ps sp:=by
 cases h with|mk a F i d=>exact⟨_,_,O F i d (e _ (by rw[d];exact fb)),b F,F.kp,Z.g a⟩
theorem uu{K:W.Frag}{x:Str}{t:Addr×Addr}(h:t∈(W.tabIn K x).toList):W.tabIn K x=some t:=by
 cases e:W.tabIn K x with
 |none=>rw[e]at h;cases h
 |some z=>rw[e]at h;rw[hZ.mp h]
inductive tK(X:Cx)(k i:Nat)(t:TA)(σ:St)(H:Hp)(Q:VK):Prop
 |h (_:wU X k i t σ H Q):tK X k i t σ H Q
 |k (f:Addr)(sp:Sp)(_:σ[i]?=some (some (.ref f)))(_:W.keepIn X.K (.ref f)=true)(_:HFn X.prog X.w X.K X.mg X.base k f sp)(_:t σ H λvs H1=>sp vs H1 Q E0):tK X k i t σ H Q
theorem xg(d:bP k X.A)(l:X.N[i]?=some x)(c:Vis X.env.scope x)(j:PA X (e :: es) t)(g:(x == ("__debug__" : Str))=false:=by decide) (b:(x == ("__classdict__" : Str))=false:=by decide)
  (he:starEach (e :: es) X.env=(false,eval e X.env) :: starEach es X.env:=by rfl)(a:(backTo pos (starEach es X.env)).any (·.1)=false:=by rfl):PE X (.Call (.Name x p) (e :: es) [] pos) (tK X k i t):=by
 intro pins s σ H Q I h;cases h with
 |h h=>exact pS d l c j g b he a pins s σ H Q I h
 |k f sp D z C h =>
  obtain⟨fd,L,F,B⟩:=C;refine Dn (thn (rT l c g b pins s σ H (λv H'=>v=.ref f/\H'=H) I ⟨_,D,U,U⟩) λu o ⟨v,G,n,r,y⟩=>?_);obtain⟨rfl,rfl⟩:=y;cases (show u=Value.ref f from r);refine W.callWith_K (h₀:=X.base) n.ok.mod.kin z (thn (j pos pins o σ G _ n h) λK s2 ⟨J,M,m,q,w⟩=>⟨m.kIn,?_⟩) he a;exact pH (E:=E0) (dvs:=[]) (ds:=[]) F d B .nil bM m q (by rw[jt];exact w)
def DI(X:Cx)(k:Nat)(sp:Sp):TE:=λ_ H Q=>∀f,HFn X.prog X.w X.K X.mg X.base k f sp->W.keepIn X.K (.ref f)=true->Q (.ref f) H
theorem AQ{ps:List Str}{sp:Sp}(C:Callee X.prog X.w X.K X.mg X.base k x ps sp)(c:Gl X x)(d:(x == ("__debug__" : Str))=false:=by decide):PE X (.Name x pos) (DI X k sp):=by
 obtain⟨f,fd,F,b,a,m⟩:=C;intro pins s σ H Q I h;exact gi I c m ⟨.ref f,H,I,U,h f ⟨fd,_,F,b⟩ a⟩ d
end L2
set_option Elab.async false
set_option maxRecDepth 100000
set_option maxHeartbeats 4000000
set_option linter.all false
namespace My
open PySem L2
def top(i:Nat):Stmt:=PySem.Challenge.pw_rowjudge_k46_least_unlike.main.body.getD i (.Pass ⟨0,0,0,0⟩)
abbrev Y32:Stmt:=top 15
abbrev Y50:Stmt:=top 16
abbrev Y49:Stmt:=top 17
abbrev Y31:Stmt:=top 21
abbrev Y48:Stmt:=top 23
abbrev Y43:Stmt:=top 24
abbrev Y85:Stmt:=top 25
abbrev Y47:Stmt:=top 28
abbrev Y41:Stmt:=top 29
abbrev Y35:Stmt:=top 30
abbrev Y72:Stmt:=top 31
abbrev Y38:Stmt:=top 32
abbrev Y73:Stmt:=top 33
abbrev Y76:Stmt:=top 34
abbrev Y33:Stmt:=top 35
abbrev Y46:Stmt:=top 36
abbrev Y40:Stmt:=top 37
abbrev Y89:Stmt:=top 48
abbrev Y78:Stmt:=top 53
abbrev Y77:Stmt:=top 54
abbrev Y82:Stmt:=top 55
abbrev Y79:Stmt:=top 56
abbrev Y75:Stmt:=top 57
abbrev Y45:Stmt:=top 58
abbrev Y74:Stmt:=top 59
abbrev Y51:Stmt:=top 60
abbrev Y86:Stmt:=top 62
abbrev Y87:Stmt:=top 63
abbrev Y39:Stmt:=top 64
abbrev s_row_form:Stmt:=top 65
abbrev s_verdict_form:Stmt:=top 66
abbrev Y34:Stmt:=top 69
abbrev Y44:Stmt:=top 70
abbrev Y84:Stmt:=top 71
abbrev Y37:Stmt:=top 72
abbrev Y36:Stmt:=top 73
abbrev Y42:Stmt:=top 74
abbrev Y80:Stmt:=top 75
abbrev Y81:Stmt:=top 76
abbrev Y53:Stmt:=top 78
abbrev Y60:Stmt:=top 79
abbrev Y65:Stmt:=top 80
abbrev Y58:Stmt:=top 81
abbrev Y71:Stmt:=top 82
abbrev Y54:Stmt:=top 83
abbrev Y63:Stmt:=top 84
abbrev Y62:Stmt:=top 85
abbrev Y69:Stmt:=top 86
abbrev Y66:Stmt:=top 87
abbrev Y67:Stmt:=top 88
abbrev Y68:Stmt:=top 89
abbrev Y61:Stmt:=top 90
abbrev Y64:Stmt:=top 91
abbrev Y56:Stmt:=top 92
abbrev Y55:Stmt:=top 93
abbrev Y70:Stmt:=top 94
abbrev Y59:Stmt:=top 95
abbrev Y57:Stmt:=top 96
abbrev Y17:Stmt:=inClass (top 52) 0
abbrev Y4:Stmt:=inClass (top 42) 0
abbrev Y18:Stmt:=inClass (top 41) 0
abbrev Y13:Stmt:=inClass (top 43) 0
abbrev Y22:Stmt:=inClass (top 41) 0
abbrev Y8:Stmt:=inClass (top 44) 0
abbrev Y20:Stmt:=inClass (top 41) 0
abbrev Y10:Stmt:=inClass (top 45) 0
abbrev Y21:Stmt:=inClass (top 41) 0
abbrev Y6:Stmt:=inClass (top 46) 0
abbrev Y19:Stmt:=inClass (top 41) 0
abbrev Y15:Stmt:=inClass (top 47) 0
abbrev Y23:Stmt:=inClass (top 41) 0
abbrev Y2:Stmt:=inClass (top 18) 5
abbrev Y3:Stmt:=inClass (top 18) 5
abbrev Y12:Stmt:=inClass (top 19) 0
abbrev Y0:Stmt:=inClass (top 18) 0
abbrev Y30:Stmt:=inClass (top 20) 0
abbrev Y1:Stmt:=inClass (top 18) 0
abbrev Y24:Stmt:=inClass (top 41) 1
abbrev Y5:Stmt:=inClass (top 42) 1
abbrev Y28:Stmt:=inClass (top 41) 1
abbrev Y14:Stmt:=inClass (top 43) 1
abbrev Y26:Stmt:=inClass (top 41) 1
abbrev Y9:Stmt:=inClass (top 44) 1
abbrev Y27:Stmt:=inClass (top 41) 1
abbrev Y11:Stmt:=inClass (top 45) 1
abbrev Y25:Stmt:=inClass (top 41) 1
abbrev Y7:Stmt:=inClass (top 46) 1
abbrev Y29:Stmt:=inClass (top 41) 1
abbrev Y16:Stmt:=inClass (top 47) 1
abbrev Y52:Stmt:=top 97
abbrev Y83:Expr:=zP ((du s_row_form).getD 0 (.Pass ⟨0,0,0,0⟩)) 2
theorem Z84{c_0:Addr}:pR ["codes","table"] ["codes"] (j4 Y83) [("table",c_0)]:=⟨U,U,U,by decide+kernel,U,by decide+kernel,by decide+kernel,wY U⟩
abbrev Y88:Expr:=zP ((du s_verdict_form).getD 0 (.Pass ⟨0,0,0,0⟩)) 2
theorem Z90{c_0:Addr}:pR ["rows","table"] ["rows"] (j4 Y88) [("table",c_0)]:=⟨U,U,U,by decide+kernel,U,by decide+kernel,by decide+kernel,wY U⟩
theorem Z32:ao ["text","signs","sign"] ["text","signs"] (ak Y32):=fsc
theorem Z50:ao ["text"] ["text"] (ak Y50):=fsc
theorem Z49:ao ["value"] ["value"] (ak Y49):=fsc
theorem Z31:ao ["one","other"] ["one","other"] (ak Y31):=fsc
theorem Z48:ao ["spans","number","low","high"] ["spans","number"] (ak Y48):=fsc
theorem Z43:ao ["spans","low","high","turns","first","last"] ["spans","low","high"] (ak Y43):=fsc
theorem Z86:ao ["low","high","marks","cuts","lows","highs"] ["low","high","marks"] (ak Y85):=fsc
theorem Z47:ao ["bounds","marks","product","parts"] ["bounds","marks"] (ak Y47):=fsc
theorem Z41:ao ["bounds","marks"] ["bounds","marks"] (ak Y41):=fsc
theorem Z35:ao ["bounds","marks","leaf"] ["bounds","marks","leaf"] (ak Y35):=fsc
theorem Z72:ao ["columns","ahead","leaf"] ["columns","ahead","leaf"] (ak Y72):=fsc
theorem Z38:ao ["triples","form","low","high","beneath"] ["triples"] (ak Y38):=fsc
theorem Z73:ao ["form","deep","change"] ["form","deep","change"] (ak Y73):=fsc
theorem Z76:ao ["one","other","deep","pair","triples","low","at_one","at_other","high"] ["one","other","deep","pair"] (ak Y76):=fsc
theorem Z33:ao ["form","deep","told","low","high","beneath","box","leaf"] ["form","deep"] (ak Y33):=fsc
theorem Z46:ao ["lists","numbers","some"] ["lists"] (ak Y46):=fsc
theorem Z40:ao ["box"] ["box"] (ak Y40):=fsc
theorem Z91:ao ["name","way"] ["name"] (ak Y89):=fsc
theorem Z78:ao ["names","name"] ["names"] (ak Y78):=fsc
theorem Z77:ao ["names","rows"] ["names","rows"] (ak Y77):=fsc
theorem Z82:ao ["way","outcome"] ["way","outcome"] (ak Y82):=fsc
theorem Z79:ao ["domains","outcome","cells","code","domain","spans","low","high"] ["domains","outcome","cells","code"] (ak Y79):=fsc
theorem Z75:ao ["cells","code"] ["cells","code"] (ak Y75):=fsc
theorem Z45:ao ["table","k","codes","cells","spans","code"] ["table","k","codes"] (ak Y45):=fsc
theorem Z74:ao ["table","codes"] ["table","codes"] (ak Y74):=fsc
theorem Z51:ao ["table","rows","codes"] ["table","rows"] (ak Y51):=fsc
theorem Z87:ao ["table"] ["table"] (ak Y86):=fsc
theorem Z88:ao ["table"] ["table"] (ak Y87):=fsc
theorem Z39:ao ["table","column","domain"] ["table","column"] (ak Y39):=fsc
theorem Z83:ao ["table"] ["table"] (ak s_row_form):=fsc
theorem Z89:ao ["table"] ["table"] (ak s_verdict_form):=fsc
theorem Z34:ao ["form","deep"] ["form","deep"] (ak Y34):=fsc
theorem Z44:ao ["one","other","found"] ["one","other"] (ak Y44):=fsc
theorem Z85:ao ["one","other"] ["one","other"] (ak Y84):=fsc
theorem Z37:ao ["one","other"] ["one","other"] (ak Y37):=fsc
theorem Z36:ao ["old","new","deep","differing"] ["old","new","deep"] (ak Y36):=fsc
theorem Z42:ao ["old","new"] ["old","new"] (ak Y42):=fsc
theorem Z80:ao ["one","other"] ["one","other"] (ak Y80):=fsc
theorem Z81:ao ["ones","others","one","other"] ["ones","others"] (ak Y81):=fsc
theorem Z53:ao ["script","k"] ["script","k"] (ak Y53):=fsc
theorem Z60:ao ["script","start","most","told","k"] ["script","start","most"] (ak Y60):=fsc
theorem Z65:ao ["cell","count","at","told","k","part","step"] ["cell","count"] (ak Y65):=fsc
theorem Z58:ao ["script","most","told","k","cell"] ["script","most"] (ak Y58):=fsc
theorem Z71:ao ["cell","k","stem","at"] ["cell","k"] (ak Y71):=fsc
theorem Z54:ao ["cell","points"] ["cell","points"] (ak Y54):=fsc
theorem Z63:ao ["cell","gap","low"] ["cell"] (ak Y63):=fsc
theorem Z62:ao ["cell","outs"] ["cell","outs"] (ak Y62):=fsc
theorem Z69:ao ["cell","words"] ["cell","words"] (ak Y69):=fsc
theorem Z66:ao ["cell","points","outs","bits","k","size","mixed"] ["cell","points","outs"] (ak Y66):=fsc
theorem Z67:ao ["points","bits","told","k"] ["points","bits"] (ak Y67):=fsc
theorem Z68:ao ["script","points","outs","way","rows","turn","domains","names","cell","made","row"] ["script","points","outs","way","rows","turn"] (ak Y68):=fsc
theorem Z61:ao ["rows","cell","points","outs","kind","k","bits","column","one_bit","coded_row"] ["rows","cell","points","outs"] (ak Y61):=fsc
theorem Z64:ao ["points","told","row","longer","at","k"] ["points"] (ak Y64):=fsc
theorem Z56:ao ["rows","at","told","k","good","j"] ["rows","at"] (ak Y56):=fsc
theorem Z55:ao ["codes","way","outs"] ["codes","way","outs"] (ak Y55):=fsc
theorem Z70:ao ["found"] ["found"] (ak Y70):=fsc
theorem Z59:ao ["points","two","ways","outs","at","told","k","codes"] ["points","two","ways","outs"] (ak Y59):=fsc
theorem Z57:ao ["found","due","code"] ["found","due"] (ak Y57):=fsc
theorem Z17:ao ["self","name","names","domains","outcome","way","rows","cells","code"] ["self","name","names","domains","outcome","way","rows"] (ak Y17):=fsc
theorem Z4:ao ["self"] ["self"] (ak Y4):=fsc
theorem Z18:ao ["self","called"] ["self","called"] (ak Y18):=fsc
theorem Z13:ao ["self"] ["self"] (ak Y13):=fsc
theorem Z22:ao ["self","called"] ["self","called"] (ak Y22):=fsc
theorem Z8:ao ["self"] ["self"] (ak Y8):=fsc
theorem Z20:ao ["self","called"] ["self","called"] (ak Y20):=fsc
theorem Z10:ao ["self"] ["self"] (ak Y10):=fsc
theorem Z21:ao ["self","called"] ["self","called"] (ak Y21):=fsc
theorem Z6:ao ["self"] ["self"] (ak Y6):=fsc
theorem Z19:ao ["self","called"] ["self","called"] (ak Y19):=fsc
theorem Z15:ao ["self"] ["self"] (ak Y15):=fsc
theorem Z23:ao ["self","called"] ["self","called"] (ak Y23):=fsc
theorem Z2:ao ["self","value"] ["self","value"] (ak Y2):=fsc
theorem Z3:ao ["self","value"] ["self","value"] (ak Y3):=fsc
theorem Z12:ao ["self","low","high"] ["self","low","high"] (ak Y12):=fsc
theorem Z0:ao ["self","low","high"] ["self","low","high"] (ak Y0):=fsc
theorem Z30:ao ["self","words","word"] ["self","words"] (ak Y30):=fsc
theorem Z1:ao ["self","low","high"] ["self","low","high"] (ak Y1):=fsc
theorem Z24:ao ["self","codes","outcome"] ["self","codes","outcome"] (ak Y24):=fsc
theorem Z5:ao ["self","codes","outcome"] ["self","codes","outcome"] (ak Y5):=fsc
theorem Z28:ao ["self","codes","outcome"] ["self","codes","outcome"] (ak Y28):=fsc
theorem Z14:ao ["self","codes","outcome"] ["self","codes","outcome"] (ak Y14):=fsc
theorem Z26:ao ["self","codes","outcome"] ["self","codes","outcome"] (ak Y26):=fsc
theorem Z9:ao ["self","codes","outcome"] ["self","codes","outcome"] (ak Y9):=fsc
theorem Z27:ao ["self","codes","outcome"] ["self","codes","outcome"] (ak Y27):=fsc
theorem Z11:ao ["self","codes","outcome"] ["self","codes","outcome"] (ak Y11):=fsc
theorem Z25:ao ["self","codes","outcome"] ["self","codes","outcome"] (ak Y25):=fsc
theorem Z7:ao ["self","codes","outcome"] ["self","codes","outcome"] (ak Y7):=fsc
theorem Z29:ao ["self","codes","outcome"] ["self","codes","outcome"] (ak Y29):=fsc
theorem Z16:ao ["self","codes","outcome"] ["self","codes","outcome"] (ak Y16):=fsc
theorem Z52:ao ["script","points","outs","words","ways","rows","two","one","other","due","alike_told"] ["script"] (ak Y52):=fsc
structure AD where (a b c d e f g h i j k l m:Addr)
structure Bk(K:W.Frag)(Y:AD):Prop where
 n_Way:W.nsIn K mainGlobals "Way" = some (some (.ref Y.a))
 n_First:W.nsIn K mainGlobals "First" = some (some (.ref Y.b))
 n_Only:W.nsIn K mainGlobals "Only" = some (some (.ref Y.c))
 n_Like:W.nsIn K mainGlobals "Like" = some (some (.ref Y.d))
 n_Low:W.nsIn K mainGlobals "Low" = some (some (.ref Y.e))
 n_High:W.nsIn K mainGlobals "High" = some (some (.ref Y.f))
 n_Sum:W.nsIn K mainGlobals "Sum" = some (some (.ref Y.g))
 n_Domain:W.nsIn K mainGlobals "Domain" = some (some (.ref Y.h))
 n_Numbers:W.nsIn K mainGlobals "Numbers" = some (some (.ref Y.i))
 n_Words:W.nsIn K mainGlobals "Words" = some (some (.ref Y.j))
 n_Table:W.nsIn K mainGlobals "Table" = some (some (.ref Y.k))
 n_NONE:W.nsIn K mainGlobals "NONE" = some (some (.ref Y.l))
 n_CLASH:W.nsIn K mainGlobals "CLASH" = some (some (.ref Y.m))
 k_First:Cls K Y.b
 k_Only:Cls K Y.c
 k_Like:Cls K Y.d
 k_Low:Cls K Y.e
 k_High:Cls K Y.f
 k_Sum:Cls K Y.g
 k_Numbers:Cls K Y.i
 k_Words:Cls K Y.j
 k_Table:Cls K Y.k
 t_First:mK K Y.b
 t_Only:mK K Y.c
 t_Like:mK K Y.d
 t_Low:mK K Y.e
 t_High:mK K Y.f
 t_Sum:mK K Y.g
 t_Numbers:mK K Y.i
 t_Words:mK K Y.j
 t_Table:mK K Y.k
 q_NONE:ModT K Y.l [.str "none",.int (0)]
 q_CLASH:ModT K Y.m [.str "clash",.int (0)]
 na_First_called:NoAttr K Y.b "called"
 na_Only_called:NoAttr K Y.c "called"
 na_Like_called:NoAttr K Y.d "called"
 na_Low_called:NoAttr K Y.e "called"
 na_High_called:NoAttr K Y.f "called"
 na_Sum_called:NoAttr K Y.g "called"
 na_Numbers_low:NoAttr K Y.i "low"
 na_Numbers_high:NoAttr K Y.i "high"
 na_Numbers_words:NoAttr K Y.i "words"
 na_Words_low:NoAttr K Y.j "low"
 na_Words_high:NoAttr K Y.j "high"
 na_Words_words:NoAttr K Y.j "words"
 na_Table_name:NoAttr K Y.k "name"
 na_Table_names:NoAttr K Y.k "names"
 na_Table_domains:NoAttr K Y.k "domains"
 na_Table_outcome:NoAttr K Y.k "outcome"
 na_Table_way:NoAttr K Y.k "way"
 na_Table_rows:NoAttr K Y.k "rows"
 f_nn:W.kitOne K (.ref Y.i) (.ref Y.i)=some true
 f_wn:W.kitOne K (.ref Y.j) (.ref Y.i)=some false
 f_ww:W.kitOne K (.ref Y.j) (.ref Y.j)=some true
 f_nw:W.kitOne K (.ref Y.i) (.ref Y.j)=some false
 nt0:∀z z',W.tabIn K "row_form" = some z->W.tabIn K "verdict_form" = some z'->z.2≠z'.2
structure Bl(K:W.Frag)(mg:Str->Option Value)(Y:AD):Prop extends Bk K Y where
 Way_:mg "Way" = some (.ref Y.a)
 First_:mg "First" = some (.ref Y.b)
 Only_:mg "Only" = some (.ref Y.c)
 Like_:mg "Like" = some (.ref Y.d)
 Low_:mg "Low" = some (.ref Y.e)
 High_:mg "High" = some (.ref Y.f)
 Sum_:mg "Sum" = some (.ref Y.g)
 Domain_:mg "Domain" = some (.ref Y.h)
 Numbers_:mg "Numbers" = some (.ref Y.i)
 Words_:mg "Words" = some (.ref Y.j)
 Table_:mg "Table" = some (.ref Y.k)
 NONE_:mg "NONE" = some (.ref Y.l)
 CLASH_:mg "CLASH" = some (.ref Y.m)
 len_:mg "len" = none
 isinstance_:mg "isinstance" = none
 int_:mg "int" = none
 bool_:mg "bool" = none
 sorted_:mg "sorted" = none
 list_:mg "list" = none
 set_:mg "set" = none
 zip_:mg "zip" = none
 tuple_:mg "tuple" = none
 min_:mg "min" = none
 sum_:mg "sum" = none
 range_:mg "range" = none
 enumerate_:mg "enumerate" = none
 reversed_:mg "reversed" = none
 max_:mg "max" = none
 MOST_SIGNS_:∃u,mg "MOST_SIGNS" = some u/\RelV (V.int 12) u
 SMALL_LETTERS_:∃u,mg "SMALL_LETTERS" = some u/\RelV (V.str "abcdefghijklmnopqrstuvwxyz") u
 MOST_GRAIN_:∃u,mg "MOST_GRAIN" = some u/\RelV (V.int 300) u
 MOST_ROWS_:∃u,mg "MOST_ROWS" = some u/\RelV (V.int 200) u
 MOST_COLUMNS_:∃u,mg "MOST_COLUMNS" = some u/\RelV (V.int 4) u
 NOTHING_:∃u,mg "NOTHING" = some u/\RelV (V.int 0) u
 MOST_WORDS_:∃u,mg "MOST_WORDS" = some u/\RelV (V.int 40) u
theorem mU{a:List Int}{i:Nat}{x:V}(e:(a.map V.int)[i]?=some x):∃c,x=.int c:=by
 rw[fo]at e;cases q:a[i]? with
 |none=>rw[q]at e;cases e
 |some c=>rw[q]at e;cases e;exact⟨c,U⟩
theorem p10(n:Nat):(0:Int)<10^n:=BP (by decide)
theorem DJ{n:Int}{p:Int×Int}(c:decide (p.1<=n)=true)(d:decide (n<=p.2)=true):inR n p=true:=by unfold inR;rw[c,d];rfl
theorem Cb{n:Int}{p:Int×Int}(c:¬ decide (p.1<=n)=true):inR n p=false:=by unfold inR;rw[As.mpr c];rfl
theorem Cc{n:Int}{p:Int×Int}(d:¬ decide (n<=p.2)=true):inR n p=false:=by unfold inR;rw[As.mpr d,Bool.and_false]
theorem og{xs:List V}{i:Nat}{x:V}(e:xs[i]?=some x):atI xs (0+(i:Int))=some x:=by
 rw[BO];exact aR e
theorem z0(a b:Int):atI [V.int a,V.int b] 0=some (V.int a):=rfl
theorem z1(a b:Int):atI [V.int a,V.int b] 1=some (V.int b):=rfl
theorem cG{H:Hp}{r:Addr}{o:HO}{b:Addr}{u:HO}(h:H r=some u)(n:H b=none):upd H b o r=some u:=by rw[ay (bf h n)];exact h
theorem mV{n:Nat}(h:0<n):ixN n (-1)=some (n-1):=by
 unfold ixN;rw[if_neg (by decide),if_pos (by lia)]
 congr 1
 lia
theorem rf{α:Type}(l:List α)(x y:α):(l++[x]).set ((l++[x]).length-1) y=l++[y]:=by
 have e:(l++[x]).length-1=l.length:=by simp
 rw[e,List.set_append_right _ _ (w5 _),Nat.sub_self];rfl
theorem take_snoc{α:Type}{l:List α}{i:Nat}{x:α}(e:l[i]?=some x):l.take (i+1)=l.take i++[x]:=by rw[md,e];rfl
theorem get_map{a:List Int}{i:Nat}{c:Int}(e:a[i]?=some c):(a.map V.int)[i]?=some (.int c):=by rw[fo,e];rfl
theorem of_map{a:List Int}{i:Nat}{x:V}(e:(a.map V.int)[i]?=some x):∃c,x=.int c/\a[i]?=some c:=by
 rw[fo]at e;cases q:a[i]? with
 |none=>rw[q]at e;cases e
 |some c=>rw[q]at e;cases e;exact⟨c,U,U⟩
def lets:Str := "abcdefghijklmnopqrstuvwxyz"
def isw(z:Str):Bool:=decide ((1:Int)<=((z.length:Nat):Int)) && (decide (((z.length:Nat):Int)<=12) && (!decide (V.str z=V.str "not") && mB z lets))
theorem AR{l:List Nat}{i:Nat}{c:Nat}{p:Nat->Bool}(e:l[i]?=some c)(h:p c=false):l.all p=false:=by
 cases q:l.all p with
 |false=>rfl
 |true=>rw[jq.mp q c (GJ e)]at h;cases h
theorem all_succ{l:List Nat}{i:Nat}{c:Nat}{p:Nat->Bool}(e:l[i]?=some c)(h:p c=true)(a:(l.take i).all p=true):(l.take (i+1)).all p=true:=by
 rw[take_snoc e,List.all_append,a];simp[h]
theorem xh{z g:Str}(h:(z.cps.toList.take z.cps.size).all (sg g)=true):mB z g=true:=by
 have e:z.cps.toList.take z.cps.size=z.cps.toList:=by rw[←zz];exact iv
 rw[e]at h;exact h
theorem AS{g:Str}{c:Nat}(h:(!(!(Builtin.Str.occurrences g ⟨#[c]⟩ 0 g.length 1).isEmpty))=true):sg g c=false:=by unfold sg;simpa using h
theorem Cd{g:Str}{c:Nat}(h:¬ (!(!(Builtin.Str.occurrences g ⟨#[c]⟩ 0 g.length 1).isEmpty))=true):sg g c=true:=by unfold sg;simpa using h
theorem big{n:Nat}(h:n<=1000):n<=sizeLine:=yj (ax h)
def mkd(C:Addr)(H:Hp)(x a:Addr)(lo hi:Int):Hp:=upd (upd H x (.ins C a [("low",.int lo)])) x (.ins C a [("low",.int lo),("high",.int hi)])
theorem put2(v u:V):br s!"high" u [(s!"low",v)]=[(s!"low",v),(s!"high",u)]:=by
 unfold br br;rw[if_neg (by decide)]
theorem put3(v u t:V):br s!"words" t [(s!"low",v),(s!"high",u)]=[(s!"low",v),(s!"high",u),(s!"words",t)]:=by
 unfold br br br;rw[if_neg (by decide),if_neg (by decide)]
def hiW(zs:List Str):Int:=((zs.length:Nat):Int)-1
structure Good(zs:List Str):Prop where
 some_:1<=zs.length
 few:zs.length<=40
 words:∀z∈zs,isw z=true
 once:zs.Nodup
theorem j5{zs:List Str}{i:Nat}{x:V}(e:(zs.map V.str)[i]?=some x):∃z,x=.str z/\zs[i]?=some z:=by
 rw[fo]at e;cases q:zs[i]? with
 |none=>rw[q]at e;cases e
 |some z=>rw[q]at e;cases e;exact⟨z,U,U⟩
def six:List Str:=[s!"first",s!"only",s!"like",s!"low",s!"high",s!"sum"]
theorem yK{i j:Nat}{z:Str}(h:six[i]?=some z)(k:six[j]?=some z):i=j:=jP (show six.Nodup by decide+kernel) h k
def WyN(C:Addr)(H:Hp)(x:Addr)(z:Str):Prop:=∃a,H x=some (.ins C a [("called",.str z)])
theorem WyN.same{C:Addr}{H H':Hp}{x:Addr}{z:Str}(h:WyN C H x z)(s:aq H H'):WyN C H' x z:=by obtain⟨a,e⟩:=h;exact⟨a,s _ _ e⟩
def vh(C:Addr)(z:Str):Sp:=λb H Q _=>∃(x a:Addr),b=[.ref x]/\H x=some (.ins C a [])/\Q .non (upd H x (.ins C a [("called",.str z)]))
theorem bu:2<=sizeLine:=by decide
def cl6(a b c d e f:Addr):List Addr:=[a,b,c,d,e,f]
def AU(C:Addr)(H:Hp)(a:Addr)(lo hi:Int):Prop:=∃b fs,H a=some (.ins C b fs)/\fs.lookup s!"low"=some (.int lo)/\fs.lookup s!"high"=some (.int hi)/\fs.lookup s!"has_code"=none
def Dom(d c:Addr)(H:Hp)(a:Addr)(b:Int×Int):Prop:=∃C,(C=d\/C=c)/\AU C H a b.1 b.2
theorem Dom.same{d c:Addr}{H H':Hp}{a:Addr}{b:Int×Int}(h:Dom d c H a b)(s:aq H H'):Dom d c H' a b:=by obtain⟨C,f,g,fs,e,r⟩:=h;exact⟨C,f,g,fs,s _ _ e,r⟩
theorem Dom.upd{d c:Addr}{H:Hp}{a D:Addr}{b:Int×Int}{o:HO}{zs:List V}(h:Dom d c H a b)(e:H D=some (.lst zs)):Dom d c (upd H D o) a b:=by
 obtain⟨C,g,i,fs,f,r⟩:=h;exact⟨C,g,i,fs,(ay (dS f e (by intro z;cases z))).trans f,r⟩
def aD{α:Type}(xs:List V)(b:List α)(P:Addr->α->Prop):Prop:=xs.length=b.length/\∀(j:Nat)(a:α),b[j]?=some a->∃r,xs[j]?=some (.ref r)/\P r a
theorem aD.mono{α:Type}{xs:List V}{b:List α}{P Q:Addr->α->Prop}(h:aD xs b P)(k:∀r a,P r a->Q r a):aD xs b Q:=⟨h.1,λj a e=>let ⟨r,e1,p⟩:=h.2 j a e;⟨r,e1,k r a p⟩⟩
theorem aD.nil{α:Type}{P:Addr->α->Prop}:aD [] [] P:=⟨U,(λj a e=>by simp at e)⟩
theorem aD.snoc{α:Type}{xs:List V}{c:List α}{P:Addr->α->Prop}{r:Addr}{a:α}(h:aD xs c P)(p:P r a):aD (xs++[.ref r]) (c++[a]) P:=by
 refine⟨by simp[h.1],λj b e=>?_⟩;by_cases f:j<c.length
 .rw[iP f]at e;obtain⟨g,i,q⟩:=h.2 j b e;exact⟨g,by rw[iP (by rw[h.1];exact f)];exact i,q⟩
 .have d:j=c.length:=by
   have:=(GI.mp e).1;simp at this;lia
  subst d;simp at e;subst e;exact⟨r,by rw[←h.1];simp,p⟩
theorem aD.get{α:Type}{xs:List V}{b:List α}{P:Addr->α->Prop}(h:aD xs b P){j:Nat}{x:V}(e:xs[j]?=some x):∃r a,x=.ref r/\b[j]?=some a/\P r a:=by
 have f:=(GI.mp e).1;have c:=GH (l:=b) (i:=j) (by rw[←h.1];exact f);obtain⟨r,d,p⟩:=h.2 j _ c;rw[e]at d;cases d;exact⟨r,_,U,c,p⟩
abbrev Prs:=List (Int×Int)
def SpA(N:Addr->Prop)(H:Hp)(l:Addr)(ps:Prs):Prop:=N l/\∃a,H l=some (.lst a)/\PL H a ps
def CL(N:Addr->Prop)(H:Hp)(xs:List V)(a:List Prs):Prop:=aD xs a (SpA N H)
abbrev Rw:=List Prs×Int
def jh(N:Addr->Prop)(H:Hp)(r:Addr)(a:Rw):Prop:=∃b c,H r=some (.tup [.ref b,.int a.2])/\N b/\H b=some (.lst c)/\CL N H c a.1
def RL(N:Addr->Prop)(H:Hp)(xs:List V)(rws:List Rw):Prop:=aD xs rws (jh N H)
theorem SpA.same{N:Addr->Prop}{H H':Hp}{l:Addr}{ps:Prs}(h:SpA N H l ps)(s:aq H H'):SpA N H' l ps:=by obtain⟨n,a,e,p⟩:=h;exact⟨n,a,s _ _ e,p.mono s.tups⟩
theorem CL.same{N:Addr->Prop}{H H':Hp}{xs:List V}{a:List Prs}(h:CL N H xs a)(s:aq H H'):CL N H' xs a:=aD.mono h λ_ _ p=>p.same s
theorem jh.same{N:Addr->Prop}{H H':Hp}{r:Addr}{w:Rw}(h:jh N H r w)(s:aq H H'):jh N H' r w:=by obtain⟨b,a,e,n,f,c⟩:=h;exact⟨b,a,s _ _ e,n,s _ _ f,c.same s⟩
theorem RL.same{N:Addr->Prop}{H H':Hp}{xs:List V}{rws:List Rw}(h:RL N H xs rws)(s:aq H H'):RL N H' xs rws:=aD.mono h λ_ _ p=>p.same s
abbrev NT:Addr->Prop:=λ_=>True
theorem SpA.any{N:Addr->Prop}{H:Hp}{l:Addr}{ps:Prs}(h:SpA N H l ps):SpA NT H l ps:=⟨trivial,h.2⟩
theorem CL.any{N:Addr->Prop}{H:Hp}{xs:List V}{a:List Prs}(h:CL N H xs a):CL NT H xs a:=aD.mono h λ_ _ p=>p.any
theorem jh.any{N:Addr->Prop}{H:Hp}{r:Addr}{w:Rw}(h:jh N H r w):jh NT H r w:=by obtain⟨b,a,e,_,f,c⟩:=h;exact⟨b,a,e,trivial,f,c.any⟩
theorem RL.any{N:Addr->Prop}{H:Hp}{xs:List V}{rws:List Rw}(h:RL N H xs rws):RL NT H xs rws:=aD.mono h λ_ _ p=>p.any
theorem SpA.wk{N b:Addr->Prop}{H:Hp}{l:Addr}{ps:Prs}(h:SpA N H l ps)(k:∀a,N a->b a):SpA b H l ps:=⟨k _ h.1,h.2⟩
theorem CL.wk{N c:Addr->Prop}{H:Hp}{xs:List V}{b:List Prs}(h:CL N H xs b)(k:∀a,N a->c a):CL c H xs b:=aD.mono h λ_ _ p=>p.wk k
theorem jh.wk{N b:Addr->Prop}{H:Hp}{r:Addr}{w:Rw}(h:jh N H r w)(k:∀a,N a->b a):jh b H r w:=by obtain⟨g,d,e,n,f,c⟩:=h;exact⟨g,d,e,k _ n,f,c.wk k⟩
theorem SpA.updN{N:Addr->Prop}{D:Addr}{H:Hp}{l:Addr}{ps:Prs}{zs:List V}{o:HO}(h:SpA N H l ps)(n:¬ N D)(e:H D=some (.lst zs)):SpA N (upd H D o) l ps:=by
 obtain⟨m,a,f,p⟩:=h;exact⟨m,a,(ay (λz=>n (by rw[←z];exact m))).trans f,p.mono (aQ e)⟩
theorem CL.updN{N:Addr->Prop}{D:Addr}{H:Hp}{xs:List V}{a:List Prs}{zs:List V}{o:HO}(h:CL N H xs a)(n:¬ N D)(e:H D=some (.lst zs)):CL N (upd H D o) xs a:=aD.mono h λ_ _ p=>p.updN n e
theorem jh.updN{N:Addr->Prop}{D:Addr}{H:Hp}{r:Addr}{w:Rw}{zs:List V}{o:HO}(h:jh N H r w)(n:¬ N D)(e:H D=some (.lst zs)):jh N (upd H D o) r w:=by
 obtain⟨b,a,f,m,g,c⟩:=h;exact⟨b,a,(ay (dS f e (by intro z;cases z))).trans f,m,(ay (λz=>n (by rw[←z];exact m))).trans g,c.updN n e⟩
theorem RL.updN{N:Addr->Prop}{D:Addr}{H:Hp}{xs:List V}{rws:List Rw}{zs:List V}{o:HO}(h:RL N H xs rws)(n:¬ N D)(e:H D=some (.lst zs)):RL N (upd H D o) xs rws:=aD.mono h λ_ _ p=>p.updN n e
def Fr(H:Hp)(D:Addr):Addr->Prop:=λa=>H a=none/\a≠D
theorem Fr.out{H:Hp}{D:Addr}:¬ Fr H D D:=λh=>h.2 U
structure Gg(b:Int×Int)(zs:List Str):Prop where
 le:b.1<=b.2
 ws:zs≠[]->Good zs/\b=(0,hiW zs)
structure lE(bs:Prs)(o:Int×Int)(w:Rw):Prop where
 len:w.1.length=bs.length
 inn:∀(j:Nat)(ps:Prs)(b:Int×Int),w.1[j]?=some ps->bs[j]?=some b->∀p∈ps,b.1<=p.1/\p.2<=b.2
 lo:o.1<=w.2
 hi:w.2<=o.2
def oh(a:List Prs)(b:List Int):Bool:=(List.range b.length).all λj=>inP (a.getD j []) (b.getD j 0)
theorem pf1(b a:V):br s!"names" a [(s!"name",b)]=[(s!"name",b),(s!"names",a)]:=by
 unfold br br;rw[if_neg (by decide)]
theorem pf2(c b a:V):br s!"domains" a [(s!"name",c),(s!"names",b)]=[(s!"name",c),(s!"names",b),(s!"domains",a)]:=by
 unfold br br br;rw[if_neg (by decide),if_neg (by decide)]
theorem pf3(d c b a:V):br s!"outcome" a [(s!"name",d),(s!"names",c),(s!"domains",b)]=[(s!"name",d),(s!"names",c),(s!"domains",b),(s!"outcome",a)]:=by
 unfold br br br br;rw[if_neg (by decide),if_neg (by decide),if_neg (by decide)]
theorem pf4(e d c b a:V):br s!"way" a [(s!"name",e),(s!"names",d),(s!"domains",c),(s!"outcome",b)]=[(s!"name",e),(s!"names",d),(s!"domains",c),(s!"outcome",b),(s!"way",a)]:=by
 unfold br br br br br;rw[if_neg (by decide),if_neg (by decide),if_neg (by decide),if_neg (by decide)]
theorem pf5(f e d c b a:V):br s!"rows" a [(s!"name",f),(s!"names",e),(s!"domains",d),(s!"outcome",c),(s!"way",b)]=[(s!"name",f),(s!"names",e),(s!"domains",d),(s!"outcome",c),(s!"way",b),(s!"rows",a)]:=by
 unfold br br br br br br;rw[if_neg (by decide),if_neg (by decide),if_neg (by decide),if_neg (by decide),if_neg (by decide)]
def hide(H:Hp)(x:Addr):Hp:=λb=>if b=x then none else H b
theorem dh{H:Hp}{x b:Addr}{o:HO}(e:H b=some o)(n:b≠x):hide H x b=some o:=by unfold hide;rw[if_neg n];exact e
theorem hide_same{H H':Hp}{x:Addr}(k:∀b o,b≠x->H b=some o->H' b=some o):aq (hide H x) H':=λb o e=>by
 unfold hide at e;by_cases h:b=x
 .rw[if_pos h]at e;cases e
 .rw[if_neg h]at e;exact k b o h e
theorem PL.hide{H:Hp}{x C c:Addr}{fs:List (Str×V)}(a:H x=some (.ins C c fs)){ys:List V}{ps:Prs}(h:PL H ys ps):PL (hide H x) ys ps :=
 h.mono λb d e=>dh e (dS e a (by intro z;cases z))
theorem RL.hide{H:Hp}{x C d:Addr}{fs:List (Str×V)}(a:H x=some (.ins C d fs)){xs:List V}{rws:List Rw}(h:RL NT H xs rws):RL NT (My.hide H x) xs rws :=
 aD.mono h λr w ⟨j,i,e,_,f,c⟩=>⟨j,i,dh e (dS e a (by intro z;cases z)),trivial,dh f (dS f a (by intro z;cases z)),aD.mono c λl k ⟨_,b,g,p⟩=>⟨trivial,b,dh g (dS g a (by intro z;cases z)),PL.hide a p⟩⟩
def wcs(c k:Int):List Nat:=List.replicate (c / 26%6).toNat (97+(c%26).toNat)++([97+(k / 7%7).toNat,97+(k%7).toNat]++List.replicate (k%5).toNat (97+(c / 156%26).toNat))
def wd(c k:Int):Str:=⟨(wcs c k).toArray⟩
theorem AV{c:Nat}(h:97<=c/\c<=122):sg lets c=true:=by
 have:∀d:Nat,d<26->sg lets (97+d)=true:=by decide+kernel
 have z:=this (c-97) (by lia);rw[show 97+(c-97)=c by lia]at z;exact z
theorem yL{s:Str}{n:Nat}(h:s.cps.toList=(List.range n).map (97 + ·)){k:Int}(c:0<=k)(b:k<n):atI s.cps.toList k=some (97+k.toNat):=by
 have a:k.toNat<n:=by lia
 have z:s.cps.toList[k.toNat]?=some (97+k.toNat):=by rw[h,fo,List.getElem?_range a];rfl
 have q:=aR z;rw[show((k.toNat:Nat):Int)=k by lia]at q;exact q
abbrev SI:=Str×Int
def tp(p:SI):List V:=[.str p.1,.int p.2]
def say(i:Int):SI:=(s!"say",i)
def uv:SI:=(s!"clash",0)
def DK:SI:=(s!"none",0)
def least(a:List Int):Int:=a.foldl (λm c=>if c<m then c else m) (a.headD 0)
def great(a:List Int):Int:=a.foldl (λm c=>if c>m then c else m) (a.headD 0)
theorem fold_min(a:List Int):∀m:Int,(a.foldl (λm c=>if c<m then c else m) m=m\/a.foldl (λm c=>if c<m then c else m) m∈a)/\a.foldl (λm c=>if c<m then c else m) m<=m/\∀x∈a,a.foldl (λm c=>if c<m then c else m) m<=x:=by
 induction a with
 |nil=>intro m;exact⟨.inl U,Int.le_refl _,λx h=>by cases h⟩
 |cons n a f =>
  intro m;obtain⟨b,e,g⟩:=f (if n<m then n else m);rw[List.foldl_cons];refine⟨?_,?_,λx d=>?_⟩
  .rcases b with b|b
   .rw[b];split
    .exact .inr fb
    .exact .inl U
   .exact .inr (iC _ b)
  .split at e <;> split <;> lia
  .rcases dt.mp d with rfl|d
   .split at e <;> split <;> lia
   .exact g x d
theorem fold_max(a:List Int):∀m:Int,(a.foldl (λm c=>if c>m then c else m) m=m\/a.foldl (λm c=>if c>m then c else m) m∈a)/\m<=a.foldl (λm c=>if c>m then c else m) m/\∀x∈a,x<=a.foldl (λm c=>if c>m then c else m) m:=by
 induction a with
 |nil=>intro m;exact⟨.inl U,Int.le_refl _,λx h=>by cases h⟩
 |cons n a f =>
  intro m;obtain⟨b,e,g⟩:=f (if n>m then n else m);rw[List.foldl_cons];refine⟨?_,?_,λx d=>?_⟩
  .rcases b with b|b
   .rw[b];split
    .exact .inr fb
    .exact .inl U
   .exact .inr (iC _ b)
  .split at e <;> split <;> lia
  .rcases dt.mp d with rfl|d
   .split at e <;> split <;> lia
   .exact g x d
theorem eS{n:Int}{a:List Int}:least (n :: a)∈n :: a/\∀x∈n :: a,least (n :: a)<=x:=by
 obtain⟨b,d,c⟩:=fold_min (n :: a) n;refine⟨?_,c⟩;rcases b with b|b
 .show(n :: a).foldl _ n∈_;rw[b];exact fb
 .exact b
theorem fP{n:Int}{a:List Int}:great (n :: a)∈n :: a/\∀x∈n :: a,x<=great (n :: a):=by
 obtain⟨b,d,c⟩:=fold_max (n :: a) n;refine⟨?_,c⟩;rcases b with b|b
 .show(n :: a).foldl _ n∈_;rw[b];exact fb
 .exact b
theorem mW{n m:Int}{c:List Int}(e:m∈n :: c)(d:∀b∈n :: c,m<=b):m=least (n :: c):=by
 have a:=d _ eS.1;have b:=eS.2 _ e;lia
theorem mX{n m:Int}{c:List Int}(e:m∈n :: c)(d:∀b∈n :: c,b<=m):m=great (n :: c):=by
 have a:=d _ fP.1;have b:=fP.2 _ e;lia
def DL(a:List Int):SI:=say (least a)
def Ce(a:List Int):SI:=say (great a)
def j6(a:List Int):SI:=if least a=great a then say (least a)else uv
theorem pb{n:Int}{a:List Int}:(∀x∈a,x=n)↔least (n :: a)=great (n :: a):=by
 constructor
 .intro h;have e:∀x∈n :: a,x=n:=λx b=>by
   rcases dt.mp b with r|b
   .exact r
   .exact h x b
  rw[e _ eS.1,e _ fP.1]
 .intro h x b;have g:=eS.2 x (iC n b);have f:=fP.2 x (iC n b);have d:=eS.2 n (fb (l:=a));have c:=fP.2 n (fb (l:=a));lia
theorem vi{n:Int}{a:List Int}(h:∀x∈a,x=n):least (n :: a)=n:=by
 have e:∀x∈n :: a,x=n:=λx b=>by
  rcases dt.mp b with r|b
  .exact r
  .exact h x b
 exact e _ eS.1
def ver(f:List Int->SI):List Int->SI
 | []=>DK
 |n :: ns=>f (n :: ns)
def Wy(C:Addr)(H:Hp)(x:Addr):Prop:=∃a z,H x=some (.ins C a [("called",.str z)])
def xi(a:List Int):SI:=say (a.headD 0)
def ka(a:List Int):SI:=if a.length=1 then say (a.headD 0)else uv
def near(lo hi n:Int):Int:=if n<lo then lo else if n>hi then hi else n
def wf:Nat->Int->Int->List Int->SI
 |0,_,_=>xi
 |1,_,_=>ka
 |2,_,_=>j6
 |3,_,_=>DL
 |4,_,_=>Ce
 |_,lo,hi=>λa=>say (near lo hi a.sum)
theorem at0(n:Int)(a:List Int):atI ((n :: a).map V.int) 0=some (.int n):=aR (j:=0) U
def vj(K:W.Frag)(C g f:Addr)(i:Nat):Sp:=λe H Q _=>∃(x c o:Addr)(n:Int)(a:List Int)(b:Int×Int),e=[.ref x,.ref c,.ref o]/\Wy C H x/\Dom g f H o b/\b.1<=b.2/\SqL K H c ((n :: a).map V.int)/\a.length<900/\∀(r:Addr)(d:Hp),aq H d->Vd K d r (wf i b.1 b.2 (n :: a))->Q (.ref r) d
def kb(K:W.Frag)(C g f:Addr)(i:Nat):Sp:=λe H Q _=>∃(x c o:Addr)(a:List Int)(b:Int×Int),e=[.ref x,.ref c,.ref o]/\Wy C H x/\Dom g f H o b/\b.1<=b.2/\SqL K H c (a.map V.int)/\a.length<900/\∀(r:Addr)(d:Hp),aq H d->Vd K d r (ver (wf i b.1 b.2) a)->Q (.ref r) d
def msk(f:Nat->Bool):Nat->Nat
 |0=>0
 |n+1=>(if f n then 2^n else 0)+msk f n
theorem kc(f:Nat->Bool)(n:Nat):msk f (n+1)=(if f n then 2^n else 0)+msk f n:=rfl
theorem tL(f:Nat->Bool):∀n,msk f n<2^n
 |0=>Nat.one_pos
 |n+1=>by
  have:=tL f n;unfold msk;rw[zr];split <;> lia
theorem uw(f:Nat->Bool)(k:Nat):∀n,(msk f n).testBit k=(decide (k<n) && f k)
 |0=>by simp[msk]
 |n+1=>by
  have b:=uw f k n;have lt:=tL f n;unfold msk;rcases Nat.lt_trichotomy k n with h|h|h
  .split
   .rw[Nat.testBit_two_pow_add_gt h,b];simp[h,yi h]
   .rw[Nat.zero_add,b];simp[h,yi h]
  .subst h;split
   .rename_i hf
    rw[Nat.testBit_two_pow_add_eq,Nat.testBit_lt_two_pow lt];simp[hf]
   .rename_i hf
    rw[Nat.zero_add,Nat.testBit_lt_two_pow lt];simp[hf]
  .have a:(if f n=true then 2^n else 0)+msk f n<2^k:=xT (tL f (n+1)) (Nat.pow_le_pow_right (by decide) h);rw[Nat.testBit_lt_two_pow a];simp;lia
def bQ(m:Int)(k:Nat):Bool:=Builtin.bitAnd (m / 2^k) 1 != 0
theorem vk(f:Nat->Bool)(n k:Nat):bQ ((msk f n:Nat):Int) k=(decide (k<n) && f k):=by
 rw[←uw];unfold bQ;have e:((msk f n:Nat):Int) / 2^k=((msk f n / 2^k:Nat):Int):=by simp
 rw[e,PyProof.Rows.bitAnd_pp (Int.natCast_nonneg _) (by decide)];unfold Nat.testBit;rw[Nat.shiftRight_eq_div_pow,Bt,Nat.and_comm];show((((1:Int).toNat &&& (msk f n / 2^k):Nat):Int) != 0)=_;rw[Bool.eq_iff_iff,bne_iff_ne,bne_iff_ne];constructor
 .intro h z;exact h (by rw[show(1:Int).toNat=1 from U,z];rfl)
 .intro h z;exact h (by rw[show(1:Int).toNat=1 from U]at z;lia)
def pkF(rws:List Rw)(f:Nat->Bool)(n:Nat):List Int:=((List.range n).filter f).map λk=>(rws.getD k ([],0)).2
theorem xj(rws:List Rw)(f:Nat->Bool)(n:Nat):pkF rws f (n+1)=pkF rws f n++(if f n then[(rws.getD n ([],0)).2] else[]):=by
 unfold pkF;rw[jx,mv,ij];cases h:f n with
 |true=>rw[pB h];simp
 |false=>rw[pC (by rw[h];exact Bool.false_ne_true)];simp
theorem ux(rws:List Rw)(f:Nat->Bool)(n:Nat):(pkF rws f n).length<=n:=by
 unfold pkF;rw[bx];exact yc (nt ..) (by simp)
theorem yM(rws:List Rw)(f:Nat->Bool)(n:Nat):pkF rws (bQ ((msk f n:Nat):Int)) n=pkF rws f n:=by
 unfold pkF
 congr 1
 apply List.filter_congr
 intro k a;rw[vk];simp[jr.mp a]
def Tbl(g h f:Addr)(H:Hp)(t:Addr)(rws:List Rw)(i:Nat)(o:Int×Int):Prop:=∃(c d e:Addr)(fs:List (Str×V))(a:List V)(b:Str),H t=some (.ins g e fs)/\fs.lookup s!"rows"=some (.ref c)/\fs.lookup s!"way"=some (.str b)/\fs.lookup s!"outcome"=some (.ref d)/\H c=some (.lst a)/\RL NT H a rws/\six[i]?=some b/\Dom h f H d o/\o.1<=o.2/\a.length<=200
theorem Tbl.same{c d b:Addr}{H H':Hp}{t:Addr}{rws:List Rw}{i:Nat}{o:Int×Int}(h:Tbl c d b H t rws i o)(s:aq H H'):Tbl c d b H' t rws i o:=by
 obtain⟨g,j,w,fs,e,f,v,u,r,q,p,n,m,l,k,a⟩:=h;exact⟨g,j,w,fs,e,f,s _ _ v,u,r,q,s _ _ p,n.same s,m,l.same s,k,a⟩
def iO(rws:List Rw)(a:List Int)(k:Nat):Bool:=oh (rws.getD k ([],0)).1 a
theorem getD_at{rws:List Rw}{k:Nat}{w:Rw}(e:rws[k]?=some w):rws.getD k ([],0)=w:=by rw[dE,e];rfl
def fl(rws:List Rw)(a:List Int):List Int:=(rws.filter λw=>oh w.1 a).map (·.2)
def ord:List Nat:=[3,4,2,1,0,5]
structure Lay(H:Hp)(r1:Addr)(F2 F3:Addr->Prop)(m:Nat):Prop where
 top:∃xs,H r1=some (.lst xs)/\xs.length<=63/\∀x∈xs,∃(t ce:Addr)(c:Int),x=.ref t/\H t=some (.tup [.ref ce,.int c])/\F2 ce
 mid:∀ce,F2 ce->∃ys,H ce=some (.lst ys)/\ys.length<=4/\∀y∈ys,∃l,y=.ref l/\F3 l
 low:∀l,F3 l->∃zs,H l=some (.lst zs)/\zs.length<=m
 n2:¬ F2 r1
 n3:¬ F3 r1
 n23:∀a,F2 a->F3 a->False
theorem xk(x:V)(xs:List V):jS (x :: xs) (some 1) none=xs:=by
 unfold jS;simp[HT.sIx]
theorem RL.hideN{N:Addr->Prop}{H:Hp}{x C d:Addr}{fs:List (Str×V)}(a:H x=some (.ins C d fs)){xs:List V}{rws:List Rw}(h:RL N H xs rws):RL N (My.hide H x) xs rws :=
 aD.mono h λr w ⟨j,i,e,n,f,c⟩=>⟨j,i,dh e (dS e a (by intro z;cases z)),n,dh f (dS f a (by intro z;cases z)),aD.mono c λl k ⟨n,b,g,p⟩=>⟨n,b,dh g (dS g a (by intro z;cases z)),PL.hide a p⟩⟩
def lM(N:Addr->Prop)(j:Addr)(H:Hp)(t:Addr)(rws:List Rw)(g e:Str)(f:Addr)(zs:List Str)(i:List V):Prop:=∃(b h c d:Addr)(fs:List (Str×V))(a:List V),H t=some (.ins j h fs)/\fs.lookup s!"rows"=some (.ref b)/\fs.lookup s!"name"=some (.str g)/\fs.lookup s!"way"=some (.str e)/\fs.lookup s!"outcome"=some (.ref f)/\fs.lookup s!"names"=some (.ref c)/\fs.lookup s!"domains"=some (.ref d)/\H c=some (.lst (zs.map V.str))/\H d=some (.lst i)/\H b=some (.lst a)/\RL N H a rws/\N c/\N d/\N b/\a.length<=200
theorem lM.same{N:Addr->Prop}{g:Addr}{H H':Hp}{t:Addr}{rws:List Rw}{e c:Str}{d:Addr}{zs:List Str}{f:List V}(h:lM N g H t rws e c d zs f)(s:aq H H'):lM N g H' t rws e c d zs f:=by
 obtain⟨j,x,k,y,fs,i,w,v,u,q,p,o,n,m,l,b,a,r⟩:=h;exact⟨j,x,k,y,fs,i,s _ _ w,v,u,q,p,o,n,s _ _ m,s _ _ l,s _ _ b,a.same s,r⟩
theorem lM.tbl{N:Addr->Prop}{f g e:Addr}{H:Hp}{t:Addr}{rws:List Rw}{m a:Str}{b:Addr}{zs:List Str}{w:List V}{i:Nat}{o:Int×Int}(h:lM N f H t rws m a b zs w)(hi:six[i]?=some a)(n:Dom g e H b o)(p:o.1<=o.2):Tbl f g e H t rws i o:=by
 obtain⟨l,v,_,_,fs,j,u,s,_,r,q,_,_,_,_,d,c,_,_,_,k⟩:=h;exact⟨l,b,v,fs,j,a,u,s,r,q,d,c.any,hi,n,p,k⟩
section
variable{H G:Hp}{Bad N:Addr->Prop}
end
theorem rg{xs:List V}{k:Int}(c:0<=k)(b:k<=xs.length):jS xs (some k) none=xs.drop k.toNat:=by
 unfold jS;have e:HT.sIx xs.length 0 (some k)=k.toNat:=by
  simp only[HT.sIx];split <;> lia
 have a:HT.sIx xs.length xs.length none=xs.length:=by simp[HT.sIx]
 rw[e,a,←jv,iv]
theorem DM{k:Int}(c:0<=k)(b:k<5):∃(a:Str)(i:Nat),atI [V.str s!"first",.str s!"only",.str s!"like",.str s!"low",.str s!"high"] k=some (.str a)/\six[i]?=some a/\a≠s!"sum" := by
 have:k=0\/k=1\/k=2\/k=3\/k=4:=by lia
 rcases this with rfl|rfl|rfl|rfl|rfl
 .exact⟨_,0,U,U,by decide⟩
 .exact⟨_,1,U,U,by decide⟩
 .exact⟨_,2,U,U,by decide⟩
 .exact⟨_,3,U,U,by decide⟩
 .exact⟨_,4,U,U,by decide⟩
def cx(a:List Int)(k:Int):Int:=a.getD k.toNat 0
structure Pts(ps:List Int):Prop where
 two:2<=ps.length
 few:ps.length<=13
 asc:ps.Pairwise (· < ·)
def loP(ps:List Int):Int:=ps.getD 0 0
def hiP(ps:List Int):Int:=ps.getD (ps.length-1) 0-1
theorem Pts.mono{ps:List Int}(h:Pts ps){i j:Nat}{x y:Int}(d:ps[i]?=some x)(c:ps[j]?=some y)(a:i<j):x<y:=by
 obtain⟨hi,rfl⟩:=GI.mp d;obtain⟨b,rfl⟩:=GI.mp c;exact oD.mp h.asc i j hi b a
theorem Pts.lo{ps:List Int}(h:Pts ps){i:Nat}{x:Int}(a:ps[i]?=some x):loP ps<=x:=by
 have c:=h.two;have b:ps[0]?=some (loP ps):=by
  unfold loP;rw[dE,GH (by lia)];rfl
 rcases Nat.eq_zero_or_pos i with rfl|hi
 .rw[b]at a;cases a;exact Int.le_refl _
 .exact Int.le_of_lt (h.mono b a hi)
theorem Pts.last{ps:List Int}(h:Pts ps):ps[ps.length-1]?=some (hiP ps+1):=by
 have a:=h.two;unfold hiP;rw[dE,GH (by lia)];simp
theorem Pts.hi{ps:List Int}(h:Pts ps){i:Nat}{x:Int}(a:ps[i]?=some x):x-1<=hiP ps:=by
 have hi:=(GI.mp a).1;by_cases e:i=ps.length-1
 .rw[e,h.last]at a;cases a;lia
 .have:=h.mono a h.last (by lia);lia
theorem Pts.le{ps:List Int}(h:Pts ps):loP ps<=hiP ps:=by
 have b:=h.two;have a:ps[0]?=some (loP ps):=by
  unfold loP;rw[dE,GH (by lia)];rfl
 have:=h.mono a h.last (by lia);lia
def cX(n:Nat):List Int:=(List.range n).map λj:Nat=>(0:Int)+(j:Int)
theorem rh(n:Nat):cX (n+1)=cX n++[(0:Int)+(n:Int)]:=by unfold cX;rw[jx,ij];rfl
theorem bZ(n:Nat):(cX n).length=n:=by unfold cX;simp
theorem iI{n i:Nat}(h:i<n):(cX n)[i]?=some (i:Int):=by unfold cX;rw[fo,List.getElem?_range h];simp
theorem tM{n:Nat}(f:1<=n)(e:n<=12):Pts (cX (n+1)):=by
 refine⟨by rw[bZ];lia,by rw[bZ];lia,?_⟩;rw[oD];intro i j hi a d;rw[bZ]at hi a;have c:=iI hi;have b:=iI a;rw[GH (by rw[bZ];exact hi)]at c;rw[GH (by rw[bZ];exact a)]at b;rw[Option.some.inj c,Option.some.inj b];lia
theorem vn{n:Nat}(h:1<=n):loP (cX (n+1))=0:=by
 unfold loP;rw[dE,iI (by lia)];rfl
theorem vo(n:Nat):hiP (cX (n+1))=(n:Int)-1:=by
 unfold hiP;rw[bZ,dE,show n+1-1=n by lia,iI (by lia)];rfl
def PTL(H:Hp)(xs:List V)(a:List (List Int)):Prop:=aD xs a λl b=>H l=some (.lst (b.map V.int))
theorem PTL.same{H H':Hp}{xs:List V}{a:List (List Int)}(h:PTL H xs a)(s:aq H H'):PTL H' xs a:=aD.mono h λ_ _ e=>s _ _ e
structure pZ(ns:List Int)(pss:List (List Int)):Prop where
 pts:∀ps∈pss,Pts ps
 wrd:∀(j:Nat)(ps:List Int),pss[j]?=some ps->cx ns (1+(0+(j:Int)))%3=1->∃n:Nat,1<=n/\n<=12/\ps=cX (n+1)
theorem DN{k:Int}(b:0<=k)(a:k<5):∃v:Int,atI [V.int 10007,.int 10009,.int 10037,.int 10039,.int 10061] k=some (.int v)/\0<v:=by
 have:k=0\/k=1\/k=2\/k=3\/k=4:=by lia
 rcases this with rfl|rfl|rfl|rfl|rfl
 .exact⟨_,U,by decide⟩
 .exact⟨_,U,by decide⟩
 .exact⟨_,U,by decide⟩
 .exact⟨_,U,by decide⟩
 .exact⟨_,U,by decide⟩
def s2(c:Int):List Nat:=[113+(c%8).toNat,121+(c / 8%2).toNat]
def w3l(c k:Int):List Nat:=(s2 c).take (c / 16%3).toNat++([97+k.toNat]++(s2 c).drop (c / 16%3).toNat)
def w3(c k:Int):Str:=⟨(w3l c k).toArray⟩
theorem DO(c:Int):(c / 16%3).toNat<=2:=by
 have:=Bf (c / 16) (show(0:Int)<3 by decide);lia
theorem xl(c k:Int):(w3l c k).length=3:=by
 have:=DO c;unfold w3l s2;simp;lia
theorem tN(c k:Int)(f:0<=k)(e:k<12):∀x∈w3l c k,97<=x/\x<=122/\x≠110:=λx a=>by
 have j:=Ba c (show(8:Int)≠0 by decide);have i:=Bf c (show(0:Int)<8 by decide);have h:=Ba (c / 8) (show(2:Int)≠0 by decide);have g:=Bf (c / 8) (show(0:Int)<2 by decide);have d:∀y∈s2 c,97<=y/\y<=122/\y≠110:=λy b=>by
  unfold s2 at b;simp only[dt,ju,or_false]at b;lia
 unfold w3l at a;rcases gg.mp a with a|a
 .exact d x (qf a)
 .rcases gg.mp a with a|a
  .have:x=97+k.toNat:=by simpa using a
   lia
  .exact d x (qg a)
theorem AW{l:List Nat}(j:1<=l.length)(i:l.length<=12)(f:∀x∈l,97<=x/\x<=122)(d:l≠[110,111,116]):isw ⟨l.toArray⟩=true:=by
 have c:mB ⟨l.toArray⟩ lets=true:=by
  unfold mB;rw[jq];intro x a;exact AV (f x (by simpa using a))
 have b:¬ (V.str ⟨l.toArray⟩=V.str s!"not"):=λh=>by
  injection h with h;have e:s!"not" = ⟨[110,111,116].toArray⟩:=by decide+kernel
  rw[e]at h;injection h with h;exact d (by simpa using congrArg Array.toList h)
 have g:(⟨l.toArray⟩:Str).length=l.length:=by simp[Str.length]
 unfold isw;rw[c,decide_eq_true (show(1:Int)<=(((⟨l.toArray⟩:Str).length:Nat):Int) by lia),decide_eq_true (show(((⟨l.toArray⟩:Str).length:Nat):Int)<=12 by lia)];show(true && (true && (!decide (V.str ⟨l.toArray⟩=V.str s!"not") && true)))=true;rw[decide_eq_false b];rfl
theorem xm(c k:Int)(b:0<=k)(a:k<12):isw (w3 c k)=true :=
 AW (by rw[xl];decide) (by rw[xl];decide) (λx d=>⟨(tN c k b a x d).1,(tN c k b a x d).2.1⟩) λh=>(tN c k b a 110 (by rw[h];simp)).2.2 U
theorem xn{c k a:Int}(d:0<=k)(b:0<=a)(e:w3 c k=w3 c a):k=a:=by
 unfold w3 at e;injection e with e;have e:w3l c k=w3l c a:=by simpa using congrArg Array.toList e
 unfold w3l at e;have e:=List.append_cancel_left e;injection e with e _;lia
def w3s(c:Int)(n:Nat):List Str:=(List.range n).map λj:Nat=>w3 c (0+(j:Int))
theorem mY(c:Int)(n:Nat):w3s c (n+1)=w3s c n++[w3 c (0+(n:Int))]:=by unfold w3s;rw[jx,ij];rfl
theorem fu(c:Int)(n:Nat):(w3s c n).length=n:=by unfold w3s;simp
theorem pd(c:Int)(n:Nat):(w3s c n).Nodup:=by
 unfold w3s;rw[List.nodup_iff_pairwise_ne,List.pairwise_map];refine List.Pairwise.imp_of_mem (R:=λa b=>a≠b) (λ{a b} g f d e=>?_) List.nodup_range;have:=xn (by lia) (by lia) e;lia
theorem uy{c:Int}{n:Nat}(h:n<=12):∀z∈w3s c n,isw z=true:=λz a=>by
 unfold w3s at a;obtain⟨j,b,rfl⟩:=en.mp a;have:=jr.mp b;exact xm _ _ (by lia) (by lia)
theorem rj{c:Int}{n:Nat}(b:1<=n)(a:n<=12):Good (w3s c n):=⟨by rw[fu];exact b,by rw[fu];lia,uy a,pd c n⟩
theorem Cf(x y:Nat){t:Int}(b:0<=t)(a:t<3):Txt.slice ⟨#[x,y]⟩ none (some t)=⟨([x,y].take t.toNat).toArray⟩:=by
 have:t=0\/t=1\/t=2:=by lia
 rcases this with rfl|rfl|rfl <;> rfl
theorem Cg(x y:Nat){t:Int}(a:0<=t)(b:t<3):Txt.slice ⟨#[x,y]⟩ (some t) none=⟨([x,y].drop t.toNat).toArray⟩:=by
 have h:=StrLaws.sliceText_from (x:=⟨#[x,y]⟩) (i:=t) ⟨a,by show t<=2;lia⟩;have e:Txt.slice ⟨#[x,y]⟩ (some t) none=StrLaws.sliceText ⟨#[x,y]⟩ (some t) none:=rfl;rw[e,h];have:t=0\/t=1\/t=2:=by lia
 rcases this with rfl|rfl|rfl <;> simp
theorem qx8{k:Int}(b:0<=k)(a:k<8):atI s!"qrstuvwx".cps.toList k=some (113+k.toNat):=by
 have:k=0\/k=1\/k=2\/k=3\/k=4\/k=5\/k=6\/k=7:=by lia
 rcases this with rfl|rfl|rfl|rfl|rfl|rfl|rfl|rfl <;> decide+kernel
theorem yz2{k:Int}(b:0<=k)(a:k<2):atI s!"yz".cps.toList k=some (121+k.toNat):=by
 have:k=0\/k=1:=by lia
 rcases this with rfl|rfl <;> decide+kernel
theorem Ci:s!"abcdefghijkl".cps.toList=(List.range 12).map (97 + ·):=by decide+kernel
def gv(c:Int)(g:List Int):Prop:=∃f e d b a:Int,g=[f,e,d,b,a]/\f<=e/\e<=d/\d<=b/\b<=a/\(c%3=1->f=0/\a=4)
def o0(a:List Int):Int:=a.getD 0 0
def o4(a:List Int):Int:=a.getD 4 0
theorem yN{c:Int}{a:List Int}(h:gv c a):∀x∈a,o0 a<=x/\x<=o4 a:=by
 obtain⟨e,i,g,f,d,rfl,m,l,k,j,_⟩:=h;intro x b;show e<=x/\x<=d;simp only[dt,ju,or_false]at b;rcases b with rfl|rfl|rfl|rfl|rfl <;> lia
theorem DP{k:Int}(c:0<=k)(b:k<6):∃(a:Str)(i:Nat),atI [V.str s!"first",.str s!"only",.str s!"like",.str s!"low",.str s!"high",.str s!"sum"] k=some (.str a)/\six[i]?=some a:=by
 have:k=0\/k=1\/k=2\/k=3\/k=4\/k=5:=by lia
 rcases this with rfl|rfl|rfl|rfl|rfl|rfl
 .exact⟨_,0,U,U⟩
 .exact⟨_,1,U,U⟩
 .exact⟨_,2,U,U⟩
 .exact⟨_,3,U,U⟩
 .exact⟨_,4,U,U⟩
 .exact⟨_,5,U,U⟩
def BRL(H:Hp)(a:List V)(bms:List (List Int×Int)):Prop:=aD a bms λr b=>∃bl:Addr,H r=some (.tup [.ref bl,.int b.2])/\H bl=some (.lst (b.1.map V.int))
theorem BRL.same{H H':Hp}{a:List V}{bms:List (List Int×Int)}(h:BRL H a bms)(s:aq H H'):BRL H' a bms:=aD.mono h λ_ _ ⟨bl,e,f⟩=>⟨bl,s _ _ e,s _ _ f⟩
theorem xo{xs:List V}{k:Nat}(b:k<=xs.length):jS xs none (some (k:Int))=xs.take k:=by
 unfold jS;have e:HT.sIx xs.length xs.length (some (k:Int))=k:=by
  simp only[HT.sIx];split <;> lia
 have a:HT.sIx xs.length 0 none=0:=by simp[HT.sIx]
 rw[e,a,List.drop_zero,Nat.sub_zero]
theorem lM.wk{N:Addr->Prop}{g:Addr}{H:Hp}{t:Addr}{rws:List Rw}{e c:Str}{d:Addr}{zs:List Str}{f:List V}(h:lM N g H t rws e c d zs f):lM (λ_=>True) g H t rws e c d zs f:=by
 obtain⟨j,x,k,y,fs,i,w,v,u,s,q,o,n,m,l,b,a,_,_,_,r⟩:=h;exact⟨j,x,k,y,fs,i,w,v,u,s,q,o,n,m,l,b,aD.mono a λ_ _ p=>p.wk λ_ _=>trivial,trivial,trivial,trivial,r⟩
def bW(lo hi:Int)(a:List Int):List (Int×Int):=(lo :: a).zip (a.map (· - 1)++[hi])
def Chn:List (Int×Int)->Int->Int->Prop
 | [],lo,hi=>lo=hi+1
 |p :: r,lo,hi=>p.1=lo/\lo<=p.2/\Chn r (p.2+1) hi
theorem rk:∀{a:List Int}{lo hi:Int},a.Pairwise (· < ·)->(∀c∈a,lo<c/\c<=hi)->lo<=hi->Chn (bW lo hi a) lo hi
 | [],lo,hi,_,_,h=>⟨U,h,U⟩
 |c :: a,lo,hi,hp,hb,h=>by
  obtain⟨i,g⟩:=rR.mp hp;have f:=hb c fb;have e:bW lo hi (c :: a)=(lo,c-1) :: bW c hi a:=rfl;rw[e];refine⟨U,by show lo<=c-1;lia,?_⟩;show Chn (bW c hi a) (c-1+1) hi;rw[show c-1+1=c by lia];exact rk g (λd b=>⟨i d b,(hb d (iC _ b)).2⟩) f.2
theorem fQ(lo hi:Int)(a:List Int):(bW lo hi a).length=a.length+1:=by simp[bW]
theorem PL.of_get{H:Hp}:∀{ts:List Addr}{ps:List (Int×Int)},ts.length=ps.length->(∀(j:Nat)(p:Int×Int),ps[j]?=some p->∃T,ts[j]?=some T/\H T=some (.tup [.int p.1,.int p.2]))->PL H (ts.map V.ref) ps
 | [],[],_,_=>.nil
 | [],p :: ps,h,_=>by simp at h
 |t :: ts,[],h,_=>by simp at h
 |t :: ts,p :: ps,h,g=>by
  obtain⟨T,c,b⟩:=g 0 p U;have:t=T:=by simpa using c
  subst this;exact .cons ⟨t,U,b⟩ (PL.of_get (by simpa using h) λj q a=>by simpa using g (j+1) q (by simpa using a))
theorem zip_get{lo hi:Int}{a:List Int}{j:Nat}{p:Int×Int}(e:(bW lo hi a)[j]?=some p):((lo :: a).map V.int)[j]?=some (.int p.1)/\((a.map (· - 1)++[hi]).map V.int)[j]?=some (.int p.2):=by
 unfold bW at e;rw[pk]at e;obtain⟨c,b⟩:=e;exact⟨get_map c,get_map b⟩
def mZ(lo hi:Int)(a:List Int)(m:Int):List Int:=if lo<m/\m<=hi/\m ∉ a then a++[m]else a
def dd(lo hi:Int)(a:List Int):List Int:=a.foldl (mZ lo hi) []
theorem p6(lo hi:Int):∀(e d:List Int),d.Nodup->(e.foldl (mZ lo hi) d).Nodup/\∀c,c∈e.foldl (mZ lo hi) d↔(c∈d\/(c∈e/\lo<c/\c<=hi))
 | [],d,h=>⟨h,λc=>by simp⟩
 |m :: e,d,h=>by
  have k:(mZ lo hi d m).Nodup:=by
   unfold mZ;split
   .rename_i g
    rw[rQ];refine⟨h,by simp,λa j b i=>?_⟩;have:b=m:=by simpa using i
    subst this;exact λz=>g.2.2 (z ▸ j)
   .exact h
  obtain⟨n,l⟩:=p6 lo hi e (mZ lo hi d m) k;refine⟨n,λc=>(l c).trans ?_⟩;unfold mZ;by_cases g:lo<m/\m<=hi/\m ∉ d
  .rw[if_pos g];simp only[gg,dt,ju,or_false];constructor
   .rintro((h|rfl)|⟨h,h'⟩)
    .exact .inl h
    .exact .inr ⟨.inl U,g.1,g.2.1⟩
    .exact .inr ⟨.inr h,h'⟩
   .rintro(h|⟨rfl|h,h'⟩)
    .exact .inl (.inl h)
    .exact .inl (.inr U)
    .exact .inr ⟨h,h'⟩
  .rw[if_neg g];simp only[dt];constructor
   .rintro(h|⟨h,h'⟩)
    .exact .inl h
    .exact .inr ⟨.inr h,h'⟩
   .rintro(h|⟨rfl|h,h'⟩)
    .exact .inl h
    .by_cases f:c∈d
     .exact .inl f
     .exact absurd ⟨h'.1,h'.2,f⟩ g
    .exact .inr ⟨h,h'⟩
theorem AX{lo hi:Int}{a b:List Int}(g:b.Pairwise (· < ·))(i:∀c,c∈b↔(c∈a/\lo<c/\c<=hi)):b.length=(dd lo hi a).length:=by
 obtain⟨j,f⟩:=p6 lo hi a [] tD;have e:∀c,c∈b↔c∈dd lo hi a:=λc=>by
  rw[i c];exact⟨λh=>(f c).mpr (.inr h),λh=>by rcases(f c).mp h with z|z;cases z;exact z⟩
 exact Nat.le_antisymm (bJ (g.imp λh=>Int.ne_of_lt h) λx d=>(e x).mp d) (bJ j λx d=>(e x).mpr d)
theorem Cj(lo hi:Int)(a:List Int):(dd lo hi a).length<=a.length:=by
 obtain⟨d,c⟩:=p6 lo hi a [] tD;exact bJ d λx b=>by rcases(c x).mp b with z|z;cases z;exact z.1
def gl(ps:List (Int×Int))(a:List (List Int))(j:Nat):Nat:=(dd (ps.getD j (0,0)).1 (ps.getD j (0,0)).2 (a.getD j [])).length+1
def gr(ps:List (Int×Int))(a:List (List Int)):Nat->Nat
 |0=>1
 |n+1=>gr ps a n*gl ps a n
theorem Ck{ps:List (Int×Int)}{a:List (List Int)}(h:∀b∈a,b.length<=57)(j:Nat):gl ps a j<=58:=by
 unfold gl;have:=Cj (ps.getD j (0,0)).1 (ps.getD j (0,0)).2 (a.getD j []);have c:(a.getD j []).length<=57:=by
  rw[dE];cases e:a[j]? with
  |none=>simp
  |some b=>exact h b (GJ e)
 lia
theorem zQ{ps:List (Int×Int)}{c:List (List Int)}(h:∀ms∈c,ms.length<=57):∀n,gr ps c n<=58^n
 |0=>w5 _
 |n+1=>by
  have a:=zQ (ps:=ps) h n;have b:=Ck (ps:=ps) h n;show gr ps c n*gl ps c n<=58^n*58;exact zo a b
def MLs(H:Hp)(c:List Addr)(a:List (List Int)):Prop:=c.length=a.length/\∀(j:Nat)(b:List Int),a[j]?=some b->∃r,c[j]?=some r/\H r=some (.lst (b.map V.int))
theorem MLs.keep{H H':Hp}{b:List Addr}{a:List (List Int)}(h:MLs H b a)(k:∀r∈b,∀o,H r=some o->H' r=some o):MLs H' b a :=
 ⟨h.1,λj c e=>let ⟨r,e1,e2⟩:=h.2 j c e;⟨r,e1,k r (GJ e1) _ e2⟩⟩
theorem MLs.same{H H':Hp}{b:List Addr}{a:List (List Int)}(h:MLs H b a)(s:aq H H'):MLs H' b a:=h.keep λ_ _ _ e=>s _ _ e
theorem xp{a:List Addr}{j:Nat}{x:V}(e:(a.map V.ref)[j]?=some x):∃r,x=.ref r/\a[j]?=some r:=by
 rw[fo]at e;cases h:a[j]? with
 |none=>rw[h]at e;cases e
 |some r=>rw[h]at e;cases e;exact⟨r,U,U⟩
def MOK(ps:List (Int×Int))(a:List (List Int)):Prop:=ps.length=a.length/\ps.length<=6/\∀ms∈a,ms.length<=57
abbrev Tri:=Int×Int×V
structure At(ts:List Tri)(c:Int)(j:Nat)(t:Tri):Prop where
 at_:ts[j]?=some t
 le:c<=t.2.1
 lt:∀(i:Nat)(u:Tri),i<j->ts[i]?=some u->u.2.1<c
theorem zR:∀{c:List (Int×Int)}{lo hi:Int},Chn c lo hi->yI c lo hi
 | [],_,_,h=>h
 |_ :: _,_,_,h=>⟨h.1,h.2.1,zR h.2.2⟩
theorem m3:∀{a:List Int}{lo hi c:Int},a.Pairwise (· < ·)->(∀x∈a,lo<x)->lo<=c->c<=hi->bV (bW lo hi a) c<=c/\(bV (bW lo hi a) c=lo\/bV (bW lo hi a) c∈a)/\lo<=bV (bW lo hi a) c/\∀x∈a,x<=c->x<=bV (bW lo hi a) c
 | [],lo,hi,c,_,_,h1,h2=>by
  have e:bV (bW lo hi []) c=lo:=by simp[bW,bV,h2]
  rw[e];exact⟨h1,.inl U,Int.le_refl _,λx b=>by cases b⟩
 |d :: a,lo,hi,c,hp,hb,h1,h2=>by
  obtain⟨h,j⟩:=rR.mp hp;have e:bW lo hi (d :: a)=(lo,d-1) :: bW d hi a:=rfl;by_cases q:c<=d-1
  .have g:bV (bW lo hi (d :: a)) c=lo:=by rw[e];unfold bV;rw[ll (by simpa using q)];rfl
   rw[g];refine⟨h1,.inl U,Int.le_refl _,λx b i=>?_⟩;rcases dt.mp b with rfl|b
   .lia
   .have:=h x b;lia
  .have g:bV (bW lo hi (d :: a)) c=bV (bW d hi a) c:=by rw[e];unfold bV;rw[lq (by simpa using q)]
   rw[g];obtain⟨m,f,l,k⟩:=m3 j h (c:=c) (by lia) h2;have n:=hb d fb;refine⟨m,.inr ?_,by lia,λx b i=>?_⟩
   .rcases f with f|f
    .rw[f];exact fb
    .exact iC _ f
   .rcases dt.mp b with rfl|b
    .exact l
    .exact k x b i
def CoL(H:Hp)(xs:List V)(a:List (List (Int×Int))):Prop:=aD xs a λr c=>∃b,H r=some (.lst b)/\PL H b c
theorem CoL.same{H H':Hp}{xs:List V}{a:List (List (Int×Int))}(h:CoL H xs a)(s:aq H H'):CoL H' xs a:=aD.mono h λ_ _ ⟨b,e,p⟩=>⟨b,s _ _ e,PL.mono p s.tups⟩
structure AY{K':W.Frag}{L:Type} [DecidableEq L] (A:Lfp K' L)(P:Program)(w:World)(K:W.Frag)(mg:Str->Option Value)(base:Heap)(f:Addr)(m:Nat)(g:List Int->L)(J:Hp->Prop):Prop where
 fn:∃sp,HFn P w K mg base 8 f sp/\∀(H:Hp)(a:Addr)(cs:List Int)(Q:VK),J H->cs.length=m->H a=some (.lst (cs.map V.int))->(∀v H',(∀b o,b≠a->H b=some o->H' b=some o)->A.R H' (g cs) v->Q v H')->sp [.ref a] H Q E0
 ob:∀H,J H->FnO H f
 st:∀H H',J H->aq H H'->J H'
theorem pe{α:Type} [DecidableEq α] (ts:List (T3a α)):(d7 ts).length<=ts.length:=by
 have:∀(r f:List (T3a α)),(r.foldl cU f).length<=f.length+r.length:=by
  intro r;induction r with
  |nil=>intro f;exact w5 _
  |cons t r a =>
   intro f;have c:(cU f t).length<=f.length+1:=by
    unfold cU;split
    .split
     .rw[cK,List.length_dropLast,gI];lia
     .rw[cK,gI];lia
    .rw[cK,gI];lia
   have b:=a (cU f t);rw[ik];show((r.foldl cU (cU f t)).length)<=_;lia
 have h:=this ts [];rw[List.length_nil,Nat.zero_add]at h;exact h
def below(a:List Int)(c:Int):Int:=((a.filter λm=>decide (m<=c)).length:Int)
def AZ(a:List (List Int))(b:Int)(c:List Int):Nat->Int
 |0=>0
 |k+1=>AZ a b c k*b+(1+AZ a b c k)%3*below (a.getD k []) (c.getD k 0)
def told(a:List (List Int))(c d st:Int)(b:List Int):Int:=AZ a c b b.length%d*st
def SmS{α:Type}(b:Nat)(S:α->Prop)(f:List (T3a α)):Prop:=f.length<=b/\∀t∈f,S t.2.2
def SmF{L:Type}(b:Nat):(n:Nat)->Fm L n->Prop
 |0,_=>True
 |n+1,f=>SmS b (SmF b n) f
theorem tO{b:Nat}{L:Type} [DecidableEq L] {g:List Int->L}:∀{a:List (List (Int×Int))}{ps:List (Int×Int)},fO a ps->(∀c∈a,c.length<=b)->∀e:List Int,SmF b a.length (lay g a e)
 | [],_,_,_,_=>trivial
 |c :: a,_,hok,h,e=>by
  cases hok with
  | @cons _ _ p ps hne d hok =>
   have k:=dW (wZ (λq=>lay g a (e++[q.1])) d);refine⟨yc (pe _) (by rw[bx];exact h c fb),λt f=>?_⟩;obtain⟨l,j,i⟩:=k.mem t f;obtain⟨q,_,rfl⟩:=en.mp j;rw[←i];exact tO hok (λc d=>h c (iC _ d)) _
theorem A1{ps:List (Int×Int)}{c:List (List Int)}{m:Nat}(g:∀d∈c,∃L:List Int,L.length<=m/\∀x∈d,x∈L)(j:Nat):gl ps c j<=m+1:=by
 unfold gl;have:(dd (ps.getD j (0,0)).1 (ps.getD j (0,0)).2 (c.getD j [])).length<=m:=by
  rw[show c.getD j []=(c[j]?).getD []from dE ..];cases e:c[j]? with
  |none=>exact yh _
  |some d =>
   obtain⟨L,i,h⟩:=g d (GJ e);obtain⟨a,b⟩:=p6 (ps.getD j (0,0)).1 (ps.getD j (0,0)).2 d [] tD;refine yc (bJ a λx f=>?_) i;rcases(b x).mp f with z|z
   .cases z
   .exact h x z.1
 lia
theorem tQ:∀{ps:List (Int×Int)}{css:List (List Int)},css.length=ps.length->(∀p∈ps,p.1<=p.2)->(∀(j:Nat)(p:Int×Int)(d:List Int),ps[j]?=some p->css[j]?=some d->d.Pairwise (· < ·)/\∀c∈d,p.1<c/\c<=p.2)->fO (List.zipWith (λp d=>bW p.1 p.2 d) ps css) ps
 | [],[],_,_,_=>.nil
 | [],_ :: _,h,_,_=>by simp at h
 |_ :: _,[],h,_,_=>by simp at h
 |p :: ps,d :: css,h,hle,hk=>by
  obtain⟨a,b⟩:=hk 0 p d U U;refine .cons (λz=>?_) (zR (rk a b (hle p fb))) (tQ (by simpa using h) (λq e=>hle q (iC _ e)) λj q c g f=>hk (j+1) q c (by simpa using g) (by simpa using f));have:=congrArg List.length z;rw[fQ]at this;simp at this
def oi{L M:Type} [DecidableEq M] (h:L->M):(n:Nat)->Fm L n->Fm M n
 |0,x=>h x
 |n+1,f=>d7 (List.map (λt:T3a (Fm L n)=>((t.1,t.2.1,oi h n t.2.2):T3a (Fm M n))) f)
theorem p7{α a:Type}(F:α->a):∀{f:List (T3a α)}{lo hi:Int},Ch3 f lo hi->Ch3 (f.map λt=>((t.1,t.2.1,F t.2.2):T3a a)) lo hi
 | [],_,_,h=>h
 |_ :: _,_,_,h=>⟨h.1,h.2.1,p7 F h.2.2⟩
theorem rm{α a:Type}(F:α->a)(c:Int):∀f:List (T3a α),vAt (f.map λt=>((t.1,t.2.1,F t.2.2):T3a a)) c=(vAt f c).map F
 | []=>rfl
 |t :: f=>by
  have b:=rm F c f;unfold vAt at b⊢;rw[kU];by_cases q:c<=t.2.1
  .rw[ll (by simpa using q),ll (by simpa using q)];rfl
  .rw[lq (by simpa using q),lq (by simpa using q)];exact b
theorem eK{α:Type}{c:Int}:∀{f:List (T3a α)}{j:Nat}{t:T3a α},f[j]?=some t->c<=t.2.1->(∀(i:Nat)(u:T3a α),i<j->f[i]?=some u->u.2.1<c)->vAt f c=some t.2.2
 | [],j,t,e,_,_=>by simp at e
 |u :: f,0,t,e,h,_=>by
  cases e;unfold vAt;rw[ll (by simpa using h)];rfl
 |u :: f,j+1,t,e,h,k=>by
  have a:=k 0 u (zd _) U;have:=eK (f:=f) (j:=j) (t:=t) (by simpa using e) h λi w hi b=>k (i+1) w (by lia) (by simpa using b)
  unfold vAt at this⊢;rw[lq (by simpa using a)];exact this
theorem xq{L M:Type} [DecidableEq M] {h:L->M}:∀{n:Nat}{F:Fm L n}{ps:List (Int×Int)},cq n F ps->cq n (oi h n F) ps
 |0,_,_,hs=>hs
 |n+1,F,ps,hs=>by
  obtain⟨G,rfl⟩:∃G:List (T3a (Fm L n)),(G:Fm L (n+1))=F:=⟨F,U⟩;obtain⟨p,r,rfl,c,d,i,g⟩:ShS (cq n) G ps:=hs;have k:=dW (p7 (oi h n) d);refine⟨p,r,U,k.ne (by simpa using c),k.ch,k.nb,λt f=>?_⟩;obtain⟨j,a,b⟩:=k.mem t f;obtain⟨u,e,rfl⟩:=en.mp a;rw[←b];exact xq (g u e)
theorem yO{L M:Type} [DecidableEq M] {h:L->M}{n:Nat}{F:Fm L n}{a:List Int}{x:L}(i:Tel n F a x):∀{ps:List (Int×Int)},cq n F ps->InB a ps->Tel n (oi h n F) a (h x):=by
 induction i with
 |nil x=>intro ps _ _;exact .nil (h x)
 | @cons n f c a x j t e1 e2 e3 _ ih =>
  intro ps l d;obtain⟨p,r,rfl,w,e,y,q⟩:ShS (cq n) f ps:=l;cases d with
  |cons o m d =>
   have k:=dW (p7 (oi h n) e);obtain⟨z,g,v,A,u,s,b⟩:=k.ch.at o m;rw[k.va,rm,eK e1 e2 e3]at b;have b:oi h n t.2.2=g.2.2:=Option.some.inj b;refine .cons (f:=(oi h (n+1) f:List (T3a (Fm M n)))) v u s ?_;rw[←b];exact ih (q t (GJ e1)) d
structure Cm{K':W.Frag}{L M:Type} [DecidableEq L] [DecidableEq M] (A:Lfp K' L)(B:Lfp K' M)(P:Program)(w:World)(K:W.Frag)(mg:Str->Option Value)(base:Heap)(f:Addr)(h:L->M)(J:Hp->Prop):Prop where
 fn:∃sp,HFn P w K mg base 8 f sp/\∀(H:Hp)(v:V)(x:L)(Q:VK),J H->A.R H x v->(∀u H',aq H H'->B.R H' (h x) u->Q u H')->sp [v] H Q E0
 ob:∀H,J H->FnO H f
 st:∀H H',J H->aq H H'->J H'
def kJ{α b a:Type}(G:α->b->a):Int->List (T3a α)->List (T3a b)->List (T3a a)
 |_,[],_=>[]
 |_,_ :: _,[]=>[]
 |lo,s :: f,t :: g =>
  if s.2.1<t.2.1 then(lo,s.2.1,G s.2.2 t.2.2) :: kJ G (s.2.1+1) f (t :: g)
  else if t.2.1<s.2.1 then(lo,t.2.1,G s.2.2 t.2.2) :: kJ G (t.2.1+1) (s :: f) g
  else(lo,s.2.1,G s.2.2 t.2.2) :: kJ G (s.2.1+1) f g
termination_by _ f g=>f.length+g.length
def Cov{α:Type}:List (T3a α)->Int->Int->Prop
 | [],lo,hi=>lo=hi+1
 |t :: r,lo,hi=>lo<=t.2.1/\Ch3 r (t.2.1+1) hi
theorem _root_.L2.Ch3.cov{α:Type}:∀{f:List (T3a α)}{lo hi:Int},Ch3 f lo hi->Cov f lo hi
 | [],_,_,h=>h
 |_ :: _,_,_,h=>⟨h.2.1,h.2.2⟩
theorem _root_.L2.Ch3.le{α:Type}:∀{f:List (T3a α)}{lo hi:Int},Ch3 f lo hi->lo<=hi+1
 | [],_,_,h=>Int.le_of_eq h
 |t :: f,lo,hi,h=>by have:=L2.Ch3.le h.2.2;have:=h.2.1;lia
theorem bX{α:Type}(t:T3a α)(r:List (T3a α))(c:Int):vAt (t :: r) c=if c<=t.2.1 then some t.2.2 else vAt r c:=by
 unfold vAt;by_cases h:c<=t.2.1
 .rw[ll (by simpa using h),if_pos h];rfl
 .rw[lq (by simpa using h),if_neg h]
structure zS{α β γ:Type}(G:α->β->γ)(f:List (T3a α))(g:List (T3a β))(z:List (T3a γ))(lo hi:Int):Prop where
 ch:Ch3 z lo hi
 va:∀c x y,lo<=c->c<=hi->vAt f c=some x->vAt g c=some y->vAt z c=some (G x y)
 mem:∀t∈z,∃s∈f,∃u∈g,t.2.2=G s.2.2 u.2.2
 len:z.length<=f.length+g.length
 ne:f≠[]->g≠[]->z≠[]
theorem lZ{α v B:Type}{G:α->v->B}:∀{f:List (T3a α)}{g:List (T3a v)}{lo hi:Int},Cov f lo hi->Cov g lo hi->zS G f g (kJ G lo f g) lo hi
 | [],g,lo,hi,l,m=>by
  rw[kJ];have l:lo=hi+1:=l;exact⟨l,λc _ _ u r=>by lia,(λt C=>by cases C),yh _,λh=>absurd U h⟩
 |s :: f,[],lo,hi,l,m=>by
  have m:lo=hi+1:=m;have:=l.1;have:=l.2.le;lia
 |s :: f,t :: g,lo,hi,l,m=>by
  rw[kJ];have w:=l.1;have D:=m.1;by_cases u:s.2.1<t.2.1
  .rw[if_pos u];have k:=lZ (G:=G) (f:=f) (g:=t :: g) (lo:=s.2.1+1) (hi:=hi) l.2.cov ⟨by lia,m.2⟩;refine⟨⟨U,w,k.ch⟩,λc x y A p d i=>?_,λz j=>?_,by have:=k.len;simp at this⊢;lia,λ_ _=>by simp⟩
   .rw[bX]at d⊢;by_cases q:c<=s.2.1
    .rw[if_pos q]at d;rw[bX,if_pos (by lia)]at i;cases d;cases i;rw[if_pos q]
    .rw[if_neg q]at d;rw[if_neg q];exact k.va c x y (by lia) p d i
   .rcases dt.mp j with rfl|j
    .exact⟨s,by simp,t,by simp,U⟩
    .obtain⟨a,o,b,n,e⟩:=k.mem z j;exact⟨a,iC _ o,b,n,e⟩
  .rw[if_neg u];by_cases r:t.2.1<s.2.1
   .rw[if_pos r];have k:=lZ (G:=G) (f:=s :: f) (g:=g) (lo:=t.2.1+1) (hi:=hi) ⟨by lia,l.2⟩ m.2.cov;refine⟨⟨U,D,k.ch⟩,λc x y A p d i=>?_,λz j=>?_,by have:=k.len;simp at this⊢;lia,λ_ _=>by simp⟩
    .rw[bX];by_cases q:c<=t.2.1
     .rw[bX,if_pos (by lia)]at d;rw[bX,if_pos q]at i;cases d;cases i;rw[if_pos q]
     .rw[bX,if_neg q]at i;rw[if_neg q];exact k.va c x y (by lia) p d i
    .rcases dt.mp j with rfl|j
     .exact⟨s,by simp,t,by simp,U⟩
     .obtain⟨a,o,b,n,e⟩:=k.mem z j;exact⟨a,o,b,iC _ n,e⟩
   .rw[if_neg r];have e:s.2.1=t.2.1:=by lia
    have k:=lZ (G:=G) (f:=f) (g:=g) (lo:=s.2.1+1) (hi:=hi) l.2.cov (by rw[e];exact m.2.cov);refine⟨⟨U,w,k.ch⟩,λc x y A p d i=>?_,λz j=>?_,by have:=k.len;simp at this⊢;lia,λ_ _=>by simp⟩
    .rw[bX]at d i⊢;by_cases q:c<=s.2.1
     .rw[if_pos q]at d;rw[if_pos (by lia)]at i;cases d;cases i;rw[if_pos q]
     .rw[if_neg q]at d;rw[if_neg (by lia)]at i;rw[if_neg q];exact k.va c x y (by lia) p d i
    .rcases dt.mp j with rfl|j
     .exact⟨s,by simp,t,by simp,U⟩
     .obtain⟨a,o,b,n,e⟩:=k.mem z j;exact⟨a,iC _ o,b,iC _ n,e⟩
termination_by f g=>f.length+g.length
def loF{α:Type}(f:List (T3a α)):Int:=(f.head?.map (·.1)).getD 0
def pairF{L M N:Type} [DecidableEq N] (h:L->M->N):(n:Nat)->Fm L n->Fm M n->Fm N n
 |0,x,y=>h x y
 |n+1,f,g=>d7 (α:=Fm N n) (kJ (pairF h n) (loF (show List (T3a (Fm L n))from f)) (show List (T3a (Fm L n))from f) (show List (T3a (Fm M n))from g))
theorem _root_.L2.Ch3.lo{α:Type}:∀{f:List (T3a α)}{lo hi:Int},Ch3 f lo hi->f≠[]->loF f=lo
 | [],_,_,_,h=>absurd U h
 |_ :: _,_,_,h,_=>h.1
section
variable{L M N:Type} [DecidableEq N] {h:L->M->N}
theorem m4{n:Nat}{f:List (T3a (Fm L n))}{g:List (T3a (Fm M n))}{p:Int×Int}(a:Ch3 f p.1 p.2)(b:f≠[])(c:Ch3 g p.1 p.2):∃z,z=kJ (pairF h n) p.1 f g/\zS (pairF h n) f g z p.1 p.2/\(pairF h (n+1) f g:List (T3a (Fm N n)))=d7 z:=by
 refine⟨_,U,lZ a.cov c.cov,?_⟩;show d7 (kJ (pairF h n) (loF f) f g)=_;rw[a.lo b]
theorem l0:∀{n:Nat}{F:Fm L n}{G:Fm M n}{ps:List (Int×Int)},cq n F ps->cq n G ps->cq n (pairF h n F G) ps
 |0,_,_,_,c,_=>c
 |n+1,F,G,ps,c,hs'=>by
  obtain⟨f,rfl⟩:∃f:List (T3a (Fm L n)),(f:Fm L (n+1))=F:=⟨F,U⟩;obtain⟨g,rfl⟩:∃g:List (T3a (Fm M n)),(g:Fm M (n+1))=G:=⟨G,U⟩;obtain⟨p,r,rfl,d,j,y,x⟩:ShS (cq n) f ps:=c;obtain⟨C,B,e,l,o,A,q⟩:ShS (cq n) g (p :: r):=hs';cases e;obtain⟨z,_,i,e⟩:=m4 (h:=h) j d o;show ShS (cq n) (pairF h (n+1) f g:List (T3a (Fm N n))) (p :: r);rw[e];have k:=dW i.ch;refine⟨p,r,U,k.ne (i.ne d l),k.ch,k.nb,λt w=>?_⟩;obtain⟨m,a,b⟩:=k.mem t w;obtain⟨s,c,u,v,e⟩:=i.mem m a;rw[←b,e];exact l0 (x s c) (q u v)
theorem xr{n:Nat}{g:List (T3a (Fm M n))}{c:Int}{e:List Int}{y:M}(h:Tel (n+1) (g:Fm M (n+1)) (c :: e) y):∃(j:Nat)(t:T3a (Fm M n)),g[j]?=some t/\c<=t.2.1/\(∀(i:Nat)(u:T3a (Fm M n)),i<j->g[i]?=some u->u.2.1<c)/\Tel n t.2.2 e y:=by
 cases h with
 |cons a b c d=>exact⟨_,_,a,b,c,d⟩
theorem xt{n:Nat}{F:Fm L n}{a:List Int}{x:L}(D:Tel n F a x):∀{G:Fm M n}{y:M}{ps:List (Int×Int)},Tel n G a y->cq n F ps->cq n G ps->InB a ps->Tel n (pairF h n F G) a (h x y):=by
 induction D with
 |nil x =>
  intro G y ps d _ _ _;cases d;exact .nil _
 | @cons n f c a x j t e1 e2 e3 _ ih =>
  intro G y ps d E l i;obtain⟨g,rfl⟩:∃g:List (T3a (Fm M n)),(g:Fm M (n+1))=G:=⟨G,U⟩;obtain⟨Y,q,w,Q,P,O⟩:=(xr d);obtain⟨p,r,rfl,m,o,R,H⟩:ShS (cq n) f ps:=E;obtain⟨W,V,e,T,B,S,C⟩:ShS (cq n) g (p :: r):=l;cases e;obtain⟨z,_,s,e⟩:=m4 (h:=h) o m B;cases i with
  |cons v u i =>
   have k:=dW s.ch;obtain⟨X,A,K,b2,J,I,b⟩:=k.ch.at v u;rw[k.va,s.va c _ _ v u (eK e1 e2 e3) (eK w Q P)]at b;have b:pairF h n t.2.2 q.2.2=A.2.2:=Option.some.inj b;refine .cons (f:=(pairF h (n+1) f g:List (T3a (Fm N n)))) (by rw[e];exact K) J (by rw[e];exact I) ?_;rw[←b];exact ih O (H t (GJ e1)) (C q (GJ w)) i
end
theorem gw{α:Type}{f:List α}{i:Nat}{t:α}(e:f[i]?=some t):f.drop i=t :: f.drop (i+1):=by
 obtain⟨h,rfl⟩:=GI.mp e;exact List.drop_eq_getElem_cons h
theorem SmF.le{L:Type}{b a:Nat}:∀{n:Nat}{F:Fm L n},SmF b n F->b<=a->SmF a n F
 |0,_,_,_=>trivial
 |n+1,F,h,l=>by
  obtain⟨f,rfl⟩:∃f:List (T3a (Fm L n)),(f:Fm L (n+1))=F:=⟨F,U⟩;obtain⟨e,d⟩:SmS b (SmF b n) f:=h;exact⟨yc e l,λt c=>SmF.le (d t c) l⟩
structure Cn{K':W.Frag}{L M N:Type} [DecidableEq L] [DecidableEq M] [DecidableEq N] (A:Lfp K' L)(B:Lfp K' M)(C:Lfp K' N)(P:Program)(w:World)(K:W.Frag)(mg:Str->Option Value)(base:Heap)(f:Addr)(h:L->M->N)(J:Hp->Prop):Prop where
 fn:∃sp,HFn P w K mg base 8 f sp/\∀(H:Hp)(v u:V)(x:L)(y:M)(Q:VK),J H->A.R H x v->B.R H y u->(∀r H',aq H H'->C.R H' (h x y) r->Q r H')->sp [v,u] H Q E0
 ob:(∀H,J H->FnO H f)\/W.keepIn K (.ref f)=true
 st:∀H H',J H->aq H H'->J H'
theorem yR{ps:List (Int×Int)}{css:List (List Int)}{a:List Int}{k:Nat}{p:Int×Int}{ks:List Int}{c:Int}(b:ps[k]?=some p)(d:css[k]?=some ks)(e:a[k]?=some c):(List.zipWith bV (List.zipWith (λp a=>bW p.1 p.2 a) ps css) a)[k]?=some (bV (bW p.1 p.2 ks) c):=by
 rw[kT,kT,b,d,e]
theorem pf{α:Type}:∀{f g:List (T3a α)}{lo hi:Int},Ch3 f lo hi->Ch3 g lo hi->Nbx (f.map (·.2.2))->Nbx (g.map (·.2.2))->(∀c,lo<=c->c<=hi->vAt f c=vAt g c)->f=g
 | [],[],_,_,_,_,_,_,_=>rfl
 | [],t :: g,lo,hi,e,d,_,_,_=>by
  have e:lo=hi+1:=e;have:=d.2.1;have:=d.2.2.le;lia
 |s :: f,[],lo,hi,e,d,_,_,_=>by
  have d:lo=hi+1:=d;have:=e.2.1;have:=e.2.2.le;lia
 |s :: f,t :: g,lo,hi,e,d,nf,ng,hv=>by
  obtain⟨B,A,o⟩:=e;obtain⟨z,w,n⟩:=d;have P:=o.le;have O:=n.le;have j:=hv lo (by lia) (by lia);rw[bX,bX,if_pos A,if_pos w]at j;have j:s.2.2=t.2.2:=Option.some.inj j;have k:∀{a b:T3a α}{r:List (T3a α)}{q:List (T3a α)},Ch3 r (a.2.1+1) hi->Nbx ((a :: r).map (·.2.2))->a.2.1<b.2.1->b.2.1<=hi->lo<=a.2.1->a.2.2=b.2.2->vAt (a :: r) (a.2.1+1)=vAt (b :: q) (a.2.1+1)->False:=λ{a b r q} l C S R Q D m=>by
   rw[bX,bX,if_neg (by lia),if_pos (by lia)]at m;cases r with
   |nil =>
    have l:a.2.1+1=hi+1:=l;lia
   |cons u r =>
    rw[bX,if_pos l.2.1]at m;exact C 0 _ _ U U (D.trans (Option.some.inj m).symm)
  have p:s.2.1=t.2.1:=by
   rcases Int.lt_trichotomy s.2.1 t.2.1 with h|h|h
   .exact(k o nf h (by lia) A j (hv _ (by lia) (by lia))).elim
   .exact h
   .exact(k n ng h (by lia) w j.symm (hv _ (by lia) (by lia)).symm).elim
  have H:s=t:=by
   obtain⟨N,s2,M⟩:=s;obtain⟨L,K,J⟩:=t;simp only at B z j p;rw[B,z,j,p]
  have v:∀{α:Type}{a:α}{r:List α},Nbx (a :: r)->Nbx r:=λ{α a r} h i x y F E=>h (i+1) x y (by simpa using F) (by simpa using E)
  have G:f=g:=pf o (by rw[p];exact n) (v nf) (v ng) λc T I=>by
   have:=hv c (by lia) I;rw[bX,bX,if_neg (by lia),if_neg (by lia)]at this;exact this
  rw[H,G]
section
variable{L:Type}
theorem _root_.L2.Tel.inv{n:Nat}{g:List (T3a (Fm L n))}{c:Int}{e:List Int}{y:L}(h:Tel (n+1) (g:Fm L (n+1)) (c :: e) y):∃(j:Nat)(t:T3a (Fm L n)),g[j]?=some t/\c<=t.2.1/\(∀(i:Nat)(u:T3a (Fm L n)),i<j->g[i]?=some u->u.2.1<c)/\Tel n t.2.2 e y:=by
 cases h with
 |cons a b c d=>exact⟨_,_,a,b,c,d⟩
theorem iJ{n:Nat}{F:Fm L n}{b:List Int}{x:L}(h:Tel n F b x):∀{y:L},Tel n F b y->x=y:=by
 induction h with
 |nil x=>intro y a;cases a;rfl
 | @cons n f c b x j t e1 e2 e3 _ ih =>
  intro y a;obtain⟨m,l,k,i,g,d⟩:=a.inv;have e:=(eK e1 e2 e3).symm.trans (eK k i g);rw[←Option.some.inj e]at d;exact ih d
theorem kK:∀{n:Nat}{F G:Fm L n}{ps:List (Int×Int)},cq n F ps->cq n G ps->(∀b,InB b ps->∀x y,Tel n F b x->Tel n G b y->x=y)->F=G
 |0,F,G,ps,a,_,hv=>by
  have a:ps=[]:=a;subst a;exact hv [] .nil F G (.nil F) (.nil G)
 |n+1,F,G,ps,a,hs',hv=>by
  obtain⟨f,rfl⟩:∃f:List (T3a (Fm L n)),(f:Fm L (n+1))=F:=⟨F,U⟩;obtain⟨g,rfl⟩:∃g:List (T3a (Fm L n)),(g:Fm L (n+1))=G:=⟨G,U⟩;obtain⟨p,r,rfl,J,d,k,A⟩:ShS (cq n) f ps:=a;obtain⟨N,M,e,K,m,s,v⟩:ShS (cq n) g (p :: r):=hs';cases e;refine pf d m k s λc i h=>?_
  obtain⟨j,t,o,P,D,C,B⟩:=d.at i h;obtain⟨O,u,q,Q,I,H,E⟩:=m.at i h;rw[B,E];rw[kK (A t (GJ o)) (v u (GJ q)) λb l x y z w=>hv (c :: b) (.cons i h l) x y (.cons o D C z) (.cons q I H w)]
end
theorem xu:∀{a:List Int}{ps:List (Int×Int)},a.length=ps.length->(∀(j:Nat)(c:Int)(p:Int×Int),a[j]?=some c->ps[j]?=some p->p.1<=c/\c<=p.2)->InB a ps
 | [],[],_,_=>.nil
 | [],_ :: _,h,_=>by simp at h
 |_ :: _,[],h,_=>by simp at h
 |c :: a,p :: ps,h,k=>.cons (k 0 c p U U).1 (k 0 c p U U).2 (xu (by simpa using h) λj x q d b=>k (j+1) x q (by simpa using d) (by simpa using b))
theorem p9{α:Type}:∀{f:List (T3a α)}{lo hi:Int}{j:Nat}{s:T3a α},Ch3 f lo hi->f[j]?=some s->lo<=s.1/\s.1<=s.2.1/\s.2.1<=hi/\(∀t,f[j+1]?=some t->t.1=s.2.1+1)/\(∀(i:Nat)(u:T3a α),i<j->f[i]?=some u->u.2.1<s.1)/\(j=0->s.1=lo)
 | [],_,_,j,s,_,e=>by simp at e
 |t :: f,lo,hi,0,s,h,e=>by
  cases e;have c:=h.1;have b:=h.2.1;have n:=h.2.2.le;refine⟨by lia,by lia,by lia,λt e=>?_,λi u hi=>absurd hi (zb i),λ_=>c⟩;cases f with
  |nil=>simp at e
  |cons u f=>simp at e;subst e;exact h.2.2.1
 |t :: f,lo,hi,j+1,s,h,e=>by
  have d:f[j]?=some s:=by simpa using e
  obtain⟨p,m,l,k,g,o⟩:=p9 (f:=f) h.2.2 d;have b:=h.2.1;refine⟨by lia,m,l,λt e=>k t (by simpa using e),λi u hi a=>?_,λz=>by lia⟩
  match i,a with
  |0,a=>cases a;lia
  |i+1,a=>exact g i u (by lia) (by simpa using a)
section
variable{L:Type}
theorem xw{n:Nat}{f:List (T3a (Fm L n))}{lo hi:Int}{j:Nat}{t:T3a (Fm L n)}{c:Int}{a:List Int}{x:L}(h:Ch3 f lo hi)(e:f[j]?=some t)(l:t.1<=c)(d:c<=t.2.1)(b:Tel n t.2.2 a x):Tel (n+1) (f:Fm L (n+1)) (c :: a) x:=by
 obtain⟨_,_,_,_,k,_⟩:=p9 h e;exact .cons e d (λi u hi g=>by have:=k i u hi g;lia) b
end
structure LfS(P:Program)(w:World)(K:W.Frag)(mg:Str->Option Value)(base:Heap)(f:Addr)(m:Nat)(g:List Int->Int)(J:Hp->Prop):Prop where
 fn:∃sp,HFn P w K mg base 8 f sp/\∀(H:Hp)(a:Addr)(cs:List Int)(Q:VK),J H->cs.length=m->H a=some (.lst (cs.map V.int))->(∀H',aq H H'->Q (.int (g cs)) H')->sp [.ref a] H Q E0
 ob:∀H,J H->FnO H f
 st:∀H H',J H->aq H H'->J H'
theorem uz{n j:Nat}(h:j<n):ixN n (j:Int)=some j:=by
 unfold ixN;rw[if_pos (by lia),if_pos (by lia),Bt]
theorem lF{α:Type}:∀{f:List (T3a α)}{lo hi:Int},Ch3 f lo hi->(f.map (·.1)).Pairwise (· < ·)/\∀t∈f,lo<=t.1
 | [],_,_,_=>⟨.nil,λt e=>by cases e⟩
 |t :: f,lo,hi,h=>by
  obtain⟨a,b⟩:=lF h.2.2;have i:=h.1;have g:=h.2.1;refine⟨.cons (λx d=>?_) a,λu c=>?_⟩
  .obtain⟨u,c,rfl⟩:=en.mp d;have:=b u c;show t.1<u.1;lia
  .rcases dt.mp c with rfl|c
   .lia
   .have:=b u c;lia
theorem vp{n:Nat}(h:n<=2000):n<sizeLine:=zl h (by decide)
theorem gx{α c:Type}{R:α->c->Prop}:∀{xs:List α}{d:List c}{i:Nat}{x:α},Paired R xs d->xs[i]?=some x->∃a,d[i]?=some a/\R x a
 |_,_,_,_,.nil,e=>by simp at e
 |_,_,0,_,.cons (b:=b) h _,e=>by simp at e;subst e;exact⟨b,U,h⟩
 |_,_,i+1,x,.cons _ tl,e=>by
  obtain⟨a,q⟩:=gx (i:=i) (x:=x) tl (by simpa using e);exact⟨a,by simpa using q.1,q.2⟩
theorem ji{α b:Type}{R:α->b->Prop}{xs ys:List α}{c bs:List b}(h:Paired R xs c)(h':Paired R ys bs):Paired R (xs++ys) (c++bs):=by
 induction h with
 |nil=>exact h'
 |cons a _ d=>exact .cons a d
theorem xx{K:W.Frag}{H:Hp}{Q:VK}{a b:Addr}{xs ys:List V}(d:H a=some (.tup xs))(c:H b=some (.tup ys))(hz:xs.length+ys.length<=sizeLine)(q:∀(r:Addr)(H':Hp),aq H H'->H' r=some (.tup (xs++ys))->Q (.ref r) H'):sL K (.ref a) (.ref b) H Q:=by
 refine⟨a,b,xs,ys,U,U,SqT.of d,SqT.of c,hz,λz=>?_,λ_ z=>?_,λ_ _ p e=>q p _ (af e _) ab⟩
 .subst z;exact q b H (aq.refl _) c
 .subst z;exact q a H (aq.refl _) (by rw[jt];exact d)
def BxA(H:Hp)(a:Addr)(B:List (Int×Int)):Prop:=∃b,H a=some (.tup b)/\PL H b B
theorem BxA.mono{H H':Hp}{a:Addr}{B:List (Int×Int)}(h:BxA H a B)(s:cb H H'):BxA H' a B:=by obtain⟨b,e,p⟩:=h;exact⟨b,s _ _ e,p.mono s⟩
def bxs{L:Type}:(n:Nat)->Fm L n->List (List (Int×Int)×L)
 |0,f=>[([],f)]
 |n+1,l=>List.flatMap (λe:T3a (Fm L n)=>(bxs n e.2.2).map λq=>((e.1,e.2.1) :: q.1,q.2)) l
theorem uA{L:Type}(n:Nat)(l m:List (T3a (Fm L n))):bxs (n+1) (show Fm L (n+1)from l++m)=bxs (n+1) (show Fm L (n+1)from l)++bxs (n+1) (show Fm L (n+1)from m):=List.flatMap_append
theorem yS{L:Type}(n:Nat)(e:T3a (Fm L n)):bxs (n+1) (show Fm L (n+1) from[e])=(bxs n e.2.2).map λq=>((e.1,e.2.1) :: q.1,q.2):=by
 show List.flatMap (λe:T3a (Fm L n)=>(bxs n e.2.2).map λq=>((e.1,e.2.1) :: q.1,q.2)) [e]=_;rw[List.flatMap_singleton]
theorem xy{ps:List (Int×Int)}{a:List (List Int)}{b:Nat}(h:∀j,gl ps a j<=b):∀n,gr ps a n<=b^n
 |0=>w5 _
 |n+1=>by
  show gr ps a n*gl ps a n<=b^n*b;exact zo (xy h n) (h n)
theorem xA{L:Type}{n:Nat}{f:List (T3a (Fm L n))}{q:List (Int×Int)×L}:q∈bxs (n+1) (f:Fm L (n+1))↔∃e∈f,∃r∈bxs n e.2.2,q=((e.1,e.2.1) :: r.1,r.2):=by
 constructor
 .intro h;obtain⟨e,b,c⟩:=nU.mp h;obtain⟨r,a,rfl⟩:=en.mp c;exact⟨e,b,r,a,U⟩
 .rintro⟨e,b,r,a,rfl⟩;exact nU.mpr ⟨e,b,en.mpr ⟨r,a,U⟩⟩
structure A2(B ps:List (Int×Int)):Prop where
 len:B.length=ps.length
 get:∀(k:Nat)(b p:Int×Int),B[k]?=some b->ps[k]?=some p->p.1<=b.1/\b.1<=b.2/\b.2<=p.2
theorem A2.lows{B ps:List (Int×Int)}(h:A2 B ps):InB (B.map (·.1)) ps:=xu (by rw[bx,h.len]) λj c p a e=>by
 rw[fo]at a;obtain⟨b,d,rfl⟩:=Option.map_eq_some_iff.mp a;have:=h.get j b p d e;exact⟨this.1,by lia⟩
theorem rn{L:Type}:∀{n:Nat}{F:Fm L n}{ps:List (Int×Int)},cq n F ps->∀q∈bxs n F,A2 q.1 ps/\Tel n F (q.1.map (·.1)) q.2/\Tel n F (q.1.map (·.2)) q.2
 |0,F,ps,c,q,d=>by
  have c:ps=[]:=c;have d:q∈[(([]:List (Int×Int)),F)]:=d;rw[hZ.mp d,c];exact⟨⟨U,λk b p e=>by simp at e⟩,.nil _,.nil _⟩
 |n+1,F,ps,c,q,d=>by
  obtain⟨f,rfl⟩:∃f:List (T3a (Fm L n)),(f:Fm L (n+1))=F:=⟨F,U⟩;obtain⟨p,r,rfl,A,a,B,w⟩:ShS (cq n) f ps:=c;obtain⟨e,o,t,m,rfl⟩:=xA.mp d;obtain⟨j,v,g⟩:=List.getElem_of_mem o;have g:f[j]?=some e:=by rw[GH v,g]
  obtain⟨z,l,y,-,-,-⟩:=p9 a g;obtain⟨s,b2,x⟩:=rn (w e o) t m;refine⟨⟨by rw[ik,ik,s.len],λk b u i h=>?_⟩,xw a g (Int.le_refl _) l b2,xw a g l (Int.le_refl _) x⟩
  match k,i,h with
  |0,i,h=>cases i;cases h;exact⟨z,l,y⟩
  |k+1,i,h=>exact s.get k b u (by simpa using i) (by simpa using h)
inductive Asc:List (Int×Int)->List (Int×Int)->Prop
 |here {a b:Int×Int}{A B:List (Int×Int)}:a.1<b.1->a.2<b.1->Asc (a :: A) (b :: B)
 |there {a:Int×Int}{A B:List (Int×Int)}:Asc A B->Asc (a :: A) (a :: B)
theorem xB{α:Type}:∀{f:List (T3a α)}{lo hi:Int},Ch3 f lo hi->f.Pairwise λa b=>a.1<b.1/\a.2.1<b.1
 | [],_,_,_=>.nil
 |t :: f,lo,hi,h=>by
  have e:=h.1;have d:=h.2.1;refine .cons (λu c=>?_) (xB h.2.2);have:=(lF h.2.2).2 u c;exact⟨by lia,by lia⟩
theorem xC{L:Type}:∀{n:Nat}{F:Fm L n}{ps:List (Int×Int)},cq n F ps->(bxs n F).Pairwise λq r=>Asc q.1 r.1
 |0,F,_,_=>nL _ _
 |n+1,F,ps,hs=>by
  obtain⟨f,rfl⟩:∃f:List (T3a (Fm L n)),(f:Fm L (n+1))=F:=⟨F,U⟩;obtain⟨p,r,rfl,l,d,m,k⟩:ShS (cq n) f ps:=hs;show(List.flatMap (λe:T3a (Fm L n)=>(bxs n e.2.2).map λq=>((e.1,e.2.1) :: q.1,q.2)) f).Pairwise _;rw[List.pairwise_flatMap];refine⟨λe j=>?_,(xB d).imp λ{a b} c x i y g=>?_⟩
  .rw[List.pairwise_map];exact(xC (k e j)).imp λh=>.there h
  .obtain⟨s,_,rfl⟩:=en.mp i;obtain⟨o,_,rfl⟩:=en.mp g;exact .here c.1 c.2
theorem rq{α a:Type}{b:Nat}{F:α->List a}:∀{l:List α},(∀x∈l,(F x).length<=b)->(l.flatMap F).length<=l.length*b
 | [],_=>yh _
 |x :: l,h=>by
  have e:=h x fb;have d:=rq λy c=>h y (iC _ c)
  rw[List.flatMap_cons,cK,ik,Nat.succ_mul];lia
theorem xD{b:Nat}{L:Type} [DecidableEq L] {g:List Int->L}:∀{a:List (List (Int×Int))}{ps:List (Int×Int)},fO a ps->(∀c∈a,c.length<=b)->∀d:List Int,(bxs a.length (lay g a d)).length<=b^a.length
 | [],_,_,_,_=>w5 _
 |c :: a,ps,h,hb,d=>by
  cases h with
  | @cons _ _ p ps hne e h =>
  have k:=dW (wZ (λq=>lay g a (d++[q.1])) e);have j:(d7 (c.map λp=>((p.1,p.2,lay g a (d++[p.1])):T3a (Fm L a.length)))).length<=b:=yc (pe _) (by rw[bx];exact hb c fb);have i:(bxs (a.length+1) (show Fm L (a.length+1)from d7 (c.map λp=>((p.1,p.2,lay g a (d++[p.1])):T3a (Fm L a.length))))).length<=(d7 (c.map λp=>((p.1,p.2,lay g a (d++[p.1])):T3a (Fm L a.length)))).length*b^a.length:=rq λt f=>by
   rw[bx];obtain⟨n,m,l⟩:=k.mem t f;obtain⟨q,_,rfl⟩:=en.mp m;rw[←l];exact xD h (λc e=>hb c (iC _ e)) _
  show(bxs (a.length+1) _).length<=b^(a.length+1);rw[zr,Nat.mul_comm];exact yc i (Nat.mul_le_mul_right _ j)
theorem xE{α:Type}{R:α->α->Prop}{l:List α}(h:l.Pairwise R){i j:Nat}{x y:α}(a:i<j)(e:l[i]?=some x)(d:l[j]?=some y):R x y:=by
 obtain⟨c,rfl⟩:=GI.mp e;obtain⟨b,rfl⟩:=GI.mp d;exact(oD.mp h) i j c b a
def TD(g h f:Addr)(H:Hp)(t:Addr)(c:List V)(bs:Prs)(rws:List Rw):Prop:=∃(b e d:Addr)(fs:List (Str×V))(a:List V),H t=some (.ins g e fs)/\fs.lookup s!"rows"=some (.ref b)/\fs.lookup s!"domains"=some (.ref d)/\H d=some (.lst c)/\aD c bs (Dom h f H)/\H b=some (.lst a)/\RL NT H a rws
theorem TD.same{c d b:Addr}{H H':Hp}{t:Addr}{a:List V}{bs:Prs}{rws:List Rw}(h:TD c d b H t a bs rws)(s:aq H H'):TD c d b H' t a bs rws:=by
 obtain⟨f,o,q,fs,e,n,m,l,k,j,i,g⟩:=h;exact⟨f,o,q,fs,e,s _ _ n,m,l,s _ _ k,aD.mono j λ_ _ p=>p.same s,s _ _ i,g.same s⟩
theorem m6{H:Hp}{D:Addr}{o:HO}:hide (upd H D o) D=hide H D:=by
 funext b
 unfold hide;by_cases h:b=D
 .rw[if_pos h,if_pos h]
 .rw[if_neg h,if_neg h,ay h]
theorem kL{H H':Hp}{D:Addr}(s:aq H H'):aq (hide H D) (hide H' D):=λb o e=>by
 unfold hide at e⊢;by_cases h:b=D
 .rw[if_pos h]at e;cases e
 .rw[if_neg h]at e⊢;exact s b o e
theorem qc(H:Hp)(D:Addr):aq (hide H D) H:=λb o e=>by
 unfold hide at e;by_cases h:b=D
 .rw[if_pos h]at e;cases e
 .rw[if_neg h]at e;exact e
theorem MLs.nil{H:Hp}:MLs H [] []:=⟨U,λj a e=>by simp at e⟩
theorem MLs.snoc{H:Hp}{g:List Addr}{a:List (List Int)}{r:Addr}{d:List Int}(h:MLs H g a)(e:H r=some (.lst (d.map V.int))):MLs H (g++[r]) (a++[d]):=by
 refine⟨by rw[cK,cK,h.1];rfl,λj m b=>?_⟩;by_cases f:j<a.length
 .rw[iP f]at b;obtain⟨i,l,k⟩:=h.2 j m b;exact⟨i,by rw[iP (by rw[h.1];exact f)];exact l,k⟩
 .rw[lg (by lia)]at b;have c:j-a.length=0:=by
   have:=(GI.mp b).1;rw[gI]at this;lia
  rw[c]at b;cases b;exact⟨r,by rw[lg (by rw[h.1];lia),h.1,c];rfl,e⟩
def rmk(c:Nat)(b:Int×Int)(w:Rw):List Int:=(ends (w.1.getD c [])).filter λt=>decide (b.1<t) && decide (t<=b.2)
def MkC(rws:List Rw)(c:Nat)(b:Int×Int)(x:Int):Prop:=∃w∈rws,x∈rmk c b w
theorem rz:∀R:Prs,(ends R).length=2*R.length
 | []=>rfl
 |p :: R=>by
  rw[uR,ik,ik,rz R,ik];lia
theorem yT(c:Nat)(b:Int×Int){w:Rw}(h:(w.1.getD c []).length<=6):(rmk c b w).length<=12:=yc (nt _ _) (by rw[rz];lia)
theorem rA(c:Nat)(b:Int×Int):∀{rws:List Rw},(∀w∈rws,(w.1.getD c []).length<=6)->((rws.map (rmk c b)).flatten).length<=12*rws.length
 | [],_=>w5 _
 |w :: rws,h=>by
  have e:=yT c b (h w (.head _));have d:=rA c b (rws:=rws) λw a=>h w (.tail _ a)
  rw[kU,List.flatten_cons,cK,ik];lia
theorem uB{rws:List Rw}{c:Nat}{b:Int×Int}{x:Int}:x∈(rws.map (rmk c b)).flatten↔MkC rws c b x:=by
 rw[List.mem_flatten];constructor
 .rintro⟨l,e,a⟩;obtain⟨w,d,rfl⟩:=en.mp e;exact⟨w,d,a⟩
 .rintro⟨w,d,a⟩;exact⟨_,en.mpr ⟨w,d,U⟩,a⟩
def xF:HO->Prop
 | .frz _ _=>False
 | .tbl _=>False
 |_=>True
def So(H H':Hp):Prop:=∀d o,xF o->H d=some o->H' d=some o
theorem So.of{H H':Hp}(s:aq H H'):So H H':=λd o _ e=>s d o e
theorem So.trans{H f c:Hp}(a:So H f)(b:So f c):So H c:=λd o p e=>b d o p (a d o p e)
theorem So.tups{H H':Hp}(s:So H H'):cb H H':=λd a e=>s d _ trivial e
theorem So.lst{H H':Hp}{a:Addr}{xs:List V}(s:So H H')(e:H a=some (.lst xs)):H' a=some (.lst xs):=s _ _ trivial e
theorem So.hide{H:Hp}{a:List Addr}(f:Fzs H a):So H (hideL H a):=λd o p e=>by
 rw[bT (f.out e λz q=>by rw[q]at p;exact p)];exact e
section
variable{H H':Hp}(s:So H H')
include s
theorem SpA.so{N:Addr->Prop}{l:Addr}{ps:Prs}(h:SpA N H l ps):SpA N H' l ps:=by obtain⟨n,a,e,p⟩:=h;exact⟨n,a,s _ _ trivial e,p.mono s.tups⟩
theorem RL.so{N:Addr->Prop}{xs:List V}{rws:List Rw}(h:RL N H xs rws):RL N H' xs rws:=aD.mono h λ_ _ ⟨b,a,e,n,f,c⟩=>⟨b,a,s _ _ trivial e,n,s _ _ trivial f,aD.mono c λ_ _ p=>SpA.so s p⟩
theorem Dom.so{d c a:Addr}{b:Int×Int}(h:Dom d c H a b):Dom d c H' a b:=by obtain⟨C,f,g,fs,e,r⟩:=h;exact⟨C,f,g,fs,s _ _ trivial e,r⟩
theorem Tbl.so{b c a t:Addr}{rws:List Rw}{i:Nat}{o:Int×Int}(h:Tbl b c a H t rws i o):Tbl b c a H' t rws i o:=by
 obtain⟨f,g,v,fs,d,e,u,r,q,p,n,m,l,k,j⟩:=h;exact⟨f,g,v,fs,d,e,s _ _ trivial u,r,q,p,s _ _ trivial n,RL.so s m,l,Dom.so s k,j⟩
theorem MLs.so{b:List Addr}{a:List (List Int)}(h:MLs H b a):MLs H' b a:=⟨h.1,λj c e=>let ⟨r,e1,e2⟩:=h.2 j c e;⟨r,e1,s _ _ trivial e2⟩⟩
theorem TD.so{c d b t:Addr}{a:List V}{bs:Prs}{rws:List Rw}(h:TD c d b H t a bs rws):TD c d b H' t a bs rws:=by
 obtain⟨f,o,q,fs,e,n,m,l,k,j,i,g⟩:=h;exact⟨f,o,q,fs,e,s _ _ trivial n,m,l,s _ _ trivial k,aD.mono j λ_ _ p=>Dom.so s p,s _ _ trivial i,RL.so s g⟩
end
theorem xG{a L:List Int}(b:a.Pairwise (· < ·))(h:∀x∈a,x∈L):a.length<=L.length:=bJ (b.imp λh=>Int.ne_of_lt h) h
structure RfH(cT cN cW:Addr)(H:Hp)(t:Addr)(dv:List V)(bs:Prs)(rws:List Rw)(L:Nat->List Int)(kk:Nat)(i:Nat)(o:Int×Int):Prop where
 td:TD cT cN cW H t dv bs rws
 tb:Tbl cT cN cW H t rws i o
 b4:bs.length<=4
 r60:rws.length<=60
 row:∀x∈rws,x.1.length=bs.length/\∀c,(x.1.getD c []).length<=6
 mrk:∀(c:Nat)(b:Int×Int),bs[c]?=some b->(L c).length<=kk/\∀x,MkC rws c b x->x∈L c
 few:(kk+1)^bs.length<=300
 k57:kk<=57
 le:∀p∈bs,p.1<=p.2
theorem RfH.so{d e c t:Addr}{H H':Hp}{b:List V}{bs:Prs}{rws:List Rw}{L:Nat->List Int}{a i:Nat}{o:Int×Int}(h:RfH d e c H t b bs rws L a i o)(s:So H H'):RfH d e c H' t b bs rws L a i o:=⟨TD.so s h.td,Tbl.so s h.tb,h.b4,h.r60,h.row,h.mrk,h.few,h.k57,h.le⟩
theorem RfH.gr{p q n t:Addr}{H:Hp}{m:List V}{bs:Prs}{rws:List Rw}{L:Nat->List Int}{g i:Nat}{o:Int×Int}(h:RfH p q n H t m bs rws L g i o)(a:List (List Int))(r:a.length=bs.length)(l:∀(c:Nat)(b:Int×Int)(d:List Int),bs[c]?=some b->a[c]?=some d->d.Pairwise (· < ·)/\∀x,x∈d↔MkC rws c b x):My.gr bs a bs.length<=300 :=
 yc (xy (b:=g+1) (A1 λd f=>by
  obtain⟨c,j⟩:=js f;have s:=(GI.mp j).1;obtain⟨b,e⟩:∃b,bs[c]?=some b:=⟨_,GH (by lia)⟩;exact⟨L c,(h.mrk c b e).1,λx k=>(h.mrk c b e).2 x (((l c b d e j).2 x).mp k)⟩) _) h.few
def kM(K:W.Frag)(H:Hp):Prop:=∀z,W.tabIn K "row_form" = some z->dG H z.2 [(rb Y83,"row_form.<locals>.<lambda>")]
theorem kM.same{K:W.Frag}{H H':Hp}(h:kM K H)(s:aq H H'):kM K H':=λz e=>(h z e).same s
structure Co(bs:Prs)(rws:List Rw)(cols:List (List (Int×Int))):Prop where
 ok:fO cols bs
 ex:∃css:List (List Int),css.length=bs.length/\cols=List.zipWith (λp cs=>bW p.1 p.2 cs) bs css/\∀(j:Nat)(p:Int×Int)(cs:List Int),bs[j]?=some p->css[j]?=some cs->cs.Pairwise (· < ·)/\∀x,x∈cs↔MkC rws j p x
theorem xH{rws:List Rw}{c:Nat}{b:Int×Int}{x:Int}(h:MkC rws c b x):b.1<x/\x<=b.2:=by
 obtain⟨d,_,a⟩:=h;have:=(jw.mp a).2;rw[AI,decide_eq_true_iff,decide_eq_true_iff]at this;exact this
abbrev mkg(rws:List Rw)(a:List Int):Int:=((msk (iO rws a) rws.length:Nat):Int)
theorem yU{K:W.Frag}{H:Hp}{Q:VK}{a b:Addr}{v u:SI}(m:SqT K H a (tp v))(l:SqT K H b (tp u))(h:Q (.bl (decide (v≠u))) H):wC K true (.ref a) (.ref b) H Q:=by
 refine⟨a,b,_,_,U,U,m,l,λj=>if j=0 then eqV (.str v.1) (.str u.1)else eqV (.int v.2) (.int u.2),λj x y c d=>?_,?_⟩
 .match j,c,d with
  |0,c,d=>cases c;cases d;exact EqI.flat U U
  |1,c,d=>cases c;cases d;exact EqI.flat U U
  |j+2,c,d=>simp[tp]at c
 .have e:(!((List.range (min (tp v).length (tp u).length)).all (λj=>if j=0 then eqV (.str v.1) (.str u.1)else eqV (.int v.2) (.int u.2)) && (tp v).length == (tp u).length))=decide (v≠u):=by
   have c:eqV (.str v.1) (.str u.1)=decide (v.1=u.1):=by unfold eqV;rw[Bool.eq_iff_iff];simp
   have d:eqV (.int v.2) (.int u.2)=decide (v.2=u.2):=by unfold eqV;rw[Bool.eq_iff_iff];simp
   show(!((List.range 2).all (λj=>if j=0 then eqV (.str v.1) (.str u.1)else eqV (.int v.2) (.int u.2)) && (2 == 2:Bool)))=_;rw[c,d];obtain⟨g,f⟩:=v;obtain⟨k,i⟩:=u;by_cases o:g=k <;> by_cases n:f=i <;> simp[jx,o,n]
  show Q (.bl (if true=true then _ else _)) H;rw[if_pos U,e];exact h
structure SpG(ps:List Int)(m:Int)(n:Nat)(qs:Prs):Prop where
 le:∀p∈qs,p.1<=p.2
 pw:qs.Pairwise λp q=>p.2<q.1
 bel:∀a,ps[n]?=some a->∀p∈qs,p.2<a
 iff:∀x,inP qs x=true↔∃(k:Nat)(a b:Int),k<n/\ps[k]?=some a/\ps[k+1]?=some b/\bQ m k=true/\a<=x/\x<b
 ep:∀p∈qs,p.1∈ps/\p.2+1∈ps
 lenA:2*qs.length<=n+1
 lenB:(∀p∈qs,∀a,ps[n]?=some a->p.2≠a-1)->2*qs.length<=n
theorem SpG.nil{ps:List Int}{m:Int}:SpG ps m 0 []:=⟨(λp h=>by cases h),List.Pairwise.nil,(λ_ _ p h=>by cases h),λx=>⟨(λh=>by cases h),λ⟨k,_,_,h,_⟩=>absurd h (zb _)⟩,(λp h=>by cases h),by decide,λ_=>w5 _⟩
section
variable{ps:List Int}{m:Int}{n:Nat}{a b:Int}(hp:Pts ps)(ea:ps[n]?=some a)(eb:ps[n+1]?=some b)
include hp ea eb
theorem tR:a<b:=qI hp.asc ea eb (by lia)
theorem SpG.skip{c:Prs}(h:SpG ps m n c)(g:bQ m n=false):SpG ps m (n+1) c:=by
 have l:=tR hp ea eb;refine⟨h.le,h.pw,λo e p d=>?_,λx=>(h.iff x).trans ⟨λ⟨k,u,v,f,r⟩=>⟨k,u,v,by lia,r⟩,λ⟨k,u,v,f,j,i,b,r⟩=>⟨k,u,v,?_,j,i,b,r⟩⟩,h.ep,?_,λ_=>h.lenA⟩
 .rw[eb]at e;cases e;have:=h.bel a ea p d;lia
 .by_cases q:k=n
  .rw[q,g]at b;cases b
  .lia
 .have:=h.lenA;lia
theorem SpG.put{d:Prs}(h:SpG ps m n d)(w:bQ m n=true)(l:∀p∈d,p.2≠a-1):SpG ps m (n+1) (d++[(a,b-1)]):=by
 have A:=tR hp ea eb;refine⟨λp c=>?_,?_,λo e p c=>?_,λx=>?_,λp c=>?_,?_,λ_=>?_⟩
 .rcases gg.mp c with c|c
  .exact h.le p c
  .rw[hZ.mp c];show a<=b-1;lia
 .rw[ny];refine⟨h.pw,nL _ _,λp c q i=>?_⟩;rw[hZ.mp i];exact h.bel a ea p c
 .rw[eb]at e;cases e;rcases gg.mp c with c|c
  .have:=h.bel a ea p c;lia
  .rw[hZ.mp c];show b-1<b;lia
 .rw[qF,Bool.or_eq_true,h.iff x];constructor
  .rintro(⟨k,u,v,t,r⟩|r)
   .exact⟨k,u,v,by lia,r⟩
   .unfold inR at r;rw[AI,decide_eq_true_iff,decide_eq_true_iff]at r;exact⟨n,a,b,yB _,ea,eb,w,r.1,by have:=r.2;show x<b;lia⟩
  .rintro⟨k,u,v,t,g,f,y,j,s⟩;by_cases q:k=n
   .right
    subst q;rw[ea]at g;rw[eb]at f;cases g;cases f;unfold inR;rw[decide_eq_true j,decide_eq_true (show x<=b-1 by lia)];rfl
   .exact .inl ⟨k,u,v,by lia,g,f,y,j,s⟩
 .rcases gg.mp c with c|c
  .exact h.ep p c
  .rw[hZ.mp c];exact⟨GJ ea,by show b-1+1∈ps;rw[show b-1+1=b by lia];exact GJ eb⟩
 .have:=h.lenB λp c o e=>by rw[ea]at e;cases e;exact l p c
  rw[cK,gI];lia
 .have:=h.lenB λp c o e=>by rw[ea]at e;cases e;exact l p c
  rw[cK,gI];exfalso
  rename_i z
  exact z (a,b-1) (iR _ (hZ.mpr U)) b eb U
theorem SpG.join{s:Prs}{l:Int×Int}(h:SpG ps m n (s++[l]))(w:bQ m n=true)(D:l.2=a-1):SpG ps m (n+1) (s++[(l.1,b-1)]):=by
 have C:=tR hp ea eb;have B:=h.le l (iR _ (hZ.mpr U));refine⟨λp c=>?_,?_,λE e p c=>?_,λx=>?_,λp c=>?_,?_,λz=>?_⟩
 .rcases gg.mp c with c|c
  .exact h.le p (jD _ c)
  .rw[hZ.mp c];show l.1<=b-1;lia
 .have:=ny.mp h.pw;rw[ny];refine⟨this.1,nL _ _,λp c q i=>?_⟩;rw[hZ.mp i];exact this.2.2 p c l (hZ.mpr U)
 .rw[eb]at e;cases e;rcases gg.mp c with c|c
  .have:=h.bel a ea p (jD _ c);lia
  .rw[hZ.mp c];show b-1<b;lia
 .have hi:=h.iff x;rw[qF,Bool.or_eq_true]at hi⊢;have A:inR x (l.1,b-1)=true↔inR x l=true\/(a<=x/\x<b):=by
   unfold inR;simp only[AI,decide_eq_true_eq];lia
  rw[A];constructor
  .rintro(r|r|r)
   .obtain⟨k,u,v,t,d⟩:=hi.mp (.inl r);exact⟨k,u,v,by lia,d⟩
   .obtain⟨k,u,v,t,d⟩:=hi.mp (.inr r);exact⟨k,u,v,by lia,d⟩
   .exact⟨n,a,b,yB _,ea,eb,w,r⟩
  .rintro⟨k,u,v,t,g,f,y,o,j⟩;by_cases q:k=n
   .subst q;rw[ea]at g;rw[eb]at f;cases g;cases f;exact .inr (.inr ⟨o,j⟩)
   .rcases hi.mpr ⟨k,u,v,by lia,g,f,y,o,j⟩with r|r
    .exact .inl r
    .exact .inr (.inl r)
 .rcases gg.mp c with c|c
  .exact h.ep p (jD _ c)
  .rw[hZ.mp c];exact⟨(h.ep l (iR _ (hZ.mpr U))).1,by show b-1+1∈ps;rw[show b-1+1=b by lia];exact GJ eb⟩
 .have:=h.lenA;rw[cK,gI]at this⊢;lia
 .exact absurd U (z (l.1,b-1) (iR _ (hZ.mpr U)) b eb)
end
theorem xI{m:Int}(b:0<=m)(k:Nat):decide (V.int (Builtin.bitAnd (m / 2^(0+(k:Int)).toNat) 1)=V.int 1)=bQ m k:=by
 unfold bQ;rw[show(0+(k:Int)).toNat=k by lia];have a:0<=m / 2^k:=Int.ediv_nonneg b (Int.le_of_lt (BP (by decide)));generalize m / 2^k=x at a⊢;have:Builtin.bitAnd x 1=0\/Builtin.bitAnd x 1=1:=by
  rw[PyProof.Rows.bitAnd_pp a (by decide)];have:x.toNat &&& (1:Int).toNat=x.toNat%2:=Nat.and_one_is_mod _;rw[this];have:=zm x.toNat (show 0<2 by decide);lia
 rcases this with h|h <;> rw[h] <;> rfl
def GrR(a:List (List Int))(b:List Int×Int)(x:Rw):Prop:=x.2=b.2/\x.1.length=a.length/\∀(j:Nat)(c:List Int)(d:Prs)(m:Int),a[j]?=some c->x.1[j]?=some d->b.1[j]?=some m->SpG c m (c.length-1) d
def vN(bs:List Nat):List V:=bs.map λb:Nat=>V.int (b:Int)
theorem gy(bs:List Nat):(vN bs).length=bs.length:=by unfold vN;rw[bx]
theorem zT{bs:List Nat}{j b:Nat}(e:bs[j]?=some b):(vN bs)[j]?=some (.int (b:Int)):=by unfold vN;rw[fo,e];rfl
theorem Cp{bs:List Nat}{j:Nat}{x:V}(e:(vN bs)[j]?=some x):∃b:Nat,x=.int (b:Int)/\bs[j]?=some b:=by
 unfold vN at e;rw[fo]at e;cases q:bs[j]? with
 |none=>rw[q]at e;cases e
 |some b=>rw[q]at e;cases e;exact⟨b,U,U⟩
theorem xJ(bs a:List Nat):vN bs++vN a=vN (bs++a):=by unfold vN;rw[ij]
def grow(a:List (List Nat))(n:Nat):List (List Nat):=a.flatMap λp=>(List.range n).map λk=>p++[k]
def bC(a:List Nat):List (List Nat):=a.foldl grow [[]]
theorem jj(a:List Nat)(n:Nat):bC (a++[n])=grow (bC a) n:=by unfold bC;rw[List.foldl_append];rfl
theorem xK{a:List (List Nat)}{n:Nat}{q:List Nat}:q∈grow a n↔∃p∈a,∃k,k<n/\q=p++[k]:=by
 unfold grow;rw[nU];constructor
 .rintro⟨p,b,h⟩;obtain⟨k,c,rfl⟩:=en.mp h;exact⟨p,b,k,jr.mp c,U⟩
 .rintro⟨p,b,k,c,rfl⟩;exact⟨p,b,en.mpr ⟨k,jr.mpr c,U⟩⟩
theorem vq{b:List (List Nat)}{n a:Nat}{p:List Nat}(e:b[a]?=some p):grow (b.take (a+1)) n=grow (b.take a) n++(List.range n).map λk=>p++[k]:=by
 unfold grow;rw[take_snoc e,List.flatMap_append];simp
theorem rB(a:List (List Nat))(n:Nat):(grow a n).length=a.length*n:=by
 unfold grow;induction a with
 |nil=>simp
 |cons p a b=>rw[List.flatMap_cons,cK,b,bx,jQ,ik,Nat.succ_mul];lia
def hV(b:List Nat)(p:List Nat):Prop:=p.length=b.length/\∀(j a m:Nat),p[j]?=some a->b[j]?=some m->a<m
theorem ph:∀{r b:List Nat}(_:b.reverse=r){p:List Nat},p∈bC b↔hV b p
 | [],b,h,p=>by
  have:b=[]:=List.reverse_eq_nil_iff.mp h;subst this;show p∈[[]]↔_;rw[hZ];constructor
  .rintro rfl;exact⟨U,λj a m e=>by simp at e⟩
  .rintro⟨h,_⟩;exact oT.mp h
 |n :: r,b,h,p=>by
  have e:b=r.reverse++[n]:=by rw[←vQ b,h,rr]
  subst e;rw[jj,xK];have l:∀{p:List Nat},p∈bC r.reverse↔hV r.reverse p:=ph (vQ r);constructor
  .rintro⟨q,s,k,t,rfl⟩;obtain⟨c,d⟩:=l.mp s;refine⟨by rw[cK,cK,c];rfl,λj a m f g=>?_⟩;by_cases o:j<q.length
   .rw[iP o]at f;rw[iP (by rw[←c];exact o)]at g;exact d j a m f g
   .have:j=q.length:=by have:=(GI.mp f).1;simp at this;lia
    subst this;simp at f;subst f;rw[c]at g;simp at g;subst g;exact t
  .rintro⟨c,d⟩;rw[cK,gI]at c;rcases vr p with rfl|⟨q,k,rfl⟩
   .simp at c
   .rw[vJ]at c d⊢;rw[cK,gI]at c;have i:q.length=r.reverse.length:=by lia
    refine⟨q,l.mpr ⟨i,λj a m f g=>?_⟩,k,?_,U⟩
    .refine d j a m ?_ ?_
     .rw[iP (GI.mp f).1];exact f
     .rw[iP (GI.mp g).1];exact g
    .refine d q.length k n (by simp) ?_;rw[i];simp
theorem hV.iff{a p:List Nat}:p∈bC a↔hV a p:=ph U
def PtL(N:Addr->Prop)(H:Hp)(xs:List V)(a:List (List Nat)):Prop:=aD xs a λr p=>N r/\H r=some (.lst (vN p))
theorem PtL.same{N:Addr->Prop}{H H':Hp}{xs:List V}{a:List (List Nat)}(h:PtL N H xs a)(s:aq H H'):PtL N H' xs a:=aD.mono h λ_ _ p=>⟨p.1,s _ _ p.2⟩
theorem PtL.updN{N:Addr->Prop}{D:Addr}{H:Hp}{xs:List V}{a:List (List Nat)}{o:HO}(h:PtL N H xs a)(n:¬ N D):PtL N (upd H D o) xs a:=aD.mono h λ_ _ p=>⟨p.1,(ay (λz=>n (by rw[←z];exact p.1))).trans p.2⟩
theorem PtL.any{N:Addr->Prop}{H:Hp}{xs:List V}{a:List (List Nat)}(h:PtL N H xs a):PtL NT H xs a:=aD.mono h λ_ _ p=>⟨trivial,p.2⟩
def gls(a:List (List Int)):List Nat:=a.map λb=>b.length-1
theorem yV{m:Int}(a:0<=m)(k:Nat):decide (V.int (Builtin.bitAnd (m / 2^((k:Int)).toNat) 1)=V.int 0) = !bQ m k:=by
 have b:=xI a k;rw[show(0+(k:Int))=(k:Int) by lia]at b;rw[←b];rw[Bt];have c:0<=m / 2^k:=Int.ediv_nonneg a (Int.le_of_lt (BP (by decide)));generalize m / 2^k=x at c⊢;have:Builtin.bitAnd x 1=0\/Builtin.bitAnd x 1=1:=by
  rw[PyProof.Rows.bitAnd_pp c (by decide)];have:x.toNat &&& (1:Int).toNat=x.toNat%2:=Nat.and_one_is_mod _;rw[this];have:=zm x.toNat (show 0<2 by decide);lia
 rcases this with h|h <;> rw[h] <;> rfl
def m7(at_:List Nat)(b:List Int×Int):Bool:=(List.range at_.length).all λj=>bQ (b.1.getD j 0) (at_.getD j 0)
def rC(bms:List (List Int×Int))(at_:List Nat):List Nat:=(List.range bms.length).filter λk=>m7 at_ (bms.getD k ([],0))
theorem m8(f:Nat->Bool)(n:Nat):(List.range (n+1)).all f=((List.range n).all f && f n):=by
 rw[jx,List.all_append];simp
def cdF(bms:List (List Int×Int))(ks:List Nat):List Int:=ks.map λk=>(bms.getD k ([],0)).2
theorem yW{bms:List (List Int×Int)}{at_:List Nat}:∀k∈rC bms at_,k<bms.length:=λk a=>jr.mp (jw.mp a).1
theorem xM(bms:List (List Int×Int))(at_:List Nat):(rC bms at_).length<=bms.length:=yc (nt _ _) (by rw[jQ];exact w5 _)
theorem xN{A:Prs}{m n:Int}(f:m<=n)(h:∀e∈ends A,e<=m\/n<e):inP A n=inP A m:=by
 rw[Bool.eq_iff_iff,um,um];constructor
 .rintro⟨p,a,c,b⟩;have d:=h _ (mz.mpr ⟨p,a,.inl U⟩);exact⟨p,a,by lia,by lia⟩
 .rintro⟨p,a,c,b⟩;have d:=h _ (mz.mpr ⟨p,a,.inr U⟩);exact⟨p,a,by lia,by lia⟩
theorem kN{f g:Nat->Bool}:∀{n:Nat},(∀k,k<n->f k=g k)->msk f n=msk g n
 |0,_=>rfl
 |n+1,h=>by rw[kc,kc,h n (yB n),kN λk a=>h k (yi a)]
def m9(b:List (List Int))(at_:List Nat)(e:List Int):Prop:=at_.length=b.length/\e.length=b.length/\∀(j:Nat)(d:List Int)(a:Nat)(c:Int),b[j]?=some d->at_[j]?=some a->e[j]?=some c->∃u v,d[a]?=some u/\d[a+1]?=some v/\u<=c/\c<v
theorem A3{ps:List Int}(i:Pts ps){m:Int}{g:Prs}(h:SpG ps m (ps.length-1) g){a:Nat}{u v c:Int}(f:ps[a]?=some u)(b:ps[a+1]?=some v)(n:u<=c)(l:c<v):inP g c=bQ m a:=by
 have r:=(GI.mp b).1;rw[Bool.eq_iff_iff,h.iff c];constructor
 .rintro⟨k,x,y,q,j,e,d,p,o⟩;have:k=a:=by
   rcases Nat.lt_trichotomy k a with z|z|z
   .by_cases w:k+1=a
    .rw[w,f]at e;cases e;lia
    .have:=qI i.asc e f (by lia);lia
   .exact z
   .by_cases w:a+1=k
    .rw[w,j]at b;cases b;lia
    .have:=qI i.asc b j (by lia);lia
  rw[←this];exact d
 .intro d;exact⟨a,u,v,by lia,f,b,d,n,l⟩
section
variable{pss:List (List Int)}{bms:List (List Int×Int)}{rws:List Rw}(hpt:∀ps∈pss,Pts ps)(hn:rws.length=bms.length)(hGr:∀(k:Nat)(b:List Int×Int)(x:Rw),bms[k]?=some b->rws[k]?=some x->GrR pss b x)(hb:∀b∈bms,b.1.length=pss.length)
include hpt hn hGr hb
theorem A4{at_:List Nat}{e:List Int}(h:m9 pss at_ e){k:Nat}(z:k<bms.length):iO rws e k=m7 at_ (bms.getD k ([],0)):=by
 obtain⟨b,l⟩:∃b,bms[k]?=some b:=⟨_,GH z⟩;obtain⟨x,p⟩:∃x,rws[k]?=some x:=⟨_,GH (by lia)⟩;obtain⟨_,F,n⟩:=hGr k b x l p;have E:=hb b (GJ l);obtain⟨B,A,o⟩:=h;unfold iO m7 oh;rw[dE,p,dE,l,B,A];show(List.range pss.length).all (λj=>inP (x.1.getD j []) (e.getD j 0))=(List.range pss.length).all λj=>bQ (b.1.getD j 0) (at_.getD j 0)
 rw[Bool.eq_iff_iff,jq,jq];have f:∀j∈List.range pss.length,inP (x.1.getD j []) (e.getD j 0)=bQ (b.1.getD j 0) (at_.getD j 0):=λj d=>by
  have d:=jr.mp d;obtain⟨ps,i⟩:∃ps,pss[j]?=some ps:=⟨_,GH d⟩;obtain⟨g,q⟩:∃g,x.1[j]?=some g:=⟨_,GH (by lia)⟩;obtain⟨m,r⟩:∃m,b.1[j]?=some m:=⟨_,GH (by lia)⟩;obtain⟨a,t⟩:∃a,at_[j]?=some a:=⟨_,GH (by lia)⟩;obtain⟨c,s⟩:∃c,e[j]?=some c:=⟨_,GH (by lia)⟩;obtain⟨u,v,D,C,y,w⟩:=o j ps a c i t s;rw[dE,dE,dE,dE,q,s,r,t];exact A3 (hpt ps (GJ i)) (n j ps g m i q r) D C y w
 exact⟨λh j d=>by rw[←f j d];exact h j d,λh j d=>by rw[f j d];exact h j d⟩
theorem tS{at_:List Nat}{a:List Int}(h:m9 pss at_ a):mkg rws a=((msk (λk=>m7 at_ (bms.getD k ([],0))) bms.length:Nat):Int):=by
 show((msk (iO rws a) rws.length:Nat):Int)=_;rw[hn,kN λk b=>A4 hpt hn hGr hb h b]
end
theorem l7:∀{a:List Int}{ps:List (Int×Int)},InB a ps->a.length=ps.length/\∀(j:Nat)(c:Int)(p:Int×Int),a[j]?=some c->ps[j]?=some p->p.1<=c/\c<=p.2
 |_,_,.nil=>⟨U,λj c p e=>by simp at e⟩
 |_,_,.cons h1 h2 h=>by
  obtain⟨f,g⟩:=l7 h;refine⟨by rw[ik,ik,f],λj c p d b=>?_⟩;cases j with
  |zero=>cases d;cases b;exact⟨h1,h2⟩
  |succ j=>exact g j c p (by simpa using d) (by simpa using b)
theorem yX{bs:Prs}{rws:List Rw}{a:List (List (Int×Int))}(F:Co bs rws a)(C:∀x∈rws,x.1.length=bs.length){b:List Int}(h:InB b bs):mkg rws (List.zipWith bV a b)=mkg rws b:=by
 obtain⟨css,L,e,D⟩:=F.ex;obtain⟨I,s⟩:=l7 h;have r:(List.zipWith bV a b).length=b.length:=by rw[e,jE,jE];lia
 show((msk (iO rws (List.zipWith bV a b)) rws.length:Nat):Int)=((msk (iO rws b) rws.length:Nat):Int);rw[kN λk E=>?_];obtain⟨x,ex⟩:∃x,rws[k]?=some x:=⟨_,GH E⟩;have g:=GJ ex;have H:=C x g;unfold iO oh;rw[dE,ex,r];show(List.range b.length).all (λj=>inP (x.1.getD j []) ((List.zipWith bV a b).getD j 0))=(List.range b.length).all λj=>inP (x.1.getD j []) (b.getD j 0)
 have f:∀j∈List.range b.length,inP (x.1.getD j []) ((List.zipWith bV a b).getD j 0)=inP (x.1.getD j []) (b.getD j 0):=λj d=>by
  have d:=jr.mp d;obtain⟨c,q⟩:∃c,b[j]?=some c:=⟨_,GH d⟩;obtain⟨p,o⟩:∃p,bs[j]?=some p:=⟨_,GH (by lia)⟩;obtain⟨m,u⟩:∃m,css[j]?=some m:=⟨_,GH (by lia)⟩;obtain⟨v,i⟩:=D j p m o u;obtain⟨G,b2⟩:=s j c p q o;have t:=yR (css:=css) o u q;rw[←e]at t;obtain⟨B,K,J,A⟩:=m3 (hi:=p.2) v (λy n=>(xH ((i y).mp n)).1) G b2;rw[dE (l:=List.zipWith bV a b),t,dE (l:=b),q];show inP _ (bV (bW p.1 p.2 m) c)=inP _ c
  symm
  refine xN B λy n=>?_
  by_cases z:p.1<y/\y<=p.2
  .have:MkC rws j p y:=⟨x,g,jw.mpr ⟨n,by rw[AI,decide_eq_true_iff,decide_eq_true_iff];exact z⟩⟩;by_cases w:y<=c
   .exact .inl (A y ((i y).mpr this) w)
   .exact .inr (by lia)
  .by_cases w:y<=p.1
   .exact .inl (by lia)
   .exact .inr (by lia)
 rw[Bool.eq_iff_iff,jq,jq];exact⟨λh j d=>by rw[←f j d];exact h j d,λh j d=>by rw[f j d];exact h j d⟩
theorem rD{ps:List Int}{c:Int}(b:∀u,ps[0]?=some u->u<=c):∀m,m<ps.length->(∀u,ps[m]?=some u->c<u)->∃a u v,ps[a]?=some u/\ps[a+1]?=some v/\u<=c/\c<v
 |0,hm,h=>by
  have e:=GH hm;have:=b _ e;have:=h _ e;lia
 |m+1,hm,h=>by
  have e:=GH (l:=ps) (i:=m) (by lia);have f:=GH hm;by_cases z:ps[m]<=c
  .exact⟨m,_,_,e,f,z,h _ f⟩
  .exact rD b m (by lia) λu d=>by rw[e]at d;cases d;lia
theorem zU{c:Type}{P:Nat->c->Prop}:∀{n:Nat},(∀j,j<n->∃a,P j a)->∃p:List c,p.length=n/\∀(j:Nat)(a:c),p[j]?=some a->P j a
 |0,_=>⟨[],U,λj a e=>by simp at e⟩
 |n+1,h=>by
  obtain⟨p,d,g⟩:=zU (n:=n) λj f=>h j (by lia)
  obtain⟨a,i⟩:=h n (by lia);refine⟨p++[a],by rw[cK,d];rfl,λj b e=>?_⟩;by_cases f:j<p.length
  .rw[iP f]at e;exact g j b e
  .have:j=p.length:=by have:=(GI.mp e).1;simp at this;lia
   subst this;simp at e;rw[←e,d];exact i
theorem uC:∀{a:List Int}{ps:List (Int×Int)},a.length=ps.length->(∀(j:Nat)(c:Int)(p:Int×Int),a[j]?=some c->ps[j]?=some p->p.1<=c/\c<=p.2)->InB a ps
 | [],[],_,_=>.nil
 | [],_ :: _,h,_=>by cases h
 |_ :: _,[],h,_=>by cases h
 |c :: a,p :: ps,h,hg=>.cons (hg 0 c p U U).1 (hg 0 c p U U).2 (uC (by simpa using h) λj c p d b=>hg (j+1) c p (by simpa using d) (by simpa using b))
section
variable{pss:List (List Int)}(hpt:∀ps∈pss,Pts ps)
include hpt
theorem xO{d:List Int}(h:InB d (pss.map λps=>(loP ps,hiP ps))):∃at_∈bC (gls pss),m9 pss at_ d:=by
 obtain⟨r,B⟩:=l7 h;rw[bx]at r;obtain⟨at_,y,t⟩:=zU (n:=pss.length) (P:=λj a=>∀(ps:List Int)(c:Int),pss[j]?=some ps->d[j]?=some c->∃u v,ps[a]?=some u/\ps[a+1]?=some v/\u<=c/\c<v) λj s=>by
  have k:=GH s;have x:=GH (l:=d) (i:=j) (by lia);have p:=hpt _ (GJ k);obtain⟨A,z⟩:=B j _ _ x (by rw[fo,k];rfl);have D:=p.two;obtain⟨a,u,v,e,b,o,C⟩:=rD (ps:=pss[j]) (c:=d[j]) (λu g=>by
   have:loP pss[j]=u:=by unfold loP;rw[dE,g];rfl
   rw[←this];exact A) (pss[j].length-1) (by lia) λu g=>by rw[p.last]at g;cases g;show d[j]<hiP pss[j]+1;exact Int.lt_add_one_of_le z
  refine⟨a,λps c w f=>?_⟩;rw[k]at w;rw[x]at f;cases w;cases f;exact⟨u,v,e,b,o,C⟩
 refine⟨at_,hV.iff.mpr ⟨by rw[y];unfold gls;rw[bx],λj a m e b=>?_⟩,y,r,λj ps a c e b o=>t j a b ps c e o⟩;unfold gls at b;rw[fo]at b;cases q:pss[j]? with
 |none=>rw[q]at b;cases b
 |some ps =>
  rw[q]at b;cases b;have s:=(GI.mp q).1;obtain⟨u,v,_,f,_,_⟩:=t j a e ps _ q (GH (l:=d) (i:=j) (by lia));have:=(GI.mp f).1;show a<ps.length-1;lia
end
section
variable{bms:List (List Int×Int)}{rws:List Rw}(hn:rws.length=bms.length)(hcd:∀k,k<bms.length->(rws.getD k ([],0)).2=(bms.getD k ([],0)).2)
include hn hcd
theorem Cq(f:Nat->Bool):pkF rws f rws.length=cdF bms ((List.range bms.length).filter f):=by
 unfold pkF cdF;rw[hn];exact List.map_congr_left λk a=>hcd k (jr.mp (jw.mp a).1)
end
theorem So.ins{H H':Hp}{a C b:Addr}{fs:List (Str×V)}(s:So H H')(e:H a=some (.ins C b fs)):H' a=some (.ins C b fs):=s _ _ trivial e
inductive Lx:List Int->List Int->Prop
 |nil:Lx [] []
 |here {a b:Int}{A B:List Int}:a<b->Lx (a :: A) (b :: B)
 |there {a:Int}{A B:List Int}:Lx A B->Lx (a :: A) (a :: B)
theorem Lx.refl:∀A:List Int,Lx A A
 | []=>.nil
 |_ :: A=>.there (Lx.refl A)
theorem Lx.trans{A B:List Int}(h:Lx A B):∀{C:List Int},Lx B C->Lx A C:=by
 induction h with
 |nil=>intro C h;exact h
 |here b =>
  intro C h;cases h with
  |here a=>exact .here (Int.lt_trans b a)
  |there _=>exact .here b
 |there _ c =>
  intro C h;cases h with
  |here a=>exact .here a
  |there a=>exact .there (c a)
theorem Lx.anti{A B:List Int}(h:Lx A B):Lx B A->A=B:=by
 induction h with
 |nil=>intro _;rfl
 |here c =>
  intro h;cases h with
  |here a=>lia
  |there _=>lia
 |there _ b =>
  intro h;cases h with
  |here a=>lia
  |there a=>rw[b a]
theorem Lx.le{a b:Int}{A B:List Int}(h:a<=b)(r:Lx A B):Lx (a :: A) (b :: B):=by
 by_cases z:a=b
 .rw[z];exact .there r
 .exact .here (by lia)
theorem A5{A B:List (Int×Int)}(h:Asc A B):Lx (A.map (·.1)) (B.map (·.1)):=by
 induction h with
 |here b _=>exact .here b
 |there _ a=>exact .there a
theorem xP{α:Type}:∀{f:List (T3a α)}{lo hi c:Int}{j:Nat}{t:T3a α},Ch3 f lo hi->lo<=c->f[j]?=some t->(∀(i:Nat)(u:T3a α),i<j->f[i]?=some u->u.2.1<c)->t.1<=c
 | [],_,_,_,j,_,_,_,e,_=>by simp at e
 |u :: f,lo,hi,c,0,t,h,hc,e,_=>by cases e;rw[h.1];exact hc
 |u :: f,lo,hi,c,j+1,t,h,hc,e,hb=>by
  have:=hb 0 u (by lia) U;exact xP (f:=f) h.2.2 (by lia) (by simpa using e) λi v hi a=>hb (i+1) v (by lia) (by simpa using a)
theorem uD{L:Type}{n:Nat}{F:Fm L n}{a:List Int}{x:L}(h:Tel n F a x):∀{ps:List (Int×Int)},cq n F ps->InB a ps->∃q∈bxs n F,q.2=x/\Lx (q.1.map (·.1)) a:=by
 induction h with
 |nil x=>intro ps _ _;exact⟨([],x),hZ.mpr U,U,.nil⟩
 | @cons n f c a x j t ej hc hb ht ih =>
  intro ps l b;obtain⟨p,r,rfl,s,d,u,o⟩:ShS (cq n) f ps:=l;cases b with
  |cons i v g =>
   obtain⟨q,m,e,k⟩:=ih (o t (GJ ej)) g;exact⟨_,xA.mpr ⟨t,GJ ej,q,m,U⟩,e,Lx.le (xP d i ej hb) k⟩
inductive Ln:List Nat->List Nat->Prop
 |here {a b:Nat}{A B:List Nat}:a<b->Ln (a :: A) (b :: B)
 |there {a:Nat}{A B:List Nat}:Ln A B->Ln (a :: A) (a :: B)
theorem Ln.app{A B:List Nat}(h:Ln A B)(X Y:List Nat):Ln (A++X) (B++Y):=by
 induction h with
 |here b=>exact .here b
 |there _ a=>exact .there a
theorem Ln.last{a b:Nat}(h:a<b):∀A:List Nat,Ln (A++[a]) (A++[b])
 | []=>.here h
 |_ :: A=>.there (Ln.last h A)
theorem pj:∀{r c:List Nat},c.reverse=r->(bC c).Pairwise Ln
 | [],c,h=>by
  have:c=[]:=List.reverse_eq_nil_iff.mp h;subst this;exact nL _ _
 |n :: r,c,h=>by
  have e:c=r.reverse++[n]:=by rw[←vQ c,h,rr]
  subst e;rw[jj];unfold grow;rw[List.pairwise_flatMap];refine⟨λp _=>?_,(pj (vQ r)).imp λ{a b} d x g y f=>?_⟩
  .rw[List.pairwise_map];exact List.pairwise_lt_range.imp λh=>Ln.last h p
  .obtain⟨k,_,rfl⟩:=en.mp g;obtain⟨i,_,rfl⟩:=en.mp f;exact d.app _ _
def dH(b:List (List Int))(at_:List Nat):List Int:=List.zipWith (λc a=>c.getD a 0) b at_
theorem kP{ps:List Int}{b:List (List Int)}{a:Nat}{p:List Nat}(h:hV (gls (ps :: b)) (a :: p)):a<ps.length-1/\hV (gls b) p :=
 ⟨h.2 0 a _ U U,by have:=h.1;simpa[gls]using this,λj x m d c=>h.2 (j+1) x m (by simpa using d) (by simpa[gls]using c)⟩
theorem A6{p r:List Nat}(h:Ln p r):∀{c:List (List Int)},(∀ps∈c,Pts ps)->hV (gls c) p->hV (gls c) r->Lx (dH c p) (dH c r):=by
 induction h with
 | @here a b A B hab =>
  intro c f d e
  match c,d,e with
  | [],d,_=>have:=d.1;simp[gls]at this
  |ps :: c,d,e =>
   have k:=(kP e).1;have j:=GH (l:=ps) (i:=a) (by lia);have g:=GH (l:=ps) (i:=b) (by lia);have:=qI (f ps (.head _)).asc j g hab;refine .here ?_;show ps.getD a 0<ps.getD b 0;rw[dE,dE,j,g];exact this
 | @there a A B _ ih =>
  intro c f d e
  match c,d,e with
  | [],d,_=>have:=d.1;simp[gls]at this
  |ps :: c,d,e=>exact .there (ih (λps h=>f ps (.tail _ h)) (kP d).2 (kP e).2)
theorem uE:∀{b:List (List Int)}{at_:List Nat}{e:List Int},m9 b at_ e->Lx (dH b at_) e
 | [],at_,e,h=>by
  have l:=h.1;have k:=h.2.1;have f:at_=[]:=oT.mp l;have g:e=[]:=oT.mp k;subst f g;exact .nil
 |d :: b,[],e,h=>by have:=h.1;cases this
 |d :: b,a :: at_,[],h=>by have:=h.2.1;cases this
 |d :: b,a :: at_,c :: e,h=>by
  obtain⟨u,v,f,g,i,n⟩:=h.2.2 0 d a c U U U;refine Lx.le ?_ (uE ⟨by simpa using h.1,by simpa using h.2.1,λj d a c f g m=>h.2.2 (j+1) d a c (by simpa using f) (by simpa using g) (by simpa using m)⟩);show d.getD a 0<=c;rw[dE,f];exact i
theorem xQ{b:List (List Int)}{at_:List Nat}{j:Nat}{ps:List Int}{a:Nat}(d:b[j]?=some ps)(c:at_[j]?=some a):(dH b at_)[j]?=some (ps.getD a 0):=by
 unfold dH;rw[kT,d,c]
theorem qd{a:List (List Int)}{at_:List Nat}(h:at_.length=a.length):(dH a at_).length=a.length:=by
 unfold dH;rw[jE];lia
theorem xR{b:List (List Int)}(k:∀ps∈b,Pts ps){at_:List Nat}(h:hV (gls b) at_):InB (dH b at_) (b.map λps=>(loP ps,hiP ps))/\m9 b at_ (dH b at_):=by
 have t:at_.length=b.length:=by rw[h.1];unfold gls;rw[bx]
 have m:=qd t;have g:∀(j:Nat)(ps:List Int)(a:Nat)(c:Int),b[j]?=some ps->at_[j]?=some a->(dH b at_)[j]?=some c->∃v,ps[a]?=some c/\ps[a+1]?=some v/\c<v:=λj ps a c f d e=>by
  have u:=h.2 j a _ d (by unfold gls;rw[fo,f];rfl);have u:a<ps.length-1:=u;have r:=GH (l:=ps) (i:=a) (by lia);have x:=GH (l:=ps) (i:=a+1) (by lia);rw[xQ f d,dE,r]at e;have e:ps[a]=c:=Option.some.inj e;refine⟨_,by rw[r,e],x,?_⟩;rw[←e];exact qI (k ps (GJ f)).asc r x (by lia)
 refine⟨uC (by rw[bx];exact m) λj c p f d=>?_,t,m,λj ps a c f d e=>let ⟨v,o,n,w⟩:=g j ps a c f d e;⟨c,v,o,n,Int.le_refl _,w⟩⟩;rw[fo]at d;cases q:b[j]? with
 |none=>rw[q]at d;cases d
 |some ps =>
  rw[q]at d;cases d;have z:=(GI.mp q).1;have s:=k ps (GJ q);obtain⟨v,o,n,w⟩:=g j ps _ c q (GH (l:=at_) (i:=j) (by lia)) f;have y:=s.lo o;have A:=s.hi n;exact⟨y,by show c<=hiP ps;lia⟩
def BxG{K:W.Frag}{L:Type} [DecidableEq L] (A:Lfp K L)(H:Hp):List V->List (List (Int×Int)×L)->Prop:=Paired λx q=>∃(t b:Addr)(u:V),x=.ref t/\H t=some (.tup [.ref b,u])/\BxA H b q.1/\A.R H q.2 u
theorem BxG.mono{K:W.Frag}{L:Type} [DecidableEq L] {A:Lfp K L}{H H':Hp}{xs:List V}{l:List (List (Int×Int)×L)}(h:BxG A H xs l)(s:cb H H'):BxG A H' xs l:=Paired.mapP h λ_ _ ⟨t,b,u,e,z,p,r⟩=>⟨t,b,u,e,s _ _ z,p.mono s,A.mono s r⟩
theorem BxG.length{K:W.Frag}{L:Type} [DecidableEq L] {A:Lfp K L}{H:Hp}{xs:List V}{l:List (List (Int×Int)×L)}(h:BxG A H xs l):xs.length=l.length:=Paired.length h
theorem yY{X:Cx}{K:W.Frag}{k:Nat}(h:X.K=K)(a:bP k X.A):OpR X (compareOp .NotEq) (B8 K):=h ▸ AM a
def dc(l:List (List (Int×Int)×Option (SI×SI))):List (List (Int×Int)×Option (SI×SI)):=l.filter λq=>decide (q.2≠none)
theorem tab_ne{K:W.Frag}{x y:Str}{c t c' t':Addr}(h:W.tabIn K x=some (c,t))(h':W.tabIn K y=some (c',t'))(d:t≠t'):∀z a,W.tabIn K x=some z->W.tabIn K y=some a->z.2≠a.2:=λz a e b=>by
 rw[h]at e;rw[h']at b;cases e;cases b;exact d
theorem tab_keep{H H':Hp}{P b:Addr}{L:List (Pos×Str)}(h:dG H P L)(i:P≠b){ps:Array Value}(e:H b=some (.tbl ps))(k:∀d o,d≠b->H d=some o->H' d=some o):dG H' P L:=by
 obtain⟨f,r,q,n⟩:=h;refine⟨f,k _ _ i r,q,λp m=>?_⟩;rcases n p m with z|⟨c,g,l,a,j⟩
 .exact .inl z
 .exact .inr ⟨c,g,l,k _ _ (λz=>by rw[z,e]at a;cases a) a,j⟩
theorem yZ{L M:Type} [DecidableEq L] [DecidableEq M] {h:L->M}{g:List Int->L}{a:List (List (Int×Int))}{ps:List (Int×Int)}(c:fO a ps):oi h a.length (lay g a [])=lay (λd=>h (g d)) a [] :=
 kK (xq (mS c [])) (mS c []) λe b x y i f=>(iJ i (yO (lY c [] e b) (mS c []) b)).trans (iJ f (lY (g:=λd=>h (g d)) c [] e b)).symm
def vdm(rws:List Rw)(i:Nat)(o:Int×Int)(m:Int):SI:=ver (wf i o.1 o.2) (pkF rws (bQ m) rws.length)
theorem zV{L:Type}{d n:Nat}(e:n=d)(F:Fm L n)(P:(n:Nat)->Fm L n->Prop)(h:P n F):∃G:Fm L d,P d G:=by subst e;exact⟨F,h⟩
def kQ(K:W.Frag)(H:Hp):Prop:=∀z,W.tabIn K "verdict_form" = some z->dG H z.2 [(rb Y88,"verdict_form.<locals>.<lambda>")]
theorem kQ.same{K:W.Frag}{H H':Hp}(h:kQ K H)(s:aq H H'):kQ K H':=λz e=>(h z e).same s
def dpr(x y:SI):Option (SI×SI):=if x=y then none else some (x,y)
theorem y7{K:W.Frag}{H:Hp}{Q:VK}{a b:Addr}{v u:SI}(m:SqT K H a (tp v))(l:SqT K H b (tp u))(h:Q (.bl (decide (v=u))) H):wC K false (.ref a) (.ref b) H Q:=by
 refine⟨a,b,_,_,U,U,m,l,λj=>if j=0 then eqV (.str v.1) (.str u.1)else eqV (.int v.2) (.int u.2),λj x y c d=>?_,?_⟩
 .match j,c,d with
  |0,c,d=>cases c;cases d;exact EqI.flat U U
  |1,c,d=>cases c;cases d;exact EqI.flat U U
  |j+2,c,d=>simp[tp]at c
 .have e:((List.range (min (tp v).length (tp u).length)).all (λj=>if j=0 then eqV (.str v.1) (.str u.1)else eqV (.int v.2) (.int u.2)) && (tp v).length == (tp u).length)=decide (v=u):=by
   have c:eqV (.str v.1) (.str u.1)=decide (v.1=u.1):=by unfold eqV;rw[Bool.eq_iff_iff];simp
   have d:eqV (.int v.2) (.int u.2)=decide (v.2=u.2):=by unfold eqV;rw[Bool.eq_iff_iff];simp
   show((List.range 2).all (λj=>if j=0 then eqV (.str v.1) (.str u.1)else eqV (.int v.2) (.int u.2)) && (2 == 2:Bool))=_;rw[c,d];obtain⟨g,f⟩:=v;obtain⟨k,i⟩:=u;by_cases o:g=k <;> by_cases n:f=i <;> simp[jx,o,n]
  show Q (.bl (if false=true then _ else _)) H;rw[if_neg (by decide),e];exact h
def ChL(K:W.Frag)(H:Hp):List V->List (List (Int×Int)×Option (SI×SI))->Prop:=Paired λx q=>∃(t b c a:Addr)(p:SI×SI),x=.ref t/\q.2=some p/\H t=some (.tup [.ref b,.ref c,.ref a])/\BxA H b q.1/\Vd K H c p.1/\Vd K H a p.2
theorem ChL.mono{K:W.Frag}{H H':Hp}{xs:List V}{l:List (List (Int×Int)×Option (SI×SI))}(h:ChL K H xs l)(s:cb H H'):ChL K H' xs l:=Paired.mapP h λ_ _ ⟨t,b,e,d,p,g,f,z,w,c,a⟩=>⟨t,b,e,d,p,g,f,s _ _ z,w.mono s,c.mono s,a.mono s⟩
abbrev Dm:=Sum (Int×Int) (List Str)
def DmX(d c:Addr)(H:Hp)(a:Addr):Dm->Prop
 | .inl p=>∃b fs,H a=some (.ins d b fs)/\fs.lookup s!"low"=some (.int p.1)/\fs.lookup s!"high"=some (.int p.2)/\fs.lookup s!"has_code"=none
 | .inr zs=>∃b fs l,H a=some (.ins c b fs)/\fs.lookup s!"words"=some (.ref l)/\H l=some (.lst (zs.map V.str))/\fs.lookup s!"low"=some (.int 0)/\fs.lookup s!"high"=some (.int (hiW zs))/\fs.lookup s!"has_code"=none
theorem DmX.same{f c:Addr}{H H':Hp}{a:Addr}{d:Dm}(h:DmX f c H a d)(s:aq H H'):DmX f c H' a d:=by
 cases d with
 |inl p=>obtain⟨b,fs,e,r⟩:=h;exact⟨b,fs,s _ _ e,r⟩
 |inr j=>obtain⟨b,fs,l,e,g,i,r⟩:=h;exact⟨b,fs,l,s _ _ e,g,s _ _ i,r⟩
def Dm.b:Dm->Int×Int
 | .inl p=>p
 | .inr zs=>(0,hiW zs)
theorem vt{K:W.Frag}{H:Hp}{Q:VK}{a b:Addr}{xs ys:List Str}{r:Bool}(i:SqL K H a (xs.map V.str))(g:SqL K H b (ys.map V.str))(f:r=true↔xs=ys)(q:Q (.bl r) H):wt K false (.ref a) (.ref b) H Q:=by
 by_cases c:xs.length=ys.length
 .refine⟨a,b,_,_,U,U,i,g,.inr ⟨by rw[bx,bx];exact c,λj=>decide (xs[j]?=ys[j]?),λj x y s p=>?_,?_⟩⟩
  .obtain⟨z,rfl,o⟩:=j5 s;obtain⟨d,rfl,n⟩:=j5 p;have k:=EqI.flat (K:=K) (H:=H) (x:=V.str z) (y:=V.str d) U U;have m:eqV (V.str z) (V.str d)=decide (xs[j]?=ys[j]?):=by
    rw[o,n,Bool.eq_iff_iff];simp[eqV]
   rw[m]at k;exact k
  .have e:(List.range (xs.map V.str).length).all (λj=>decide (xs[j]?=ys[j]?))=r:=by
    rw[Bool.eq_iff_iff,f,jq];constructor
    .intro h;apply vf
     intro j;by_cases l:j<xs.length
     .exact of_decide_eq_true (h j (jr.mpr (by rw[bx];exact l)))
     .rw[mu (by lia),mu (by lia)]
    .intro h j _;rw[h];exact decide_eq_true U
   rw[if_neg Bool.false_ne_true,e];exact q
 .have e:r=false:=by
   rw[As];intro z;exact c (by rw[f.mp z])
  rw[e]at q;exact⟨a,b,_,_,U,U,i,g,.inl ⟨by rw[bx,bx];exact c,q⟩⟩
def TDo(e:Addr)(H:Hp)(t:Addr)(d:List V)(b:Addr):Prop:=∃c a fs,H t=some (.ins e c fs)/\fs.lookup s!"domains"=some (.ref a)/\fs.lookup s!"outcome"=some (.ref b)/\H a=some (.lst d)
theorem DmX.so{f c:Addr}{H H':Hp}{a:Addr}{d:Dm}(h:DmX f c H a d)(s:So H H'):DmX f c H' a d:=by
 cases d with
 |inl p=>obtain⟨b,fs,e,r⟩:=h;exact⟨b,fs,s _ _ trivial e,r⟩
 |inr j=>obtain⟨b,fs,l,e,g,i,r⟩:=h;exact⟨b,fs,l,s _ _ trivial e,g,s _ _ trivial i,r⟩
theorem TDo.so{c:Addr}{H H':Hp}{t a:Addr}{b:List V}(h:TDo c H t b a)(s:So H H'):TDo c H' t b a:=by obtain⟨i,j,fs,e,f,d,g⟩:=h;exact⟨i,j,fs,s _ _ trivial e,f,d,s _ _ trivial g⟩
structure oj(K:W.Frag)(cT cN cW:Addr)(H:Hp)(t u:Addr)(bs:Prs)(rws cA:List Rw)(i i':Nat)(o:Int×Int)(gc:List (List (Int×Int))):Prop where
 ex:∃(dv ev:List V)(L L':Nat->List Int)(kk:Nat),RfH cT cN cW H t dv bs rws L kk i o/\RfH cT cN cW H u ev bs cA L' kk i' o/\(∀c∈gc,c.length<=kk+1)/\∃(ou pu:Addr)(ds:List Dm)(d:Dm),TDo cT H t dv ou/\TDo cT H u ev pu/\aD dv ds (DmX cN cW H)/\aD ev ds (DmX cN cW H)/\DmX cN cW H ou d/\DmX cN cW H pu d/\ds.length<=10
 gok:fO gc bs
 glen:gc.length=bs.length
 g1:∀cs,InB cs bs->mkg rws (List.zipWith bV gc cs)=mkg rws cs
 g2:∀cs,InB cs bs->mkg cA (List.zipWith bV gc cs)=mkg cA cs
theorem oj.so{K:W.Frag}{j k g:Addr}{H H':Hp}{t u:Addr}{bs:Prs}{rws l:List Rw}{i e:Nat}{o:Int×Int}{f:List (List (Int×Int))}(h:oj K j k g H t u bs rws l i e o f)(s:So H H'):oj K j k g H' t u bs rws l i e o f:=by
 obtain⟨⟨G,y,L,J,q,a,b,c,n,m,I,d,F,E,D,C,B,A,z⟩,x,w,v,r⟩:=h;exact⟨⟨G,y,L,J,q,a.so s,b.so s,c,n,m,I,d,F.so s,E.so s,aD.mono D λ_ _ p=>DmX.so p s,aD.mono C λ_ _ p=>DmX.so p s,B.so s,A.so s,z⟩,x,w,v,r⟩
theorem oj.turn{K:W.Frag}{j k g:Addr}{H:Hp}{t u:Addr}{bs:Prs}{rws l:List Rw}{i e:Nat}{o:Int×Int}{f:List (List (Int×Int))}(h:oj K j k g H t u bs rws l i e o f):oj K j k g H u t bs l rws e i o f:=by
 obtain⟨⟨E,w,L,G,p,a,b,c,n,m,F,d,D,C,B,A,z,y,x⟩,v,s,r,q⟩:=h;exact⟨⟨w,E,G,L,p,b,a,c,m,n,F,d,C,D,A,B,y,z,x⟩,v,s,q,r⟩
def dif(rws b:List Rw)(i c:Nat)(o:Int×Int)(a:List Int):Option (SI×SI):=dpr (vdm rws i o (mkg rws a)) (vdm b c o (mkg b a))
structure y8(bs:Prs)(rws cA:List Rw)(i i':Nat)(o:Int×Int)(PF:Fm (Option (SI×SI)) bs.length):Prop where
 sh:cq bs.length PF bs
 tel:∀cs,InB cs bs->Tel bs.length PF cs (dif rws cA i i' o cs)
 few:(bxs bs.length PF).length<=300
def vw(c:Int)(ps:List Int):Dm:=if c%3=1 then .inr (w3s c (ps.length-1))else .inl (loP ps,hiP ps)
def dmO(c:Int)(a:List Int):Dm:=if c%3=1 then .inr (w3s c 5)else .inl (o0 a,o4 a)
def dms(b:List Int)(a:List (List Int)):List Dm:=(List.range a.length).map λj:Nat=>vw (cx b (1+(0+(j:Int)))) (a.getD j [])
theorem A7{b:List Int}{a:List (List Int)}{j:Nat}{ps:List Int}(e:a[j]?=some ps):(dms b a)[j]?=some (vw (cx b (1+(0+(j:Int)))) ps):=by
 unfold dms;rw[fo,List.getElem?_range (GI.mp e).1];show some (vw _ (a.getD j []))=_;rw[dE,e];rfl
def DmN(d b:Addr)(e H:Hp)(a:Addr):Dm->Prop
 | .inl p=>DmX d b H a (.inl p)
 | .inr zs=>∃c fs l,H a=some (.ins b c fs)/\fs.lookup s!"words"=some (.ref l)/\H l=some (.lst (zs.map V.str))/\fs.lookup s!"low"=some (.int 0)/\fs.lookup s!"high"=some (.int (hiW zs))/\fs.lookup s!"has_code"=none/\e l=none
theorem DmN.hide{k j:Addr}{f H:Hp}{a D:Addr}{zs:List V}{d:Dm}(h:DmN k j f H a d)(e:f D=some (.lst zs))(s:aq f H):DmX k j (My.hide H D) a d:=by
 have i:=s _ _ e;cases d with
 |inl p=>obtain⟨c,fs,b,r⟩:=h;exact⟨c,fs,dh b (dS b i (by intro z;cases z)),r⟩
 |inr u =>
  obtain⟨c,fs,l,b,q,t,o,n,m,g⟩:=h;exact⟨c,fs,l,dh b (dS b i (by intro z;cases z)),q,dh t (λz=>by rw[z,e]at g;cases g),o,n,m⟩
theorem A8{x y:Int}(b:0<=x)(a:0<=y):0<=Builtin.bitXor x y:=by
 rw[←PyProof.Rows.bitXor_eq];have d:¬ 0<=Builtin.bitNot x:=by unfold Builtin.bitNot;lia
 have c:¬ 0<=Builtin.bitNot y:=by unfold Builtin.bitNot;lia
 show 0<=Builtin.bitNot (Builtin.bitAnd (Builtin.bitNot x) (Builtin.bitNot y))-Builtin.bitAnd x y;rw[PyProof.Rows.bitAnd_nn d c,PyProof.Rows.bitAnd_pp b a];have e:∀z:Int,Builtin.bitNot (Builtin.bitNot z)=z:=λz=>by unfold Builtin.bitNot;lia
 rw[e,e,e];have g:x.toNat &&& y.toNat<=x.toNat:=Nat.and_le_left;have f:x.toNat<=x.toNat ||| y.toNat:=Nat.left_le_or;lia
def vx(a:List (List Int))(c:List Int)(bms:List (List Int×Int)):Prop:=∀b∈bms,b.1.length=a.length/\b.2∈c/\∀x∈b.1,0<=x
theorem aD.takeR{α:Type}{xs:List V}{ys:List α}{R:Addr->α->Prop}(h:aD xs ys R)(n:Nat):aD (xs.take n) (ys.take n) R:=⟨by rw[ip,ip,h.1],λj y e=>by
 have a:=(GI.mp e).1;rw[ip]at a;rw[vR,if_pos (by lia)]at e;obtain⟨r,c,b⟩:=h.2 j y e;exact⟨r,by rw[vR,if_pos (by lia)];exact c,b⟩⟩
theorem aD.dropR{α:Type}{xs:List V}{ys:List α}{R:Addr->α->Prop}(h:aD xs ys R)(n:Nat):aD (xs.drop n) (ys.drop n) R:=⟨by rw[jv,jv,h.1],λj y e=>by
 rw[List.getElem?_drop]at e;obtain⟨r,b,a⟩:=h.2 _ y e;exact⟨r,by rw[List.getElem?_drop];exact b,a⟩⟩
theorem aD.appR{α:Type}{xs b:List V}{ys a:List α}{R:Addr->α->Prop}(h:aD xs ys R)(h':aD b a R):aD (xs++b) (ys++a) R:=⟨by rw[cK,cK,h.1,h'.1],λj y e=>by
 by_cases f:j<ys.length
 .rw[iP f]at e;obtain⟨r,d,c⟩:=h.2 j y e;exact⟨r,by rw[iP (by rw[h.1];exact f)];exact d,c⟩
 .rw[lg (by lia)]at e;obtain⟨r,d,c⟩:=h'.2 _ y e;exact⟨r,by rw[lg (by rw[h.1];lia),h.1];exact d,c⟩⟩
theorem aD.revR{α:Type}{xs:List V}{ys:List α}{R:Addr->α->Prop}(h:aD xs ys R):aD xs.reverse ys.reverse R:=⟨by rw[wb,wb,h.1],λj y e=>by
 have a:=(GI.mp e).1;rw[wb]at a;rw[List.getElem?_reverse a]at e;obtain⟨r,c,b⟩:=h.2 _ y e;exact⟨r,by rw[List.getElem?_reverse (by rw[h.1];exact a),h.1];exact c,b⟩⟩
theorem vx.sub{a:List (List Int)}{d:List Int}{bms c:List (List Int×Int)}(h:vx a d bms)(k:∀b∈c,b∈bms):vx a d c:=λb e=>h b (k b e)
theorem vy{L:Type}{a:List (List Int)}(e:∀ps∈a,Pts ps){n:Nat}{F:Fm L n}(d:cq n F (a.map λps=>(loP ps,hiP ps))){lt:List Nat->L}(C:∀(m:List Int)(at_:List Nat),InB m (a.map λps=>(loP ps,hiP ps))->m9 a at_ m->Tel n F m (lt at_)){pr:L->Bool}
  {i:Nat}{q:List (Int×Int)×L}(l:(bxs n F)[i]?=some q)(D:pr q.2=true)(G:∀(j:Nat)(g:List (Int×Int)×L),j<i->(bxs n F)[j]?=some g->pr g.2=false)
  {k:Nat}{o:List Nat}(h:(bC (gls a))[k]?=some o)(E:pr (lt o)=true)(u:∀(j:Nat)(p:List Nat),j<k->(bC (gls a))[j]?=some p->pr (lt p)=false):q.1.map (·.1)=dH a o:=by
 obtain⟨y,s,_⟩:=rn d q (GJ l);refine Lx.anti ?_ ?_
 .have v:=hV.iff.mp (GJ h);obtain⟨x,K⟩:=xR e v;obtain⟨g,t,I,r⟩:=uD (C _ _ x K) d x;refine Lx.trans ?_ r;obtain⟨B,c⟩:=js t;rcases Nat.lt_trichotomy B i with z|z|z
  .have:=G B g z c;rw[I,E]at this;cases this
  .rw[z,l]at c;cases c;exact Lx.refl _
  .exact A5 (xE (xC d) z l c)
 .obtain⟨J,f,w⟩:=xO e y.lows;refine Lx.trans ?_ (uE w);have H:=iJ s (C _ _ y.lows w);obtain⟨A,b⟩:=js f;rcases Nat.lt_trichotomy A k with z|z|z
  .rw[H,u A J z b]at D;cases D
  .rw[z,h]at b;cases b;exact Lx.refl _
  .exact A6 (xE (pj U) z h b) e (hV.iff.mp (GJ h)) (hV.iff.mp f)
theorem vz{L:Type}{a:List (List Int)}(c:∀ps∈a,Pts ps){n:Nat}{F:Fm L n}(b:cq n F (a.map λps=>(loP ps,hiP ps))){lt:List Nat->L}(k:∀(d:List Int)(at_:List Nat),InB d (a.map λps=>(loP ps,hiP ps))->m9 a at_ d->Tel n F d (lt at_)){pr:L->Bool}:(∀q∈bxs n F,pr q.2=false)↔∀p∈bC (gls a),pr (lt p)=false:=by
 constructor
 .intro h p r;obtain⟨i,u⟩:=xR c (hV.iff.mp r);obtain⟨m,f,s,_⟩:=uD (k _ _ i u) b i;rw[←s];exact h m f
 .intro h q o;obtain⟨j,e,_⟩:=rn b q o;obtain⟨t,g,l⟩:=xO c j.lows;rw[iJ e (k _ _ j.lows l)];exact h t g
def vdp(bms:List (List Int×Int))(i:Nat)(a:List Int)(p:List Nat):SI:=ver (wf i (o0 a) (o4 a)) (cdF bms (rC bms p))
theorem xU{a:List (List Int)}{bms:List (List Int×Int)}{rws:List Rw}{i:Nat}{f:List Int}(j:∀ps∈a,Pts ps)(d:rws.length=bms.length)(c:∀(k:Nat)(b:List Int×Int)(x:Rw),bms[k]?=some b->rws[k]?=some x->GrR a b x)(r:∀b∈bms,b.1.length=a.length){at_:List Nat}{o:List Int}(h:m9 a at_ o):vdm rws i (o0 f,o4 f) (mkg rws o)=vdp bms i f at_:=by
 have m:∀k,k<bms.length->(rws.getD k ([],0)).2=(bms.getD k ([],0)).2:=λk p=>by
  have n:=GH p;have e:=GH (l:=rws) (i:=k) (by lia);rw[dE,dE,n,e];exact(c k _ _ n e).1
 rw[tS j d c r h];generalize q:(λk=>m7 at_ (bms.getD k ([],0)))=g;have s:rC bms at_=(List.range bms.length).filter g:=by unfold rC;rw[q]
 have e:pkF rws (bQ ((msk g bms.length:Nat):Int)) rws.length=cdF bms ((List.range bms.length).filter g):=by rw[←d,yM,Cq d m,d]
 unfold vdm vdp;rw[e,s]
structure RwD where
 rl:Addr
 rx:List V
 bms:List (List Int×Int)
 wy:Str
 wi:Nat
structure lG(H:Hp)(pss:List (List Int))(d:RwD):Prop where
 e:H d.rl=some (.lst d.rx)
 r:BRL H d.rx d.bms
 n:d.rx.length<=60
 b:∀b∈d.bms,b.1.length=pss.length/\∀x∈b.1,0<=x
 w:six[d.wi]?=some d.wy
theorem lG.so{H H':Hp}{a:List (List Int)}{d:RwD}(h:lG H a d)(s:So H H'):lG H' a d:=⟨s _ _ trivial h.e,aD.mono h.r λ_ _ ⟨bl,e,f⟩=>⟨bl,s _ _ trivial e,s _ _ trivial f⟩,h.n,h.b,h.w⟩
def vdd(a:List Int)(d:RwD)(p:List Nat):SI:=vdp d.bms d.wi a p
def TdL(H:Hp)(xs:List V)(l:List SI):Prop:=aD xs l λr x=>H r=some (.tup (tp x))
def eU(ps:List Int):List Int:=ps.tail.dropLast
theorem xV{ps:List Int}{j:Nat}{x:Int}(e:ps[j+1]?=some x)(h:j+2<ps.length):x∈eU ps:=by
 cases ps with
 |nil=>simp at e
 |cons y ps =>
  have e:ps[j]?=some x:=by simpa using e
  have h:j+1<ps.length:=by rw[ik]at h;lia
  show x∈ps.dropLast;rw[List.dropLast_eq_take];refine GJ (i:=j) ?_;rw[vR,if_pos (by lia)];exact e
theorem xW{ps:List Int}{x:Int}(h:x∈eU ps):∃j,ps[j+1]?=some x/\j+2<ps.length:=by
 cases ps with
 |nil=>cases h
 |cons y ps =>
  have h:x∈ps.dropLast:=h;rw[List.dropLast_eq_take]at h;obtain⟨j,a⟩:=js h;have b:=(GI.mp a).1;rw[ip]at b;rw[vR,if_pos (by lia)]at a;exact⟨j,by simpa using a,by rw[ik];lia⟩
theorem nh{ps:List Int}(a:Pts ps):(eU ps).Pairwise (· < ·)/\(∀c∈eU ps,loP ps<c/\c<=hiP ps)/\(eU ps).length+2=ps.length:=by
 have m:=a.two;refine⟨?_,λc f=>?_,?_⟩
 .unfold eU;rw[List.dropLast_eq_take];exact List.Pairwise.sublist ((ro _ _).trans (List.tail_sublist ps)) a.asc
 .obtain⟨j,d,k⟩:=xW f;have e:=GH (l:=ps) (i:=0) (by lia);have b:=GH (l:=ps) (i:=ps.length-1) (by lia);have o:loP ps=ps[0]:=by unfold loP;rw[dE,e];rfl
  have n:hiP ps=ps[ps.length-1]-1:=by unfold hiP;rw[dE,b];rfl
  have h:=a.mono e d (by lia);have g:=a.mono d b (by lia);lia
 .unfold eU;rw[List.length_dropLast,List.length_tail];lia
def fR(a:List (List Int)):List (List (Int×Int)):=List.zipWith (λp c=>bW p.1 p.2 c) (a.map λb=>(loP b,hiP b)) (a.map eU)
theorem xX{a:List (List Int)}(c:∀ps∈a,Pts ps):fO (fR a) (a.map λps=>(loP ps,hiP ps)):=by
 refine tQ (by rw[bx,bx]) (λp g=>?_) λj p h b d=>?_
 .obtain⟨ps,f,rfl⟩:=en.mp g;exact(c ps f).le
 .rw[fo]at b d;cases e:a[j]? with
  |none=>rw[e]at b;cases b
  |some ps =>
   rw[e]at b d;cases b;cases d;have:=nh (c ps (GJ e));exact⟨this.1,this.2.1⟩
theorem pq(a:List (List Int)):(fR a).length=a.length:=by unfold fR;rw[jE,bx,bx];lia
theorem vC{a:List (List Int)}(d:∀ps∈a,Pts ps){f:Nat}(i:∀ps∈a,ps.length<=f):∀c∈fR a,c.length<=f+1:=λc h=>by
 unfold fR at h;obtain⟨j,b⟩:=js h;rw[kT,fo,fo]at b;cases e:a[j]? with
 |none=>rw[e]at b;cases b
 |some ps =>
  rw[e]at b;have b:bW (loP ps) (hiP ps) (eU ps)=c:=Option.some.inj b;have g:=GJ e;rw[←b,fQ];have:=(nh (d ps g)).2.2;have:=i ps g;lia
theorem vD{b:List (List Int)}(n:∀ps∈b,Pts ps){at_:List Nat}(D:at_∈bC (gls b)){d:List Int}(o:InB d (b.map λps=>(loP ps,hiP ps)))(h:m9 b at_ d):m9 b at_ (List.zipWith bV (fR b) d):=by
 obtain⟨r,E,g⟩:=h;refine⟨r,by rw[jE,pq];lia,λj ps a c f z e=>?_⟩;rw[kT]at e;have H:=(GI.mp f).1;have m:=GH (l:=d) (i:=j) (by lia);have x:(fR b)[j]?=some (bW (loP ps) (hiP ps) (eU ps)):=by unfold fR;rw[kT,fo,fo,f];rfl
 rw[x,m]at e;have e:bV (bW (loP ps) (hiP ps) (eU ps)) d[j]=c:=Option.some.inj e;obtain⟨u,v,k,p,s,F⟩:=g j ps a d[j] f z m;have w:=n ps (GJ f);have hi:=nh w;obtain⟨A,b2⟩:=(l7 o).2 j d[j] _ m (by rw[fo,f];rfl);obtain⟨C,I,B,q⟩:=m3 (hi:=hiP ps) hi.1 (λy t=>(hi.2.1 y t).1) A b2;rw[e]at C B q;refine⟨u,v,k,p,?_,by lia⟩;cases a with
 |zero =>
  have:loP ps=u:=by unfold loP;rw[dE,k];rfl
  lia
 |succ a =>
  have G:=(GI.mp p).1;exact q u (xV k (by lia)) s
theorem xY{Z F E:Addr}{H:Hp}{t W:Addr}{a:List (List Int)}{d:List Int}{rws:List Rw}{bms:List (List Int×Int)}{nm S:Str}{zs:List Str}{D:List V}{T j:Nat}(X:lM (λ_=>True) Z H t rws nm S W zs D)(o:aD D (a.map λps=>(loP ps,hiP ps)) (Dom F E H))(M:Dom F E H W (o0 d,o4 d))(J:six[T]?=some S)(a0:rws.length=bms.length)(hok:∀w∈rws,lE (a.map λps=>(loP ps,hiP ps)) (o0 d,o4 d) w)(O:∀(k:Nat)(b:List Int×Int)(x:Rw),bms[k]?=some b->rws[k]?=some x->GrR a b x)(hb:∀b∈bms,b.1.length=a.length)(f:∀ps∈a,Pts ps)(za:o0 d<=o4 d)(a2:a.length<=4)(a3:bms.length<=60)(K:∀ps∈a,ps.length<=j)(N:(j+1)^a.length<=300)(vE:j<=57):RfH Z F E H t D (a.map λps=>(loP ps,hiP ps)) rws (λc=>a.getD c []) j T (o0 d,o4 d):=by
 obtain⟨bs,g⟩:∃bs,bs=a.map λps=>(loP ps,hiP ps):=⟨_,U⟩
 have r:bs.length=a.length:=by rw[g];simp
 rw[←g]at o hok⊢;have a1:∀w∈rws,w.1.length=a.length:=λw hw=>by rw[(hok w hw).len];exact r
 have q:∀b∈bms,b.1.length=a.length/\True:=λb h=>⟨hb b h,trivial⟩
 have n:∀(k:Nat)(x:Rw),rws[k]?=some x->∃b,bms[k]?=some b/\GrR a b x:=λk x e=>by
  have hk:=(GI.mp e).1;exact⟨_,GH (l:=bms) (i:=k) (by lia),O k _ x (GH (by lia)) e⟩
 obtain⟨I,dx,na,dl,fs,G,e1,e2,e3,e4,e5,e6,e7,e8,e9,R,Q,_⟩:=id X;refine⟨⟨I,dx,dl,fs,G,e1,e2,e7,e9,o,R,aD.mono Q λ_ _ p=>p⟩,X.tbl J M za,by lia,by lia,λx s=>⟨(hok x s).len,λc=>?_⟩,λc b C=>?_,by rw[r];exact N,vE,λp u=>?_⟩
 .obtain⟨k,B⟩:=js s;obtain⟨b,C,_,gl,z⟩:=n k x B;by_cases v:c<a.length
  .have ep:=GH v;have m:=GH (l:=x.1) (i:=c) (by lia);have DQ:=(q b (GJ C)).1;have A:=GH (l:=b.1) (i:=c) (by lia);have h1:=(z c _ _ _ ep m A).lenA;have h2:=(f _ (GJ ep)).few;have h3:=(f _ (GJ ep)).two;rw[dE,m];show x.1[c].length<=6;lia
  .rw[dE,mu (by lia)];exact yh _
 .have v:c<a.length:=by have:=(GI.mp C).1;lia
  have ep:=GH v;have eL:a.getD c []=a[c]:=by rw[dE,ep];rfl
  show(a.getD c []).length<=j/\∀y,MkC rws c b y->y∈a.getD c [];rw[eL];refine⟨K _ (GJ ep),λy ⟨x,s,hy⟩=>?_⟩;obtain⟨k,B⟩:=js s;obtain⟨b',P,_,gl,z⟩:=n k x B;have m:=GH (l:=x.1) (i:=c) (by lia);have DQ:=(q b' (GJ P)).1;have A:=GH (l:=b'.1) (i:=c) (by lia);have Y:=(jw.mp hy).1;rw[dE,m]at Y;obtain⟨p,u,e⟩:=mz.mp Y;have:=(z c _ _ _ ep m A).ep p u;rcases e with e|e
  .rw[e];exact this.1
  .rw[e];exact this.2
 .rw[g]at u;obtain⟨ps,L,rfl⟩:=en.mp u;exact(f ps L).le
theorem ke{α:Type}{p:α->Bool}{q:α}{rest:List α}:∀{l:List α},l.filter p=q :: rest->∃c,l[c]?=some q/\p q=true/\∀(j:Nat)(a:α),j<c->l[j]?=some a->p a=false
 | [],h=>by cases h
 |x :: l,h=>by
  cases hx:p x with
  |true =>
   rw[pB hx]at h;injection h with e k;exact⟨0,by rw[e];rfl,by rw[←e];exact hx,λj a d=>absurd d (zb _)⟩
  |false =>
   rw[pC (by rw[hx];decide)]at h;obtain⟨c,i,g,f⟩:=ke h;refine⟨c+1,by simpa using i,g,λj a d b=>?_⟩
   match j,b with
   |0,b=>cases b;exact hx
   |j+1,b=>exact f j a (by lia) (by simpa using b)
theorem kf{x y:SI}:decide (dpr x y≠none)=decide (x≠y):=by
 unfold dpr;by_cases h:x=y
 .rw[if_pos h,decide_eq_false (λz=>z U),decide_eq_false (λz=>z h)]
 .rw[if_neg h,decide_eq_true (λz=>by cases z),decide_eq_true h]
theorem kR{a:List (List Int)}(d:∀ps∈a,Pts ps){bms f:List (List Int×Int)}{rws y:List Rw}{i g:Nat}{c:List Int}(H:rws.length=bms.length)(E:∀(k:Nat)(b:List Int×Int)(x:Rw),bms[k]?=some b->rws[k]?=some x->GrR a b x)(J:∀b∈bms,b.1.length=a.length)(A:y.length=f.length)(O:∀(k:Nat)(b:List Int×Int)(x:Rw),f[k]?=some b->y[k]?=some x->GrR a b x)(D:∀b∈f,b.1.length=a.length){r:Fm (Option (SI×SI)) (a.map λps=>(loP ps,hiP ps)).length}(v:y8 (a.map λps=>(loP ps,hiP ps)) rws y i g (o0 c,o4 c) r) :
  (dc (bxs _ r)=[]↔∀p∈bC (gls a),vdp bms i c p=vdp f g c p)/\∀q rest,dc (bxs _ r)=q :: rest->∀(s:Nat)(n:List Nat),(bC (gls a))[s]?=some n->vdp bms i c n≠vdp f g c n->(∀(j:Nat)(p:List Nat),j<s->(bC (gls a))[j]?=some p->vdp bms i c p=vdp f g c p)->q.1.map (·.1)=dH a n:=by
 have F:∀(m:List Int)(e:List Nat),InB m (a.map λps=>(loP ps,hiP ps))->m9 a e m->Tel _ r m (dpr (vdp bms i c e) (vdp f g c e)):=λm e B o=>by
  have:=v.tel m B;unfold dif at this;rw[xU d H E J o,xU d A O D o]at this;exact this
 constructor
 .have:=vz (pr:=λx=>decide (x≠none)) d v.sh F;unfold dc;rw[List.filter_eq_nil_iff];constructor
  .intro h p t;have:=this.mp (λq l=>As.mpr (h q l)) p t;rw[kf]at this;exact Decidable.of_not_not λz=>of_decide_eq_false this z
  .intro h q l;have:=this.mpr (λp t=>by rw[kf];exact decide_eq_false λz=>z (h p t)) q l;exact As.mp this
 .intro q rest l s n K I C;obtain⟨P,N,M,L⟩:=ke l;exact vy (pr:=λx=>decide (x≠none)) d v.sh F N M (λj G u w=>L j G u w) K (by rw[kf];exact decide_eq_true I) λj p u w=>by rw[kf];exact decide_eq_false λz=>z (C j p u w)
inductive gz(K:W.Frag)(Y:AD)(vs:List V)(H:Hp)(Q:VK)(e_:XK):Prop
 |mk (z g:Str)(_:vs=[.str z,.str g])(_:Q (.bl (mB z g)) H)
inductive fv(K:W.Frag)(Y:AD)(vs:List V)(H:Hp)(Q:VK)(e_:XK):Prop
 |mk (i:Int)(_:vs=[.int i])(_:Q (.bl true) H)
inductive ni(K:W.Frag)(Y:AD)(vs:List V)(H:Hp)(Q:VK)(e_:XK):Prop
 |mk (a b:Addr)(d e:Dm)(r:Bool)(_:vs=[.ref a,.ref b])(_:DmX Y.i Y.j H a d)(_:DmX Y.i Y.j H b e)(_:(r=true↔d=e))(_:Q (.bl r) H)
inductive nj(K:W.Frag)(Y:AD)(vs:List V)(H:Hp)(Q:VK)(e_:XK):Prop
 |mk (a:Addr)(xs:List V)(ps:List (Int×Int))(n:Int)(_:vs=[.ref a,.int n])(_:SqL K H a xs)(_:PL H xs ps)(_:Q (.bl (inP ps n)) H)
inductive nq(K:W.Frag)(Y:AD)(vs:List V)(H:Hp)(Q:VK)(e_:XK):Prop
 |mk (a:Addr)(xs:List V)(R:List (Int×Int))(lo hi:Int)(_:vs=[.ref a,.int lo,.int hi])(_:SqL K H a xs)(_:PL H xs R)(_:xs.length<=400)(_:∀(r:Addr)(H':Hp)(es:List Int),aq H H'->H r=none->H' r=some (.lst (es.map V.int))->es=(ends R).filter (λt=>decide (lo<t) && decide (t<=hi))->Q (.ref r) H')
inductive gA(K:W.Frag)(Y:AD)(vs:List V)(H:Hp)(Q:VK)(e_:XK):Prop
 |mk (a:Addr)(ms L:List Int)(lo hi:Int)(_:vs=[.int lo,.int hi,.ref a])(_:SqL K H a (ms.map V.int))(_:ms.length<=400)(_:L.length<64)(_:(∀m∈ms,lo<m->m<=hi->m∈L))(_:∀(r:Addr)(H':Hp)(cs:List Int)(ts:List V),aq H H'->H r=none->H' r=some (.lst ts)->PL H' ts (bW lo hi cs)->cs.Pairwise (· < ·)->(∀c,c∈cs↔(c∈ms/\lo<c/\c<=hi))->cs.length<64->Q (.ref r) H')
inductive fS(K:W.Frag)(Y:AD)(vs:List V)(H:Hp)(Q:VK)(e_:XK):Prop
 |mk (L:Type)(_:DecidableEq L)(A:Lfp K L)(n:Nat)(a:Addr)(xs:List V)(ts:List (T3a (Fm L n)))(_:vs=[.ref a])(_:n<=6)(_:H a=some (.lst xs))(_:FmL (FmV A H n) H ts xs)(_:ts.length<=900)(_:∀(r:Addr)(H':Hp),aq H H'->FmV A H' (n+1) (d7 ts) (.ref r)->Q (.ref r) H')
inductive hX(K:W.Frag)(Y:AD)(vs:List V)(H:Hp)(Q:VK)(e_:XK):Prop
 |mk (a:Addr)(as:List Addr)(xss:List (List Int))(L:List Int)(_:vs=[.ref a])(_:H a=some (.lst (as.map V.ref)))(_:MLs H as xss)(_:xss.flatten.length<=1000)(_:L.length<64)(_:(∀x∈xss.flatten,x∈L))(_:∀(l:Addr)(cs:List Int)(H':Hp),aq H H'->H l=none->H' l=some (.lst (cs.map V.int))->cs.Pairwise (· < ·)->(∀x,x∈cs↔x∈xss.flatten)->Q (.ref l) H')
inductive kS(K:W.Frag)(Y:AD)(vs:List V)(H:Hp)(Q:VK)(e_:XK):Prop
 |mk (b:Addr)(B:List (Int×Int))(_:vs=[.ref b])(_:BxA H b B)(_:B.length<=6)(_:∀(l:Addr)(H':Hp),aq H H'->H l=none->H' l=some (.lst ((B.map (·.1)).map V.int))->Q (.ref l) H')
inductive dO(K:W.Frag)(Y:AD)(vs:List V)(H:Hp)(Q:VK)(e_:XK):Prop
 |mk (p r:Addr)(xs ys:List V)(_:vs=[.ref p,.ref r])(_:SqL K H p xs)(_:SqL K H r ys)(_:1<=xs.length)(_:xs.length<=4)(_:ys.length<=200)(_:Q .non H)
inductive jk(K:W.Frag)(Y:AD)(vs:List V)(H:Hp)(Q:VK)(e_:XK):Prop
 |mk (cl:Addr)(xs:List V)(w:Rw)(_:vs=[.ref cl,.int w.2])(_:H cl=some (.lst xs))(_:CL NT H xs w.1)(_:w.1.length<=100)(_:∀(r:Addr)(H':Hp),aq H H'->H r=none->jh (λa=>H a=none) H' r w->Q (.ref r) H')
inductive d9(K:W.Frag)(Y:AD)(vs:List V)(H:Hp)(Q:VK)(e_:XK):Prop
 |mk (t:Addr)(dv:List V)(bs:Prs)(rws:List Rw)(_:vs=[.ref t])(_:TD Y.k Y.i Y.j H t dv bs rws)(_:bs.length<=100)(_:∀(l:Addr)(ys:List V)(H':Hp),aq H H'->H l=none->H' l=some (.lst ys)->PL H' ys bs->Q (.ref l) H')
inductive dB(K:W.Frag)(Y:AD)(vs:List V)(H:Hp)(Q:VK)(e_:XK):Prop
 |mk (a b:Addr)(x y:SI)(_:vs=[.ref a,.ref b])(_:Vd K H a x)(_:Vd K H b y)(_:∀(v:V)(H':Hp),aq H H'->RPd K H' (dpr x y) v->Q v H')
inductive dX(K:W.Frag)(Y:AD)(vs:List V)(H:Hp)(Q:VK)(e_:XK):Prop
 |mk (a:Addr)(ns:List Int)(k:Int)(_:vs=[.ref a,.int k])(_:SqL K H a (ns.map V.int))(_:0<=k)(_:Q (.int (cx ns k)) H)
inductive eV(K:W.Frag)(Y:AD)(vs:List V)(H:Hp)(Q:VK)(e_:XK):Prop
 |mk (a:Addr)(ns:List Int)(_:vs=[.ref a,.int 8,.int 24])(_:SqL K H a (ns.map V.int))(_:ns.length<=63)(_:∀(l:Addr)(ms:List Int)(H':Hp),aq H H'->H' l=some (.lst (ms.map V.int))->ms.length<=24->Q (.ref l) H')
inductive fE(K:W.Frag)(Y:AD)(vs:List V)(H:Hp)(Q:VK)(e_:XK):Prop
 |mk (c n:Int)(_:vs=[.int c,.int n])(_:1<=n)(_:n<=12)(_:∀(l:Addr)(ps:List Int)(H':Hp),aq H H'->H l=none->H' l=some (.lst (ps.map V.int))->Pts ps->(c%3=1->∃m:Nat,1<=m/\m<=12/\ps=cX (m+1))->(ps.length:Int)<=n+1->Q (.ref l) H')
inductive dY(K:W.Frag)(Y:AD)(vs:List V)(H:Hp)(Q:VK)(e_:XK):Prop
 |mk (c k:Int)(_:vs=[.int c,.int k])(_:0<=k)(_:k<12)(_:Q (.str (w3 c k)) H)
inductive ia(K:W.Frag)(Y:AD)(vs:List V)(H:Hp)(Q:VK)(e_:XK):Prop
 |mk (c:Int)(_:vs=[.int c])(_:∀(l:Addr)(os:List Int)(H':Hp),aq H H'->H' l=some (.lst (os.map V.int))->gv c os->Q (.ref l) H')
inductive jl(K:W.Frag)(Y:AD)(vs:List V)(H:Hp)(Q:VK)(e_:XK):Prop
 |mk (c:Int)(b:Bool)(_:vs=[.int c,.bl b])(_:∀(wy:Str)(i:Nat)(H':Hp),aq H H'->six[i]?=some wy->(b=true->wy≠s!"sum")->Q (.str wy) H')
inductive gB(K:W.Frag)(Y:AD)(vs:List V)(H:Hp)(Q:VK)(e_:XK):Prop
 |mk (c:Int)(pl ol:Addr)(xs:List V)(pss:List (List Int))(os:List Int)(oc:Int)(_:vs=[.int c,.ref pl,.ref ol])(_:H pl=some (.lst xs))(_:PTL H xs pss)(_:pss.length<=4)(_:(∀ps∈pss,Pts ps))(_:H ol=some (.lst (os.map V.int)))(_:gv oc os)(_:∀(r bl:Addr)(ms:List Int)(cd:Int)(H':Hp),aq H H'->H r=none->H bl=none->H' r=some (.tup [.ref bl,.int cd])->H' bl=some (.lst (ms.map V.int))->ms.length=pss.length->(∀x∈ms,0<=x)->cd∈os->Q (.ref r) H')
inductive gC(K:W.Frag)(Y:AD)(vs:List V)(H:Hp)(Q:VK)(e_:XK):Prop
 |mk (l:Addr)(ps:List Int)(m:Int)(_:vs=[.ref l,.int m])(_:H l=some (.lst (ps.map V.int)))(_:Pts ps)(_:0<=m)(_:∀(sp:Addr)(qs:Prs)(H':Hp),aq H H'->SpA (λa=>H a=none) H' sp qs->(∀p∈qs,loP ps<=p.1/\p.2<=hiP ps)->SpG ps m (ps.length-1) qs->Q (.ref sp) H')
inductive fF(K:W.Frag)(Y:AD)(vs:List V)(H:Hp)(Q:VK)(e_:XK):Prop
 |mk (cl:Addr)(xs:List V)(cs:List (List Int))(_:vs=[.ref cl])(_:H cl=some (.lst xs))(_:PTL H xs cs)(_:(∀c∈cs,Pts c))(_:cs.length<=4)(_:∀(l:Addr)(zs:List V)(H':Hp),aq H H'->H' l=some (.lst zs)->PtL NT H' zs (bC (gls cs))->Q (.ref l) H')
inductive eW(K:W.Frag)(Y:AD)(vs:List V)(H:Hp)(Q:VK)(e_:XK):Prop
 |mk (rl al:Addr)(rx:List V)(bms:List (List Int×Int))(at_:List Nat)(_:vs=[.ref rl,.ref al])(_:H rl=some (.lst rx))(_:BRL H rx bms)(_:rx.length<=60)(_:H al=some (.lst (vN at_)))(_:at_.length<=4)(_:(∀b∈bms,b.1.length=at_.length/\∀x∈b.1,0<=x))(_:∀(l:Addr)(H':Hp),aq H H'->H l=none->H' l=some (.lst (vN (rC bms at_)))->Q (.ref l) H')
inductive jm(K:W.Frag)(Y:AD)(vs:List V)(H:Hp)(Q:VK)(e_:XK):Prop
 |mk (cl ol:Addr)(wy:Str)(i:Nat)(cs os:List Int)(oc:Int)(_:vs=[.ref cl,.str wy,.ref ol])(_:H cl=some (.lst (cs.map V.int)))(_:cs.length<=60)(_:six[i]?=some wy)(_:H ol=some (.lst (os.map V.int)))(_:gv oc os)(_:∀(r:Addr)(H':Hp),aq H H'->H' r=some (.tup (tp (ver (wf i (o0 os) (o4 os)) cs)))->Q (.ref r) H')
inductive gD(K:W.Frag)(Y:AD)(vs:List V)(H:Hp)(Q:VK)(e_:XK):Prop
 |mk (i:Int)(_:vs=[.int i])(_:Q (.bl true) H)
inductive cB(K:W.Frag)(Y:AD)(vs:List V)(H:Hp)(Q:VK)(e_:XK):Prop
 |mk (x dx:Addr)(z:Str)(_:vs=[.ref x,.str z])(_:H x=some (.ins Y.b dx []))(_:Q .non (upd H x (.ins Y.b dx [("called",.str z)])))
inductive cH(K:W.Frag)(Y:AD)(vs:List V)(H:Hp)(Q:VK)(e_:XK):Prop
 |mk (x dx:Addr)(z:Str)(_:vs=[.ref x,.str z])(_:H x=some (.ins Y.c dx []))(_:Q .non (upd H x (.ins Y.c dx [("called",.str z)])))
inductive cI(K:W.Frag)(Y:AD)(vs:List V)(H:Hp)(Q:VK)(e_:XK):Prop
 |mk (x dx:Addr)(z:Str)(_:vs=[.ref x,.str z])(_:H x=some (.ins Y.d dx []))(_:Q .non (upd H x (.ins Y.d dx [("called",.str z)])))
inductive cY(K:W.Frag)(Y:AD)(vs:List V)(H:Hp)(Q:VK)(e_:XK):Prop
 |mk (x dx:Addr)(z:Str)(_:vs=[.ref x,.str z])(_:H x=some (.ins Y.e dx []))(_:Q .non (upd H x (.ins Y.e dx [("called",.str z)])))
inductive cJ(K:W.Frag)(Y:AD)(vs:List V)(H:Hp)(Q:VK)(e_:XK):Prop
 |mk (x dx:Addr)(z:Str)(_:vs=[.ref x,.str z])(_:H x=some (.ins Y.f dx []))(_:Q .non (upd H x (.ins Y.f dx [("called",.str z)])))
inductive cZ(K:W.Frag)(Y:AD)(vs:List V)(H:Hp)(Q:VK)(e_:XK):Prop
 |mk (x dx:Addr)(z:Str)(_:vs=[.ref x,.str z])(_:H x=some (.ins Y.g dx []))(_:Q .non (upd H x (.ins Y.g dx [("called",.str z)])))
inductive bN(K:W.Frag)(Y:AD)(vs:List V)(H:Hp)(Q:VK)(e_:XK):Prop
 |mk (x dx:Addr)(lo hi:Int)(_:vs=[.ref x,.int lo,.int hi])(_:H x=some (.ins Y.i dx []))(_:Q .non (mkd Y.i H x dx lo hi))
inductive b7(K:W.Frag)(Y:AD)(vs:List V)(H:Hp)(Q:VK)(e_:XK):Prop
 |mk (x dx:Addr)(lo hi:Int)(_:vs=[.ref x,.int lo,.int hi])(_:H x=some (.ins Y.j dx []))(_:Q .non (mkd Y.j H x dx lo hi))
def J1(K:W.Frag)(Y:AD):Sp:=vj K Y.b Y.i Y.j 0
def J9(K:W.Frag)(Y:AD):Sp:=vj K Y.c Y.i Y.j 1
def J5(K:W.Frag)(Y:AD):Sp:=vj K Y.d Y.i Y.j 2
def J7(K:W.Frag)(Y:AD):Sp:=vj K Y.e Y.i Y.j 3
def J3(K:W.Frag)(Y:AD):Sp:=vj K Y.f Y.i Y.j 4
def J11(K:W.Frag)(Y:AD):Sp:=vj K Y.g Y.i Y.j 5
inductive gE(K:W.Frag)(Y:AD)(vs:List V)(H:Hp)(Q:VK)(e_:XK):Prop
 |mk (z:Str)(_:vs=[.str z])(_:z.length<=1000)(_:Q (.bl (isw z)) H)
inductive dC(K:W.Frag)(Y:AD)(vs:List V)(H:Hp)(Q:VK)(e_:XK):Prop
 |mk (a b:Addr)(ys:List V)(ps:List (Int×Int))(as:List Addr)(mss:List (List Int))(_:vs=[.ref a,.ref b])(_:H a=some (.lst ys))(_:PL H ys ps)(_:H b=some (.lst (as.map V.ref)))(_:MLs H as mss)(_:MOK ps mss)(_:∀(l:Addr)(xs:List V)(H':Hp)(css:List (List Int)),aq H H'->H' l=some (.lst xs)->css.length=ps.length->(∀(j:Nat)(p:Int×Int)(ms cs:List Int),ps[j]?=some p->mss[j]?=some ms->css[j]?=some cs->cs.Pairwise (· < ·)/\(∀c,c∈cs↔(c∈ms/\p.1<c/\c<=p.2))/\cs.length<64)->CoL H' xs (List.zipWith (λp cs=>bW p.1 p.2 cs) ps css)->Q (.ref l) H')
inductive qe(K:W.Frag)(Y:AD)(vs:List V)(H:Hp)(Q:VK)(e_:XK):Prop
 |mk (t rl c dx:Addr)(fs:List (Str×V))(xs:List V)(rws:List Rw)(k:Nat)(w:Rw)(cs:List Int)(_:vs=[.ref t,.int k,.ref c])(_:H t=some (.ins Y.k dx fs))(_:fs.lookup s!"rows"=some (.ref rl)) (_:H rl=some (.lst xs))(_:RL NT H xs rws)(_:rws[k]?=some w)(_:SqL K H c (cs.map V.int))(_:w.1.length=cs.length)(_:∀H',aq H H'->Q (.bl (oh w.1 cs)) H')
inductive eA(K:W.Frag)(Y:AD)(vs:List V)(H:Hp)(Q:VK)(e_:XK):Prop
 |mk (t:Addr)(c:Nat)(dv:List V)(bs:Prs)(rws:List Rw)(b:Int×Int)(L:List Int)(_:vs=[.ref t,.int (c:Int)])(_:TD Y.k Y.i Y.j H t dv bs rws)(_:bs[c]?=some b)(_:rws.length<=60)(_:(∀w∈rws,c<w.1.length/\(w.1.getD c []).length<=6))(_:L.length<64)(_:(∀x,MkC rws c b x->x∈L))(_:∀(l:Addr)(cs:List Int)(H':Hp),aq H H'->H l=none->H' l=some (.lst (cs.map V.int))->cs.Pairwise (· < ·)->(∀x,x∈cs↔MkC rws c b x)->Q (.ref l) H')
inductive b8(K:W.Frag)(Y:AD)(vs:List V)(H:Hp)(Q:VK)(e_:XK):Prop
 |mk (la lb:Addr)(xs ys:List V)(ds:List Dm)(_:vs=[.ref la,.ref lb])(_:H la=some (.lst xs))(_:H lb=some (.lst ys))(_:aD xs ds (DmX Y.i Y.j H))(_:aD ys ds (DmX Y.i Y.j H))(_:∀H',aq H H'->Q .non H')
inductive dk(K:W.Frag)(Y:AD)(vs:List V)(H:Hp)(Q:VK)(e_:XK):Prop
 |mk (a m:Addr)(ns qs:List Int)(_:vs=[.ref a,.ref m])(_:SqL K H a (ns.map V.int))(_:SqL K H m (qs.map V.int))(_:(∀x∈qs,1<=x/\x<=12))(_:qs.length<=4)(_:∀(l:Addr)(xs:List V)(pss:List (List Int))(H':Hp),aq H H'->H' l=some (.lst xs)->PTL H' xs pss->pZ ns pss->pss.length=qs.length->(∀(j:Nat)(ps:List Int)(x:Int),pss[j]?=some ps->qs[j]?=some x->(ps.length:Int)<=x+1)->Q (.ref l) H')
inductive gF(K:W.Frag)(Y:AD)(vs:List V)(H:Hp)(Q:VK)(e_:XK):Prop
 |mk (rl pl ol:Addr)(c:Int)(rx:List V)(bms:List (List Int×Int))(xs:List V)(pss:List (List Int))(os:List Int)(oc:Int)(_:vs=[.ref rl,.int c,.ref pl,.ref ol])(_:H rl=some (.lst rx))(_:BRL H rx bms)(_:rx.length<=30)(_:vx pss os bms)(_:H pl=some (.lst xs))(_:PTL H xs pss)(_:(∀ps∈pss,Pts ps))(_:1<=pss.length)(_:pss.length<=4)(_:H ol=some (.lst (os.map V.int)))(_:gv oc os)(_:∀(l:Addr)(rx':List V)(om:List (List Int×Int))(H':Hp),aq H H'->H' l=some (.lst rx')->BRL H' rx' om->rx'.length<=31->vx pss os om->Q (.ref l) H')
inductive gG(K:W.Frag)(Y:AD)(vs:List V)(H:Hp)(Q:VK)(e_:XK):Prop
 |mk (pl tw wl ol:Addr)(d0 d1:RwD)(xs:List V)(pss:List (List Int))(os:List Int)(oc:Int)(_:vs=[.ref pl,.ref tw,.ref wl,.ref ol])(_:H pl=some (.lst xs))(_:PTL H xs pss)(_:(∀ps∈pss,Pts ps))(_:pss.length<=4)(_:H tw=some (.lst [.ref d0.rl,.ref d1.rl]))(_:H wl=some (.lst [.str d0.wy,.str d1.wy]))(_:lG H pss d0)(_:lG H pss d1)(_:H ol=some (.lst (os.map V.int)))(_:gv oc os)(_:∀(v:V)(H':Hp),aq H H'->((∃(j0:Nat)(a0:List Nat)(l:Addr),(bC (gls pss))[j0]?=some a0/\vdd os d0 a0≠vdd os d1 a0/\(∀(j:Nat)(p:List Nat),j<j0->(bC (gls pss))[j]?=some p->vdd os d0 p=vdd os d1 p)/\v=.ref l/\H' l=some (.lst ((dH pss a0).map V.int)))\/(∀p∈bC (gls pss),vdd os d0 p=vdd os d1 p)/\v=.non)->Q v H')
inductive ib(K:W.Frag)(Y:AD)(vs:List V)(H:Hp)(Q:VK)(e_:XK):Prop
 |mk (v u:V)(_:vs=[v,u])(_:((v=.non/\u=.non)\/∃(x y:Addr)(cs:List Int),v=.ref x/\u=.ref y/\H x=some (.lst (cs.map V.int))/\H y=some (.lst (cs.map V.int))/\cs.length<=60))(_:Q (.bl true) H)
def J0(K:W.Frag)(Y:AD):Sp:=vh Y.b s!"first"
def J8(K:W.Frag)(Y:AD):Sp:=vh Y.c s!"only"
def J4(K:W.Frag)(Y:AD):Sp:=vh Y.d s!"like"
def J6(K:W.Frag)(Y:AD):Sp:=vh Y.e s!"low"
def J2(K:W.Frag)(Y:AD):Sp:=vh Y.f s!"high"
def J10(K:W.Frag)(Y:AD):Sp:=vh Y.g s!"sum"
inductive bO(K:W.Frag)(Y:AD)(vs:List V)(H:Hp)(Q:VK)(e_:XK):Prop
 |mk (a:Addr)(b:Int×Int)(i:Int)(_:vs=[.ref a,.int i])(_:AU Y.i H a b.1 b.2)(_:b.1<=i)(_:i<=b.2)(_:Q (.bl true) H)
inductive b9(K:W.Frag)(Y:AD)(vs:List V)(H:Hp)(Q:VK)(e_:XK):Prop
 |mk (a:Addr)(b:Int×Int)(i:Int)(_:vs=[.ref a,.int i])(_:AU Y.j H a b.1 b.2)(_:b.1<=i)(_:i<=b.2)(_:Q (.bl true) H)
inductive bo(K:W.Frag)(Y:AD)(vs:List V)(H:Hp)(Q:VK)(e_:XK):Prop
 |mk (x dx:Addr)(lo hi:Int)(_:vs=[.ref x,.int lo,.int hi])(_:H x=some (.ins Y.i dx []))(_:lo<=hi)(_:Q .non (mkd Y.i H x dx lo hi))
def J12(K:W.Frag)(Y:AD):Sp:=kb K Y.b Y.i Y.j 0
def J16(K:W.Frag)(Y:AD):Sp:=kb K Y.c Y.i Y.j 1
def J14(K:W.Frag)(Y:AD):Sp:=kb K Y.d Y.i Y.j 2
def J15(K:W.Frag)(Y:AD):Sp:=kb K Y.e Y.i Y.j 3
def J13(K:W.Frag)(Y:AD):Sp:=kb K Y.f Y.i Y.j 4
def J17(K:W.Frag)(Y:AD):Sp:=kb K Y.g Y.i Y.j 5
inductive nu(K:W.Frag)(Y:AD)(vs:List V)(H:Hp)(Q:VK)(e_:XK):Prop
 |mk (a b:Addr)(ys:List V)(ps:List (Int×Int))(as:List Addr)(mss:List (List Int))(_:vs=[.ref a,.ref b])(_:H a=some (.lst ys))(_:PL H ys ps)(_:H b=some (.lst (as.map V.ref)))(_:MLs H as mss)(_:MOK ps mss)(_:∀H':Hp,aq H H'->Q (.int ((gr ps mss ps.length:Nat):Int)) H')
inductive eB(K:W.Frag)(Y:AD)(vs:List V)(H:Hp)(Q:VK)(e_:XK):Prop
 |mk (p:Addr)(zs:List Str)(_:vs=[.ref p])(_:SqL K H p (zs.map V.str))(_:(∀z∈zs,isw z=true))(_:zs.Nodup)(_:zs.length<=100)(_:∀H',aq H H'->Q .non H')
inductive fG(K:W.Frag)(Y:AD)(vs:List V)(H:Hp)(Q:VK)(e_:XK):Prop
 |mk (dl ou cl:Addr)(dv xs:List V)(bs:Prs)(o:Int×Int)(w:Rw)(_:vs=[.ref dl,.ref ou,.ref cl,.int w.2])(_:SqL K H dl dv)(_:aD dv bs (Dom Y.i Y.j H))(_:Dom Y.i Y.j H ou o)(_:H cl=some (.lst xs))(_:CL NT H xs w.1)(_:lE bs o w)(_:∀H',aq H H'->Q .non H')
inductive kg(K:W.Frag)(Y:AD)(vs:List V)(H:Hp)(Q:VK)(e_:XK):Prop
 |mk (t c:Addr)(rws:List Rw)(i:Nat)(o:Int×Int)(cs:List Int)(_:vs=[.ref t,.ref c])(_:Tbl Y.k Y.i Y.j H t rws i o)(_:SqL K H c (cs.map V.int))(_:(∀w∈rws,w.1.length=cs.length))(_:∀H',aq H H'->Q (.int ((msk (iO rws cs) rws.length:Nat):Int)) H')
inductive eX(K:W.Frag)(Y:AD)(vs:List V)(H:Hp)(Q:VK)(e_:XK):Prop
 |mk (t:Addr)(dv:List V)(bs:Prs)(rws:List Rw)(L:Nat->List Int)(_:vs=[.ref t])(_:TD Y.k Y.i Y.j H t dv bs rws)(_:bs.length<=100)(_:rws.length<=60)(_:(∀w∈rws,w.1.length=bs.length/\∀c,(w.1.getD c []).length<=6))(_:(∀(c:Nat)(b:Int×Int),bs[c]?=some b->(L c).length<64/\∀x,MkC rws c b x->x∈L c))(_:∀(l:Addr)(as:List Addr)(mss:List (List Int))(H':Hp),aq H H'->H l=none->H' l=some (.lst (as.map V.ref))->MLs H' as mss->mss.length=bs.length->(∀(c:Nat)(b:Int×Int)(ms:List Int),bs[c]?=some b->mss[c]?=some ms->ms.Pairwise (· < ·)/\∀x,x∈ms↔MkC rws c b x)->Q (.ref l) H')
inductive dP(K:W.Frag)(Y:AD)(vs:List V)(H:Hp)(Q:VK)(e_:XK):Prop
 |mk (t u:Addr)(dv ev:List V)(ou pu:Addr)(ds:List Dm)(d:Dm)(_:vs=[.ref t,.ref u])(_:TDo Y.k H t dv ou)(_:TDo Y.k H u ev pu)(_:aD dv ds (DmX Y.i Y.j H))(_:aD ev ds (DmX Y.i Y.j H))(_:DmX Y.i Y.j H ou d)(_:DmX Y.i Y.j H pu d)(_:ds.length<=10)(_:∀H',aq H H'->Q .non H')
inductive bD(K:W.Frag)(Y:AD)(vs:List V)(H:Hp)(Q:VK)(e_:XK):Prop
 |mk (x dx p:Addr)(zs:List Str)(_:vs=[.ref x,.ref p])(_:H x=some (.ins Y.j dx []))(_:H p=some (.lst (zs.map V.str)))(_:Good zs)(_:∀(H':Hp)(l:Addr),(∀b o,b≠x->H b=some o->H' b=some o)->H' x=some (.ins Y.j dx [("low",.int 0),("high",.int (hiW zs)),("words",.ref l)])->H' l=some (.lst (zs.map V.str))->H l=none->Q .non H')
inductive iK(K:W.Frag)(Y:AD)(vs:List V)(H:Hp)(Q:VK)(e_:XK):Prop
 |mk (z:Str)(_:vs=[.str z])(_:z∈six)(_:(∀i:Nat,six[i]?=some z->∀(x C:Addr)(H':Hp),aq H H'->(cl6 Y.b Y.c Y.d Y.e Y.f Y.g)[i]?=some C->WyN C H' x z->Q (.ref x) H'))
inductive fH(K:W.Frag)(Y:AD)(vs:List V)(H:Hp)(Q:VK)(e_:XK):Prop
 |mk (z:Str)(ou:Addr)(_:vs=[.str z,.ref ou])(_:z∈six)(_:(z=s!"sum" -> ∃dx fs,H ou=some (.ins Y.i dx fs))) (_:∀H',aq H H'->Q .non H')
inductive fT(K:W.Frag)(Y:AD)(vs:List V)(H:Hp)(Q:VK)(e_:XK):Prop
 |mk (t:Addr)(rws:List Rw)(i:Nat)(o:Int×Int)(m:Int)(_:vs=[.ref t,.int m])(_:Tbl Y.k Y.i Y.j H t rws i o)(_:∀(r:Addr)(H':Hp),aq H H'->Vd K H' r (ver (wf i o.1 o.2) (pkF rws (bQ m) rws.length))->Q (.ref r) H')
inductive fI(K:W.Frag)(Y:AD)(vs:List V)(H:Hp)(Q:VK)(e_:XK):Prop
 |mk (c:Int)(l:Addr)(ps:List Int)(_:vs=[.int c,.ref l])(_:H l=some (.lst (ps.map V.int)))(_:Pts ps)(_:(c%3=1->∃m:Nat,1<=m/\m<=12/\ps=cX (m+1)))(_:∀(d:Addr)(H':Hp),aq H H'->Dom Y.i Y.j H' d (loP ps,hiP ps)->DmN Y.i Y.j H H' d (vw c ps)->Q (.ref d) H')
inductive eY(K:W.Frag)(Y:AD)(vs:List V)(H:Hp)(Q:VK)(e_:XK):Prop
 |mk (c:Int)(l:Addr)(os:List Int)(_:vs=[.int c,.ref l])(_:H l=some (.lst (os.map V.int)))(_:gv c os)(_:∀(d:Addr)(H':Hp),aq H H'->Dom Y.i Y.j H' d (o0 os,o4 os)->(c%3≠1->∃dx fs,H' d=some (.ins Y.i dx fs))->DmX Y.i Y.j H' d (dmO c os)->Q (.ref d) H')
inductive ck(K:W.Frag)(Y:AD)(vs:List V)(H:Hp)(Q:VK)(e_:XK):Prop
 |mk (x dx na dl ou rl:Addr)(nm wy:Str)(zs:List Str)(dv rx:List V)(bs:Prs)(o:Int×Int)(rws:List Rw)(_:vs=[.ref x,.str nm,.ref na,.ref dl,.ref ou,.str wy,.ref rl])(_:H x=some (.ins Y.k dx []))(_:H na=some (.lst (zs.map V.str)))(_:(∀z∈nm :: zs,isw z=true))(_:(nm :: zs).Nodup)(_:1<=zs.length)(_:zs.length<=4)(_:wy∈six)(_:(wy=s!"sum" -> ∃dx fs,H ou=some (.ins Y.i dx fs))) (_:H dl=some (.lst dv))(_:aD dv bs (Dom Y.i Y.j H))(_:Dom Y.i Y.j H ou o)(_:H rl=some (.lst rx))(_:RL NT H rx rws)(_:rx.length<=200)(_:bs.length<=4)(_:(∀w∈rws,lE bs o w))(_:∀(H':Hp)(fs:List (Str×V))(rl':Addr)(xs':List V),(∀b o,b≠x->H b=some o->H' b=some o)->H' x=some (.ins Y.k dx fs)->fs.lookup s!"rows"=some (.ref rl')->fs.lookup s!"way"=some (.str wy)->fs.lookup s!"outcome"=some (.ref ou)->fs.lookup s!"name"=some (.str nm)->(∃na' dl':Addr,fs.lookup s!"names"=some (.ref na')/\fs.lookup s!"domains"=some (.ref dl')/\H' na'=some (.lst (zs.map V.str))/\H' dl'=some (.lst dv)/\H na'=none/\H dl'=none)->H rl'=none->H' rl'=some (.lst xs')->RL (λa=>H a=none) H' xs' rws->Q .non H')
inductive ie(K:W.Frag)(Y:AD)(n:Nat)(vs:List V)(H:Hp)(Q:VK)(e_:XK):Prop
 |mk (L:Type)(_:DecidableEq L)(A:Lfp K L)(d:Nat)(f:Fm L d)(v:V)(_:vs=[v,.int (d:Int)])(_:FmV A H d f v)(_:d+1<=n)(_:(bxs d f).length<=2000)(_:(∀q∈bxs d f,q.1.length<=6))(_:∀(l:Addr)(xs:List V)(H':Hp),aq H H'->H l=none->H' l=some (.lst xs)->BxG A H' xs (bxs d f)->Q (.ref l) H')
theorem xZ{K:W.Frag}{Y:AD}{vs:List V}{H:Hp}{Q:VK}{E:XK}(h:ie K Y 0 vs H Q E):False:=by
 obtain⟨j,b,c,d,i,v,rfl,f,e,a,g,q⟩:=h;lia
inductive dn(K:W.Frag)(Y:AD)(vs:List V)(H:Hp)(Q:VK)(e_:XK):Prop
 |mk (d:Nat)(F:Fm (Option (SI×SI)) d)(v:V)(_:vs=[v,.int (d:Int)])(_:FmV (K:=K) LPd H d F v)(_:d<=6)(_:(bxs d F).length<=300)(_:(∀q∈bxs d F,q.1.length<=6))(_:∀(l:Addr)(xs:List V)(H':Hp),aq H H'->H l=none->H' l=some (.lst xs)->BxG (K:=K) LPd H' xs (dc (bxs d F))->Q (.ref l) H')
inductive gH(K:W.Frag)(Y:AD)(vs:List V)(H:Hp)(Q:VK)(e_:XK):Prop
 |mk (a pl ol rl:Addr)(ns:List Int)(xs:List V)(pss:List (List Int))(os:List Int)(rx:List V)(bms:List (List Int×Int))(wy:Str)(wi:Nat)(tu:Int)(_:vs=[.ref a,.ref pl,.ref ol,.str wy,.ref rl,.int tu])(_:six[wi]?=some wy)(_:(cx ns 5%3=1->wy≠s!"sum")) (_:SqL K H a (ns.map V.int))(_:H pl=some (.lst xs))(_:PTL H xs pss)(_:pZ ns pss)(_:1<=pss.length)(_:pss.length<=4)(_:H ol=some (.lst (os.map V.int)))(_:gv (cx ns 5) os)(_:H rl=some (.lst rx))(_:BRL H rx bms)(_:rx.length<=60)(_:(∀b∈bms,b.1.length=pss.length/\b.2∈os/\∀x∈b.1,0<=x))(_:∀(t:Addr)(rws:List Rw)(nm:Str)(ou:Addr)(zs:List Str)(dv:List V)(H':Hp),aq H H'->lM (λa=>H a=none) Y.k H' t rws nm wy ou zs dv->aD dv (pss.map λps=>(loP ps,hiP ps)) (Dom Y.i Y.j H')->Dom Y.i Y.j H' ou (o0 os,o4 os)->aD dv (dms ns pss) (DmX Y.i Y.j H')->DmX Y.i Y.j H' ou (dmO (cx ns 5) os)->(wy=s!"sum" -> ∃dx fs,H' ou=some (.ins Y.i dx fs))->(∀z∈nm :: zs,isw z=true)->(nm :: zs).Nodup->zs.length=pss.length->rws.length=bms.length->(∀w∈rws,lE (pss.map λps=>(loP ps,hiP ps)) (o0 os,o4 os) w)->(∀(k:Nat)(b:List Int×Int)(x:Rw),bms[k]?=some b->rws[k]?=some x->GrR pss b x)->Q (.ref t) H')
inductive eZ(K:W.Frag)(Y:AD)(P:Program)(w:World)(mg:Str->Option Value)(base:Heap)(n:Nat)(vs:List V)(H:Hp)(Q:VK)(e_:XK):Prop
 |mk (c b f:Addr)(xs:List V)(cols:List (List (Int×Int)))(ah:List Int)(m:Nat)(L:Type)(_:DecidableEq L)(A:Lfp K L)(g:List Int->L)(J:Hp->Prop)(_:vs=[.ref c,.ref b,.ref f])(_:cols.length+1<=n)(_:H c=some (.lst xs))(_:CoL H xs cols)(_:H b=some (.lst (ah.map V.int)))(_:(∀col∈cols,col.length<=64))(_:ah.length+cols.length<=6)(_:cols.length<=6)(_:m=ah.length+cols.length)(_:AY A P w K mg base f m g J)(_:J H)(_:(∀(v:V)(H':Hp),(∀d o,d≠b->H d=some o->H' d=some o)->FmV A H' cols.length (lay g cols ah) v->Q v H'))
theorem tT{K:W.Frag}{Y:AD}{P:Program}{w:World}{e:Str->Option Value}{a:Heap}{vs:List V}{H:Hp}{Q:VK}{E:XK}(h:eZ K Y P w e a 0 vs H Q E):False:=by
 obtain⟨c,b,v,k,d,x,m,L,l,A,g,J,rfl,n,p,u,r,j,i,f,o,s,t,q⟩:=h;lia
inductive fU(K:W.Frag)(Y:AD)(P:Program)(w:World)(mg:Str->Option Value)(base:Heap)(n:Nat)(vs:List V)(H:Hp)(Q:VK)(e_:XK):Prop
 |mk (L M:Type)(_:DecidableEq L)(_:DecidableEq M)(A:Lfp K L)(B:Lfp K M)(h:L->M)(J:Hp->Prop)(d:Nat)(F:Fm L d)(v:V)(f:Addr)(_:vs=[v,.int d,.ref f])(_:d+1<=n)(_:d<=6)(_:FmV A H d F v)(_:SmF 300 d F)(_:Cm A B P w K mg base f h J)(_:J H)(_:∀(u:V)(H':Hp),aq H H'->FmV B H' d (oi h d F) u->Q u H')
theorem vF{K:W.Frag}{Y:AD}{P:Program}{w:World}{b:Str->Option Value}{a:Heap}{vs:List V}{H:Hp}{Q:VK}{E:XK}(h:fU K Y P w b a 0 vs H Q E):False:=by
 obtain⟨L,M,g,f,A,B,k,J,d,o,v,n,rfl,j,e,i,c,l,m,q⟩:=h;lia
inductive fV(K:W.Frag)(Y:AD)(P:Program)(w:World)(mg:Str->Option Value)(base:Heap)(n:Nat)(vs:List V)(H:Hp)(Q:VK)(e_:XK):Prop
 |mk (L M N:Type)(_:DecidableEq L)(_:DecidableEq M)(_:DecidableEq N)(A:Lfp K L)(B:Lfp K M)(C:Lfp K N)(h:L->M->N)(J:Hp->Prop)(d:Nat)(F:Fm L d)(G:Fm M d)(v u:V)(f:Addr)(ps:List (Int×Int))(_:vs=[v,u,.int d,.ref f])(_:d+1<=n)(_:d<=6)(_:FmV A H d F v)(_:FmV B H d G u)(_:cq d F ps)(_:cq d G ps)(_:SmF 300 d F)(_:SmF 300 d G)(_:Cn A B C P w K mg base f h J)(_:J H)(_:∀(r:V)(H':Hp),aq H H'->FmV C H' d (pairF h d F G) r->Q r H')
theorem vG{K:W.Frag}{Y:AD}{P:Program}{w:World}{b:Str->Option Value}{a:Heap}{vs:List V}{H:Hp}{Q:VK}{E:XK}(h:fV K Y P w b a 0 vs H Q E):False:=by
 obtain⟨L,M,N,l,k,j,A,B,C,p,J,d,y,x,v,u,t,i,rfl,o,f,m,n,e,z,c,g,r,s,q⟩:=h;lia
inductive nv(K:W.Frag)(Y:AD)(P:Program)(w:World)(mg:Str->Option Value)(base:Heap)(vs:List V)(H:Hp)(Q:VK)(e_:XK):Prop
 |mk (a b f:Addr)(ys:List V)(ps:List (Int×Int))(as:List Addr)(mss:List (List Int))(L:Type)(_:DecidableEq L)(A:Lfp K L)(g:List Int->L)(J:Hp->Prop)(_:vs=[.ref a,.ref b,.ref f])(_:H a=some (.lst ys))(_:PL H ys ps)(_:H b=some (.lst (as.map V.ref)))(_:MLs H as mss)(_:MOK ps mss)(_:gr ps mss ps.length<=300)(_:AY A P w K mg base f ps.length g J)(_:J H)(_:∀(v:V)(H':Hp)(css:List (List Int)),aq H H'->css.length=ps.length->(∀(j:Nat)(p:Int×Int)(ms cs:List Int),ps[j]?=some p->mss[j]?=some ms->css[j]?=some cs->cs.Pairwise (· < ·)/\(∀c,c∈cs↔(c∈ms/\p.1<c/\c<=p.2))/\cs.length<64)->FmV A H' (List.zipWith (λp cs=>bW p.1 p.2 cs) ps css).length (lay g (List.zipWith (λp cs=>bW p.1 p.2 cs) ps css) []) v->Q v H')
inductive dQ(K:W.Frag)(Y:AD)(vs:List V)(H:Hp)(Q:VK)(e_:XK):Prop
 |mk (v u:V)(d:Nat)(F G:Fm SI d)(ps:List (Int×Int))(_:vs=[v,u,.int (d:Int)])(_:d<=4)(_:FmV (K:=K) LVd H d F v)(_:FmV (K:=K) LVd H d G u)(_:cq d F ps)(_:cq d G ps)(_:SmF 300 d F)(_:SmF 300 d G)(_:(bxs d (pairF dpr d F G)).length<=300)(_:ps.length<=4)(_:∀(l:Addr)(xs:List V)(H':Hp),aq H H'->H l=none->H' l=some (.lst xs)->ChL K H' xs (dc (bxs d (pairF dpr d F G)))->Q (.ref l) H')
inductive ig(K:W.Frag)(Y:AD)(vs:List V)(H:Hp)(Q:VK)(e_:XK):Prop
 |mk (t:Addr)(dv:List V)(bs:Prs)(rws:List Rw)(L:Nat->List Int)(i:Nat)(o:Int×Int)(_:vs=[.ref t])(_:TD Y.k Y.i Y.j H t dv bs rws)(_:Tbl Y.k Y.i Y.j H t rws i o)(_:bs.length<=4)(_:rws.length<=60)(_:(∀x∈rws,x.1.length=bs.length/\∀c,(x.1.getD c []).length<=6))(_:(∀(c:Nat)(b:Int×Int),bs[c]?=some b->(L c).length<=57/\∀x,MkC rws c b x->x∈L c))(_:(∀mss:List (List Int),mss.length=bs.length->(∀(c:Nat)(b:Int×Int)(ms:List Int),bs[c]?=some b->mss[c]?=some ms->ms.Pairwise (· < ·)/\∀x,x∈ms↔MkC rws c b x)->gr bs mss bs.length<=300))(_:(∀z,W.tabIn K "row_form" = some z->dG H z.2 [(rb Y83,"row_form.<locals>.<lambda>")])) (_:∀(v:V)(H':Hp)(css:List (List Int)),So H H'->(∀z,W.tabIn K "row_form" = some z->dG H' z.2 [(rb Y83,"row_form.<locals>.<lambda>")]/\∀d o,d≠z.2->H d=some o->H' d=some o)->(∃z,W.tabIn K "row_form" = some z)->css.length=bs.length->(∀(j:Nat)(p:Int×Int)(cs:List Int),bs[j]?=some p->css[j]?=some cs->cs.Pairwise (· < ·)/\∀x,x∈cs↔MkC rws j p x)->FmV (K:=K) xb H' (List.zipWith (λp cs=>bW p.1 p.2 cs) bs css).length (lay (λcd=>((msk (iO rws cd) rws.length:Nat):Int)) (List.zipWith (λp cs=>bW p.1 p.2 cs) bs css) []) v->Q v H')
inductive eF(K:W.Frag)(Y:AD)(vs:List V)(H:Hp)(Q:VK)(e_:XK):Prop
 |mk (t:Addr)(dv:List V)(bs:Prs)(rws:List Rw)(L:Nat->List Int)(kk i:Nat)(o:Int×Int)(_:vs=[.ref t])(_:RfH Y.k Y.i Y.j H t dv bs rws L kk i o)(_:kM K H)(_:kQ K H)(_:∀(v:V)(F:Fm SI bs.length)(H':Hp),So H H'->kM K H'->kQ K H'->FmV (K:=K) LVd H' bs.length F v->cq bs.length F bs->SmF 300 bs.length F->(∀cs,InB cs bs->Tel bs.length F cs (vdm rws i o (mkg rws cs)))->Q v H')
inductive jn(K:W.Frag)(Y:AD)(vs:List V)(H:Hp)(Q:VK)(e_:XK):Prop
 |mk (t u:Addr)(bs:Prs)(rws cA:List Rw)(i i':Nat)(o:Int×Int)(gc:List (List (Int×Int)))(_:vs=[.ref t,.ref u])(_:oj K Y.k Y.i Y.j H t u bs rws cA i i' o gc)(_:kM K H)(_:kQ K H)(_:∀(l:Addr)(xs:List V)(PF:Fm (Option (SI×SI)) bs.length)(H':Hp),So H H'->(∀o,xF o->H l≠some o)->kM K H'->kQ K H'->H' l=some (.lst xs)->y8 bs rws cA i i' o PF->ChL K H' xs (dc (bxs bs.length PF))->Q (.ref l) H')
inductive di(K:W.Frag)(Y:AD)(vs:List V)(H:Hp)(Q:VK)(e_:XK):Prop
 |mk (t u:Addr)(bs:Prs)(rws cA:List Rw)(i i':Nat)(o:Int×Int)(gc:List (List (Int×Int)))(_:vs=[.ref t,.ref u])(_:oj K Y.k Y.i Y.j H t u bs rws cA i i' o gc)(_:kM K H)(_:kQ K H)(_:∀(v:V)(PF:Fm (Option (SI×SI)) bs.length)(H':Hp),So H H'->kM K H'->kQ K H'->y8 bs rws cA i i' o PF->(dc (bxs bs.length PF)=[]/\v=.non\/∃q rest l,dc (bxs bs.length PF)=q :: rest/\v=.ref l/\H' l=some (.lst ((q.1.map (·.1)).map V.int)))->Q v H')
inductive dq(K:W.Frag)(Y:AD)(vs:List V)(H:Hp)(Q:VK)(e_:XK):Prop
 |mk (t u:Addr)(bs:Prs)(rws cA:List Rw)(i i':Nat)(o:Int×Int)(gc:List (List (Int×Int)))(_:vs=[.ref t,.ref u])(_:oj K Y.k Y.i Y.j H t u bs rws cA i i' o gc)(_:kM K H)(_:kQ K H)(_:∀(PF:Fm (Option (SI×SI)) bs.length)(H':Hp),So H H'->kM K H'->kQ K H'->y8 bs rws cA i i' o PF->Q (.bl (dc (bxs bs.length PF)).isEmpty) H')
def J18(K:W.Frag):Sp:=λc H Q _=>∃(a:Addr)(b:List Int),c=[.ref a]/\SqL K H a (b.map V.int)/\b.length<=63/\(∀z,W.tabIn K "row_form" = some z->H z.2=some (.tbl #[]))/\(∀z,W.tabIn K "verdict_form" = some z->H z.2=some (.tbl #[]))/\∀d,Q (.bl true) d
inductive fW(K:W.Frag)(Y:AD)(f c' c_0:Addr)(doc pm ctv:Value)(vs:List V)(H:Hp)(Q:VK)(e_:XK):Prop
 |mk (a t:Addr)(cs:List Int)(rws:List Rw)(i:Nat)(o:Int×Int)(_:vs=[.ref a])(_:i6 H f c' (W.kla_obj "<lambda>" "row_form.<locals>.<lambda>" (pY Y83) (n9 Y83) (j4 Y83) [("table",c_0)] pm c' ctv) "row_form.<locals>.<lambda>" [("table",c_0)] [("table",.ref t)]) (_:Tbl Y.k Y.i Y.j H t rws i o)(_:H a=some (.lst (cs.map V.int)))(_:(∀x∈rws,x.1.length=cs.length))(_:∀H',aq H H'->Q (.int ((msk (iO rws cs) rws.length:Nat):Int)) H')
inductive dZ(K:W.Frag)(Y:AD)(f c' c_0:Addr)(doc pm ctv:Value)(vs:List V)(H:Hp)(Q:VK)(e_:XK):Prop
 |mk (m:Int)(t:Addr)(rws:List Rw)(i:Nat)(o:Int×Int)(_:vs=[.int m])(_:i6 H f c' (W.kla_obj "<lambda>" "verdict_form.<locals>.<lambda>" (pY Y88) (n9 Y88) (j4 Y88) [("table",c_0)] pm c' ctv) "verdict_form.<locals>.<lambda>" [("table",c_0)] [("table",.ref t)]) (_:Tbl Y.k Y.i Y.j H t rws i o)(_:∀(r:Addr)(H':Hp),aq H H'->Vd K H' r (vdm rws i o m)->Q (.ref r) H')
section
variable{P:Program}{w:World}{K:W.Frag}{mg:Str->Option Value}{base:Heap}{f:Addr}{fd:FuncData}{Y:AD}
theorem DS(F:Fun K "all_among" "all_among" Y32 f fd) (bl:Bl K mg Y)  : aL P w K mg base CX0 1 f fd ["text","signs"] (gz K Y):=by
 refine F.okA Z32 λo A m s H p Q E r h=>?_
 obtain⟨z,g,rfl,q⟩:=h
 refine⟨_,(aj (bp PassesOwn.never U (Ax (pv 0)) (aC (i:=2) Z32.nd U (Or.inl U))
  (ai (aM (aF pG (pv 2) (pv 1) (by with_unfolding_all rfl))
  (ai (av fK))
  az)))
  (ai (av fK))),?_⟩
 refine⟨_,U,z,U,yC (λi a l=>(∃k:Option V,a=[some (.str z),some (.str g),k])/\l=H/\(z.cps.toList.take i).all (sg g)=true) ⟨⟨_,U⟩,U,U⟩ (λi c a l e h=>?_) (λa l h=>?_)⟩
 .obtain⟨⟨k,rfl⟩,j,b⟩:=h;rw[j];refine⟨_,U,_,U,_,_,U,U,_,U,?_⟩;refine bG (λd=>?_) (λd=>?_)
  .have n:mB z g=false:=AR e (AS d);rw[n]at q;exact q
  .exact⟨⟨_,U⟩,U,all_succ e (Cd d) b⟩
 .obtain⟨⟨k,rfl⟩,j,b⟩:=h;rw[j];rw[xh b]at q;exact q
theorem DT(F:Fun K "is_whole" "is_whole" Y49 f fd) (bl:Bl K mg Y)  : aL P w K mg base CX0 1 f fd ["value"] (fv K Y):=by
 refine F.okA Z49 λb A a s H c Q E d h=>?_
 obtain⟨i,rfl,q⟩:=h;refine⟨_,(ai (av (gN (au cj U bl.isinstance_ PyProof.Rows.boot_isinstance (aa (pv 0) (aa (iD (v:=.ty "int") U bl.int_ PyProof.Rows.boot_int U) ae))) (jb (vW (au cj U bl.isinstance_ PyProof.Rows.boot_isinstance (aa (pv 0) (aa (iD (v:=.ty "bool") U bl.bool_ PyProof.Rows.boot_bool U) ae)))))))),?_⟩;exact⟨_,U,_,_,_,_,true,U,.ty _,.inl (.int _),(by first|rfl|with_unfolding_all rfl|decide+kernel),_,U,eJ ⟨_,U,_,_,_,_,false,U,.ty _,.inl (.int _),(by first|rfl|with_unfolding_all rfl|decide+kernel),_,U,q⟩⟩
theorem DU(F:Fun K "alike" "alike" Y31 f fd) (bl:Bl K mg Y)  : aL P w K mg base CX0 1 f fd ["one","other"] (ni K Y):=by
 refine F.okA Z31 λX A I s H vs Q E O h=>?_
 obtain⟨a,b,d,e,r,rfl,k,c,hi,q⟩:=h
 refine⟨_,(aj (aM (PW.pt (ja (cD (au cj U bl.isinstance_ PyProof.Rows.boot_isinstance (aa (pv 0) (aa (cC (v:=.ref Y.i) U bl.Numbers_ U) ae)))) (gj (cD (au cj U bl.isinstance_ PyProof.Rows.boot_isinstance (aa (pv 1) (aa (cC (v:=.ref Y.i) U bl.Numbers_ U) ae)))))))
  (ai (av (gN (eI bq (bc (pv 0) U) (bc (pv 1) U) (aH _)) (jb (eI bq (bc (pv 0) U) (bc (pv 1) U) (aH _))))))
  az)
  (aj (aM (PW.pt (ja (cD (au cj U bl.isinstance_ PyProof.Rows.boot_isinstance (aa (pv 0) (aa (cC (v:=.ref Y.j) U bl.Words_ U) ae)))) (gj (cD (au cj U bl.isinstance_ PyProof.Rows.boot_isinstance (aa (pv 1) (aa (cC (v:=.ref Y.j) U bl.Words_ U) ae)))))))
  (ai (av (eI (Av O) (bc (pv 0) U) (bc (pv 1) U) (aH _))))
  az)
  (ai (av fK)))),?_⟩
 cases d with
 |inl p =>
  obtain⟨lo,L⟩:=p;obtain⟨W,fs,k,B,S,_⟩:=k;cases e with
  |inl J =>
   obtain⟨D,u⟩:=J;obtain⟨n,m,c,y,x,_⟩:=c;refine⟨_,U,_,_,_,_,true,U,.ref _,bl.t_Numbers.ty k,bl.f_nn,_,U,eJ ?_⟩;refine⟨_,U,_,_,_,_,true,U,.ref _,bl.t_Numbers.ty c,bl.f_nn,_,U,eJ ?_⟩;refine⟨_,U,a,_,_,_,_,U,k,bl.k_Numbers,bl.na_Numbers_low,B,_,U,b,_,_,_,_,U,c,bl.k_Numbers,bl.na_Numbers_low,y,U,_,U,?_⟩;by_cases g:lo=D
   .subst g;refine fm U ⟨_,U,a,_,_,_,_,U,k,bl.k_Numbers,bl.na_Numbers_high,S,_,U,b,_,_,_,_,U,c,bl.k_Numbers,bl.na_Numbers_high,x,U,?_⟩;have T:decide (V.int L=V.int u)=r:=by
     rw[Bool.eq_iff_iff,decide_eq_true_iff,hi];constructor
     .intro z;injection z with z;rw[z]
     .intro z;injection z with z;injection z with _ z;rw[z]
    have M:Q (.bl (decide (V.int L=V.int u))) H:=by rw[T];exact q
    exact M
   .refine bG (λx=>absurd (V.int.inj (of_decide_eq_true x)) g) (λx=>?_);have o:r=false:=by
     rw[As];intro z;have t:=hi.mp z;injection t with t;injection t with t;exact g t
    rw[o]at q;exact q
  |inr C =>
   obtain⟨n,m,N,c,_⟩:=c;have o:r=false:=by
    rw[As];intro z;cases hi.mp z
   rw[o]at q;refine⟨_,U,_,_,_,_,true,U,.ref _,bl.t_Numbers.ty k,bl.f_nn,_,U,eJ ?_⟩;refine⟨_,U,_,_,_,_,false,U,.ref _,bl.t_Words.ty c,bl.f_wn,_,U,bR ?_⟩;exact⟨_,U,_,_,_,_,false,U,.ref _,bl.t_Numbers.ty k,bl.f_nw,_,U,bR (bR q)⟩
 |inr Z =>
  obtain⟨W,fs,l,k,B,R,_⟩:=k;refine⟨_,U,_,_,_,_,false,U,.ref _,bl.t_Words.ty k,bl.f_wn,_,U,bR (bR ?_)⟩;refine⟨_,U,_,_,_,_,true,U,.ref _,bl.t_Words.ty k,bl.f_ww,_,U,eJ ?_⟩;cases e with
  |inl J =>
   obtain⟨n,m,c,_⟩:=c;have o:r=false:=by
    rw[As];intro z;cases hi.mp z
   rw[o]at q;exact⟨_,U,_,_,_,_,false,U,.ref _,bl.t_Numbers.ty c,bl.f_nw,_,U,bR q⟩
  |inr C =>
   obtain⟨n,m,N,c,y,G,_⟩:=c;refine⟨_,U,_,_,_,_,true,U,.ref _,bl.t_Words.ty c,bl.f_ww,_,U,eJ ?_⟩;exact⟨_,U,a,_,_,_,_,U,k,bl.k_Words,bl.na_Words_words,B,_,U,b,_,_,_,_,U,c,bl.k_Words,bl.na_Words_words,y,vt (SqL.of R) (SqL.of G) (hi.trans ⟨λz=>Sum.inr.inj z,λz=>congrArg _ z⟩) q⟩
theorem DV(F:Fun K "holds" "holds" Y48 f fd) (bl:Bl K mg Y)  : aL P w K mg base CX0 1 f fd ["spans","number"] (nj K Y):=by
 refine F.okA Z48 λD A v s H G Q E I h=>?_
 obtain⟨a,xs,k,n,rfl,y,B,q⟩:=h
 refine⟨_,(aj (bp PassesOwn.never U (aW (pv 0)) (eO U (aK (aC (i:=2) Z48.nd U (Or.inl U)) (aK (aC (i:=3) Z48.nd U (Or.inl U)) bH)))
  (ai (aM (gQ fg fg (pv 2) (pv 1) (pv 3))
  (ai (av fK))
  az)))
  (ai (av fK))),?_⟩
 refine⟨_,U,a,U,⟨_,y⟩,bF (xs:=xs) (λi g j=>(∃t o,g=[some (.ref a),some (.int n),t,o])/\j=H/\(k.take i).any (inR n)=false) ⟨⟨_,_,U⟩,U,U⟩ (λi g j _ h=>by obtain⟨_,e,_⟩:=h;rw[e];exact y) (λi x g j e h=>?_) (λg j h=>?_)⟩
 .obtain⟨⟨t,o,rfl⟩,m,b⟩:=h;rw[m];obtain⟨p,r,l,rfl,u⟩:=B.get e;refine⟨r,_,U,SqT.of u,U,_,_,U,_,_,U,U,?_⟩;refine⟨_,U,_,U,_,_,U,U,_,U,?_⟩;refine bG (λc=>?_) (λc=>?_)
  .refine⟨_,U,_,_,U,U,_,U,?_⟩;refine bG (λd=>?_) (λd=>?_)
   .have C:inP k n=true:=sI l (DJ c d);rw[C]at q;exact q
   .exact⟨⟨_,_,U⟩,U,iY l b (Cc d)⟩
  .exact⟨_,U,bR ⟨⟨_,_,U⟩,U,iY l b (Cb c)⟩⟩
 .obtain⟨⟨t,o,rfl⟩,m,b⟩:=h;rw[m];have z:inP k n=false:=by
   rw[B.length,iv]at b;exact b
  rw[z]at q;exact q
theorem DW(F:Fun K "edges" "edges" Y43 f fd) (bl:Bl K mg Y)  : aL P w K mg base CX0 1 f fd ["spans","low","high"] (nq K Y):=by
 refine F.okA Z43 λa2 A S s H vs Q E hr h=>?_
 obtain⟨a,xs,R,lo,hi,rfl,W,C,hl,q⟩:=h
 refine⟨_,(aj (aJ (i:=3) Z43.nd U (Or.inl U) (aP ae))
  (aj (bp PassesOwn.never U (aW (pv 0)) (eO U (aK (aC (i:=4) Z43.nd U (Or.inl U)) (aK (aC (i:=5) Z43.nd U (Or.inl U)) bH)))
  (aj (aV (eG PySem.F.plainAttrs_list PySem.F.slot_list_append PySem.F.type_list_append bg (pv 3) (aa (pv 4) ae)))
  (ai (aV (eG PySem.F.plainAttrs_list PySem.F.slot_list_append PySem.F.type_list_append bg (pv 3) (aa (ar bL (pv 5) ag) ae))))))
  (ai (av (cO (aW (pv 3)) (bw (N:=["turn","low","high"]) (fr:=[1,2]) (cl:=[("low",s.heap.objs.size+1),("high",s.heap.objs.size+1+1)]) U U (by decide+kernel) (by decide+kernel) U (by decide+kernel) U U U (hQ.mpr ⟨U,hQ.mpr ⟨U,iQ _⟩⟩) U) U (λ_ _ _ _=>(jU (gQ lu fg (pv 1) (pv 0) (pv 2)))) (λ_ _ _ _=>(pv 0))))))),?_⟩
 refine⟨(by show 0<=sizeLine;decide),λl v=>?_⟩;have T:aq H (upd H l (.lst [])):=af v _
 refine⟨_,U,a,U,⟨_,T.seq W⟩,bF (xs:=xs) (λi B k=>∃(L J:Option V),B=[some (.ref a),some (.int lo),some (.int hi),some (.ref l),L,J]/\aq H k/\k l=some (.lst ((ends (R.take i)).map V.int))/\(ends (R.take i)).length<=2*i)
  ⟨none,none,U,T,ab,w5 _⟩ (λi B k _ h=>by obtain⟨_,_,_,j,_⟩:=h;exact j.seq W) (λi x B k e h=>?_) (λB k h=>?_)⟩
 .obtain⟨L,J,rfl,j,m,z⟩:=h;obtain⟨p,r,Z,rfl,M⟩:=(C.mono j.tups).get e;have b:i<xs.length:=(GI.mp e).1;refine⟨r,_,U,SqT.of M,U,_,_,U,_,_,U,U,?_⟩;refine⟨_,U,.inl ⟨U,_,SqL.of m⟩,_,U,l,_,_,U,U,m,ax (by rw[bx];lia),?_⟩;refine⟨_,U,.inl ⟨U,_,SqL.of ab⟩,_,U,_,_,U,U,l,_,_,U,U,ab,ax (by rw[cK,bx,gI];lia),?_⟩;rw[yk];refine⟨_,_,U,j.upd v,?_,?_⟩
  .rw[ab,take_snoc Z,oM];simp
  .rw[take_snoc Z,oM,cK];simp;lia
 .obtain⟨L,J,rfl,j,m,z⟩:=h;rw[C.length,iv]at m z
  refine⟨_,U,l,U,⟨_,SqL.of m⟩,dM (xs:=(ends R).map V.int) (λD i zs d=>aq k d/\d D=some (.lst zs)/\zs=(((ends R).take i).filter (λt=>decide (lo<t) && decide (t<=hi))).map V.int/\zs.length<=i)
   (λD n=>⟨af n _,ab,U,yh _⟩) (λD i zs d n _ h=>SqL.of (h.1 _ _ m)) (λD i x zs d n e h=>?_) (λD zs d n h=>?_)⟩
  .obtain⟨g,u,o,O⟩:=h;obtain⟨c,rfl,X⟩:=of_map e;have b:i<((ends R).map V.int).length:=(GI.mp e).1;have a1:i<(ends R).length:=by rw[bx]at b;exact b
   have y:(decide (lo<c) && decide (c<=hi))=false->eH (λD i zs d=>aq k d/\d D=some (.lst zs)/\zs=(((ends R).take i).filter (λt=>decide (lo<t) && decide (t<=hi))).map V.int/\zs.length<=i) D i ((ends R).map V.int).length d:=λhf=>by
    refine eH.mk (zs:=zs) b ⟨g,u,?_,by lia⟩;rw[take_snoc X,mv,pC (by simpa using hf)];simpa using o
   refine⟨_,U,_,U,_,_,U,U,_,U,?_⟩;refine bG (λI=>?_) (λI=>?_)
   .refine⟨_,U,_,_,U,U,_,U,?_⟩;refine bG (λG=>?_) (λG=>y (by rw[As.mpr G,Bool.and_false]));have a0:=C.length;refine⟨_,U,cP.mk b u (ax (by lia)) ⟨g.upd n,ab,?_,by rw[cK,gI];lia⟩⟩;rw[take_snoc X,mv,pB (by rw[I,G];rfl),o];simp
   .exact⟨_,U,bR (y (by rw[As.mpr I,Bool.false_and]))⟩
  .obtain⟨g,u,o,O⟩:=h;rw[bx,iv]at o;rw[o]at u;exact q D d _ (j.trans g) (j.free n) u U
theorem DX(F:Fun K "stretches" "stretches" Y85 f fd) (bl:Bl K mg Y)  : aL P w K mg base CX0 1 f fd ["low","high","marks"] (gA K Y):=by
 refine F.okA Z86 λb4 A b1 s H vs Q E hr h=>?_
 obtain⟨a,n,L,lo,hi,rfl,hS,hl,hL,qQ,q⟩:=h
 refine⟨_,(aj (aJ (i:=3) Z86.nd U (Or.inl U) (au (fN (w:=w) U U) U bl.sorted_ PyProof.Rows.boot_sorted (aa (bK (oZ (w:=w) U U) U bl.set_ PyProof.Rows.boot_set (aa (cO (aW (pv 2)) (bw (N:=["mark","low","high"]) (fr:=[0,1]) (cl:=[("low",s.heap.objs.size+1),("high",s.heap.objs.size+1+1)]) U U (by decide+kernel) (by decide+kernel) U (by decide+kernel) U U U (hQ.mpr ⟨U,hQ.mpr ⟨U,iQ _⟩⟩) U) U (λ_ _ _ _=>(jU (gQ lu fg (pv 1) (pv 0) (pv 2)))) (λ_ _ _ _=>(pv 0))) ae)) ae)))
  (aj (aJ (i:=4) Z86.nd U (Or.inl U) (ar dJ (aP (aa (pv 0) ae)) (pv 3)))
  (aj (aJ (i:=5) Z86.nd U (Or.inl U) (ar dJ (cO (aW (pv 3)) (fi U (by decide+kernel) (by decide+kernel) (by decide+kernel) U) U (λ_ _ _ _=>bz) (λ_ _ _ _=>(ar cz (pv 0) ag))) (aP (aa (pv 1) ae))))
  (ai (av (tq U U bl.list_ U bl.zip_ (aa (pv 4) (aa (pv 5) ae)))))))),?_⟩
 refine⟨_,U,a,U,⟨_,hS⟩,dM (xs:=n.map V.int) (λD i zs g=>aq H g/\g D=some (.lst zs)/\zs=((n.take i).filter (λt=>decide (lo<t) && decide (t<=hi))).map V.int/\zs.length<=i)
  (λD m=>⟨af m _,ab,U,yh _⟩) (λD i zs g m _ h=>h.1.seq hS) (λD i x zs g m e h=>?_) (λD zs g m h=>?_)⟩
 .obtain⟨r,B,y,R⟩:=h;obtain⟨c,rfl,ec⟩:=of_map e;have d:i<(n.map V.int).length:=(GI.mp e).1;have a6:i<n.length:=by rw[bx]at d;exact d
  have O:(decide (lo<c) && decide (c<=hi))=false->eH (λD i zs g=>aq H g/\g D=some (.lst zs)/\zs=((n.take i).filter (λt=>decide (lo<t) && decide (t<=hi))).map V.int/\zs.length<=i) D i (n.map V.int).length g:=λhf=>by
   refine eH.mk (zs:=zs) d ⟨r,B,?_,by lia⟩;rw[take_snoc ec,mv,pC (by simpa using hf)];simpa using y
  refine⟨_,U,_,U,_,_,U,U,_,U,?_⟩;refine bG (λg1=>?_) (λg1=>?_)
  .refine⟨_,U,_,_,U,U,_,U,?_⟩;refine bG (λg2=>?_) (λg2=>O (by rw[As.mpr g2,Bool.and_false]));refine⟨_,U,cP.mk d B (ax (by lia)) ⟨r.upd m,ab,?_,by rw[cK,gI];lia⟩⟩;rw[take_snoc ec,mv,pB (by rw[g1,g2];rfl),y];simp
  .exact⟨_,U,bR (O (by rw[As.mpr g1,Bool.false_and]))⟩
 .obtain⟨s2,B,y,R⟩:=h;rw[bx]at R y;rw[iv]at y;rw[y]at B;generalize S:n.filter (λt=>decide (lo<t) && decide (t<=hi))=ks at B y;have mP:∀c,c∈ks↔(c∈n/\lo<c/\c<=hi):=λc=>by rw[←S,jw];simp
  have b3:ks.length<=n.length:=by rw[←S];exact nt ..
  refine⟨D,ks,U,SqL.of B,by lia,λl a5=>?_⟩;have s3:aq H (upd g l (tm w l ks)):=s2.trans (af a5 _);refine⟨l,ks,L,U,ab,hL,λk hk=>let ⟨a1,a2,a3⟩:=(mP k).mp hk;qQ k a1 a2 a3,λC b a9 pw G=>?_⟩;have s4:=s3.trans (af a9 (.lst (b.map V.int)));have e4:upd (upd g l (tm w l ks)) C (.lst (b.map V.int)) C=some (.lst (b.map V.int)):=ab;generalize upd (upd g l (tm w l ks)) C (.lst (b.map V.int))=H3 at s4 e4⊢;have a7:b.length<64:=zl (bJ (pw.imp λh=>Int.ne_of_lt h) λk hk=>let ⟨a1,a2,a3⟩:=(mP k).mp ((G k).mp hk);qQ k a1 a2 a3) hL;refine⟨_,U,(by show 1<=sizeLine;decide),λt1 M=>?_⟩;have e5:=cG (o:=.lst [.int lo]) e4 M;have s5:=s4.trans (af M (.lst [.int lo]));refine⟨_,U,t1,C,_,_,U,U,ab,e5,yj (ax (by rw[bx];show 1+b.length<=1000;lia)),λZ J=>?_⟩;have e6:=cG (o:=.lst ([V.int lo]++b.map V.int)) e5 J;have s6:=s5.trans (af J (.lst ([V.int lo]++b.map V.int)));have e7:upd (upd H3 t1 (.lst [.int lo])) Z (.lst ([V.int lo]++b.map V.int)) Z=some (.lst ([V.int lo]++b.map V.int)):=ab;generalize upd (upd H3 t1 (.lst [.int lo])) Z (.lst ([V.int lo]++b.map V.int))=H4 at s6 e6 e7⊢
  refine⟨_,U,C,U,⟨_,SqL.of e6⟩,dM (xs:=b.map V.int) (λD i zs z=>aq H4 z/\z D=some (.lst zs)/\zs=((b.take i).map (· - 1)).map V.int/\zs.length<=i)
   (λD m=>⟨af m _,ab,U,yh _⟩) (λD i zs z m _ h=>SqL.of (h.1 _ _ e6)) (λD i x zs z m e h=>?_) (λD zs z m h=>?_)⟩
  .obtain⟨r,v,u,DY⟩:=h;obtain⟨c,rfl,ec⟩:=of_map e;have d:i<(b.map V.int).length:=(GI.mp e).1;have a6:i<b.length:=by rw[bx]at d;exact d
   refine⟨_,U,_,_,U,U,cP.mk d v (ax (by lia)) ⟨r.upd m,ab,?_,by rw[cK,gI];lia⟩⟩;rw[take_snoc ec,ij,ij,u];rfl
  .obtain⟨a0,v,u,DY⟩:=h;rw[bx,iv]at u;rw[u]at v;refine⟨_,U,(by show 1<=sizeLine;decide),λt3 I=>?_⟩;have s7:=a0.trans (af I (.lst [.int hi]));refine⟨D,t3,_,_,U,U,cG v I,ab,yj (ax (by rw[bx,bx];show b.length+1<=1000;lia)),λX a4=>?_⟩;have s8:=s7.trans (af a4 (.lst ((b.map (· - 1)).map V.int++[.int hi])));have e8:upd (upd z t3 (.lst [.int hi])) X (.lst ((b.map (· - 1)).map V.int++[.int hi])) X=some (.lst ((b.map (· - 1)).map V.int++[.int hi])):=ab;generalize upd (upd z t3 (.lst [.int hi])) X (.lst ((b.map (· - 1)).map V.int++[.int hi]))=H6 at s8 e8⊢;have e9:=s8 _ _ e7;refine⟨_,U,_,U,Z,X,(lo :: b).map V.int,(b.map (· - 1)++[hi]).map V.int,U,SqL.of e9,by rw[ij];exact SqL.of e8,λD9 ts H9 W k9 a8 b0 f9=>?_⟩;have s9:aq H H9:=(s6.trans s8).trans λc o e=>k9 c o e
   refine q D9 H9 b (ts.map V.ref) s9 ((s6.trans s8).free a8) b0 (PL.of_get (by rw[W,fQ];simp) λj p hj=>?_) pw (λc=>(G c).trans (mP c)) a7;obtain⟨z1,z2⟩:=zip_get hj;obtain⟨T,h1,_,h2⟩:=f9 j _ _ z1 z2;exact⟨T,h1,h2⟩
theorem DZ(F:Fun K "closed" "closed" Y38 f fd) (bl:Bl K mg Y)  : aL P w K mg base CX0 1 f fd ["triples"] (fS K Y):=by
 refine F.okA Z38 λa7 A a5 s H vs Q E hr h=>?_
 obtain⟨L,iL,A,n,a,xs,o,rfl,hn,ha,W,hl,q⟩:=h
 refine⟨_,(aj (aJ (i:=1) Z38.nd U (Or.inl U) (aP ae))
  (aj (bp PassesOwn.never U (aW (pv 0)) (eO U (aK (aC (i:=2) Z38.nd U (Or.inl U)) (aK (aC (i:=3) Z38.nd U (Or.inl U)) (aK (aC (i:=4) Z38.nd U (Or.inl U)) bH))))
  (ai (aM (PW.pt (ja (c9 (pv 1) (by intro _;rfl)) (gj (aF (AL hr) (aE bA (aE aG (pv 1) (lr gP ag) (λ_ _=>U)) ag (λ_ _=>U)) (pv 4) (aH _)))))
  (ai (mf (aX (aa (aE bA (aE aG (pv 1) (lr gP ag) (λ_ _=>U)) ag (λ_ _=>U)) (aa (pv 3) (aa (pv 4) ae)))) (ma (pv 1) (lr gP ag) set_list)))
  (ai (aV (eG PySem.F.plainAttrs_list PySem.F.slot_list_append PySem.F.type_list_append bg (pv 1) (aa (aX (aa (pv 2) (aa (pv 3) (aa (pv 4) ae)))) ae)))))))
  (ai (av (bK nW U bl.tuple_ PyProof.Rows.boot_tuple (aa (pv 1) ae)))))),?_⟩
 refine⟨(by show 0<=sizeLine;decide),λl B=>?_⟩;have s0:aq H (upd H l (.lst [])):=af B _
 refine⟨_,U,a,U,⟨_,SqL.of (s0 _ _ ha)⟩,bF (xs:=xs) (λi S g=>aq H g/\∃(c:List V)(N M J:Option V),g l=some (.lst c)/\FmL (FmV A g n) g ((o.take i).foldl cU []) c/\c.length<=i/\S=[some (.ref a),some (.ref l),N,M,J])
  ⟨s0,[],none,none,none,ab,FmL.nil,yh _,U⟩ (λi S g _ h=>SqL.of (h.1 _ _ ha)) (λi y S g e h=>?_) (λS g h=>?_)⟩
 .obtain⟨C,c,N,M,J,m,p,O,rfl⟩:=h;have hi:i<xs.length:=(GI.mp e).1;obtain⟨t,et⟩:∃t,o[i]?=some t:=⟨_,GH (by rw[←W.1];exact hi)⟩;obtain⟨r,u,ex,er,hu⟩:=W.2 i t et;rw[e]at ex;cases ex;have a4:=C _ _ er;have x:=FmV.mono C.tups hu;have Cs:(o.take (i+1)).foldl cU []=cU ((o.take i).foldl cU []) t:=by rw[take_snoc et,List.foldl_append];rfl
  rw[Cs];generalize (o.take i).foldl cU []=F at p;have a6:i<900:=by have:=W.1;lia
  refine⟨r,_,U,SqT.of a4,U,_,_,U,_,_,U,_,_,U,U,?_⟩
  have put:cU F t=F++[t]->∀b,g b=none->aq H (upd (upd g b (.tup [.int t.1,.int t.2.1,u])) l (.lst (c++[.ref b])))/\∃(v:List V)(N M J:Option V),upd (upd g b (.tup [.int t.1,.int t.2.1,u])) l (.lst (c++[.ref b])) l=some (.lst v) /\
    FmL (FmV A (upd (upd g b (.tup [.int t.1,.int t.2.1,u])) l (.lst (c++[.ref b]))) n) (upd (upd g b (.tup [.int t.1,.int t.2.1,u])) l (.lst (c++[.ref b]))) (cU F t) v/\v.length<=i+1/\[some (V.ref a),some (V.ref l),some (V.int t.1),some (V.int t.2.1),some u]=[some (.ref a),some (.ref l),N,M,J]:=λI b j=>by
   have D:upd g b (.tup [.int t.1,.int t.2.1,u]) l=some (.lst c):=cG m j;have k:cb g (upd (upd g b (.tup [.int t.1,.int t.2.1,u])) l (.lst (c++[.ref b]))):=(iE j).trans (aQ D);refine⟨(C.trans (af j _)).upd B,c++[.ref b],_,_,_,ab,?_,by rw[cK,gI];lia,U⟩;rw[I];exact(p.mono (λ_ _ q=>FmV.mono k q) k).snoc (aQ D _ _ ab) (FmV.mono k x)
  refine⟨_,U,!c.isEmpty,.inl ⟨c,SqL.of m,U⟩,?_⟩;rcases vr F with X|⟨Z,lt,X⟩
  .subst X;have a0:c=[]:=List.eq_nil_of_length_eq_zero p.1;have eE:(!c.isEmpty)=false:=by rw[a0];rfl
   rw[eE];refine bR (bR ?_);refine⟨_,U,.inl ⟨U,_,SqL.of m⟩,_,U,_,U,_,U,(by show 3<=sizeLine;decide),λb j=>?_⟩;refine⟨l,c,_,U,U,cG m j,ax (by lia),?_⟩;exact put U b j
  .rw[vJ]at X;subst X;obtain⟨G,T,ul,rfl,hy,R,a2⟩:=p.init;have eE:(!(G++[V.ref T]).isEmpty)=true:=by cases G <;> rfl
   rw[eE];refine eJ ?_;refine⟨_,U,_,U,l,_,_,_,U,U,SqL.of m,jT _ _,T,_,_,_,U,U,SqT.of R,U,_,U,λa3=>FmV.eq_to (by lia) a2 x ?_ a3⟩;refine⟨_,U,?_⟩;refine bG (λd=>?_) (λd=>?_)
   .have d':lt.2.2=t.2.2:=iZ d;have I:cU (Z++[lt]) t=Z++[(lt.1,t.2.1,t.2.2)]:=by
     unfold cU;rw[List.getLast?_concat];simp only;rw[if_pos d',List.dropLast_concat]
    refine⟨_,U,_,U,l,_,_,_,U,U,SqL.of m,jT _ _,T,_,_,_,U,U,SqT.of R,U,_,U,_,U,(by show 3<=sizeLine;decide),λb j=>?_⟩;have D:upd g b (.tup [.int lt.1,.int t.2.1,u]) l=some (.lst (G++[.ref T])):=cG m j;refine⟨_,U,_,U,l,_,_,_,U,U,D,mV (by simp),?_⟩;rw[rf];have k:cb g (upd (upd g b (.tup [.int lt.1,.int t.2.1,u])) l (.lst (G++[.ref b]))):=(iE j).trans (aQ D);refine⟨(C.trans (af j _)).upd B,G++[.ref b],_,_,_,ab,?_,by rw[cK,gI]at O⊢;lia,U⟩;rw[I];exact(hy.mono (λ_ _ q=>FmV.mono k q) k).snoc (t:=(lt.1,t.2.1,t.2.2)) (aQ D _ _ ab) (FmV.mono k x)
   .have d':lt.2.2≠t.2.2:=lB d;have I:cU (Z++[lt]) t=Z++[lt]++[t]:=by
     unfold cU;rw[List.getLast?_concat];simp only;rw[if_neg d']
    refine⟨_,U,.inl ⟨U,_,SqL.of m⟩,_,U,_,U,_,U,(by show 3<=sizeLine;decide),λb j=>?_⟩;refine⟨l,_,_,U,U,cG m j,ax (by lia),?_⟩;exact put I b j
 .obtain⟨C,c,N,M,J,m,p,O,rfl⟩:=h;have a1:FmL (FmV A g n) g (d7 o) c:=by
   have e:o.take xs.length=o:=by rw[W.1];exact iv
   rw[e]at p;exact p
  refine⟨_,U,l,c,U,.inl ⟨SqL.of m,λb j=>?_⟩⟩;have st:=af j (.tup c);exact q b _ (C.trans st) ⟨b,c,U,ab,a1.mono (λ_ _ z=>FmV.mono st.tups z) st.tups⟩
theorem D1(F:Fun K "gathered" "gathered" Y46 f fd) (bl:Bl K mg Y)  : aL P w K mg base CX0 1 f fd ["lists"] (hX K Y):=by
 refine F.okA Z46 λa1 A C s H vs Q E I h=>?_
 obtain⟨a,as,b,L,rfl,M,g,O,T,R,q⟩:=h
 refine⟨_,(aj (aJ (i:=1) Z46.nd U (Or.inl U) (aP ae))
  (aj (bp PassesOwn.never U (aW (pv 0)) (aC (i:=2) Z46.nd U (Or.inl U))
  (ai (aV (eG PySem.F.plainAttrs_list PySem.F.slot_list_extend PySem.F.type_list_extend uN (pv 1) (aa (pv 2) ae)))))
  (ai (av (au (fN (w:=w) U U) U bl.sorted_ PyProof.Rows.boot_sorted (aa (bK (oZ (w:=w) U U) U bl.set_ PyProof.Rows.boot_set (aa (pv 1) ae)) ae)))))),?_⟩
 refine⟨(by show 0<=sizeLine;decide),λd m=>?_⟩;have t:aq H (upd H d (.lst [])):=af m _;have N:upd H d (.lst []) d=some (.lst [] ):=ab;generalize upd H d (.lst [])=H0 at t N⊢;have G:∀(A:List (List Int))(x:List Int),(A++[x]).flatten=A.flatten++x:=λA x=>by rw[List.flatten_append];simp
 refine⟨_,U,a,U,⟨_,SqL.of (t _ _ M)⟩,bF (xs:=as.map V.ref) (λi p k=>aq H k/\k d=some (.lst ((b.take i).flatten.map V.int))/\∃v:Option V,p=[some (.ref a),some (.ref d),v]) ⟨t,N,_,U⟩ (λi p k _ h=>SqL.of (h.1 _ _ M)) (λi y p k e h=>?_) (λp k h=>?_)⟩
 .obtain⟨j,c,v,rfl⟩:=h;obtain⟨r,rfl,J⟩:=xp e;obtain⟨xs,u⟩:∃xs,b[i]?=some xs:=⟨_,GH (by rw[←g.1];exact(GI.mp J).1)⟩;obtain⟨r',o,I⟩:=g.2 i xs u;rw[J]at o;cases o;have a0:(b.take i).flatten.length+xs.length<=1000:=by
   have X:b.flatten=(b.take (i+1)).flatten++(b.drop (i+1)).flatten:=by rw[←List.flatten_append,List.take_append_drop]
   have W:((b.take (i+1)).flatten).length<=b.flatten.length:=by rw[X,cK];lia
   rw[take_snoc u,G,cK]at W;lia
  refine⟨_,U,.inl ⟨U,_,SqL.of c⟩,_,U,d,r,_,_,U,U,c,j _ _ I,yj (ax (by rw[bx,bx];lia)),j.upd m,?_,_,U⟩;rw[ab,take_snoc u,G,ij]
 .obtain⟨j,c,v,rfl⟩:=h;rw[bx,g.1,iv]at c;refine⟨_,U,d,b.flatten,U,SqL.of c,(by lia),λl B=>?_⟩;have D:=af B (tm w l b.flatten);refine⟨l,b.flatten,L,U,ab,T,R,λD2 Z n S z=>?_⟩;exact q D2 Z _ ((j.trans D).trans (af n _)) (j.free (D.free n)) ab S z
theorem D3(F:Fun K "corner" "corner" Y40 f fd) (bl:Bl K mg Y)  : aL P w K mg base CX0 1 f fd ["box"] (kS K Y):=by
 refine F.okA Z40 λI A u s H J Q E L h=>?_
 obtain⟨b,B,rfl,⟨xs,y,z⟩,M,q⟩:=h;refine⟨_,(ai (av (dU (rZ (pv 0)) (dA (N:=["low","high"]) (k:=2) U U (by decide+kernel) (by decide+kernel) (by decide+kernel)) U (λ_ _ _ _=>(jW (K:=K) (n:=2) U U (aK (aC (i:=0) (show(["low","high"]:List Str).Nodup by decide+kernel) U (Or.inl U) (Or.inr U)) (aK (aC (i:=1) (show(["low","high"]:List Str).Nodup by decide+kernel) U (Or.inl U) (Or.inr U)) bH)))) (λ_ _ _ _=>bz) (λ_ _ _ _=>(pv 0))))),?_⟩;have o:=z.length
 refine⟨_,U,b,U,⟨_,SqT.of y⟩,o6 (xs:=xs) (λD i d c=>aq H c/\c D=some (.lst d)/\d=((B.take i).map (·.1)).map V.int)
  (λD a=>⟨af a _,ab,U⟩) (λD i d c a _ h=>SqT.of (h.1 _ _ y)) (λD i x d c a e h v r=>?_) (λD d c a h=>?_)⟩
 .obtain⟨l,m,rfl⟩:=h;have hi:i<xs.length:=(GI.mp e).1;obtain⟨p,t,G,rfl,C⟩:=z.get e;obtain⟨j,g,rfl⟩:∃j g,v=[j,g]:=by
   match v,r with
   | [j,g],_=>exact⟨j,g,U⟩
  refine⟨t,_,U,SqT.of (l _ _ C),U,_,_,U,_,_,U,U,⟨[some (.int p.1),some (.int p.2)],U,U⟩,?_⟩;refine⟨_,U,cP.mk hi m (ax (by rw[bx,bx,ip];lia)) ⟨l.upd a,ab,?_⟩⟩;rw[take_snoc G,ij,ij];rfl
 .obtain⟨l,m,rfl⟩:=h;rw[o,iv]at m;exact q D c l a m
theorem D4(F:Fun K "refuse_counts" "refuse_counts" Y77 f fd) (bl:Bl K mg Y)  : aL P w K mg base CX0 1 f fd ["names","rows"] (dO K Y):=by
 refine F.okA Z77 λe A a s H i Q E k h=>?_
 obtain⟨p,r,b,g,rfl,d,c,m,l,j,q⟩:=h
 refine⟨_,(aj (aM (cy (gQ fg fg ag (au aw U bl.len_ boot_len (aa (pv 0) ae)) (lD U bl.MOST_COLUMNS_)))
  (ai bE)
  az)
  (ai (aM (aF mh (au aw U bl.len_ boot_len (aa (pv 1) ae)) (lD U bl.MOST_ROWS_) (aH _))
  (ai bE)
  az))),?_⟩
 refine⟨_,U,p,_,U,.inl (d),_,_,U,U,_,U,fm (by lia) ?_⟩;refine⟨_,_,U,U,_,U,?_⟩;rw[decide_eq_true (show((b.length:Nat):Int)<=4 by lia)];refine bR ?_;exact⟨_,U,r,_,U,.inl (c),_,_,U,U,_,U,cm (by lia) q⟩
theorem D5(F:Fun K "own_row" "own_row" Y75 f fd) (bl:Bl K mg Y)  : aL P w K mg base CX0 1 f fd ["cells","code"] (jk K Y):=by
 refine F.okA Z75 λT A y s H V Q E X h=>?_
 obtain⟨S,xs,G,rfl,B,t,Z,q⟩:=h;refine⟨_,(ai (av (aX (aa (cO (aW (pv 0)) (fi U (by decide+kernel) (by decide+kernel) (by decide+kernel) U) U (λ_ _ _ _=>bz) (λ_ _ _ _=>(bK (n5 (K:=K) U) U bl.list_ PyProof.Rows.boot_list (aa (pv 0) ae)))) (aa (pv 1) ae))))),?_⟩
 refine⟨_,U,S,U,⟨_,SqL.of B⟩,dM (xs:=xs) (λD i g d=>aq H d/\d D=some (.lst g)/\CL (Fr H D) d g (G.1.take i))
  (λD m=>⟨af m _,ab,aD.nil⟩) (λD i g d m _ h=>SqL.of (h.1 _ _ B)) (λD i x g d m e h=>?_) (λD g d m h=>?_)⟩
 .obtain⟨k,u,p⟩:=h;obtain⟨l,W,rfl,O,M⟩:=aD.get t e;obtain⟨_,n,R,L⟩:=M.same k;have hi:i<xs.length:=(GI.mp e).1;have v:g.length<sizeLine:=by
   have N:=p.1;rw[ip]at N;exact ax (by lia)
  refine⟨_,U,l,_,U,.inl (SqL.of R),λo c=>?_⟩;have s2:=af c (.lst n);have C:upd d o (.lst n) o=some (.lst n):=ab;have j:=s2 _ _ u;generalize upd d o (.lst n)=H2 at s2 C j⊢;have J:H o=none:=k.free c;have I:o≠D:=λz=>by rw[z,u]at c;cases c
  refine cP.mk hi j v ⟨(k.trans s2).upd m,ab,?_⟩;rw[take_snoc O];exact CL.updN (aD.snoc (p.same s2) ⟨⟨J,I⟩,n,C,L.mono s2.tups⟩) Fr.out j
 .obtain⟨k,u,p⟩:=h;rw[t.1,iv]at p;refine⟨_,U,bu,λr b=>q r _ (k.trans (af b _)) (k.free b) ⟨D,g,ab,m,af b _ _ _ u,?_⟩⟩;exact(p.same (af b _)).wk λa h=>h.1
theorem D6(F:Fun K "table_bounds" "table_bounds" Y86 f fd) (bl:Bl K mg Y)  : aL P w K mg base CX0 1 f fd ["table"] (d9 K Y):=by
 refine F.okA Z87 λa1 A I s H vs Q E hr h=>?_
 obtain⟨t,x,bs,W,rfl,⟨rl,dx,V,fs,xs,M,f1,S,p,o,Z,hR⟩,hb,q⟩:=h;refine⟨_,(ai (av (cO (aW (bc (pv 0) U)) (fi U (by decide+kernel) (by decide+kernel) (by decide+kernel) U) U (λ_ _ _ _=>bz) (λ_ _ _ _=>(aX (aa (lW (K:=K) U (pv 0) U) (aa (lW (K:=K) U (pv 0) U) ae))))))),?_⟩;have G:x.length=bs.length:=o.1;refine⟨_,U,t,_,_,_,_,U,M,bl.k_Table,bl.na_Table_domains,S,V,U,⟨_,SqL.of p⟩,dM (xs:=x) (λD i j c=>aq H c/\c D=some (.lst j)/\PL c j (bs.take i)) (λD k=>⟨af k _,ab,.nil⟩) (λD i j c k _ h=>SqL.of (h.1 _ _ p)) (λD i y j c k e h=>?_) (λD j c k h=>?_)⟩
 .obtain⟨l,v,m⟩:=h;obtain⟨a,b,rfl,T,C,N,a0,X,J,R,O,_⟩:=aD.get o e;have hi:i<x.length:=(GI.mp e).1;have u:Cls K C/\NoAttr K C s!"low"/\NoAttr K C s!"high":=by
   rcases N with rfl|rfl
   .exact⟨bl.k_Numbers,bl.na_Numbers_low,bl.na_Numbers_high⟩
   .exact⟨bl.k_Words,bl.na_Words_low,bl.na_Words_high⟩
  refine⟨_,U,a,_,_,_,_,U,l _ _ J,u.1,u.2.1,R,_,U,a,_,_,_,_,U,l _ _ J,u.1,u.2.2,O,bu,λg B=>?_⟩;have r:=af B (.tup [.int b.1,.int b.2]);have L:upd c g (.tup [.int b.1,.int b.2]) g=some (.tup [.int b.1,.int b.2]):=ab;have d:=r _ _ v;have n:=m.mono r.tups;generalize upd c g (.tup [.int b.1,.int b.2])=H4 at r L d n⊢;have z:=m.length;rw[ip]at z;refine cP.mk hi d (ax (by lia)) ⟨(l.trans r).upd k,ab,?_⟩;rw[take_snoc T];exact(n.mono (aQ d)).snoc (aQ d _ _ L)
 .obtain⟨l,v,m⟩:=h;rw[G,iv]at m;exact q D j c l k v m
theorem D7(F:Fun K "differing_pair" "differing_pair" Y42 f fd) (bl:Bl K mg Y)  : aL P w K mg base CX0 1 f fd ["old","new"] (dB K Y):=by
 refine F.okA Z42 λk A c s H l Q E j h=>?_
 obtain⟨a,b,x,y,rfl,i,e,q⟩:=h;refine⟨_,(ai (av (jR (aF (AA j) (pv 0) (pv 1) (aH _)) (lD U bl.NOTHING_) (aX (aa (pv 0) (aa (pv 1) ae)))))),?_⟩;refine⟨_,U,_,U,y7 (v:=x) (u:=y) i.sq e.sq ⟨_,U,?_⟩⟩;refine bG (λg=>?_) (λg=>?_)
 .refine q _ H (aq.refl _) ?_;unfold dpr;rw[if_pos (of_decide_eq_true g)];rfl
 .refine⟨_,U,_,U,bu,λt d=>q _ _ (af d _) ?_⟩;unfold dpr;rw[if_neg λz=>g (decide_eq_true z)];have s:=af d (.tup [.ref a,.ref b]);exact⟨t,U,a,b,ab,i.mono s.tups,e.mono s.tups⟩
theorem D8(F:Fun K "_law_cell" "_law_cell" Y53 f fd) (bl:Bl K mg Y)  : aL P w K mg base CX0 1 f fd ["script","k"] (dX K Y):=by
 refine F.okA Z53 λm A g s H n Q E o h=>?_
 obtain⟨a,b,k,rfl,j,p,q⟩:=h
 refine⟨_,(aj (aM (aF lu (pv 1) (au aw U bl.len_ boot_len (aa (pv 0) ae)) (aH _))
  (ai (av (aE aG (pv 0) (pv 1) (λ_ _=>U))))
  az)
  (ai (av ag))),?_⟩
 refine⟨_,U,_,U,a,_,U,.inl j,_,_,U,U,_,U,?_⟩;refine bG (λc=>?_) (λc=>?_)
 .have e:k<(((b.map V.int).length:Nat):Int):=iZ c;rw[bx]at e;have i:k.toNat<b.length:=by lia
  have d:cx b k=b[k.toNat]:=by unfold cx;rw[dE,GH i];rfl
  have l:atI (b.map V.int) k=some (.int b[k.toNat]):=by
   have z:atI (b.map V.int) ((k.toNat:Nat):Int)=some (.int b[k.toNat]):=aR (by rw[fo,GH i];rfl);rw[show((k.toNat:Nat):Int)=k by lia]at z;exact z
  rw[d]at q;exact⟨_,U,_,U,a,_,_,_,U,U,j,l,q⟩
 .have e:=lB c;rw[bx]at e;have d:cx b k=0:=by unfold cx;rw[dE,mu (by lia)];rfl
  rw[d]at q;exact q
theorem Ea(F:Fun K "_law_numbers" "_law_numbers" Y60 f fd) (bl:Bl K mg Y)  : aL P w K mg base CX0 1 f fd ["script","start","most"] (eV K Y):=by
 refine F.okA Z60 λT A G s H W Q E Z h=>?_
 obtain⟨a,n,rfl,J,S,q⟩:=h
 refine⟨_,(aj (aJ (i:=3) Z60.nd U (Or.inl U) (aP ae))
  (aj (bp PassesOwn.never U (uI U bl.range_ (aa (pv 1) (aa (au aw U bl.len_ boot_len (aa (pv 0) ae)) ae))) (aC (i:=4) Z60.nd U (Or.inl U))
  (ai (aM (aF lu (au aw U bl.len_ boot_len (aa (pv 3) ae)) (pv 2) (aH _))
  (ai (aV (eG PySem.F.plainAttrs_list PySem.F.slot_list_append PySem.F.type_list_append bg (pv 3) (aa (ar aO (aE aG (pv 0) (pv 4) (λ_ _=>U)) (ar gO ag ag)) ae))))
  (ai (mf (ar aO (ar bL (ar fw (aE aG (pv 3) (ar aO (pv 4) (pv 2)) (λ_ _=>U)) ag) (aE aG (pv 0) (pv 4) (λ_ _=>U))) (ar gO ag ag)) (ma (pv 3) (ar aO (pv 4) (pv 2)) set_list))))))
  (ai (av (pv 3))))),?_⟩
 refine⟨(by show 0<=sizeLine;decide),λl v=>?_⟩;have u:aq H (upd H l (.lst ([].map V.int))):=af v _;have M:upd H l (.lst ([].map V.int)) l=some (.lst ([].map V.int)):=ab;have L:upd H l (.lst [])=upd H l (.lst ([].map V.int)):=rfl;rw[L];clear L;generalize upd H l (.lst ([].map V.int))=H0 at u M⊢;have j:(n.map V.int).length=n.length:=bx _;refine⟨_,U,_,U,a,_,U,.inl (u.seq J),_,_,U,⟨by decide,by decide,by rw[j];lia,by rw[j];lia⟩,cM (λi t o=>aq H o/\∃(b:List Int)(B:Option V),o l=some (.lst (b.map V.int))/\b.length<=24/\t=[some (.ref a),some (.int 8),some (.int 24),some (.ref l),B]) ⟨u,[],_,M,yh _,U⟩ (λi t o hi y=>?_) (λt o y=>?_)⟩
 .obtain⟨m,b,B,e,k,rfl⟩:=y;rw[j]at hi;have D:8+i<n.length:=by lia
  obtain⟨c,R⟩:∃c,n[8+i]?=some c:=⟨_,GH D⟩;have p:atI (n.map V.int) (8+(i:Int))=some (.int c):=by
   have:=aR (get_map R);rw[show(((8+i:Nat)):Int)=8+(i:Int) by lia]at this;exact this
  have r:=m.seq J;have d:(b.map V.int).length=b.length:=bx _;refine⟨_,U,l,_,U,.inl (SqL.of e),_,U,_,_,U,U,_,U,?_⟩;refine bG (λg=>?_) (λg=>?_)
  .have g:((b.length:Nat):Int)<24:=by have:=of_decide_eq_true g;rw[d]at this;exact this
   refine⟨_,U,.inl ⟨U,_,SqL.of e⟩,_,U,_,U,a,_,_,_,U,U,r,p,_,_,U,U,⟨by decide,by decide,by decide⟩,_,_,U,U,p10 _,l,_,_,U,U,e,ax (by rw[d];lia),?_⟩;exact⟨m.upd v,b++[_],_,by rw[ab,ij];rfl,by rw[cK,gI];lia,U⟩
  .have g:24<=b.length:=by
    have:¬ (((((b.map V.int).length:Nat)):Int)<24):=λz=>g (decide_eq_true z)
    rw[d]at this;lia
   have I:=Ba (8+(i:Int)) (show(24:Int)≠0 by decide);have X:=Bf (8+(i:Int)) (show(0:Int)<24 by decide);obtain⟨x,O⟩:∃x,b[((8+(i:Int))%24).toNat]?=some x:=⟨_,GH (by lia)⟩;have N:atI (b.map V.int) ((8+(i:Int))%24)=some (.int x):=by
    have:=aR (get_map O);rw[Int.toNat_of_nonneg I]at this;exact this
   have C:ixN (b.map V.int).length ((8+(i:Int))%24)=some ((8+(i:Int))%24).toNat:=by
    unfold ixN;rw[if_pos I,if_pos (by rw[d];lia)]
   refine⟨_,U,_,U,_,U,_,_,U,U,(by show(0:Int)<24;decide),l,_,_,_,U,U,SqL.of e,N,_,_,U,U,.inr ⟨by decide,by decide⟩,_,U,_,U,a,_,_,_,U,U,r,p,_,_,U,U,_,_,U,U,⟨by decide,by decide,by decide⟩,_,_,U,U,p10 _,?_⟩;refine⟨_,U,_,U,_,U,_,_,U,U,(by show(0:Int)<24;decide),l,_,_,_,U,U,e,C,?_⟩;exact⟨m.upd v,b.set ((8+(i:Int))%24).toNat _,_,by rw[ab,List.map_set],by rw[wz];exact k,U⟩
 .obtain⟨m,b,B,e,k,rfl⟩:=y;exact⟨_,U,q l b o m e k⟩
theorem Eb(F:Fun K "_law_points" "_law_points" Y65 f fd) (bl:Bl K mg Y)  : aL P w K mg base CX0 1 f fd ["cell","count"] (fE K Y):=by
 refine F.okA Z65 λb1 A a3 s H vs Q E hr h=>?_
 obtain⟨c,n,rfl,n1,a9,q⟩:=h
 refine⟨_,(aj (aM (aF bq (ar aO (pv 0) ag) ag (aH _))
  (ai (av (cO (aZ U bl.range_ (aa (ar bL (pv 1) ag) ae)) (fi U (by decide+kernel) (by decide+kernel) (by decide+kernel) U) U (λ_ _ _ _=>bz) (λ_ _ _ _=>(pv 0)))))
  az)
  (aj (aJ (i:=2) Z65.nd U (Or.inl U) (ar cz (ar aO (ar bI (pv 0) ag) ag) ag))
  (aN (aM (aF mh (ar aO (ar bI (pv 0) ag) ag) ag (aH _))
  (ai (aJ (i:=2) Z65.nd U (Or.inl U) (ar cz (ar aO (ar bI (pv 0) ag) (ar fw ag (ar gO ag ag))) (ar gO ag ag))))
  az)
  (aj (aJ (i:=3) Z65.nd U (Or.inl U) (aP (aa (pv 2) ae)))
  (aj (bp PassesOwn.never U (aZ U bl.range_ (aa (pv 1) ae)) (aC (i:=4) Z65.nd U (Or.inl U))
  (aN (aJ (i:=5) Z65.nd U (Or.inl U) (ar aO (ar fw (ar bL (ar bI (pv 0) ag) (pv 4)) (ar bL (ar fw ag (pv 4)) ag)) (aE aG (aP (aa ag (aa ag (aa ag (aa ag (aa ag ae)))))) (ar aO (pv 4) ag) (λ_ _=>U))))
  (aN (aJ (i:=6) Z65.nd U (Or.inl U) ag)
  (aN (aM (aF bq (ar aO (pv 5) ag) ag (aH _))
  (ai (aJ (i:=6) Z65.nd U (Or.inl U) (ar bL ag (ar aO (pv 5) ag))))
  az)
  (aN (aM (aF bq (ar aO (pv 5) ag) ag (aH _))
  (ai (aJ (i:=6) Z65.nd U (Or.inl U) (ar bL ag (ar aO (ar bI (pv 0) (ar bL (pv 4) ag)) (ar gO ag ag)))))
  az)
  (aj (aJ (i:=2) Z65.nd U (Or.inl U) (ar bL (pv 2) (pv 6)))
  (ai (aV (eG PySem.F.plainAttrs_list PySem.F.slot_list_append PySem.F.type_list_append bg (pv 3) (aa (pv 2) ae))))))))))
  (ai (av (pv 3)))))))),?_⟩
 refine⟨_,U,_,_,U,U,(by show(0:Int)<3;decide),U,_,U,?_⟩;refine bG (λg=>?_) (λg=>?_)
 .refine⟨_,U,_,_,U,U,_,U,(by show -(2^62)<=n+1;lia),(by show n+1<2^62;lia),bY (λD i I d=>aq H d/\d D=some (.lst I)/\I=(cX i).map V.int) (λD B=>⟨af B _,ab,U⟩) (λD i I d B hi x=>?_) (λD I d B x=>?_)⟩
  .obtain⟨u,J,rfl⟩:=x;refine⟨_,U,cP.mk hi J (ax (by rw[bx,bZ];lia)) ⟨u.upd B,ab,?_⟩⟩;rw[rh,ij];rfl
  .obtain⟨u,J,rfl⟩:=x;rw[show(n+1).toNat=n.toNat+1 by lia]at J;exact q D _ d u B J (tM (by lia) (by lia)) (λ_=>⟨n.toNat,by lia,by lia,U⟩) (by rw[bZ];lia)
 have g':c%3≠1:=iF g;refine⟨_,U,_,_,U,U,⟨by decide,by decide⟩,_,_,U,U,(by show(0:Int)<41;decide),_,_,U,U,?_⟩;refine⟨λb d=>d=H/\∃a:Int,b=[some (.int c),some (.int n),some (.int a),none,none,none,none],?_,?_⟩
 .refine⟨_,U,_,_,U,U,⟨by decide,by decide⟩,_,_,U,U,(by show(0:Int)<3;decide),_,_,U,U,_,U,?_⟩;exact bG (λ_=>⟨_,U,_,_,U,U,⟨by decide,by decide⟩,_,_,U,U,⟨by decide,by decide,by decide⟩,_,_,U,U,.inl ⟨by decide,by decide⟩,_,_,U,U,Int.mul_pos (by decide) (p10 _),_,_,U,U,⟨by decide,by decide,by decide⟩,_,_,U,U,U,_,U⟩) (λ_=>⟨U,_,U⟩)
 rintro a8 y ⟨rfl,o,rfl⟩;refine⟨_,U,(by show 1<=sizeLine;decide),λl N=>?_⟩;have s0:aq y (upd y l (.lst ([o].map V.int))):=af N _;have e0:upd y l (.lst ([o].map V.int)) l=some (.lst ([o].map V.int)):=ab;have ee:upd y l (.lst [.int o])=upd y l (.lst ([o].map V.int)):=rfl;rw[ee];generalize upd y l (.lst ([o].map V.int))=H0 at s0 e0⊢;clear ee;refine⟨_,U,_,U,(by show -(2^62)<=n;lia),(by show n<2^62;lia),cM (λi M d=>aq y d/\∃(r:List Int)(a:Int)(S R L:Option V),d l=some (.lst (r.map V.int))/\r.length=i+1/\r.Pairwise (· < ·)/\(∀p∈r,p<=a)/\M=[some (.int c),some (.int n),some (.int a),some (.ref l),S,R,L]) ⟨s0,[o],o,_,_,_,e0,U,nL _ _,(λp j=>by rw[show p=o by simpa using j];exact Int.le_refl _),U⟩ (λi M d hi x=>?_) (λM d x=>?_)⟩
 .obtain⟨u,r,a,S,R,L,O,t,Z,z,rfl⟩:=x;have Gv:i<12:=by lia
  refine⟨λb X=>aq d X/\∃pt:Int,b=[some (.int c),some (.int n),some (.int a),some (.ref l),some (.int (0+(i:Int))),some (.int pt),L],?_,?_⟩
  .refine⟨_,U,_,_,U,U,⟨by decide,by decide⟩,_,U,_,_,U,U,_,U,_,_,U,U,.inl ⟨by decide,by decide⟩,_,_,U,U,_,_,U,U,.inr ⟨by show -(2^64)<2*(0+(i:Int))+5;lia,by show 2*(0+(i:Int))+5<2^64;lia⟩,(by show 5<=sizeLine;decide),λp j=>?_⟩;obtain⟨v,hv,a1⟩:=DN (k:=(0+(i:Int))%5) (Ba _ (by decide)) (Bf _ (by decide));exact⟨_,U,_,_,U,U,(by show(0:Int)<5;decide),p,_,_,_,U,U,SqL.of ab,hv,_,_,U,U,a1,af j _,_,U⟩
  rintro a7 X ⟨C,pt,rfl⟩;refine⟨λb W=>W=X/\b=[some (.int c),some (.int n),some (.int a),some (.ref l),some (.int (0+(i:Int))),some (.int pt),some (.int 1)],⟨U,U⟩,?_⟩;rintro a6 W ⟨rfl,rfl⟩;have t0:=Ba pt (show(50:Int)≠0 by decide);refine⟨λb T=>T=W/\∃m:Int,1<=m/\b=[some (.int c),some (.int n),some (.int a),some (.ref l),some (.int (0+(i:Int))),some (.int pt),some (.int m)],?_,?_⟩
  .refine⟨_,U,_,_,U,U,(by show(0:Int)<3;decide),U,_,U,?_⟩;exact bG (λ_=>⟨_,U,_,_,U,U,(by show(0:Int)<50;decide),_,_,U,U,U,_,by lia,U⟩) (λ_=>⟨U,1,Int.le_refl _,U⟩)
  rintro a5 T ⟨rfl,a0,Ec,rfl⟩;refine⟨λb H5=>H5=T/\∃m:Int,1<=m/\b=[some (.int c),some (.int n),some (.int a),some (.ref l),some (.int (0+(i:Int))),some (.int pt),some (.int m)],?_,?_⟩
  .refine⟨_,U,_,_,U,U,(by show(0:Int)<3;decide),U,_,U,?_⟩;refine bG (λ_=>?_) (λ_=>⟨U,a0,Ec,U⟩);have u0:=Ba (c / (0+(i:Int)+4)) (Int.ne_of_gt (p10 (55:Int).toNat));exact⟨_,U,_,U,_,_,U,U,_,_,U,U,⟨by show 0<0+(i:Int)+4;lia,by show 0+(i:Int)+4<1073741824;lia⟩,_,_,U,U,⟨by decide,by decide,by decide⟩,_,_,U,U,p10 _,_,_,U,U,U,_,by lia,U⟩
  rintro a4 H5 ⟨rfl,m,b0,rfl⟩;have G:=C _ _ O;refine⟨_,U,_,U,_,_,U,U,_,U,.inl ⟨U,_,SqL.of G⟩,_,U,l,_,_,U,U,G,ax (by rw[bx];lia),?_⟩;refine⟨(u.trans C).upd N,r++[a+m],a+m,_,_,_,?_,by simp[t],?_,λp j=>?_,U⟩
  .rw[ab,ij];rfl
  .rw[ny];refine⟨Z,nL _ _,λp j p' a2=>?_⟩;rw[show p'=a+m by simpa using a2];have:=z p j;lia
  .rcases gg.mp j with j|j
   .have:=z p j;lia
   .rw[show p=a+m by simpa using j];exact Int.le_refl _
 .obtain⟨u,r,a,S,R,L,O,t,Z,z,rfl⟩:=x;exact⟨_,U,q l r d u N O ⟨by lia,by lia,Z⟩ (λe=>absurd e g') (by lia)⟩
theorem Ed(F:Fun K "_law_word" "_law_word" Y71 f fd) (bl:Bl K mg Y)  : aL P w K mg base CX0 1 f fd ["cell","k"] (dY K Y):=by
 refine F.okA Z71 λy A d s H z Q E C h=>?_
 obtain⟨c,k,rfl,n,m,q⟩:=h
 refine⟨_,(aN (aJ (i:=2) Z71.nd U (Or.inl U) (ar jd (aE sE aS (ar aO (pv 0) ag) (λ_ _=>U)) (aE sE aS (ar aO (ar bI (pv 0) ag) ag) (λ_ _=>U))))
  (aj (aJ (i:=3) Z71.nd U (Or.inl U) (ar aO (ar bI (pv 0) ag) ag))
  (ai (av (ar jd (ar jd (cw wB (pv 2) de (df (pv 3))) (aE sE aS (pv 1) (λ_ _=>U))) (cw wB (pv 2) (df (pv 3)) de)))))),?_⟩
 have t:=Ba c (show(8:Int)≠0 by decide);have r:=Bf c (show(0:Int)<8 by decide);have p:=Ba (c / 8) (show(2:Int)≠0 by decide);have o:=Bf (c / 8) (show(0:Int)<2 by decide);have j:=Ba (c / 16) (show(3:Int)≠0 by decide);have g:=Bf (c / 16) (show(0:Int)<3 by decide);have a:∀x:Nat,(⟨#[x]⟩:Str).length=1:=λ_=>U
 refine⟨λb u=>u=H/\b=[some (.int c),some (.int k),some (.str ⟨#[113+(c%8).toNat,121+(c / 8%2).toNat]⟩),none],?_,?_⟩
 .refine⟨_,U,_,_,U,U,(by show(0:Int)<8;decide),_,_,_,U,U,(by decide),qx8 t r,_,U,_,_,U,U,⟨by decide,by decide⟩,_,_,U,U,(by show(0:Int)<2;decide),_,_,_,U,U,(by decide),yz2 p o,_,_,U,U,big (by rw[a,a];decide),U,U⟩
 rintro v D ⟨rfl,rfl⟩;refine⟨_,U,_,_,U,U,⟨by decide,by decide⟩,_,_,U,U,(by show(0:Int)<3;decide),?_⟩;have l:(⟨#[113+(c%8).toNat,121+(c / 8%2).toNat]⟩:Str).length=2:=rfl;refine⟨_,U,_,U,_,U,_,U,(by rw[l];decide),?_⟩;rw[Cf _ _ j g];refine⟨_,U,_,_,_,U,U,(by decide),yL Ci n m,_,_,U,U,big (by rw[a];simp[Str.length];lia),_,U,_,U,_,U,_,U,(by rw[l];decide),?_⟩;rw[Cg _ _ j g];have e:∀(A B:List Nat)(x:Nat),(⟨A.toArray⟩:Str)++(⟨#[x]⟩:Str)++(⟨B.toArray⟩:Str)=⟨(A++([x]++B)).toArray⟩:=λA B x=>by
  show Str.append (Str.append _ _) _=_;unfold Str.append;simp
 refine⟨_,_,U,U,big (by rw[len_app,a];simp[Str.length];lia),?_⟩;rw[e];exact q
theorem Ee(F:Fun K "_law_outs" "_law_outs" Y63 f fd) (bl:Bl K mg Y)  : aL P w K mg base CX0 1 f fd ["cell"] (ia K Y):=by
 refine F.okA Z63 λO A r s H R Q E W h=>?_
 obtain⟨c,rfl,q⟩:=h
 refine⟨_,(aj (aM (aF bq (ar aO (pv 0) ag) ag (aH _))
  (ai (av (aP (aa ag (aa ag (aa ag (aa ag (aa ag ae))))))))
  az)
  (aN (aJ (i:=1) Z63.nd U (Or.inr U) (ar bL ag (ar aO (ar bI (pv 0) ag) ag)))
  (aN (aM (aF bq (ar aO (ar bI (pv 0) ag) ag) ag (aH _))
  (ai (aJ (i:=1) Z63.nd U (Or.inr U) (ar bL ag (ar aO (ar bI (pv 0) ag) (ar gO ag ag)))))
  az)
  (aN (aJ (i:=2) Z63.nd U (Or.inr U) (ar fw (lr gP ag) (pv 1)))
  (aN (aM (aF bq (ar aO (ar bI (pv 0) ag) ag) ag (aH _))
  (ai (aJ (i:=2) Z63.nd U (Or.inr U) (ar cz (ar aO (pv 0) (ar fw ag (ar gO ag ag))) (ar gO ag ag))))
  az)
  (ai (av (cO (aZ U bl.range_ (aa ag ae)) (bw (N:=["k","gap","low"]) (fr:=[1,2]) (cl:=[("low",s.heap.objs.size+1+1),("gap",s.heap.objs.size+1)]) U U (by decide+kernel) (by decide+kernel) U (by decide+kernel) U U U (hQ.mpr ⟨U,hQ.mpr ⟨U,iQ _⟩⟩) U) U (λ_ _ _ _=>bz) (λ_ _ _ _=>(ar bL (pv 2) (ar fw (pv 0) (pv 1)))))))))))),?_⟩
 refine⟨_,U,_,_,U,U,(by show(0:Int)<3;decide),U,_,U,?_⟩;refine bG (λg=>?_) (λg=>?_)
 .exact⟨(by show 5<=sizeLine;decide),λl t=>q l [0,1,2,3,4] _ (af t _) ab ⟨0,1,2,3,4,U,by decide,by decide,by decide,by decide,λ_=>⟨U,U⟩⟩⟩
 have u:c%3≠1:=iF g;have T:=Ba (c / 3) (show(3:Int)≠0 by decide);have S:=Ba (c / 18) (Int.ne_of_gt (p10 (56:Int).toNat));refine⟨λa d=>d=H/\a=[some (.int c),some (.int (1+c / 3%3)),none],⟨_,U,_,_,U,U,⟨by decide,by decide⟩,_,_,U,U,(by show(0:Int)<3;decide),_,_,U,U,U,U⟩,?_⟩;rintro I z ⟨rfl,rfl⟩;refine⟨λa d=>d=z/\∃b:Int,1<=b/\a=[some (.int c),some (.int b),none],?_,?_⟩
 .refine⟨_,U,_,_,U,U,⟨by decide,by decide⟩,_,_,U,U,(by show(0:Int)<2;decide),U,_,U,?_⟩;exact bG (λ_=>⟨_,U,_,_,U,U,⟨by decide,by decide⟩,_,_,U,U,⟨by decide,by decide,by decide⟩,_,_,U,U,p10 _,_,_,U,U,U,_,by lia,U⟩) (λ_=>⟨U,_,by lia,U⟩)
 rintro G y ⟨rfl,b,M,rfl⟩;refine⟨λa d=>d=y/\∃lo:Int,a=[some (.int c),some (.int b),some (.int lo)],⟨_,U,_,U,_,_,U,U,.inl ⟨by decide,by decide⟩,U,_,U⟩,?_⟩;rintro C x ⟨rfl,J,rfl⟩;refine⟨λa d=>d=x/\∃lo:Int,a=[some (.int c),some (.int b),some (.int lo)],?_,?_⟩
 .refine⟨_,U,_,_,U,U,⟨by decide,by decide⟩,_,_,U,U,(by show(0:Int)<4;decide),U,_,U,?_⟩;exact bG (λ_=>⟨_,U,_,_,U,U,⟨by decide,by decide,by decide⟩,_,_,U,U,.inl ⟨by decide,by decide⟩,_,_,U,U,Int.mul_pos (by decide) (p10 _),_,_,U,U,⟨by decide,by decide,by decide⟩,_,_,U,U,U,_,U⟩) (λ_=>⟨U,_,U⟩)
 rintro B v ⟨rfl,lo,rfl⟩;refine⟨_,U,(by decide),(by decide),bY (λD i k d=>aq v d/\d D=some (.lst k)/\k=((List.range i).map λj:Nat=>lo+(0+(j:Int))*b).map V.int) (λD m=>⟨af m _,ab,U⟩) (λD i k d m hi o=>?_) (λD k d m o=>?_)⟩
 .obtain⟨n,p,rfl⟩:=o;have L:i<5:=hi;refine⟨_,U,_,U,_,U,_,_,U,U,.inl ⟨by show -(2^64)<0+(i:Int);lia,by show 0+(i:Int)<2^64;lia⟩,_,_,U,U,cP.mk hi p (ax (by simp;lia)) ⟨n.upd m,ab,?_⟩⟩;rw[jx,ij,ij];rfl
 .obtain⟨n,p,rfl⟩:=o;refine q D _ d n p ⟨_,_,_,_,_,U,?_,?_,?_,?_,λe=>absurd e u⟩
  .show lo+(0+0)*b<=lo+(0+1)*b;lia
  .show lo+(0+1)*b<=lo+(0+2)*b;lia
  .show lo+(0+2)*b<=lo+(0+3)*b;lia
  .show lo+(0+3)*b<=lo+(0+4)*b;lia
theorem Ef(F:Fun K "_law_way" "_law_way" Y69 f fd) (bl:Bl K mg Y)  : aL P w K mg base CX0 1 f fd ["cell","words"] (jl K Y):=by
 refine F.okA Z69 λn A m s H o Q E r h=>?_
 obtain⟨c,b,rfl,q⟩:=h
 refine⟨_,(aj (aM (cD (pv 1))
  (ai (av (aE aG (aP (aa aS (aa aS (aa aS (aa aS (aa aS ae)))))) (ar aO (pv 0) ag) (λ_ _=>U))))
  az)
  (ai (av (aE aG (aP (aa aS (aa aS (aa aS (aa aS (aa aS (aa aS ae))))))) (ar aO (pv 0) ag) (λ_ _=>U))))),?_⟩
 refine⟨_,U,_,U,?_⟩;cases b with
 |true =>
  refine eJ ⟨(by show 5<=sizeLine;decide),λp j=>?_⟩;obtain⟨d,g,i,a,l⟩:=DM (k:=c%5) (Ba _ (by decide)) (Bf _ (by decide));exact⟨_,U,_,_,U,U,(by show(0:Int)<5;decide),p,_,_,_,U,U,SqL.of ab,i,q d g _ (af j _) a λ_=>l⟩
 |false =>
  refine bR ⟨(by show 6<=sizeLine;decide),λp j=>?_⟩;obtain⟨d,g,i,a⟩:=DP (k:=c%6) (Ba _ (by decide)) (Bf _ (by decide));exact⟨_,U,_,_,U,U,(by show(0:Int)<6;decide),p,_,_,_,U,U,SqL.of ab,i,q d g _ (af j _) a λe=>by cases e⟩
theorem Eg(F:Fun K "_law_row" "_law_row" Y66 f fd) (bl:Bl K mg Y)  : aL P w K mg base CX0 1 f fd ["cell","points","outs"] (gB K Y):=by
 refine F.okA Z66 λc1 A a9 s H vs Q E hr h=>?_
 obtain⟨c,z,C,T,t,os,oc,rfl,O,M,h4,a3,a8,a6,q⟩:=h
 refine⟨_,(aj (aJ (i:=3) Z66.nd U (Or.inl U) (aP ae))
  (aN (bp PassesOwn.never U (aZ U bl.range_ (aa (au aw U bl.len_ boot_len (aa (pv 1) ae)) ae)) (aC (i:=4) Z66.nd U (Or.inl U))
  (aN (aJ (i:=5) Z66.nd U (Or.inl U) (ar cz (au aw U bl.len_ boot_len (aa (aE aG (pv 1) (pv 4) (λ_ _=>U)) ae)) ag))
  (aN (aJ (i:=6) Z66.nd U (Or.inl U) (ar aO (ar fw (pv 0) (aE aG (aP (aa ag (aa ag (aa ag (aa ag ae))))) (pv 4) (λ_ _=>U))) (aE aG (aP (aa ag (aa ag (aa ag (aa ag ae))))) (pv 4) (λ_ _=>U))))
  (ai (aM (aF bq (ar aO (pv 6) ag) ag (aH _))
  (ai (aV (eG PySem.F.plainAttrs_list PySem.F.slot_list_append PySem.F.type_list_append bg (pv 3) (aa (ar cz (ar pE ag (pv 5)) ag) ae))))
  (ai (aV (eG PySem.F.plainAttrs_list PySem.F.slot_list_append PySem.F.type_list_append bg (pv 3) (aa (ar aO (ar bI (pv 6) ag) (ar pE ag (pv 5))) ae)))))))))
  (ai (av (aX (aa (pv 3) (aa (aE aG (pv 2) (ar aO (ar aO (ar fw (pv 0) ag) ag) ag) (λ_ _=>U)) ae))))))),?_⟩
 have b4:T.length=t.length:=M.1;refine⟨(by show 0<=sizeLine;decide),λl hl=>?_⟩;have s0:aq H (upd H l (.lst ([].map V.int))):=af hl _;have e0:upd H l (.lst ([].map V.int)) l=some (.lst ([].map V.int)):=ab;have ee:upd H l (.lst [])=upd H l (.lst ([].map V.int)):=rfl;rw[ee];generalize upd H l (.lst ([].map V.int))=H0 at s0 e0⊢;clear ee;refine⟨λd B=>aq H B/\∃(a:List Int)(o n m:Option V),B l=some (.lst (a.map V.int))/\a.length=t.length/\(∀x∈a,0<=x)/\d=[some (.int c),some (.ref z),some (.ref C),some (.ref l),o,n,m],?_,?_⟩
 .refine⟨_,U,z,_,U,.inl (SqL.of (s0 _ _ O)),_,U,(by show -(2^62)<=((T.length:Nat):Int);lia),(by show((T.length:Nat):Int)<2^62;lia),cM (λi S B=>aq H B/\∃(a:List Int)(o n m:Option V),B l=some (.lst (a.map V.int))/\a.length=i/\(∀x∈a,0<=x)/\S=[some (.int c),some (.ref z),some (.ref C),some (.ref l),o,n,m]) ⟨s0,[],_,_,_,e0,U,(λx h=>by cases h),U⟩ (λi S B hi hh=>?_) (λS B hh=>?_)⟩
  .obtain⟨G,a,o,n,m,L,b,g,rfl⟩:=hh;have a7:i<t.length:=by lia
   have b6:i<4:=by lia
   obtain⟨j,N⟩:∃j,t[i]?=some j:=⟨_,GH a7⟩;obtain⟨r,er,e⟩:=M.2 i j N;have hp:=a3 j (GJ N);have h2:=hp.two;have c0:=hp.few;have a2:=G _ _ e;refine⟨λd H2=>H2=B/\d=[some (.int c),some (.ref z),some (.ref C),some (.ref l),some (.int (0+(i:Int))),some (.int ((j.length:Int)-1)),m],?_,?_⟩
   .refine⟨_,U,_,U,z,_,_,_,U,U,SqL.of (G _ _ O),og er,r,_,U,.inl (SqL.of a2),_,_,U,U,U,?_⟩;rw[bx];rfl
   rintro b3 H2 ⟨rfl,rfl⟩;have k4:(0:Int)<=0+(i:Int)/\0+(i:Int)<4:=by lia
   refine⟨λd R=>aq H2 R/\∃mx:Int,d=[some (.int c),some (.ref z),some (.ref C),some (.ref l),some (.int (0+(i:Int))),some (.int ((j.length:Int)-1)),some (.int mx)],?_,?_⟩
   .refine⟨_,U,(by show 4<=sizeLine;decide),λp a4=>?_⟩;have u1:=af a4 (.lst [.int 48271,.int 69621,.int 16807,.int 39373]);obtain⟨v,J,b5,a0⟩:∃v:Int,atI [V.int 48271,.int 69621,.int 16807,.int 39373] (0+(i:Int))=some (.int v)/\0<v/\v<2^64:=by
     generalize 0+(i:Int)=k at k4⊢;have:k=0\/k=1\/k=2\/k=3:=by lia
     rcases this with rfl|rfl|rfl|rfl
     .exact⟨_,U,by decide,by decide⟩
     .exact⟨_,U,by decide,by decide⟩
     .exact⟨_,U,by decide,by decide⟩
     .exact⟨_,U,by decide,by decide⟩
    obtain⟨v',a1,Eh⟩:∃v:Int,atI [V.int 1000003,.int 1000033,.int 1000037,.int 1000039] (0+(i:Int))=some (.int v)/\0<v:=by
     generalize 0+(i:Int)=k at k4⊢;have:k=0\/k=1\/k=2\/k=3:=by lia
     rcases this with rfl|rfl|rfl|rfl
     .exact⟨_,U,by decide⟩
     .exact⟨_,U,by decide⟩
     .exact⟨_,U,by decide⟩
     .exact⟨_,U,by decide⟩
    refine⟨_,U,p,_,_,_,U,U,SqL.of ab,J,_,_,U,U,.inr ⟨by lia,a0⟩,(by show 4<=sizeLine;decide),λp2 a5=>?_⟩;exact⟨_,U,p2,_,_,_,U,U,SqL.of ab,a1,_,_,U,U,Eh,u1.trans (af a5 _),_,U⟩
   rintro b1 R ⟨s3,mx,rfl⟩;have y:=s3 _ _ L;have u:(0:Int)<=(j.length:Int)-1/\(j.length:Int)-1<=1000000:=by lia
   have pw:(0:Int)<1*2^((j.length:Int)-1).toNat:=by
    rw[Int.one_mul];exact BP (by decide)
   have put:∀v:Int,0<=v->aq H (upd R l (.lst (a.map V.int++[.int v])))/\∃(D:List Int)(o n m:Option V),upd R l (.lst (a.map V.int++[.int v])) l=some (.lst (D.map V.int))/\D.length=i+1/\(∀x∈D,0<=x)/\([some (.int c),some (.ref z),some (.ref C),some (.ref l),some (.int (0+(i:Int))),some (.int ((j.length:Int)-1)),some (.int mx)]:St)=[some (.int c),some (.ref z),some (.ref C),some (.ref l),o,n,m]:=λv J =>
    ⟨(G.trans s3).upd hl,a++[v],_,_,_,by rw[ab,ij];rfl,by simp[b],(λx I=>by rcases gg.mp I with I|I;exact g x I;rw[hZ.mp I];exact J),U⟩
   refine⟨_,U,_,_,U,U,(by show(0:Int)<5;decide),U,_,U,?_⟩;refine bG (λ_=>?_) (λ_=>?_)
   .exact⟨_,U,.inl ⟨U,_,SqL.of y⟩,_,U,_,_,U,U,⟨u.1,u.2,by decide⟩,_,_,U,U,l,_,_,U,U,y,ax (by rw[bx];lia),put _ (Int.le_sub_one_of_lt pw)⟩
   .exact⟨_,U,.inl ⟨U,_,SqL.of y⟩,_,U,_,_,U,U,⟨by decide,by decide⟩,_,U,_,_,U,U,⟨u.1,u.2,by decide⟩,_,_,U,U,pw,l,_,_,U,U,y,ax (by rw[bx];lia),put _ (Ba _ (Int.ne_of_gt pw))⟩
  .obtain⟨G,a,o,n,m,L,b,g,rfl⟩:=hh;exact⟨G,a,o,n,m,L,by lia,g,U⟩
 rintro b0 H9 ⟨s9,a,o,n,m,L,b,g,rfl⟩;obtain⟨x0,x1,Z,X,W,rfl,_⟩:=a6;obtain⟨v,J,hm⟩:∃v:Int,atI ([x0,x1,Z,X,W].map V.int) (c*40014%1000081%5)=some (.int v)/\v∈[x0,x1,Z,X,W]:=by
  have h0:=Ba (c*40014%1000081) (show(5:Int)≠0 by decide);have h1:=Bf (c*40014%1000081) (show(0:Int)<5 by decide);generalize c*40014%1000081%5=k at h0 h1⊢;have:k=0\/k=1\/k=2\/k=3\/k=4:=by lia
  rcases this with rfl|rfl|rfl|rfl|rfl
  .exact⟨x0,U,by simp⟩
  .exact⟨x1,U,by simp⟩
  .exact⟨Z,U,by simp⟩
  .exact⟨X,U,by simp⟩
  .exact⟨W,U,by simp⟩
 refine⟨_,U,_,U,_,U,_,_,U,U,.inr ⟨by decide,by decide⟩,_,_,U,U,(by show(0:Int)<1000081;decide),_,_,U,U,(by show(0:Int)<5;decide),C,_,_,_,U,U,SqL.of (s9 _ _ a8),J,bu,λr e=>?_⟩;exact q r l a v _ (s9.trans (af e _)) (s9.free e) hl ab (cG L e) b g hm
theorem Ei(F:Fun K "_law_spans" "_law_spans" Y67 f fd) (bl:Bl K mg Y)  : aL P w K mg base CX0 1 f fd ["points","bits"] (gC K Y):=by
 refine F.okA Z67 λb3 A b0 s H vs Q E hr h=>?_
 obtain⟨l,j,m,rfl,el,L,a6,q⟩:=h
 refine⟨_,(aj (aJ (i:=2) Z67.nd U (Or.inl U) (aP ae))
  (aj (bp PassesOwn.never U (aZ U bl.range_ (aa (ar cz (au aw U bl.len_ boot_len (aa (pv 0) ae)) ag) ae)) (aC (i:=3) Z67.nd U (Or.inl U))
  (ai (aM (aF bq (ar sf (ar se (pv 1) (pv 3)) ag) ag (aH _))
  (ai (aM (PW.pt (ja (aF mh (au aw U bl.len_ boot_len (aa (pv 2) ae)) ag (aH _)) (gj (aF bq (aE bA (aE aG (pv 2) (lr gP ag) (λ_ _=>U)) ag (λ_ _=>U)) (ar cz (aE aG (pv 0) (pv 3) (λ_ _=>U)) ag) (aH _)))))
  (ai (mf (aX (aa (aE bA (aE aG (pv 2) (lr gP ag) (λ_ _=>U)) ag (λ_ _=>U)) (aa (ar cz (aE aG (pv 0) (ar bL (pv 3) ag) (λ_ _=>U)) ag) ae))) (ma (pv 2) (lr gP ag) set_list)))
  (ai (aV (eG PySem.F.plainAttrs_list PySem.F.slot_list_append PySem.F.type_list_append bg (pv 2) (aa (aX (aa (aE aG (pv 0) (pv 3) (λ_ _=>U)) (aa (ar cz (aE aG (pv 0) (ar bL (pv 3) ag) (λ_ _=>U)) ag) ae))) ae))))))
  az)))
  (ai (av (pv 2))))),?_⟩
 have h2:=L.two;have b1:=L.few;refine⟨(by show 0<=sizeLine;decide),λb B=>?_⟩;have s0:aq H (upd H b (.lst [])):=af B _;have e0:upd H b (.lst []) b=some (.lst []):=ab;generalize upd H b (.lst [])=H0 at s0 e0⊢;have C:(j.map V.int).length=j.length:=bx _;refine⟨_,U,l,_,U,.inl (SqL.of (s0 _ _ el)),_,_,U,U,_,U,(by rw[C];lia),(by rw[C];lia),cM (λi σ k=>aq H k/\∃(d:List V)(u:Prs)(c3:Option V),k b=some (.lst d)/\PL k d u/\d.length<=i/\(∀p∈u,loP j<=p.1/\p.2<=hiP j)/\SpG j m i u/\σ=[some (.ref l),some (.int m),some (.ref b),c3]) ⟨s0,[],[],_,e0,.nil,w5 _,(λp h=>by cases h),SpG.nil,U⟩ (λi σ k hi hh=>?_) (λσ k hh=>?_)⟩
 .obtain⟨N,d,u,c3,v,O,W,e,o,rfl⟩:=hh;rw[C]at hi;have a8:i+1<j.length:=by lia
  obtain⟨G,g⟩:∃x,j[i]?=some x:=⟨_,GH (by lia)⟩;obtain⟨y,n⟩:∃x,j[i+1]?=some x:=⟨_,GH a8⟩;have a4:=L.lo g;have X:=L.hi n;have T:atI (j.map V.int) (0+(i:Int))=some (.int G):=og (get_map g);have S:atI (j.map V.int) (0+(i:Int)+1)=some (.int y):=by
   have:=og (get_map n);rw[show(0:Int)+((i+1:Nat):Int)=0+(i:Int)+1 by lia]at this;exact this
  have D:=N _ _ el;refine⟨_,U,_,U,_,_,U,U,(by show(0:Int)<=0+(i:Int);lia),_,_,U,U,U,_,U,?_⟩;have Z:=xI a6 i;refine bG (λg0=>?_) (λg0=>⟨N,d,u,_,v,O,by lia,e,o.skip L g n (by rw[←Z];exact As.mpr g0),U⟩);have gb:bQ m i=true:=by rw[←Z];exact g0
  refine⟨_,U,b,_,U,.inl (SqL.of v),_,_,U,U,_,U,?_⟩;refine bG (λg1=>?_) (λg1=>bR ?e1);have a2:(0:Int)<((d.length:Nat):Int):=iZ g1;obtain⟨M,r,a3,p,ey,eq,a9,er⟩:=O.last (by intro z;rw[z]at a2;simp at a2);have il:atI d (-1)=some (.ref r):=by rw[ey];exact jT _ _
  refine⟨_,U,_,U,b,_,_,_,U,U,SqL.of v,il,r,_,_,_,U,U,SqT.of er,z1 _ _,_,U,_,U,l,_,_,_,U,U,SqL.of D,T,_,_,U,U,U,_,U,?_⟩;refine bG (λg2=>?_) (λg2=>?e2);have a7:p.2=G-1:=by have z:=of_decide_eq_true g2;injection z
  subst ey eq;refine⟨_,U,_,U,b,_,_,_,U,U,SqL.of v,jT _ _,r,_,_,_,U,U,SqT.of er,z0 _ _,_,U,_,U,_,_,U,U,l,_,_,_,U,U,SqL.of D,S,_,_,U,U,bu,λt J=>?_⟩;have I:upd k t (.tup [.int p.1,.int (y-1)]) b=some (.lst (M++[.ref r])):=cG v J;refine⟨_,U,_,U,b,_,_,_,U,U,I,mV (by simp),?_⟩;rw[rf];have st:cb k (upd (upd k t (.tup [.int p.1,.int (y-1)])) b (.lst (M++[.ref t]))):=(iE J).trans (aQ I);refine⟨(N.trans (af J _)).upd B,M++[.ref t],a3++[(p.1,y-1)],_,ab,(a9.mono st).snoc (aQ I _ _ ab),?_,λR a=>?_,o.join L g n gb a7,U⟩
  .rw[cK,gI]at W⊢;lia
  .rcases gg.mp a with a|a
   .exact e R (jD _ a)
   .rw[show R=(p.1,y-1) by simpa using a];exact⟨(e p (by simp)).1,X⟩
  all_goals
   have a5:∀p∈u,p.2≠G-1:=by
    first
    |exact λp_ c z=>(gg.mp (show p_∈_++[p] by rw[←eq];exact c)).elim (λc=>by rw[eq]at o;have h1:=(ny.mp o.pw).2.2 p_ c p (hZ.mpr U);have h2:=o.le p (iR _ (hZ.mpr U));have h3:=o.bel G g p (iR _ (hZ.mpr U));lia) λc=>by rw[hZ.mp c]at z;exact g2 (decide_eq_true (by rw[z]))
    |exact λp_ c=>absurd (show 0<d.length by rw[O.length];exact List.length_pos_of_mem c) λz=>g1 (decide_eq_true (by lia))
   refine⟨_,U,.inl ⟨U,_,SqL.of v⟩,_,U,_,U,l,_,_,_,U,U,SqL.of D,T,_,U,_,U,_,_,U,U,l,_,_,_,U,U,SqL.of D,S,_,_,U,U,bu,λt J=>?_⟩;have I:upd k t (.tup [.int G,.int (y-1)]) b=some (.lst d):=cG v J;refine⟨b,_,_,U,U,I,ax (by lia),?_⟩;have st:cb k (upd (upd k t (.tup [.int G,.int (y-1)])) b (.lst (d++[.ref t]))):=(iE J).trans (aQ I);refine⟨(N.trans (af J _)).upd B,d++[.ref t],u++[(G,y-1)],_,ab,(O.mono st).snoc (aQ I _ _ ab),by rw[cK,gI];lia,λR a=>?_,o.put L g n gb a5,U⟩;rcases gg.mp a with a|a
   .exact e R a
   .rw[show R=(G,y-1) by simpa using a];exact⟨a4,X⟩
 .obtain⟨N,d,u,c3,v,O,W,e,o,rfl⟩:=hh;rw[show(((j.map V.int).length:Int)-1).toNat=j.length-1 by rw[C];lia]at o;exact⟨_,U,q b u k N ⟨B,d,v,O⟩ e o⟩
theorem Ej(F:Fun K "_law_places" "_law_places" Y64 f fd) (bl:Bl K mg Y)  : aL P w K mg base CX0 1 f fd ["points"] (fF K Y):=by
 refine F.okA Z64 λd6 A d0 s H vs Q E hr h=>?_
 obtain⟨cl,xs,m,rfl,a5,a4,hok,h4,q⟩:=h
 refine⟨_,(aj (aJ (i:=1) Z64.nd U (Or.inl U) (aP (aa (aP ae) ae)))
  (aj (bp PassesOwn.never U (aW (pv 0)) (aC (i:=2) Z64.nd U (Or.inl U))
  (aj (aJ (i:=3) Z64.nd U (Or.inl U) (aP ae))
  (aN (bp PassesOwn.never U (aW (pv 1)) (aC (i:=4) Z64.nd U (Or.inl U))
  (ai (bp PassesOwn.never U (aZ U bl.range_ (aa (ar cz (au aw U bl.len_ boot_len (aa (pv 2) ae)) ag) ae)) (aC (i:=5) Z64.nd U (Or.inl U))
  (ai (aV (eG PySem.F.plainAttrs_list PySem.F.slot_list_append PySem.F.type_list_append bg (pv 3) (aa (ar dJ (pv 4) (aP (aa (pv 5) ae))) ae)))))))
  (ai (aJ (i:=1) Z64.nd U (Or.inl U) (pv 3))))))
  (ai (av (pv 1))))),?_⟩
 have b5:xs.length=m.length:=a4.1;refine⟨(by show 0<=sizeLine;decide),λn c6=>?_⟩;have s0:=af c6 (.lst (vN []));have e0:upd H n (.lst (vN [])) n=some (.lst (vN [])):=ab;have ee:upd H n (.lst [])=upd H n (.lst (vN [])):=rfl;rw[ee];clear ee;generalize upd H n (.lst (vN []))=H0 at s0 e0⊢;refine⟨(by show 1<=sizeLine;decide),λp0 a3=>?_⟩;have s1:=s0.trans (af a3 (.lst [.ref n]));have e1:upd H0 p0 (.lst [.ref n]) p0=some (.lst [.ref n]):=ab;have a8:=af a3 (.lst [.ref n]) _ _ e0;generalize upd H0 p0 (.lst [.ref n])=H1 at s1 e1 a8⊢;have b1:PtL NT H1 [.ref n] [[]]:=⟨U,λj p e=>by
  match j,e with
  |0,e=>cases e;exact⟨n,U,trivial,a8⟩
  |j+1,e=>simp at e⟩
 refine⟨_,U,cl,U,⟨_,SqL.of (s1 _ _ a5)⟩,bF (xs:=xs) (λi g o=>aq H o/\∃(G:Addr)(D:List V)(c2 c3 I t:Option V),o G=some (.lst D)/\PtL NT o D (bC ((gls m).take i))/\D.length<=12^i/\g=[some (.ref cl),some (.ref G),c2,c3,I,t]) ⟨s1,p0,_,_,_,_,_,e1,b1,by show 1<=12^0;decide,U⟩ (λi g o _ h=>SqL.of (h.1 _ _ a5)) (λi y g o ey hh=>?_) (λg o hh=>?_)⟩
 .obtain⟨sm,G,D,c2,c3,I,t,J,l,a2,rfl⟩:=hh;obtain⟨lc,c,rfl,ec,g1⟩:=aD.get a4 ey;have g1:=sm _ _ g1;have hi:i<m.length:=(GI.mp ec).1;have ok:=hok c (GJ ec);have k6:c.length-1<=12:=by have:=ok.few;lia
  have d5:=ok.two;have Gw:=ok.few;have Ek:12^i<=1728:=by
   have:i<=3:=by lia
   exact yc (Nat.pow_le_pow_right (by decide) this) (by decide)
  refine⟨(by show 0<=sizeLine;decide),λM hM=>?_⟩;have u1:=af hM (.lst []);have eM:upd o M (.lst []) M=some (.lst []):=ab;generalize upd o M (.lst [])=H2 at u1 eM⊢;have Ct:D.length=(bC ((gls m).take i)).length:=l.1;refine⟨λb0 u=>aq o u/\∃(d:List V)(I t:Option V),u M=some (.lst d)/\PtL (· ≠ M) u d (grow (bC ((gls m).take i)) (c.length-1))/\b0=[some (.ref cl),some (.ref G),some (.ref lc),some (.ref M),I,t],?_,?_⟩
  .refine⟨_,U,G,U,⟨_,SqL.of (u1 _ _ J)⟩,bF (xs:=D) (λa g u=>aq o u/\∃(d:List V)(I t:Option V),u M=some (.lst d)/\PtL (· ≠ M) u d (grow ((bC ((gls m).take i)).take a) (c.length-1))/\g=[some (.ref cl),some (.ref G),some (.ref lc),some (.ref M),I,t]) ⟨u1,[],_,_,eM,aD.nil,U⟩ (λa g u _ h=>SqL.of (h.1 _ _ J)) (λa y g u T h3=>?_) (λg u h3=>?_)⟩
   .obtain⟨N,d,I,t,B,O,rfl⟩:=h3;obtain⟨r,p,rfl,ep,_,d2⟩:=aD.get (l.same N) T;have ha:a<D.length:=(GI.mp T).1;refine⟨_,U,lc,_,U,.inl (SqL.of (N _ _ g1)),_,_,U,U,_,U,(by rw[bx];lia),(by rw[bx];lia),cM (λb g C=>aq o C/\∃(d:List V)(t:Option V),C M=some (.lst d)/\PtL (· ≠ M) C d (grow ((bC ((gls m).take i)).take a) (c.length-1)++(List.range b).map λk=>p++[k])/\g=[some (.ref cl),some (.ref G),some (.ref lc),some (.ref M),some (.ref r),t]) ⟨N,d,_,B,by simpa using O,U⟩ (λb g C hb S=>?_) (λg C S=>?_)⟩
    .obtain⟨t4,v,a9,L,x,rfl⟩:=S;have b6:C r=some (.lst (vN p)):=by
      obtain⟨r',p',c7,a6,_,c0⟩:=aD.get l T;cases c7;rw[ep]at a6;cases a6;exact t4 _ _ c0
     have d4:b<(c.length-1):=by rw[bx]at hb;lia
     have b3:v.length<=30000:=by
      have h1:=x.1;rw[cK,rB,ip,bx,jQ]at h1;have h2:min a (bC ((gls m).take i)).length*(c.length-1)<=1728*12:=zo (by lia) k6;lia
     have d3:p.length<=4:=by
      have:=(hV.iff.mp (GJ ep)).1;rw[ip]at this;unfold gls at this;rw[bx]at this;lia
     refine⟨_,U,.inl ⟨U,_,SqL.of L⟩,_,U,_,U,(by show 1<=sizeLine;decide),λX c1=>?_⟩;have Z:=af c1 (.lst (vN [b]));have f1:upd C X (.lst (vN [b])) X=some (.lst (vN [b])):=ab;have ee:upd C X (.lst [V.int (0+(b:Int))])=upd C X (.lst (vN [b])):=by rw[BO];rfl
     rw[ee];clear ee;generalize upd C X (.lst (vN [b]))=H5 at Z f1⊢;refine⟨r,X,_,_,U,U,Z _ _ b6,f1,yj (ax (by rw[gy,gy];simp;lia)),λW R=>?_⟩;rw[xJ];have v2:=af R (.lst (vN (p++[b])));have f2:upd H5 W (.lst (vN (p++[b]))) W=some (.lst (vN (p++[b]))):=ab;have a7:=Z _ _ L;have nk:W≠M:=λz=>by rw[z,a7]at R;cases R
     generalize upd H5 W (.lst (vN (p++[b])))=H6 at v2 f2⊢;have c8:=v2 _ _ a7;refine⟨M,_,_,U,U,c8,(zl b3 (by decide)),?_⟩;have b4:PtL (· ≠ M) H6 (v++[.ref W]) (grow ((bC ((gls m).take i)).take a) (c.length-1)++((List.range b).map λk=>p++[k])++[p++[b]]):=aD.snoc (x.same (Z.trans v2)) ⟨nk,f2⟩;refine⟨((t4.trans Z).trans v2).upd hM,v++[.ref W],_,ab,?_,U⟩;rw[jx,ij,List.map_singleton,←pA];exact b4.updN (λz=>z U)
    .obtain⟨t4,v,a9,L,x,rfl⟩:=S;refine⟨t4,v,_,_,L,?_,U⟩;rw[vq ep];rw[show(((c.map V.int).length:Int)-1).toNat=c.length-1 by rw[bx];lia]at x;exact x
   .obtain⟨N,d,I,t,B,O,rfl⟩:=h3;rw[Ct,iv]at O;exact⟨N,d,_,_,B,O,U⟩
  rintro d1 u ⟨N,d,e2,a9,B,O,rfl⟩;have el:(gls m)[i]?=some (c.length-1):=by unfold gls;rw[fo,ec];rfl
  have a1:=O.1;rw[rB]at a1;refine⟨_,U,sm.trans N,M,d,_,_,_,_,B,?_,?_,U⟩
  .rw[take_snoc el,jj];exact O.any
  .rw[a1,←Ct,zr];exact zo a2 k6
 .obtain⟨sm,G,D,c2,c3,I,t,J,l,a2,rfl⟩:=hh;have:(gls m).length=m.length:=by unfold gls;rw[bx]
  rw[b5,←this,iv]at l;exact⟨_,U,q G D o sm J l⟩
theorem El(F:Fun K "_law_fitting" "_law_fitting" Y56 f fd) (bl:Bl K mg Y)  : aL P w K mg base CX0 1 f fd ["rows","at"] (eW K Y):=by
 refine F.okA Z56 λa9 A a4 s H vs Q E hr h=>?_
 obtain⟨C,D,I,c,a,rfl,z,hR,a8,B,a7,hb,q⟩:=h
 refine⟨_,(aj (aJ (i:=2) Z56.nd U (Or.inl U) (aP ae))
  (aj (bp PassesOwn.never U (aZ U bl.range_ (aa (au aw U bl.len_ boot_len (aa (pv 0) ae)) ae)) (aC (i:=3) Z56.nd U (Or.inl U))
  (aj (aJ (i:=4) Z56.nd U (Or.inl U) fK)
  (aj (bp PassesOwn.never U (aZ U bl.range_ (aa (au aw U bl.len_ boot_len (aa (pv 1) ae)) ae)) (aC (i:=5) Z56.nd U (Or.inl U))
  (ai (aM (aF bq (ar sf (ar se (aE aG (aE bA (aE aG (pv 0) (pv 3) (λ_ _=>U)) ag (λ_ _=>U)) (pv 5) (λ_ _=>U)) (aE aG (pv 1) (pv 5) (λ_ _=>U))) ag) ag (aH _))
  (ai (aJ (i:=4) Z56.nd U (Or.inl U) fK))
  az)))
  (ai (aM (cD (pv 4))
  (ai (aV (eG PySem.F.plainAttrs_list PySem.F.slot_list_append PySem.F.type_list_append bg (pv 2) (aa (pv 3) ae))))
  az)))))
  (ai (av (pv 2))))),?_⟩
 have T:I.length=c.length:=hR.1;refine⟨(by show 0<=sizeLine;decide),λe t=>?_⟩;have G:=af t (.lst (vN []));have e0:upd H e (.lst (vN [])) e=some (.lst (vN [])):=ab;have ee:upd H e (.lst [])=upd H e (.lst (vN [])):=rfl;rw[ee];clear ee;generalize upd H e (.lst (vN []))=H0 at G e0⊢;refine⟨_,U,C,_,U,.inl (SqL.of (G _ _ z)),_,U,(by show -(2^62)<=((I.length:Nat):Int);lia),(by show((I.length:Nat):Int)<2^62;lia),cM (λi o v=>aq H v/\∃(R O x:Option V),v e=some (.lst (vN ((List.range i).filter λk=>m7 a (c.getD k ([],0)))))/\o=[some (.ref C),some (.ref D),some (.ref e),R,O,x]) ⟨G,_,_,_,e0,U⟩ (λi o v hi J=>?_) (λo v J=>?_)⟩
 .obtain⟨l,R,O,x,d,rfl⟩:=J;have Z:i<c.length:=by lia
  obtain⟨b,N⟩:∃b,c[i]?=some b:=⟨_,GH Z⟩;have a0:c.getD i ([],0)=b:=by rw[dE,N];rfl
  obtain⟨r,er,a3,g1,g2⟩:=hR.2 i b N;obtain⟨a6,a1⟩:=hb b (GJ N);have a5:((List.range i).filter λk=>m7 a (c.getD k ([],0))).length<=i:=yc (nt _ _) (by rw[jQ];exact w5 _);have n:((List.range (i+1)).filter λk=>m7 a (c.getD k ([],0)))=((List.range i).filter λk=>m7 a (c.getD k ([],0)))++(if m7 a b=true then[i] else[]):=by
   rw[jx,mv,List.filter_cons,a0];rfl
  refine⟨_,U,D,_,U,.inl (SqL.of (l _ _ B)),_,U,(by rw[gy];lia),(by rw[gy];lia),cM (λj o S=>S=v/\∃x:Option V,o=[some (.ref C),some (.ref D),some (.ref e),some (.int (0+(i:Int))),some (.bl ((List.range j).all λj=>bQ (b.1.getD j 0) (a.getD j 0))),x]) ⟨U,_,U⟩ (λj o S hj L=>?_) (λo S L=>?_)⟩
  .obtain⟨rfl,a2,rfl⟩:=L;rw[gy]at hj;have X:j<a.length:=by lia
   obtain⟨m,M⟩:∃m,b.1[j]?=some m:=⟨_,GH (by lia)⟩;obtain⟨p,ep⟩:∃p,a[j]?=some p:=⟨_,GH X⟩;have W:=a1 m (GJ M);have e1:b.1.getD j 0=m:=by rw[dE,M];rfl
   have e2:a.getD j 0=p:=by rw[dE,ep];rfl
   have u:=m8 (λj=>bQ (b.1.getD j 0) (a.getD j 0)) j;rw[e1,e2]at u;refine⟨_,U,_,U,C,_,_,_,U,U,SqL.of (l _ _ z),og er,r,_,_,_,U,U,SqT.of (l _ _ g1),U,_,U,a3,_,_,_,U,U,SqL.of (l _ _ g2),og (get_map M),_,U,_,U,D,_,_,_,U,U,SqL.of (l _ _ B),og (zT ep),_,_,U,U,(by show(0:Int)<=(p:Int);lia),_,_,U,U,U,_,U,?_⟩;have y:=yV W p;refine bG (λg=>?_) (λg=>?_)
   .refine⟨U,some (.int (0+(j:Int))),?_⟩;have:bQ m p=false:=by rw[y]at g;simpa using g
    rw[u,this,Bool.and_false];rfl
   .refine⟨U,some (.int (0+(j:Int))),?_⟩;have:bQ m p=true:=by rw[y]at g;simpa using g
    rw[u,this,Bool.and_true];rfl
  .obtain⟨rfl,a2,rfl⟩:=L;have hg:((List.range (((vN a).length:Nat):Int).toNat).all λj=>bQ (b.1.getD j 0) (a.getD j 0))=m7 a b:=by rw[gy,Bt];rfl
   rw[hg];refine⟨_,U,_,U,?_⟩;refine bG (λg=>?_) (λg=>?_)
   .rw[if_pos g]at n;refine⟨_,U,.inl ⟨U,_,SqL.of d⟩,_,U,e,_,_,U,U,d,ax (by rw[gy];lia),?_⟩;refine⟨l.upd t,_,_,_,?_,U⟩;rw[ab,n,←xJ,BO];rfl
   .rw[if_neg g,jt]at n;exact⟨l,_,_,_,by rw[n];exact d,U⟩
 .obtain⟨l,R,O,x,d,rfl⟩:=J;rw[Bt,T]at d;exact⟨_,U,q e v l t d⟩
theorem Em(F:Fun K "_law_due" "_law_due" Y55 f fd) (bl:Bl K mg Y)  : aL P w K mg base CX0 1 f fd ["codes","way","outs"] (jm K Y):=by
 refine F.okA Z55 λS A B s H vs Q E hr h=>?_
 obtain⟨d,C,Z,i,x,os,oc,rfl,a,k,y,u,⟨v,X,W,T,o,rfl,R,O,N,M,_⟩,q⟩:=h
 refine⟨_,(aj (aM (aF bq (au aw U bl.len_ boot_len (aa (pv 0) ae)) ag (aH _))
  (ai (av (aX (aa aS (aa ag ae)))))
  az)
  (aj (aM (aF bq (pv 1) aS (aH _))
  (ai (av (aX (aa aS (aa (au (fC U) U bl.min_ PyProof.Rows.boot_min (aa (pv 0) ae)) ae)))))
  az)
  (aj (aM (aF bq (pv 1) aS (aH _))
  (ai (av (aX (aa aS (aa (au (fD U) U bl.max_ PyProof.Rows.boot_max (aa (pv 0) ae)) ae)))))
  az)
  (aj (aM (aF bq (pv 1) aS (aH _))
  (ai (av (aX (aa aS (aa (au (oC U) U bl.max_ PyProof.Rows.boot_max (aa (aE aG (pv 2) ag (λ_ _=>U)) (aa (au (kB U) U bl.min_ PyProof.Rows.boot_min (aa (aE aG (pv 2) ag (λ_ _=>U)) (aa (au (fA U) U bl.sum_ PyProof.Rows.boot_sum (aa (pv 0) ae)) ae))) ae))) ae)))))
  az)
  (aj (aM (PW.pt (ja (aF bq (pv 1) aS (aH _)) (gj (aF mh (au aw U bl.len_ boot_len (aa (pv 0) ae)) ag (aH _)))))
  (ai (av (aX (aa aS (aa ag ae)))))
  az)
  (aj (aM (PW.pt (ja (aF bq (pv 1) aS (aH _)) (gj (aF qz (au (fC U) U bl.min_ PyProof.Rows.boot_min (aa (pv 0) ae)) (au (fD U) U bl.max_ PyProof.Rows.boot_max (aa (pv 0) ae)) (aH _)))))
  (ai (av (aX (aa aS (aa ag ae)))))
  az)
  (ai (av (aX (aa aS (aa (aE aG (pv 0) ag (λ_ _=>U)) ae))))))))))),?_⟩
 have c:(x.map V.int).length=x.length:=bx _;refine⟨_,U,d,_,U,.inl (SqL.of a),U,_,U,?_⟩
 match x,a,k,q,c with
 | [],a,k,q,c =>
  exact bG (λ_=>⟨bu,λt b=>q t _ (af b _) (by rw[ab];rfl)⟩) (λg=>absurd (by exact decide_eq_true U) g)
 |n :: ns,a,k,q,c =>
 refine bG (λg=>absurd (of_decide_eq_true g) (by rw[c,ik];intro z;injection z with z;lia)) (λ_=>?_)
 match i,y with
 |0,e =>
  cases e;refine⟨_,U,U,_,U,cm (by intro e;injection e with e;exact absurd e (by decide)) ?_⟩;refine⟨_,U,U,_,U,cm (by intro e;injection e with e;exact absurd e (by decide)) ?_⟩;refine⟨_,U,U,_,U,cm (by intro e;injection e with e;exact absurd e (by decide)) ?_⟩;refine⟨_,U,U,_,U,cm (by intro e;injection e with e;exact absurd e (by decide)) (bR ?_)⟩;refine⟨_,U,U,_,U,cm (by intro e;injection e with e;exact absurd e (by decide)) (bR ?_)⟩;exact⟨_,U,d,_,_,_,U,U,SqL.of a,at0 n ns,bu,λt b=>q t _ (af b _) (by rw[ab];show _=some (HO.tup (tp (xi (n :: ns))));rfl)⟩
 |1,e =>
  cases e;refine⟨_,U,U,_,U,cm (by intro e;injection e with e;exact absurd e (by decide)) ?_⟩;refine⟨_,U,U,_,U,cm (by intro e;injection e with e;exact absurd e (by decide)) ?_⟩;refine⟨_,U,U,_,U,cm (by intro e;injection e with e;exact absurd e (by decide)) ?_⟩;refine⟨_,U,U,_,U,fm U ?_⟩;refine⟨_,U,d,_,U,.inl (SqL.of a),_,_,U,U,_,U,?_⟩;refine bG (λg=>?_) (λg=>?_)
  .have j:(n :: ns).length≠1:=λz=>by rw[c,z]at g;exact absurd (of_decide_eq_true g) (by decide)
   refine⟨bu,λt b=>q t _ (af b _) (by rw[ab];show _=some (HO.tup (tp (ka (n :: ns))));unfold ka;rw[if_neg j];rfl)⟩
  .have j:(n :: ns).length=1:=by
    have:¬ ((1:Int)<((((n :: ns).map V.int).length:Nat):Int)):=λz=>g (decide_eq_true z)
    rw[c]at this;rw[ik]at this⊢;lia
   refine⟨_,U,U,_,U,cm (by intro e;injection e with e;exact absurd e (by decide)) (bR ?_)⟩;exact⟨_,U,d,_,_,_,U,U,SqL.of a,at0 n ns,bu,λt b=>q t _ (af b _) (by rw[ab];show _=some (HO.tup (tp (ka (n :: ns))));unfold ka;rw[if_pos j];rfl)⟩
 |2,e =>
  cases e;refine⟨_,U,U,_,U,cm (by intro e;injection e with e;exact absurd e (by decide)) ?_⟩;refine⟨_,U,U,_,U,cm (by intro e;injection e with e;exact absurd e (by decide)) ?_⟩;refine⟨_,U,U,_,U,cm (by intro e;injection e with e;exact absurd e (by decide)) ?_⟩;refine⟨_,U,U,_,U,cm (by intro e;injection e with e;exact absurd e (by decide)) (bR ?_)⟩;refine⟨_,U,U,_,U,fm U ?_⟩;refine⟨_,U,d,_,U,SqL.of a,zd _,λm r p=>⟨_,U,d,_,U,SqL.of a,zd _,λm' I G=>⟨U,_,U,?_⟩⟩⟩;have L:=mW r p;have J:=mX I G;subst L J;refine bG (λg=>?_) (λg=>?_)
  .have j:least (n :: ns)≠great (n :: ns):=λz=>by rw[z]at g;simp at g
   exact⟨bu,λt b=>q t _ (af b _) (by rw[ab];show _=some (HO.tup (tp (j6 (n :: ns))));unfold j6;rw[if_neg j];rfl)⟩
  .have j:least (n :: ns)=great (n :: ns):=by
    by_cases z:least (n :: ns)=great (n :: ns)
    .exact z
    .exfalso;exact g (by simp;exact z)
   have D:least (n :: ns)=n:=by
    have a1:=eS.2 n (fb (l:=ns));have a2:=fP.2 n (fb (l:=ns));lia
   exact⟨_,U,d,_,_,_,U,U,SqL.of a,at0 n ns,bu,λt b=>q t _ (af b _) (by rw[ab];show _=some (HO.tup (tp (j6 (n :: ns))));unfold j6;rw[if_pos j,D];rfl)⟩
 |3,e =>
  cases e;refine⟨_,U,U,_,U,fm U ?_⟩;refine⟨_,U,d,_,U,SqL.of a,zd _,λm r p=>⟨bu,λt b=>q t _ (af b _) ?_⟩⟩;rw[ab,mW r p];rfl
 |4,e =>
  cases e;refine⟨_,U,U,_,U,cm (by intro e;injection e with e;exact absurd e (by decide)) ?_⟩;refine⟨_,U,U,_,U,fm U ?_⟩;refine⟨_,U,d,_,U,SqL.of a,zd _,λm r p=>⟨bu,λt b=>q t _ (af b _) ?_⟩⟩;rw[ab,mX r p];rfl
 |5,e =>
  cases e;refine⟨_,U,U,_,U,cm (by intro e;injection e with e;exact absurd e (by decide)) ?_⟩;refine⟨_,U,U,_,U,cm (by intro e;injection e with e;exact absurd e (by decide)) ?_⟩;refine⟨_,U,U,_,U,fm U ?_⟩;refine⟨_,U,C,_,_,_,U,U,SqL.of u,U,_,U,C,_,_,_,U,U,SqL.of u,U,_,U,d,_,U,SqL.of a,_,_,U,_,_,U,?_⟩;refine⟨bu,λt b=>q t _ (af b _) ?_⟩;rw[ab];have e:near v o (n :: ns).sum=if (if (n :: ns).sum<o then(n :: ns).sum else o)>v then(if (n :: ns).sum<o then(n :: ns).sum else o)else v:=by
   unfold near;generalize (n :: ns).sum=t;split <;> split <;> split <;> first|rfl|lia|(split <;> lia)
  show _=some (HO.tup (tp (say (near v o (n :: ns).sum))));rw[e];rfl
 |i+6,e=>simp[six]at e
theorem En(F:Fun K "_law_whole" "_law_whole" Y70 f fd) (bl:Bl K mg Y)  : aL P w K mg base CX0 1 f fd ["found"] (gD K Y):=by
 refine F.okA Z70 λb A a s H c Q E d h=>?_
 obtain⟨i,rfl,q⟩:=h;refine⟨_,(ai (av (gN (au cj U bl.isinstance_ PyProof.Rows.boot_isinstance (aa (pv 0) (aa (iD (v:=.ty "int") U bl.int_ PyProof.Rows.boot_int U) ae))) (jb (vW (au cj U bl.isinstance_ PyProof.Rows.boot_isinstance (aa (pv 0) (aa (iD (v:=.ty "bool") U bl.bool_ PyProof.Rows.boot_bool U) ae)))))))),?_⟩;exact⟨_,U,_,_,_,_,true,U,.ty _,.inl (.int _),(by first|rfl|with_unfolding_all rfl|decide+kernel),_,U,eJ ⟨_,U,_,_,_,_,false,U,.ty _,.inl (.int _),(by first|rfl|with_unfolding_all rfl|decide+kernel),_,U,q⟩⟩
theorem Eo(F:Fun K "__init__" "Way.__init__" Y18 f fd) (bl:Bl K mg Y)  : aL P w K mg base CX0 1 f fd ["self","called"] (cB K Y):=by
 refine F.okA Z18 λd A a s H e Q E g h=>?_
 obtain⟨x,c,z,rfl,b,q⟩:=h;refine⟨_,(ai (cE (pv 0) (pv 1) U)),?_⟩;exact⟨_,U,_,U,x,_,c,_,U,b,bl.k_First,bl.na_First_called,(by show 0<1000;decide),q⟩
theorem Ep(F:Fun K "__init__" "Way.__init__" Y22 f fd) (bl:Bl K mg Y)  : aL P w K mg base CX0 1 f fd ["self","called"] (cH K Y):=by
 refine F.okA Z22 λd A a s H e Q E g h=>?_
 obtain⟨x,c,z,rfl,b,q⟩:=h;refine⟨_,(ai (cE (pv 0) (pv 1) U)),?_⟩;exact⟨_,U,_,U,x,_,c,_,U,b,bl.k_Only,bl.na_Only_called,(by show 0<1000;decide),q⟩
theorem Er(F:Fun K "__init__" "Way.__init__" Y20 f fd) (bl:Bl K mg Y)  : aL P w K mg base CX0 1 f fd ["self","called"] (cI K Y):=by
 refine F.okA Z20 λd A a s H e Q E g h=>?_
 obtain⟨x,c,z,rfl,b,q⟩:=h;refine⟨_,(ai (cE (pv 0) (pv 1) U)),?_⟩;exact⟨_,U,_,U,x,_,c,_,U,b,bl.k_Like,bl.na_Like_called,(by show 0<1000;decide),q⟩
theorem Es(F:Fun K "__init__" "Way.__init__" Y21 f fd) (bl:Bl K mg Y)  : aL P w K mg base CX0 1 f fd ["self","called"] (cY K Y):=by
 refine F.okA Z21 λd A a s H e Q E g h=>?_
 obtain⟨x,c,z,rfl,b,q⟩:=h;refine⟨_,(ai (cE (pv 0) (pv 1) U)),?_⟩;exact⟨_,U,_,U,x,_,c,_,U,b,bl.k_Low,bl.na_Low_called,(by show 0<1000;decide),q⟩
theorem Et(F:Fun K "__init__" "Way.__init__" Y19 f fd) (bl:Bl K mg Y)  : aL P w K mg base CX0 1 f fd ["self","called"] (cJ K Y):=by
 refine F.okA Z19 λd A a s H e Q E g h=>?_
 obtain⟨x,c,z,rfl,b,q⟩:=h;refine⟨_,(ai (cE (pv 0) (pv 1) U)),?_⟩;exact⟨_,U,_,U,x,_,c,_,U,b,bl.k_High,bl.na_High_called,(by show 0<1000;decide),q⟩
theorem Eu(F:Fun K "__init__" "Way.__init__" Y23 f fd) (bl:Bl K mg Y)  : aL P w K mg base CX0 1 f fd ["self","called"] (cZ K Y):=by
 refine F.okA Z23 λd A a s H e Q E g h=>?_
 obtain⟨x,c,z,rfl,b,q⟩:=h;refine⟨_,(ai (cE (pv 0) (pv 1) U)),?_⟩;exact⟨_,U,_,U,x,_,c,_,U,b,bl.k_Sum,bl.na_Sum_called,(by show 0<1000;decide),q⟩
theorem O_0(F:Fun K "__init__" "Domain.__init__" Y0 f fd) (bl:Bl K mg Y)  : aL P w K mg base CX0 1 f fd ["self","low","high"] (bN K Y):=by
 refine F.okA Z0 λd A b s H e Q E g h=>?_
 obtain⟨x,a,lo,hi,rfl,c,q⟩:=h
 refine⟨_,(aj (cE (pv 0) (pv 1) U)
  (ai (cE (pv 0) (pv 2) U))),?_⟩
 refine⟨_,U,_,U,x,_,a,_,U,c,bl.k_Numbers,bl.na_Numbers_low,(by show 0<1000;decide),_,U,_,U,x,_,a,_,U,ab,bl.k_Numbers,bl.na_Numbers_high,(by show 1<1000;decide),?_⟩;show Q .non (upd (upd H x (.ins Y.i a [("low",.int lo)])) x (.ins Y.i a (br "high" (.int hi) [("low",.int lo)])));rw[put2];exact q
theorem O_1(F:Fun K "__init__" "Domain.__init__" Y1 f fd) (bl:Bl K mg Y)  : aL P w K mg base CX0 1 f fd ["self","low","high"] (b7 K Y):=by
 refine F.okA Z1 λd A b s H e Q E g h=>?_
 obtain⟨x,a,lo,hi,rfl,c,q⟩:=h
 refine⟨_,(aj (cE (pv 0) (pv 1) U)
  (ai (cE (pv 0) (pv 2) U))),?_⟩
 refine⟨_,U,_,U,x,_,a,_,U,c,bl.k_Words,bl.na_Words_low,(by show 0<1000;decide),_,U,_,U,x,_,a,_,U,ab,bl.k_Words,bl.na_Words_high,(by show 1<1000;decide),?_⟩;show Q .non (upd (upd H x (.ins Y.j a [("low",.int lo)])) x (.ins Y.j a (br "high" (.int hi) [("low",.int lo)])));rw[put2];exact q
theorem O_5(F:Fun K "chosen" "First.chosen" Y5 f fd) (bl:Bl K mg Y)  : aL P w K mg base CX0 1 f fd ["self","codes","outcome"] (J1 K Y):=by
 refine F.ok Z5 (λi H Q E h=>?_) (λr A d s H i Q E u h=>?_)
 .obtain⟨x,c,o,n,e,b,rfl,⟨p,z,j⟩,l,a,g,m,q⟩:=h;rfl
 obtain⟨x,c,o,n,e,b,rfl,⟨p,z,j⟩,l,a,g,m,q⟩:=h;refine⟨_,(ai (av (aX (aa aS (aa (aE aG (pv 1) ag (λ_ _=>U)) ae))))),?_⟩;exact⟨_,U,c,_,_,_,U,U,g,at0 n e,bu,λt k=>q t _ (af k _) (.inl ab)⟩
theorem Ew(F:Fun K "chosen" "Only.chosen" Y14 f fd) (bl:Bl K mg Y)  : aL P w K mg base CX0 1 f fd ["self","codes","outcome"] (J9 K Y):=by
 refine F.ok Z14 (λl H Q E h=>?_) (λC A k s H l Q E D h=>?_)
 .obtain⟨x,c,o,n,a,b,rfl,⟨B,z,p⟩,u,j,d,y,q⟩:=h;rfl
 obtain⟨x,c,o,n,a,b,rfl,⟨B,z,p⟩,u,j,d,y,q⟩:=h;refine⟨_,(ai (av (jR (aF bq (au aw U bl.len_ boot_len (aa (pv 1) ae)) ag (aH _)) (aX (aa aS (aa (aE aG (pv 1) ag (λ_ _=>U)) ae))) (cC (v:=.ref Y.m) U bl.CLASH_ U)))),?_⟩;refine⟨_,U,c,_,U,.inl (d),U,_,U,?_⟩;refine bG (λg=>?_) (λg=>?_)
 .have e:wf 1 b.1 b.2 (n :: a)=say n:=by
   have i:=iZ g;simp at i;show ka _=_;unfold ka;rw[if_pos (by rw[ik];lia)];rfl
  rw[e]at q;exact⟨_,U,c,_,_,_,U,U,d,at0 n a,bu,λt r=>q t _ (af r _) (.inl ab)⟩
 .have e:wf 1 b.1 b.2 (n :: a)=uv:=by
   have i:=lB g;simp at i;show ka _=_;unfold ka;rw[if_neg (by rw[ik];lia)]
  rw[e]at q;exact q _ _ (aq.refl _) (.inr bl.q_CLASH)
theorem O_9(F:Fun K "chosen" "Like.chosen" Y9 f fd) (bl:Bl K mg Y)  : aL P w K mg base CX0 1 f fd ["self","codes","outcome"] (J5 K Y):=by
 refine F.ok Z9 (λy H Q E h=>?_) (λL A p s H y Q E M h=>?_)
 .obtain⟨x,c,o,n,a,b,rfl,⟨J,z,B⟩,D,k,i,G,q⟩:=h;rfl
 obtain⟨x,c,o,n,a,b,rfl,⟨J,z,B⟩,D,k,i,G,q⟩:=h;refine⟨_,(ai (av (jR (aF bq (au n4 U bl.len_ boot_len (aa (bK (nZ U) U bl.set_ PyProof.Rows.boot_set (aa (pv 1) ae)) ae)) ag (aH _)) (aX (aa aS (aa (aE aG (pv 1) ag (λ_ _=>U)) ae))) (cC (v:=.ref Y.m) U bl.CLASH_ U)))),?_⟩;refine⟨_,U,c,_,U,i,(by rw[ik];lia),λl I=>?_⟩;refine⟨l,_,U,ab,(by rw[ik];lia),U,_,U,?_⟩;have d:aq H (upd H l (yF P w l (n :: a))):=af I _;refine bG (λg=>?_) (λg=>?_)
 .have u:V.int _=V.int _:=iZ g;have j:cntK (n :: a) (n :: a).length=1:=by injection u with u;lia
  have r:=oW.mp j;have e:wf 2 b.1 b.2 (n :: a)=say n:=by
   show j6 _=_;unfold j6;rw[if_pos (pb.mp r),vi r]
  rw[e]at q;exact⟨_,U,c,_,_,_,U,U,d.seq i,at0 n a,bu,λt C=>q t _ (d.trans (af C _)) (.inl ab)⟩
 .have j:¬ cntK (n :: a) (n :: a).length=1:=λz=>(lB g) (by rw[z];rfl)
  have e:wf 2 b.1 b.2 (n :: a)=uv:=by
   show j6 _=_;unfold j6;rw[if_neg λz=>j (oW.mpr (pb.mpr z))]
  rw[e]at q;exact q _ _ d (.inr bl.q_CLASH)
theorem Ex(F:Fun K "chosen" "Low.chosen" Y11 f fd) (bl:Bl K mg Y)  : aL P w K mg base CX0 1 f fd ["self","codes","outcome"] (J7 K Y):=by
 refine F.ok Z11 (λg H Q E h=>?_) (λy A d s H g Q E B h=>?_)
 .obtain⟨x,c,o,n,i,b,rfl,⟨v,z,j⟩,l,a,e,p,q⟩:=h;rfl
 obtain⟨x,c,o,n,i,b,rfl,⟨v,z,j⟩,l,a,e,p,q⟩:=h;refine⟨_,(ai (av (aX (aa aS (aa (au (fC U) U bl.min_ PyProof.Rows.boot_min (aa (pv 1) ae)) ae))))),?_⟩;refine⟨_,U,c,_,U,e,zd _,λm u r=>⟨bu,λt k=>q t _ (af k _) (.inl ?_)⟩⟩;rw[ab,mW u r];rfl
theorem O_7(F:Fun K "chosen" "High.chosen" Y7 f fd) (bl:Bl K mg Y)  : aL P w K mg base CX0 1 f fd ["self","codes","outcome"] (J3 K Y):=by
 refine F.ok Z7 (λg H Q E h=>?_) (λy A d s H g Q E B h=>?_)
 .obtain⟨x,c,o,n,i,b,rfl,⟨v,z,j⟩,l,a,e,p,q⟩:=h;rfl
 obtain⟨x,c,o,n,i,b,rfl,⟨v,z,j⟩,l,a,e,p,q⟩:=h;refine⟨_,(ai (av (aX (aa aS (aa (au (fD U) U bl.max_ PyProof.Rows.boot_max (aa (pv 1) ae)) ae))))),?_⟩;refine⟨_,U,c,_,U,e,zd _,λm u r=>⟨bu,λt k=>q t _ (af k _) (.inl ?_)⟩⟩;rw[ab,mX u r];rfl
theorem Ey(F:Fun K "chosen" "Sum.chosen" Y16 f fd) (bl:Bl K mg Y)  : aL P w K mg base CX0 1 f fd ["self","codes","outcome"] (J11 K Y):=by
 refine F.ok Z16 (λr H Q E h=>?_) (λG A l s H r Q E I h=>?_)
 .obtain⟨x,c,o,n,a,b,rfl,⟨D,z,u⟩,⟨C,p,B,fs,j,d,g,_⟩,k,m,y,q⟩:=h;rfl
 obtain⟨x,c,o,n,a,b,rfl,⟨D,z,u⟩,⟨C,p,B,fs,j,d,g,_⟩,k,m,y,q⟩:=h;refine⟨_,(ai (av (aX (aa aS (aa (au (oC U) U bl.max_ PyProof.Rows.boot_max (aa (bc (pv 2) U) (aa (au (kB U) U bl.min_ PyProof.Rows.boot_min (aa (bc (pv 2) U) (aa (au (fA U) U bl.sum_ PyProof.Rows.boot_sum (aa (pv 1) ae)) ae))) ae))) ae))))),?_⟩;have i:Cls K C/\NoAttr K C s!"low"/\NoAttr K C s!"high":=by
  rcases p with rfl|rfl
  .exact⟨bl.k_Numbers,bl.na_Numbers_low,bl.na_Numbers_high⟩
  .exact⟨bl.k_Words,bl.na_Words_low,bl.na_Words_high⟩
 refine⟨_,U,o,_,_,_,_,U,j,i.1,i.2.1,d,_,U,o,_,_,_,_,U,j,i.1,i.2.2,g,_,U,c,_,U,m,_,_,U,_,_,U,?_⟩;refine⟨bu,λt v=>q t _ (af v _) (.inl ?_)⟩;rw[ab];have e:near b.1 b.2 (n :: a).sum=if (if (n :: a).sum<b.2 then(n :: a).sum else b.2)>b.1 then(if (n :: a).sum<b.2 then(n :: a).sum else b.2)else b.1:=by
  unfold near;generalize (n :: a).sum=t;split <;> split <;> split <;> first|rfl|lia|(split <;> lia)
 show _=some (HO.tup (tp (say (near b.1 b.2 (n :: a).sum))));rw[e];rfl
theorem Ez(F:Fun K "is_word" "is_word" Y50 f fd) (bl:Bl K mg Y)(g:Callee P w K mg base 1 "all_among" ["text","signs"] (gz K Y)):aL P w K mg base CX0 2 f fd ["text"] (gE K Y):=by
 refine F.okA Z50 λk A d s H l Q E j h=>?_
 obtain⟨z,rfl,i,q⟩:=h;refine⟨_,(ai (av (gN (mi fg fg ag (au pK U bl.len_ boot_len (aa (pv 0) ae)) (lD U bl.MOST_SIGNS_)) (gN (eI qz (pv 0) aS (aH _)) (jb (aI g j U (aa (pv 0) (aa (lD U bl.SMALL_LETTERS_) ae)))))))),?_⟩;refine⟨_,U,_,U,big i,_,_,U,U,_,U,?_⟩;refine bG (λc=>?_) (λc=>?_)
 .refine⟨_,_,U,U,_,U,?_⟩;refine bG (λb=>?_) (λb=>?_)
  .refine⟨_,U,U,_,U,?_⟩;refine bG (λa=>?_) (λa=>?_)
   .refine⟨_,U,z,lets,U,?_⟩;have e:isw z=mB z lets:=by unfold isw;rw[c,b,a];rfl
    rw[e]at q;exact q
   .have e:isw z=false:=by unfold isw;rw[As.mpr a,Bool.false_and,Bool.and_false,Bool.and_false]
    rw[e]at q;exact q
  .have e:isw z=false:=by unfold isw;rw[As.mpr b,Bool.false_and,Bool.and_false]
   rw[e]at q;exact q
 .have e:isw z=false:=by unfold isw;rw[As.mpr c,Bool.false_and]
  rw[e]at q;exact⟨_,U,bR q⟩
theorem EA(F:Fun K "cut_columns" "cut_columns" Y41 f fd) (bl:Bl K mg Y)(rF:Callee P w K mg base 1 "stretches" ["low","high","marks"] (gA K Y)):aL P w K mg base CX0 2 f fd ["bounds","marks"] (dC K Y):=by
 refine F.okA Z41 λc3 A b3 s H vs Q E hr h=>?_
 obtain⟨a,b,ys,ps,as,R,rfl,ha,hP,hb,hM,hok,q⟩:=h;refine⟨_,(ai (av (dU (pP U bl.zip_ (aa (pv 0) (aa (pv 1) ae))) (dA (N:=["bound","cuts"]) (k:=2) U U (by decide+kernel) (by decide+kernel) (by decide+kernel)) U (λ_ _ _ _=>(jW (K:=K) (n:=2) U U (aK (aC (i:=0) (show(["bound","cuts"]:List Str).Nodup by decide+kernel) U (Or.inl U) (Or.inr U)) (aK (aC (i:=1) (show(["bound","cuts"]:List Str).Nodup by decide+kernel) U (Or.inl U) (Or.inr U)) bH)))) (λ_ _ _ _=>bz) (λ_ _ _ _=>(aI rF hr U (aa (aE (gm (K:=K) U) (pv 0) ag (λ_ _=>U)) (aa (aE (gm (K:=K) U) (pv 0) ag (λ_ _=>U)) (aa (pv 1) ae)))))))),?_⟩;obtain⟨b5,b4,a1⟩:=hok;have b6:=hP.length;have c2:=hM.1
 refine⟨_,U,_,U,a,b,U,⟨_,SqL.of ha⟩,⟨_,SqL.of hb⟩,vb (xs:=ys) (ys:=as.map V.ref) (λD i C B=>aq H B/\B D=some (.lst C)/\∃d:List (List Int),d.length=i/\(∀(j:Nat)(p:Int×Int)(v l:List Int),ps[j]?=some p->R[j]?=some v->d[j]?=some l->l.Pairwise (· < ·)/\(∀c,c∈l↔(c∈v/\p.1<c/\c<=p.2))/\l.length<64)/\aD C (List.zipWith (λp l=>bW p.1 p.2 l) (ps.take i) d) (λr c=>r≠D/\∃g,B r=some (.lst g)/\PL B g c))
  (λD O=>⟨af O _,ab,[],U,(λj p v l _ _ e=>by simp at e),aD.nil⟩) (λD i C B O _ h=>⟨SqL.of (h.1 _ _ ha),SqL.of (h.1 _ _ hb)⟩) (λD i x y C B T O ex ey h hT g a5=>?_) (λD C B O h=>?_)⟩
 .obtain⟨sm,eD,d,o,J,M⟩:=h;obtain⟨p,t,ep,rfl,ht⟩:=hP.get ex;obtain⟨r,rfl,er⟩:=xp ey;have hi:i<as.length:=(GI.mp er).1;obtain⟨v,em⟩:∃v,R[i]?=some v:=⟨_,GH (by lia)⟩;obtain⟨r',W,hr⟩:=hM.2 i v em;rw[er]at W;cases W;have s2:=sm.trans (af hT (.tup [.ref t,.ref r]));have eT:upd B T (.tup [.ref t,.ref r]) T=some (.tup [.ref t,.ref r]):=ab;have Z:=af hT (.tup [.ref t,.ref r]);have L:=Z _ _ eD;generalize upd B T (.tup [.ref t,.ref r])=H2 at s2 eT L Z⊢;obtain⟨t0,t1,rfl⟩:∃t0 t1,g=[t0,t1]:=by
   match g,a5 with
   | [t0,t1],_=>exact⟨t0,t1,U⟩
  refine⟨T,_,U,SqT.of eT,U,_,_,U,_,_,U,U,⟨[some (.ref t),some (.ref r)],U,U⟩,?_⟩;have c0:=a1 v (GJ em);refine⟨_,U,t,_,_,_,U,U,SqT.of (s2 _ _ ht),U,_,U,t,_,_,_,U,U,SqT.of (s2 _ _ ht),U,_,U,r,v,v,p.1,p.2,U,SqL.of (s2 _ _ hr),by lia,by lia,λm hm _ _=>hm,λr2 H3 l a0 s3 S b0 a7 a6 mP a9=>?_⟩;have X:=s3 _ _ L;have c1:C.length=i:=by rw[M.1,jE,ip];lia
  have EB:i<min ys.length (as.map V.ref).length:=by rw[bx];lia
  have a2:r2≠D:=λz=>by rw[z,L]at S;cases S
  refine cP.mk EB X (ax (by lia)) ⟨(s2.trans s3).upd O,ab,d++[l],by rw[cK,o];rfl,λj p' a3 b1 G I u=>?_,?_⟩
  .by_cases hj:j<d.length
   .rw[iP hj]at u;exact J j p' a3 b1 G I u
   .have a8:j=d.length:=by
     have:=(GI.mp u).1;simp at this;lia
    subst a8;simp at u;subst u;rw[o]at G I;rw[ep]at G;cases G;rw[em]at I;cases I;exact⟨a6,mP,a9⟩
  .rw[take_snoc ep,List.zipWith_append (by rw[ip];lia)];have a4:aD (C++[.ref r2]) (List.zipWith (λp l=>bW p.1 p.2 l) (ps.take i) d++[bW p.1 p.2 l]) (λr c=>r≠D/\∃g,H3 r=some (.lst g)/\PL H3 g c) :=
    aD.snoc (aD.mono M λx c k=>⟨k.1,let ⟨g,e1,e2⟩:=k.2;⟨g,s3 _ _ (Z _ _ e1),PL.mono e2 (Z.trans s3).tups⟩⟩) ⟨a2,a0,b0,a7⟩
   have st:cb H3 (upd H3 D (.lst (C++[.ref r2]))):=aQ X;exact aD.mono a4 λx c k=>⟨k.1,let ⟨g,e1,e2⟩:=k.2;⟨g,(ay k.1).trans e1,PL.mono e2 st⟩⟩
 .obtain⟨sm,eD,d,o,J,M⟩:=h;have e:min ys.length (as.map V.ref).length=ps.length:=by rw[bx];lia
  rw[e]at o;rw[e,iv]at M;exact q D C B d sm eD o J (aD.mono M λx c k=>k.2)
theorem EC(F:Fun K "fits" "fits" Y45 f fd) (bl:Bl K mg Y)(X:Callee P w K mg base 1 "holds" ["spans","number"] (nj K Y)):aL P w K mg base CX0 2 f fd ["table","k","codes"] (qe K Y):=by
 refine F.okA Z45 λa1 A G s H vs Q E hr h=>?_
 obtain⟨t,Z,c,dx,fs,xs,a0,k,b,g,rfl,ht,hf,hl,hR,ek,J,W,q⟩:=h
 refine⟨_,(aj (aJ (i:=3) Z45.nd U (Or.inl U) (aE bA (aE aG (bc (pv 0) U) (pv 1) (λ_ _=>U)) ag (λ_ _=>U)))
  (aj (bp PassesOwn.never U (pP U bl.zip_ (aa (pv 3) (aa (pv 2) ae))) (eO U (aK (aC (i:=4) Z45.nd U (Or.inl U)) (aK (aC (i:=5) Z45.nd U (Or.inl U)) bH)))
  (ai (aM (cy (cD (aI X hr U (aa (pv 4) (aa (pv 5) ae)))))
  (ai (av fK))
  az)))
  (ai (av fK)))),?_⟩
 obtain⟨r,er,S,cv,e1,_,R,m⟩:=hR.2 k b ek;refine⟨_,U,t,_,_,_,_,U,ht,bl.k_Table,bl.na_Table_rows,hf,_,U,Z,_,_,_,U,U,SqL.of hl,aR er,r,_,_,_,U,U,SqT.of e1,U,?_⟩;refine⟨_,U,_,U,S,c,U,⟨_,SqL.of R⟩,⟨_,J⟩,pQ (xs:=cv) (ys:=g.map V.int) (λi o a=>aq H a/\(∀j,j<i->inP (b.1.getD j []) (g.getD j 0)=true)/\∃B z:Option V,o=[some (.ref t),some (.int k),some (.ref c),some (.ref S),B,z]) ⟨aq.refl _,(λj h=>absurd h (zb j)),_,_,U⟩ (λi o a h=>⟨SqL.of (h.1 _ _ R),h.1.seq J⟩) (λi x y o a T ex ey h hT=>?_) (λo a h=>?_)⟩
 .obtain⟨p,v,B,z,rfl⟩:=h;have s2:=p.trans (af hT (.tup [x,y]));have O:upd a T (.tup [x,y]) T=some (.tup [x,y]):=ab;generalize upd a T (.tup [x,y])=H2 at s2 O⊢;obtain⟨l,u,rfl,ep,C⟩:=aD.get m ex;obtain⟨_,ys,el,hp⟩:=C.same s2;obtain⟨n,rfl,N⟩:=of_map ey;refine⟨T,_,U,SqT.of O,U,_,_,U,_,_,U,U,?_⟩;refine⟨_,U,_,U,l,ys,u,n,U,SqL.of el,hp,_,U,?_⟩;have M:b.1.getD i []=u:=by rw[dE,ep];rfl
  have L:g.getD i 0=n:=by rw[dE,N];rfl
  cases hin:inP u n with
  |true =>
   refine bR ⟨s2,λj I=>?_,_,_,U⟩;by_cases D:j<i
   .exact v j D
   .have:j=i:=by lia
    subst this;rw[M,L];exact hin
  |false =>
   refine eJ ?_;have e:oh b.1 g=false:=by
    unfold oh;rw[List.all_eq_false];refine⟨i,jr.mpr (GI.mp N).1,?_⟩;rw[M,L,hin];decide
   have d:=q H2 s2;rw[e]at d;exact d
 .obtain⟨p,v,B,z,rfl⟩:=h;have e:oh b.1 g=true:=by
   unfold oh;rw[jq];intro j I;refine v j ?_;have h1:=m.1;rw[bx];have:=jr.mp I;lia
  have d:=q a p;rw[e]at d;exact d
theorem ED(F:Fun K "column_marks" "column_marks" Y39 f fd) (bl:Bl K mg Y)(tU:Callee P w K mg base 1 "gathered" ["lists"] (hX K Y)) (ze:Callee P w K mg base 1 "edges" ["spans","low","high"] (nq K Y)):aL P w K mg base CX0 2 f fd ["table","column"] (eA K Y):=by
 refine F.okA Z39 λb3 A a6 s H vs Q E hr h=>?_
 obtain⟨t,c,dv,bs,rws,b,L,rfl,⟨rl,dx,dl,fs,xs,ht,f1,f2,a3,T,B,hR⟩,eb,a9,kO,hL,X,q⟩:=h
 refine⟨_,(aj (aJ (i:=2) Z39.nd U (Or.inr U) (aE aG (bc (pv 0) U) (pv 1) (λ_ _=>U)))
  (ai (av (aI tU hr U (aa (dU (aW (bc (pv 0) U)) (fq (N:=["cells","code","column","domain"]) (k:=2) (fr:=[1,2]) (cl:=[("domain",s.heap.objs.size+1+1),("column",s.heap.objs.size+1)]) U U (by decide+kernel) (by decide+kernel) U U (hQ.mpr ⟨U,hQ.mpr ⟨U,iQ _⟩⟩) U) U (λ_ _ _ _=>(jW (K:=K) (n:=2) U U (aK (aC (i:=0) (show(["cells","code","column","domain"]:List Str).Nodup by decide+kernel) U (Or.inl U) (Or.inr U)) (aK (aC (i:=1) (show(["cells","code","column","domain"]:List Str).Nodup by decide+kernel) U (Or.inl U) (Or.inr U)) bH)))) (λ_ _ _ _=>bz) (λ_ _ _ _=>(aI ze hr U (aa (aE (dz (K:=K) U) (pv 0) (pv 2) (λ_ _=>U)) (aa (lW (K:=K) U (pv 3) U) (aa (lW (K:=K) U (pv 3) U) ae)))))) ae))))),?_⟩
 obtain⟨da,a4,C,hC,b1,b0,ha,g1,g2,_⟩:=T.2 c b eb;have J:Cls K C/\NoAttr K C s!"low"/\NoAttr K C s!"high":=by
  rcases hC with rfl|rfl
  .exact⟨bl.k_Numbers,bl.na_Numbers_low,bl.na_Numbers_high⟩
  .exact⟨bl.k_Words,bl.na_Words_low,bl.na_Words_high⟩
 have S:xs.length=rws.length:=hR.1;refine⟨_,U,t,_,_,_,_,U,ht,bl.k_Table,bl.na_Table_domains,f2,_,U,dl,_,_,_,U,U,SqL.of a3,aR a4,?_⟩;refine⟨_,U,t,_,_,_,_,U,ht,bl.k_Table,bl.na_Table_rows,f1,rl,U,⟨_,SqL.of B⟩,eQ (xs:=xs) (λD i m d=>aq H d/\d D=some (.lst m)/\∃j:List Addr,m=j.map V.ref/\MLs (hide d D) j ((rws.take i).map (rmk c b))) (λD p=>⟨af p _,ab,[],U,MLs.nil⟩) (λD i m d p _ h=>SqL.of (h.1 _ _ B)) (λD i y m d p e h ts R=>?_) (λD m d p h=>?_)⟩
 .obtain⟨a,M,j,rfl,o⟩:=h;obtain⟨r,x,rfl,ex,ce,cs,k1,_,k2,k3⟩:=aD.get hR e;have hi:i<xs.length:=(GI.mp e).1;obtain⟨v,h6⟩:=kO x (GJ ex);obtain⟨I,G,rfl⟩:∃I G,ts=[I,G]:=by
   match ts,R with
   | [I,G],_=>exact⟨I,G,U⟩
  refine⟨r,_,U,SqT.of (a _ _ k1),U,_,_,U,_,_,U,U,⟨[some (.ref ce),some (.int x.2)],U,U⟩,?_⟩;obtain⟨ol,a1,_,yo,Z,g⟩:=k3.2 c _ (GH v);have hA:x.1[c]=x.1.getD c []:=by rw[dE,GH v];rfl
  rw[hA]at g;have a7:=g.length;refine⟨_,U,_,U,ce,_,_,_,U,U,SqL.of (a _ _ k2),aR a1,_,U,da,_,_,_,_,U,a _ _ ha,J.1,J.2.1,g1,_,U,da,_,_,_,_,U,a _ _ ha,J.1,J.2.2,g2,?_⟩;refine⟨ol,yo,_,b.1,b.2,U,SqL.of (a _ _ Z),g.mono a.tups,by lia,λr3 H3 es O u a0 a2=>?_⟩;have a5:=O _ _ M;have nD:r3≠D:=λz=>by rw[z,M]at u;cases u
  have W:=o.1;rw[bx,ip]at W;refine cP.mk hi a5 (ax (by rw[bx];lia)) ⟨(a.trans O).upd p,ab,j++[r3],by rw[ij];rfl,?_⟩;rw[m6,take_snoc ex,ij];exact MLs.snoc (o.same (kL O)) (dh (by rw[a0,a2];rfl) nD)
 .obtain⟨a,M,j,rfl,o⟩:=h;rw[S,iv]at o;have a8:=rA c b (rws:=rws) λw hw=>(kO w hw).2
  refine⟨D,j,_,L,U,M,o.same (qc d D),by lia,hL,λx hx=>X x (uB.mp hx),λl cs H2 s2 nl el pw hm=>q l cs H2 (a.trans s2) (a.free nl) el pw λx=>(hm x).trans uB⟩
theorem EE(F:Fun K "refuse_unlike_domains" "refuse_unlike_domains" Y81 f fd) (bl:Bl K mg Y)(z:Callee P w K mg base 1 "alike" ["one","other"] (ni K Y)):aL P w K mg base CX0 2 f fd ["ones","others"] (b8 K Y):=by
 refine F.okA Z81 λO A n s H R Q E C h=>?_
 obtain⟨m,l,xs,ys,S,rfl,g,c,p,o,q⟩:=h
 refine⟨_,(aj (aM (aF qz (au aw U bl.len_ boot_len (aa (pv 0) ae)) (au aw U bl.len_ boot_len (aa (pv 1) ae)) (aH _))
  (ai bE)
  az)
  (ai (bp PassesOwn.never U (pP U bl.zip_ (aa (pv 0) (aa (pv 1) ae))) (eO U (aK (aC (i:=2) Z81.nd U (Or.inl U)) (aK (aC (i:=3) Z81.nd U (Or.inl U)) bH)))
  (ai (aM (cy (cD (aI z C U (aa (pv 2) (aa (pv 3) ae)))))
  (ai bE)
  az))))),?_⟩
 refine⟨_,U,m,_,U,.inl (SqL.of g),_,U,l,_,U,.inl (SqL.of c),U,_,U,?_⟩;have D:xs.length=ys.length:=by rw[p.1,o.1]
 refine zF (by rw[D]) ?_;refine⟨_,U,_,U,m,l,U,⟨_,SqL.of g⟩,⟨_,SqL.of c⟩,pQ (xs:=xs) (ys:=ys) (λi k j=>aq H j/\(∃v u:Option V,k=[some (.ref m),some (.ref l),v,u])) ⟨aq.refl _,⟨_,_,U⟩⟩ (λi k j h=>⟨SqL.of (h.1 _ _ g),SqL.of (h.1 _ _ c)⟩) (λi x y k j T M L h J=>?_) (λk j h=>?_)⟩
 .obtain⟨B,⟨v,u,rfl⟩⟩:=h;have s2:=B.trans (af J (.tup [x,y]));have t:upd j T (.tup [x,y]) T=some (.tup [x,y]):=ab;generalize upd j T (.tup [x,y])=H2 at s2 t⊢;obtain⟨a,d,rfl,N,I⟩:=p.get M;obtain⟨b,e,rfl,r,G⟩:=o.get L;refine⟨T,_,U,SqT.of t,U,_,_,U,_,_,U,U,?_⟩;rw[N]at r;cases r;exact⟨_,U,_,U,a,b,d,d,true,U,I.same s2,G.same s2,⟨λ_=>U,λ_=>U⟩,_,U,bR ⟨s2,⟨_,_,U⟩⟩⟩
 .exact q _ h.1
theorem EF(F:Fun K "_law_grid_points" "_law_grid_points" Y58 f fd) (bl:Bl K mg Y)(aY:Callee P w K mg base 1 "_law_cell" ["script","k"] (dX K Y)) (oo:Callee P w K mg base 1 "_law_points" ["cell","count"] (fE K Y)):aL P w K mg base CX0 2 f fd ["script","most"] (dk K Y):=by
 refine F.okA Z58 λa8 A a3 s H vs Q E hr h=>?_
 obtain⟨a,m,R,k,rfl,hS,hM,hq,h4,q⟩:=h
 refine⟨_,(aj (aJ (i:=2) Z58.nd U (Or.inl U) (aP ae))
  (aj (bp PassesOwn.never U (aZ U bl.range_ (aa (au aw U bl.len_ boot_len (aa (pv 1) ae)) ae)) (aC (i:=3) Z58.nd U (Or.inl U))
  (aj (aJ (i:=4) Z58.nd U (Or.inl U) (aI aY hr U (aa (pv 0) (aa (ar bL ag (pv 3)) ae))))
  (ai (aV (eG PySem.F.plainAttrs_list PySem.F.slot_list_append PySem.F.type_list_append bg (pv 2) (aa (aI oo hr U (aa (pv 4) (aa (ar bL ag (ar aO (ar bL (ar aO (ar fw (pv 4) ag) ag) ag) (aE aG (pv 1) (pv 3) (λ_ _=>U)))) ae))) ae))))))
  (ai (av (pv 2))))),?_⟩
 refine⟨(by show 0<=sizeLine;decide),λl hl=>?_⟩;have O:aq H (upd H l (.lst [])):=af hl _;have e0:upd H l (.lst []) l=some (.lst []):=ab;generalize upd H l (.lst [])=H0 at O e0⊢;have a5:(k.map V.int).length=k.length:=bx _;refine⟨_,U,m,_,U,.inl (O.seq hM),_,U,(by show -(2^62)<=(((k.map V.int).length:Nat):Int);lia),(by show(((k.map V.int).length:Nat):Int)<2^62;lia),cM (λi N B=>aq H B/\∃(o:List V)(b:List (List Int))(c3 c4:Option V),B l=some (.lst o)/\aD o b (λr g=>r≠l/\B r=some (.lst (g.map V.int)))/\pZ R b/\b.length=i/\(∀(j:Nat)(g:List Int)(x:Int),b[j]?=some g->k[j]?=some x->(g.length:Int)<=x+1)/\N=[some (.ref a),some (.ref m),some (.ref l),c3,c4]) ⟨O,[],[],_,_,e0,aD.nil,⟨(λg h=>by cases h),(λj g e=>by simp at e)⟩,U,(λj g x e=>by simp at e),U⟩ (λi N B hi W=>?_) (λN B W=>?_)⟩
 .obtain⟨C,o,b,c3,c4,D,L,M,c,u,rfl⟩:=W;have y:i<k.length:=by lia
  have a6:=hq _ (lI y);have a1:atI (k.map V.int) (0+(i:Int))=some (.int k[i]):=og (get_map (GH y));refine⟨_,U,_,U,_,_,U,U,a,R,_,U,C.seq hS,(by show 0<=1+(0+(i:Int));lia),?_⟩;have n:∃I,I=cx R (1+(0+(i:Int))):=⟨_,U⟩;obtain⟨I,n⟩:=n;rw[←n];have S:(0:Int)<k[i]:=by lia
  have y0:=Ba (I*48271%1009+1) (Int.ne_of_gt S);have y1:=Bf (I*48271%1009+1) S;refine⟨_,U,.inl ⟨U,_,SqL.of D⟩,_,U,_,U,_,_,U,U,.inr ⟨by decide,by decide⟩,_,_,U,U,(by show(0:Int)<1009;decide),_,_,U,U,_,U,_,U,m,_,_,_,U,U,C.seq hM,a1,_,_,U,U,S,_,_,U,U,I,_,U,by lia,by lia,λr g H2 t nr er a0 hw a4=>?_⟩;have a2:=t _ _ D;have a7:o.length=i:=by rw[L.1,c]
  have J:r≠l:=λz=>by rw[z,D]at nr;cases nr
  refine⟨l,_,_,U,U,a2,ax (by lia),?_⟩;refine⟨(C.trans t).upd hl,o++[.ref r],b++[g],_,_,ab,aD.snoc (aD.mono L λr' p h=>⟨h.1,(ay h.1).trans (t _ _ h.2)⟩) ⟨J,(ay J).trans er⟩,⟨λp d=>?_,λj p e X=>?_⟩,by simp[c],(λj p x G Z=>?_),U⟩
  .rcases gg.mp d with d | d
   .exact M.pts p d
   .rw[show p=g by simpa using d];exact a0
  .by_cases T:j<b.length
   .rw[iP T]at e;exact M.wrd j p e X
   .have v:j=b.length:=by
     have:=(GI.mp e).1;simp at this;lia
    subst v;simp at e;subst e;rw[c,←n]at X;exact hw X
  .by_cases T:j<b.length
   .rw[iP T]at G;exact u j p x G Z
   .have v:j=b.length:=by
     have:=(GI.mp G).1;simp at this;lia
    subst v;simp at G;subst G;rw[c,GH y]at Z;cases Z;lia
 .obtain⟨C,o,b,c3,c4,D,L,M,c,u,rfl⟩:=W;exact⟨_,U,q l o b B C D (aD.mono L λ_ _ h=>h.2) M (by lia) u⟩
theorem EG(F:Fun K "_law_other" "_law_other" Y61 f fd) (bl:Bl K mg Y)(jo:Callee P w K mg base 1 "_law_row" ["cell","points","outs"] (gB K Y)):aL P w K mg base CX0 2 f fd ["rows","cell","points","outs"] (gF K Y):=by
 refine F.okA Z61 λh1 A g6 s H vs Q E hr h=>?_
 obtain⟨M,pl,ol,c,a,m,xs,a4,os,oc,rfl,a7,b1,g9,hok,d5,b5,b3,I,a5,d6,c8,q⟩:=h
 refine⟨_,(aj (aM (aF bq (au aw U bl.len_ boot_len (aa (pv 0) ae)) ag (aH _))
  (ai (av (aP (aa (aI jo hr U (aa (pv 1) (aa (pv 2) (aa (pv 3) ae)))) ae))))
  az)
  (aj (aJ (i:=4) Z61.nd U (Or.inl U) (ar aO (pv 1) ag))
  (aj (aJ (i:=5) Z61.nd U (Or.inl U) (ar aO (ar bI (pv 1) ag) (au aw U bl.len_ boot_len (aa (pv 0) ae))))
  (aj (aJ (i:=6) Z61.nd U (Or.inl U) (bK cn U bl.list_ PyProof.Rows.boot_list (aa (aE bA (aE aG (pv 0) (pv 5) (λ_ _=>U)) ag (λ_ _=>U)) ae)))
  (aj (aJ (i:=7) Z61.nd U (Or.inl U) (ar aO (ar bI (pv 1) ag) (au aw U bl.len_ boot_len (aa (pv 6) ae))))
  (aj (aJ (i:=8) Z61.nd U (Or.inl U) (ar aO (ar bI (pv 1) ag) (ar cz (au aw U bl.len_ boot_len (aa (aE aG (pv 2) (pv 7) (λ_ _=>U)) ae)) ag)))
  (aj (mf (ar Ai (aE aG (pv 6) (pv 7) (λ_ _=>U)) (ar pE ag (pv 8))) (ma (pv 6) (pv 7) set_list))
  (aj (aJ (i:=9) Z61.nd U (Or.inl U) (aX (aa (bK cn U bl.list_ PyProof.Rows.boot_list (aa (aE bA (aE aG (pv 0) (pv 5) (λ_ _=>U)) ag (λ_ _=>U)) ae)) (aa (aE aG (pv 3) (ar aO (ar bI (pv 1) ag) ag) (λ_ _=>U)) ae))))
  (aj (aM (aF bq (pv 4) ag (aH _))
  (ai (av (tF U U bl.list_ U bl.reversed_ (aa (pv 0) ae))))
  az)
  (aj (aM (aF bq (pv 4) ag (aH _))
  (ai (av (ar dJ (ar dJ (cw dR (pv 0) de (df (pv 5))) (aP (aa (pv 9) ae))) (cw dR (pv 0) (df (ar bL (pv 5) ag)) de))))
  az)
  (aj (aM (aF bq (pv 4) ag (aH _))
  (ai (av (ar dJ (cw dR (pv 0) de (df (pv 5))) (cw dR (pv 0) (df (ar bL (pv 5) ag)) de))))
  az)
  (aj (aM (aF bq (pv 4) ag (aH _))
  (ai (av (ar dJ (ar dJ (cw dR (pv 0) de (df (pv 5))) (aP (aa (aX (aa (pv 6) (aa (aE bA (aE aG (pv 0) (pv 5) (λ_ _=>U)) ag (λ_ _=>U)) ae))) ae))) (cw dR (pv 0) (df (ar bL (pv 5) ag)) de))))
  az)
  (aj (aM (aF bq (pv 4) ag (aH _))
  (ai (av (ar dJ (cw dR (pv 0) (df (pv 5)) de) (cw dR (pv 0) de (df (pv 5))))))
  az)
  (ai (av (bK cn U bl.list_ PyProof.Rows.boot_list (aa (pv 0) ae))))))))))))))))),?_⟩
 have g8:a.length=m.length:=b1.1;have g7:xs.length=a4.length:=b5.1;refine⟨_,U,M,_,U,.inl (SqL.of a7),U,_,U,?_⟩;refine bG (λg=>?_) (λg=>?_)
 .refine⟨_,U,_,U,_,U,c,pl,ol,xs,a4,os,oc,U,d5,b5,a5,b3,d6,c8,λr g5 mm cd H1 s1 nr nb er eb f7 f6 g2=>⟨(by show 1<=sizeLine;decide),λl hl=>?_⟩⟩;have u1:=af hl (.lst [.ref r]);refine q l _ [(mm,cd)] _ (s1.trans u1) ab ⟨U,λj b e=>?_⟩ (by show 1<=31;decide) λb d=>?_
  .have hj:=(GI.mp e).1;rw[gI]at hj;have f9:j=0:=by lia
   subst f9;cases e;exact⟨r,U,g5,u1 _ _ er,u1 _ _ eb⟩
  .rw[hZ.mp d];exact⟨f7,g2,f6⟩
 have h0:a.length≠0:=λz=>g (decide_eq_true (by rw[z];rfl))
 have c2:(0:Int)<((a.length:Nat):Int):=by lia
 refine⟨_,U,_,_,U,U,(by show(0:Int)<6;decide),_,U,_,_,U,U,⟨by decide,by decide⟩,_,U,M,_,U,.inl (SqL.of a7),_,_,U,U,c2,?_⟩;have k0:=Ba (c / 6) (Int.ne_of_gt c2);have k1:=Bf (c / 6) c2;obtain⟨k,hk⟩:∃k:Nat,c / 6%((a.length:Nat):Int)=(k:Int):=⟨(c / 6%((a.length:Nat):Int)).toNat,by lia⟩;rw[hk]at k0 k1⊢;have f8:k<m.length:=by lia
 have ek:=GH f8;generalize m[k]=bk at ek;obtain⟨ra,e1,e7,e2,e3⟩:=b1.2 k bk ek;obtain⟨w1,w2,b0⟩:=hok bk (GJ ek);have a1:atI a (k:Int)=some (.ref ra):=aR e1;refine⟨_,U,_,U,M,_,_,_,U,U,SqL.of a7,a1,ra,_,_,_,U,U,SqT.of e2,U,e7,_,U,.inl (SqL.of e3),λb2 d4=>?_⟩;have u2:=af d4 (.lst (bk.1.map V.int));have a8:upd H b2 (.lst (bk.1.map V.int)) b2=some (.lst (bk.1.map V.int)):=ab;generalize upd H b2 (.lst (bk.1.map V.int))=H2 at u2 a8⊢;have d3:(bk.1.map V.int).length=a4.length:=by rw[bx,w1]
 have Bb:(0:Int)<(((bk.1.map V.int).length:Nat):Int):=by rw[d3];lia
 refine⟨_,U,_,_,U,U,⟨by decide,by decide⟩,_,U,b2,_,U,.inl (SqL.of a8),_,_,U,U,Bb,?_⟩;have c0:=Ba (c / 11) (Int.ne_of_gt Bb);have c1:=Bf (c / 11) Bb;obtain⟨B,g1⟩:∃B:Nat,c / 11%(((bk.1.map V.int).length:Nat):Int)=(B:Int):=⟨(c / 11%(((bk.1.map V.int).length:Nat):Int)).toNat,by lia⟩;rw[g1]at c0 c1⊢;rw[d3]at c1;have c3:=GH (l:=a4) (i:=B) (by lia);obtain⟨pa,g4,c7⟩:=b5.2 B _ c3;have EH:=(b3 _ (GJ c3)).two;have EI:=(b3 _ (GJ c3)).few;generalize a4[B]=ps at c7 EH EI;have a2:atI xs (B:Int)=some (.ref pa):=aR g4;have d2:((((ps.map V.int).length:Nat):Int)-1)=((ps.length:Nat):Int)-1:=by rw[bx]
 have u:(0:Int)<(((ps.map V.int).length:Nat):Int)-1:=by rw[d2];lia
 refine⟨_,U,_,_,U,U,⟨by decide,by decide⟩,_,U,_,U,pl,_,_,_,U,U,SqL.of (u2 _ _ d5),a2,pa,_,U,.inl (SqL.of (u2 _ _ c7)),_,_,U,U,_,_,U,U,u,?_⟩;have d0:=Ba (c / 13) (Int.ne_of_gt u);have d1:=Bf (c / 13) u;rw[d2]at d0 d1⊢;generalize c / 13%(((ps.length:Nat):Int)-1)=ob at d0 d1⊢;have eb:=GH (l:=bk.1) (i:=B) (by lia);have a3:atI (bk.1.map V.int) (B:Int)=some (.int bk.1[B]):=aR (get_map eb);have c6:=b0 _ (lI (l:=bk.1) (n:=B) (by lia));generalize bk.1[B]=xv at a3 c6;refine⟨_,U,_,U,b2,_,_,_,U,U,SqL.of a8,a3,_,U,_,_,U,U,⟨by lia,by lia,by decide⟩,_,_,U,U,_,U,_,U,b2,_,_,_,U,U,a8,uz (by lia),?_⟩;have c5:0<=Builtin.bitXor xv (1*2^ob.toNat):=A8 c6 (by rw[Int.one_mul];exact Int.le_of_lt (BP (by decide)));generalize Builtin.bitXor xv (1*2^ob.toNat)=zv at c5⊢;have u3:aq H (upd H2 b2 (.lst ((bk.1.map V.int).set B (.int zv)))):=u2.upd d4;have EJ:(bk.1.map V.int).set B (.int zv)=(bk.1.set B zv).map V.int:=by rw[List.map_set]
 rw[EJ]at u3⊢;have e6:upd H2 b2 (.lst ((bk.1.set B zv).map V.int)) b2=some (.lst ((bk.1.set B zv).map V.int)):=ab;generalize upd H2 b2 (.lst ((bk.1.set B zv).map V.int))=H3 at u3 e6⊢;have Cu:∀x∈bk.1.set B zv,0<=x:=λx hx=>by
  rcases List.mem_or_eq_of_mem_set hx with hx|hx
  .exact b0 x hx
  .rw[hx];exact c5
 refine⟨_,U,_,U,M,_,_,_,U,U,SqL.of (u3 _ _ a7),a1,ra,_,_,_,U,U,SqT.of (u3 _ _ e2),U,e7,_,U,.inl (SqL.of (u3 _ _ e3)),λb4 g3=>?_⟩;have t4:=af g3 (.lst (bk.1.map V.int));have e5:upd H3 b4 (.lst (bk.1.map V.int)) b4=some (.lst (bk.1.map V.int)):=ab;have u4:=u3.trans t4;have Cv:=t4 _ _ e6;generalize upd H3 b4 (.lst (bk.1.map V.int))=H4 at t4 e5 u4 Cv⊢;obtain⟨x0,x1,x2,x3,x4,rfl,_⟩:=id c8;have e9:=Ba (c / 7) (show(5:Int)≠0 by decide);have e8:=Bf (c / 7) (show(0:Int)<5 by decide);obtain⟨ov,f0,EK⟩:∃ov:Int,atI ([x0,x1,x2,x3,x4].map V.int) (c / 7%5)=some (.int ov)/\ov∈[x0,x1,x2,x3,x4]:=by
  generalize c / 7%5=kk at e9 e8;have:kk=0\/kk=1\/kk=2\/kk=3\/kk=4:=by lia
  rcases this with rfl|rfl|rfl|rfl|rfl
  .exact⟨x0,U,by simp⟩
  .exact⟨x1,U,by simp⟩
  .exact⟨x2,U,by simp⟩
  .exact⟨x3,U,by simp⟩
  .exact⟨x4,U,by simp⟩
 refine⟨_,U,_,U,_,_,U,U,⟨by decide,by decide⟩,_,_,U,U,(by show(0:Int)<5;decide),ol,_,_,_,U,U,SqL.of (u4 _ _ d6),f0,bu,λW g0=>?_⟩;have t5:=af g0 (.tup [.ref b4,.int ov]);have e4:upd H4 W (.tup [.ref b4,.int ov]) W=some (.tup [.ref b4,.int ov]):=ab;have u5:=u4.trans t5;have Cw:=t5 _ _ e5;have Cy:=t5 _ _ Cv;generalize upd H4 W (.tup [.ref b4,.int ov])=H5 at t5 e4 u5 Cw Cy⊢;have X:=u5 _ _ a7;have S:BRL H5 a m:=b1.same u5;have a9:jS a none (some (k:Int))=a.take k:=xo (by lia);have c4:jS a (some ((k:Int)+1)) none=a.drop (k+1):=by
  rw[rg (by lia) (by lia)];rfl
 have EL:jS a (some (k:Int)) none=a.drop k:=by
  rw[rg (by lia) (by lia)];rfl
 have R:∀{ys zs:List V},ys.length+zs.length<=60->ys.length+zs.length<=sizeLine:=λh=>yj (ax (by lia))
 generalize c%6=kd;refine⟨_,U,U,_,U,?_⟩;refine bG (λ_=>?_) (λ_=>?_)
 .exact⟨_,U,M,_,U,SqL.of X,λp hp=>q p _ m.reverse _ (u5.trans (af hp _)) ab (aD.revR (S.same (af hp _))) (by rw[wb];lia) (hok.sub λb d=>List.mem_reverse.mp d)⟩
 refine⟨_,U,U,_,U,?_⟩;refine bG (λ_=>?_) (λ_=>?_)
 .refine⟨_,U,_,U,_,U,M,_,U,SqL.of X,λD I=>?_⟩;rw[a9];have L:=af I (.lst (a.take k));have f1:upd H5 D (.lst (a.take k)) D=some (.lst (a.take k)):=ab;generalize upd H5 D (.lst (a.take k))=G1 at L f1⊢;have vA:aq G1 G1:=aq.refl _;refine⟨_,U,(by show 1<=sizeLine;decide),λC u=>?_⟩;have J:=af u (.lst [.ref W]);have Z:upd G1 C (.lst [.ref W]) C=some (.lst [.ref W]):=ab;have y:=J _ _ (vA _ _ f1);have t:=(L.trans vA).trans J;generalize upd G1 C (.lst [.ref W])=G2 at J Z y t⊢;refine⟨D,C,_,_,U,U,y,Z,R (by rw[ip,gI];lia),λO N=>?_⟩;have v3:=af N (.lst (a.take k++[.ref W]));have f3:upd G2 O (.lst (a.take k++[.ref W])) O=some (.lst (a.take k++[.ref W])):=ab;have o:=t.trans v3;generalize upd G2 O (.lst (a.take k++[.ref W]))=G3 at v3 f3 o⊢;refine⟨_,U,_,U,_,_,U,U,_,U,M,_,U,SqL.of (o _ _ X),λp4 a5=>?_⟩;rw[c4];have v4:=af a5 (.lst (a.drop (k+1)));have f4:upd G3 p4 (.lst (a.drop (k+1))) p4=some (.lst (a.drop (k+1))):=ab;have a6:=v4 _ _ f3;have a0:=o.trans v4;generalize upd G3 p4 (.lst (a.drop (k+1)))=G4 at v4 f4 a6 a0⊢;refine⟨O,p4,_,_,U,U,a6,f4,R (by rw[cK,ip,gI,jv];lia),λp5 b6=>?_⟩;have v5:=af b6 (.lst (a.take k++[.ref W]++a.drop (k+1)));have G:=a0.trans v5;have v:=S.same G;refine q p5 _ (m.take k++[(bk.1,ov)]++m.drop (k+1)) _ (u5.trans G) ab (aD.appR (aD.snoc (aD.takeR v k) ⟨b4,G _ _ e4,G _ _ Cw⟩) (aD.dropR v (k+1))) (by rw[cK,cK,ip,gI,jv];lia) λb d=>?_
  rcases gg.mp d with d|d
  .rcases gg.mp d with d|d
   .exact hok b (qf d)
   .rw[hZ.mp d];exact⟨w1,EK,b0⟩
  .exact hok b (qg d)
 refine⟨_,U,U,_,U,?_⟩;refine bG (λ_=>?_) (λ_=>?_)
 .refine⟨_,U,_,U,_,U,M,_,U,SqL.of X,λD I=>?_⟩;rw[a9];have L:=af I (.lst (a.take k));have f1:upd H5 D (.lst (a.take k)) D=some (.lst (a.take k)):=ab;generalize upd H5 D (.lst (a.take k))=G1 at L f1⊢;refine⟨_,U,_,U,_,_,U,U,_,U,M,_,U,SqL.of (L _ _ X),λC u=>?_⟩;rw[c4];have J:=af u (.lst (a.drop (k+1)));have Z:upd G1 C (.lst (a.drop (k+1))) C=some (.lst (a.drop (k+1))):=ab;have y:=J _ _ f1;have t:=L.trans J;generalize upd G1 C (.lst (a.drop (k+1)))=G2 at J Z y t⊢;refine⟨D,C,_,_,U,U,y,Z,R (by rw[ip,jv];lia),λO N=>?_⟩;have v3:=af N (.lst (a.take k++a.drop (k+1)));have o:=t.trans v3;have v:=S.same o;refine q O _ (m.take k++m.drop (k+1)) _ (u5.trans o) ab (aD.appR (aD.takeR v k) (aD.dropR v (k+1))) (by rw[cK,ip,jv];lia) λb d=>?_
  rcases gg.mp d with d|d
  .exact hok b (qf d)
  .exact hok b (qg d)
 refine⟨_,U,U,_,U,?_⟩;refine bG (λ_=>?_) (λ_=>?_)
 .refine⟨_,U,_,U,_,U,M,_,U,SqL.of X,λD I=>?_⟩;rw[a9];have L:=af I (.lst (a.take k));have f1:upd H5 D (.lst (a.take k)) D=some (.lst (a.take k)):=ab;generalize upd H5 D (.lst (a.take k))=G1 at L f1⊢;refine⟨_,U,_,U,_,U,M,_,_,_,U,U,SqL.of (L _ _ X),a1,ra,_,_,_,U,U,SqT.of (L _ _ (u5 _ _ e2)),U,bu,λT f5=>?_⟩;have vA:=af f5 (.tup [.ref b2,.int bk.2]);have e0:upd G1 T (.tup [.ref b2,.int bk.2]) T=some (.tup [.ref b2,.int bk.2]):=ab;generalize upd G1 T (.tup [.ref b2,.int bk.2])=GA at vA e0⊢;refine⟨(by show 1<=sizeLine;decide),λC u=>?_⟩;have J:=af u (.lst [.ref T]);have Z:upd GA C (.lst [.ref T]) C=some (.lst [.ref T]):=ab;have y:=J _ _ (vA _ _ f1);have t:=(L.trans vA).trans J;generalize upd GA C (.lst [.ref T])=G2 at J Z y t⊢;refine⟨D,C,_,_,U,U,y,Z,R (by rw[ip,gI];lia),λO N=>?_⟩;have v3:=af N (.lst (a.take k++[.ref T]));have f3:upd G2 O (.lst (a.take k++[.ref T])) O=some (.lst (a.take k++[.ref T])):=ab;have o:=t.trans v3;generalize upd G2 O (.lst (a.take k++[.ref T]))=G3 at v3 f3 o⊢;refine⟨_,U,_,U,_,_,U,U,_,U,M,_,U,SqL.of (o _ _ X),λp4 a5=>?_⟩;rw[c4];have v4:=af a5 (.lst (a.drop (k+1)));have f4:upd G3 p4 (.lst (a.drop (k+1))) p4=some (.lst (a.drop (k+1))):=ab;have a6:=v4 _ _ f3;have a0:=o.trans v4;generalize upd G3 p4 (.lst (a.drop (k+1)))=G4 at v4 f4 a6 a0⊢;refine⟨O,p4,_,_,U,U,a6,f4,R (by rw[cK,ip,gI,jv];lia),λp5 b6=>?_⟩;have v5:=af b6 (.lst (a.take k++[.ref T]++a.drop (k+1)));have G:=a0.trans v5;have v:=S.same G;have vB:=(J.trans v3).trans (v4.trans v5);refine q p5 _ (m.take k++[(bk.1.set B zv,bk.2)]++m.drop (k+1)) _ (u5.trans G) ab (aD.appR (aD.snoc (aD.takeR v k) ⟨b2,vB _ _ e0,G _ _ Cy⟩) (aD.dropR v (k+1))) (by rw[cK,cK,ip,gI,jv];lia) λb d=>?_
  rcases gg.mp d with d|d
  .rcases gg.mp d with d|d
   .exact hok b (qf d)
   .rw[hZ.mp d];exact⟨by show(bk.1.set B zv).length=_;rw[wz];exact w1,w2,Cu⟩
  .exact hok b (qg d)
 refine⟨_,U,U,_,U,?_⟩;refine bG (λ_=>?_) (λ_=>?_)
 .refine⟨_,U,_,U,_,U,M,_,U,SqL.of X,λD I=>?_⟩;rw[EL];have L:=af I (.lst (a.drop k));have f1:upd H5 D (.lst (a.drop k)) D=some (.lst (a.drop k)):=ab;generalize upd H5 D (.lst (a.drop k))=G1 at L f1⊢;refine⟨_,U,_,U,_,U,M,_,U,SqL.of (L _ _ X),λC u=>?_⟩;rw[a9];have J:=af u (.lst (a.take k));have Z:upd G1 C (.lst (a.take k)) C=some (.lst (a.take k)):=ab;have y:=J _ _ f1;have t:=L.trans J;generalize upd G1 C (.lst (a.take k))=G2 at J Z y t⊢;refine⟨D,C,_,_,U,U,y,Z,R (by rw[jv,ip];lia),λO N=>?_⟩;have v3:=af N (.lst (a.drop k++a.take k));have o:=t.trans v3;have v:=S.same o;refine q O _ (m.drop k++m.take k) _ (u5.trans o) ab (aD.appR (aD.dropR v k) (aD.takeR v k)) (by rw[cK,jv,ip];lia) λb d=>?_
  rcases gg.mp d with d|d
  .exact hok b (qg d)
  .exact hok b (qf d)
 exact⟨_,U,M,_,U,.inl (SqL.of X),λp hp=>q p _ m _ (u5.trans (af hp _)) ab (S.same (af hp _)) (by lia) hok⟩
theorem EM(F:Fun K "_law_least" "_law_least" Y59 f fd) (bl:Bl K mg Y)(oq:Callee P w K mg base 1 "_law_places" ["points"] (fF K Y)) (tV:Callee P w K mg base 1 "_law_due" ["codes","way","outs"] (jm K Y)) (nA:Callee P w K mg base 1 "_law_fitting" ["rows","at"] (eW K Y)):aL P w K mg base CX0 2 f fd ["points","two","ways","outs"] (gG K Y):=by
 refine F.okA Z59 λg3 A f4 s H vs Q E hr h=>?_
 obtain⟨pl,tw,wl,ol,O,M,xs,c,o,oc,rfl,b4,a7,c3,h4,b0,e8,e3,e0,e9,c8,q⟩:=h
 refine⟨_,(aj (bp PassesOwn.never U (aW (aI oq hr U (aa (pv 0) ae))) (aC (i:=4) Z59.nd U (Or.inr U))
  (aj (aJ (i:=5) Z59.nd U (Or.inl U) (aP ae))
  (aj (bp PassesOwn.never U (aZ U bl.range_ (aa ag ae)) (aC (i:=6) Z59.nd U (Or.inr U))
  (aj (lV (i:=7) Z59.nd U (Or.inl U) (aW (aI nA hr U (aa (aE aG (pv 1) (pv 6) (λ_ _=>U)) (aa (pv 4) ae)))) (bw (N:=["j","two","k"]) (fr:=[1,6]) (cl:=[("two",s.heap.objs.size+1+1),("k",s.heap.objs.size+1+1+1+1)]) U U (by decide+kernel) (by decide+kernel) U (by decide+kernel) U U U (hQ.mpr ⟨U,hQ.mpr ⟨U,iQ _⟩⟩) U) U (λ_ _ _ _=>bz) (λ_ _ _ _=>(aE (gm (K:=K) U) (aE (dz (K:=K) U) (aE (dz (K:=K) U) (pv 1) (pv 2) (λ_ _=>U)) (pv 0) (λ_ _=>U)) ag (λ_ _=>U))))
  (ai (aV (eG PySem.F.plainAttrs_list PySem.F.slot_list_append PySem.F.type_list_append bg (pv 5) (aa (aI tV hr U (aa (pv 7) (aa (aE aG (pv 2) (pv 6) (λ_ _=>U)) (aa (pv 3) ae)))) ae))))))
  (ai (aM (aF (AB hr) (aE aG (pv 5) ag (λ_ _=>U)) (aE aG (pv 5) ag (λ_ _=>U)) (aH _))
  (ai (av (cO (aZ U bl.range_ (aa (au aw U bl.len_ boot_len (aa (pv 4) ae)) ae)) (bw (N:=["k","points","at"]) (fr:=[0,4]) (cl:=[("points",s.heap.objs.size+1),("at",s.heap.objs.size+1+1+1)]) U U (by decide+kernel) (by decide+kernel) U (by decide+kernel) U U U (hQ.mpr ⟨U,hQ.mpr ⟨U,iQ _⟩⟩) U) U (λ_ _ _ _=>bz) (λ_ _ _ _=>(aE (dz (K:=K) U) (aE (dz (K:=K) U) (pv 1) (pv 0) (λ_ _=>U)) (aE (dz (K:=K) U) (pv 2) (pv 0) (λ_ _=>U)) (λ_ _=>U))))))
  az)))))
  (ai (av ky))),?_⟩
 refine⟨_,U,pl,xs,c,U,b4,a7,c3,h4,λql zs H2 s2 eq hq=>?_⟩;have c2:zs.length=(bC (gls c)).length:=hq.1;refine⟨ql,U,⟨_,SqL.of eq⟩,bF (xs:=zs) (λj I m=>aq H2 m/\(∀(j':Nat)(p:List Nat),j'<j->(bC (gls c))[j']?=some p->vdd o O p=vdd o M p)/\∃c4 c5 T S:Option V,I=[some (.ref pl),some (.ref tw),some (.ref wl),some (.ref ol),c4,c5,T,S]) ⟨aq.refl _,(λj' p hj=>absurd hj (zb _)),_,_,_,_,U⟩ (λj I m _ h=>SqL.of (h.1 _ _ eq)) (λj y I m ey h=>?_) (λI m h=>?_)⟩
 .obtain⟨sm,B,c4,c5,T,S,rfl⟩:=h;obtain⟨r,p,rfl,ep,_,a5⟩:=aD.get hq ey;have a6:=hV.iff.mp (GJ ep);have lp:p.length=c.length:=by rw[a6.1];unfold gls;rw[bx]
  have c0:=s2.trans sm;refine⟨(by show 0<=sizeLine;decide),λJ a4=>?_⟩;have u0:=af a4 (.lst []);have b1:upd m J (.lst []) J=some (.lst []):=ab;generalize upd m J (.lst [])=H0 at u0 b1⊢;refine⟨_,U,(by decide),(by decide),cM (λi I R=>aq m R/\∃(tx:List V)(T S:Option V),R J=some (.lst tx)/\TdL R tx ([vdd o O p,vdd o M p].take i)/\I=[some (.ref pl),some (.ref tw),some (.ref wl),some (.ref ol),some (.ref r),some (.ref J),T,S]) ⟨u0,[],_,_,b1,aD.nil,U⟩ (λi I R hi h=>?_) (λI R h=>?_)⟩
  .obtain⟨sx,tx,T,S,v,t,rfl⟩:=h;have f9:i<2:=hi;obtain⟨d,L,b5,f3,f2⟩:∃d:RwD,lG H c d/\atI [V.ref O.rl,.ref M.rl] (0+(i:Int))=some (.ref d.rl)/\atI [V.str O.wy,.str M.wy] (0+(i:Int))=some (.str d.wy)/\[vdd o O p,vdd o M p][i]?=some (vdd o d p):=by
    have:i=0\/i=1:=by lia
    rcases this with rfl|rfl
    .exact⟨O,e3,U,U,U⟩
    .exact⟨M,e0,U,U,U⟩
   have sX:=c0.trans sx;have a9:=L.so (So.of sX);have f7:d.rx.length=d.bms.length:=L.r.1;have Gx:=L.n;refine⟨_,U,_,U,tw,_,_,_,U,U,SqL.of (sX _ _ b0),b5,_,U,d.rl,r,d.rx,d.bms,p,U,a9.e,a9.r,L.n,sx _ _ (sm _ _ a5),by lia,(λb e6=>by rw[lp];exact L.b b e6),λfl H3 s3 f5 a0=>?_⟩;have d6:=xM d.bms p;have a8:=yW (bms:=d.bms) (at_:=p);have Cz:vdd o d p=ver (wf d.wi (o0 o) (o4 o)) (cdF d.bms (rC d.bms p)):=rfl;generalize rC d.bms p=fit at a0 d6 a8 Cz;have a3:=sX.trans s3;have c1:∀k,k<d.bms.length->∃ra bl,d.rx[k]?=some (.ref ra)/\H ra=some (.tup [.ref bl,.int (d.bms.getD k ([],0)).2]):=λk hk=>by
    obtain⟨ra,e1,bl,e2,_⟩:=L.r.2 k _ (GH hk);refine⟨ra,bl,e1,?_⟩;rw[e2,dE,GH hk];rfl
   refine⟨fl,U,⟨_,SqL.of a0⟩,dM (xs:=vN fit) (λE a x m=>aq H3 m/\m E=some (.lst x)/\x=(cdF d.bms (fit.take a)).map V.int) (λE hE=>⟨af hE _,ab,U⟩) (λE a x m hE _ h=>SqL.of (h.1 _ _ a0)) (λE a y x H4 hE e h=>?_) (λE x H4 hE h=>?_)⟩
   .obtain⟨a1,eE,rfl⟩:=h;obtain⟨k,rfl,ek⟩:=Cp e;have ha:a<(vN fit).length:=(GI.mp e).1;obtain⟨ra,bl,x1,x2⟩:=c1 k (a8 k (GJ ek));have sY:=a3.trans a1;refine⟨_,U,_,U,tw,_,_,_,U,U,SqL.of (sY _ _ b0),b5,_,U,d.rl,_,_,_,U,U,SqL.of (sY _ _ L.e),aR x1,ra,_,_,_,U,U,SqT.of (sY _ _ x2),U,cP.mk ha eE (ax (by rw[bx];unfold cdF;rw[bx,ip];lia)) ⟨a1.upd hE,ab,?_⟩⟩;rw[take_snoc ek];unfold cdF;rw[ij,ij];rfl
   obtain⟨s4,eE,rfl⟩:=h;rw[gy,iv]at eE;have e4:(cdF d.bms fit).length<=60:=by unfold cdF;rw[bx];lia
   have a2:=a3.trans s4;have EN:=s4 _ _ (s3 _ _ v);refine⟨_,U,.inl ⟨U,_,SqL.of EN⟩,_,U,_,U,_,U,wl,_,_,_,U,U,SqL.of (a2 _ _ e8),f3,_,U,E,ol,d.wy,d.wi,cdF d.bms fit,o,oc,U,eE,e4,L.w,a2 _ _ e9,c8,λrt H5 s5 e5=>?_⟩;have W:=(s3.trans s4).trans s5;have Bc:=W _ _ v;have EO:=t.1;rw[ip]at EO;refine⟨J,_,_,U,U,Bc,ax (by lia),?_⟩;refine⟨(sx.trans W).upd a4,tx++[.ref rt],_,_,ab,?_,U⟩;rw[take_snoc f2,Cz];exact aD.snoc (aD.mono t λ_ _ e=>(aQ Bc) _ _ (W _ _ e)) ((aQ Bc) _ _ e5)
  .obtain⟨sx,tx,T,S,v,t,rfl⟩:=h;have t:TdL R tx [vdd o O p,vdd o M p]:=t;obtain⟨r0,g0,f0⟩:=t.2 0 _ U;obtain⟨r1,g1,f1⟩:=t.2 1 _ U;have X:aq H2 R:=sm.trans sx;refine⟨_,U,J,_,_,_,U,U,SqL.of v,aR (j:=0) g0,_,U,J,_,_,_,U,U,SqL.of v,aR (j:=1) g1,?_⟩;refine yU (SqT.of f0) (SqT.of f1) ⟨_,U,?_⟩;refine bG (λg=>?_) (λg=>?_)
   .have g:=of_decide_eq_true g;have b3:=X _ _ a5;have sA:=s2.trans X;have ER:=sA _ _ b4;have ES:=a7.same sA;have f6:(vN p).length=p.length:=gy p;refine⟨_,U,r,_,U,.inl (SqL.of b3),_,U,(by show -(2^62)<=(((vN p).length:Nat):Int);lia),(by show(((vN p).length:Nat):Int)<2^62;lia),bY (λD a x m=>aq R m/\m D=some (.lst x)/\x=((dH c p).take a).map V.int) (λD hD=>⟨af hD _,ab,U⟩) (λD a x m hD ha hh=>?_) (λD x m hD hh=>?_)⟩
    .obtain⟨u,eD,rfl⟩:=hh;have e7:a<c.length:=by lia
     have C:=GH e7;have G:=GH (l:=p) (i:=a) (by lia);generalize c[a]=ps at C;generalize p[a]=b at G;obtain⟨pa,e1,e2⟩:=ES.2 a ps C;have g2:b<ps.length-1:=a6.2 a b _ G (by unfold gls;rw[fo,C];rfl);have b6:=GH (l:=ps) (i:=b) (by lia);have d5:ps.getD b 0=ps[b]:=by rw[dE,b6];rfl
     have d2:=xQ C G;have d4:atI (vN p) (0+(a:Int))=some (.int (b:Int)):=by rw[BO];exact aR (zT G)
     have ET:atI xs (0+(a:Int))=some (.ref pa):=by rw[BO];exact aR e1
     refine⟨_,U,_,U,pl,_,_,_,U,U,SqL.of (u _ _ ER),ET,_,U,_,U,r,_,_,_,U,U,SqL.of (u _ _ b3),d4,pa,_,_,_,U,U,SqL.of (u _ _ e2),aR (by rw[fo,b6];rfl),cP.mk ha eD (ax (by rw[bx,ip];lia)) ⟨u.upd hD,ab,?_⟩⟩;rw[take_snoc d2,d5,ij];rfl
    .obtain⟨u,eD,rfl⟩:=hh;have f8:=qd lp;rw[show(((vN p).length:Nat):Int).toNat=(dH c p).length by lia,iv]at eD;exact q (.ref D) m (sA.trans u) (.inl ⟨j,p,D,ep,g,B,U,eD⟩)
   .refine⟨X,λj' p' d3 Z=>?_,_,_,_,_,U⟩;rcases Nat.lt_succ_iff_lt_or_eq.mp d3 with z|z
    .exact B j' p' z Z
    .rw[z,ep]at Z;cases Z;by_cases hz:vdd o O p=vdd o M p
     .exact hz
     .exact absurd (decide_eq_true hz) g
 .obtain⟨sm,B,c4,c5,T,S,rfl⟩:=h;exact q .non m (s2.trans sm) (.inr ⟨λp hp=>let ⟨j,ej⟩:=js hp;B j p (by rw[c2];exact(GI.mp ej).1) ej,U⟩)
theorem EU(F:Fun K "_law_good" "_law_good" Y57 f fd) (bl:Bl K mg Y)(o:Callee P w K mg base 1 "_law_whole" ["found"] (gD K Y)):aL P w K mg base CX0 2 f fd ["found","due"] (ib K Y):=by
 refine F.okA Z57 λC A l s H D Q E m h=>?_
 obtain⟨v,u,rfl,t,q⟩:=h
 refine⟨_,(aj (aM (aF pF (pv 1) ky (aH _))
  (ai (av (eI pF (pv 0) ky (aH _))))
  az)
  (aj (aM (PW.pt (vT (cy (cD (au cj U bl.isinstance_ PyProof.Rows.boot_isinstance (aa (pv 0) (aa (iD (v:=.ty "list") U bl.list_ PyProof.Rows.boot_list U) ae))))) (rV (aF (Aw m) (pv 0) (pv 1) (aH _)))))
  (ai (av fK))
  az)
  (aj (bp PassesOwn.never U (aW (pv 0)) (aC (i:=2) Z57.nd U (Or.inl U))
  (ai (aM (cy (cD (aI o m U (aa (pv 2) ae))))
  (ai (av fK))
  az)))
  (ai (av fK))))),?_⟩
 rcases t with⟨rfl,rfl⟩|⟨x,y,n,rfl,rfl,b,B,G⟩
 .refine⟨_,U,U,true,by rw[decide_eq_true U],eJ ?_⟩;exact⟨_,U,U,q⟩
 .have j:∀z∈n.map V.int,fh z=true\/∃r,z=.ref r:=λz p=>by
   obtain⟨k,_,rfl⟩:=en.mp p;exact .inl U
  refine⟨_,U,U,false,by rw[decide_eq_false (by intro z;cases z)],bR ?_⟩;refine⟨_,U,_,_,_,_,true,U,.ty _,.inl (.lst b),(by first|rfl|with_unfolding_all rfl|decide+kernel),_,U,bR ?_⟩;refine⟨_,U,_,U,uQ (SqL.of b) (SqL.of B) j ⟨_,U,bR ?_⟩⟩;refine⟨_,U,x,U,⟨_,SqL.of b⟩,bF (xs:=n.map V.int) (λi a d=>d=H/\∃g:Option V,a=[some (.ref x),some (.ref y),g]) ⟨U,_,U⟩ (λi a d _ h=>by rw[h.1];exact SqL.of b) (λi z a d e h=>?_) (λa d h=>?_)⟩
  .obtain⟨rfl,g,rfl⟩:=h;obtain⟨c,rfl⟩:=mU e;exact⟨_,U,_,U,_,U,bR ⟨U,_,U⟩⟩
  .obtain⟨rfl,g,rfl⟩:=h;exact q
theorem O_4(F:Fun K "__init__" "First.__init__" Y4 f fd) (bl:Bl K mg Y)(e:cc CX0 P w K mg base 1 "Way" "__init__" ["self","called"] (cB K Y)):aL P w K mg base CX0 2 f fd ["self"] (J0 K Y):=by
 refine F.ok Z4 (λd H Q E h=>?_) (λi A a s H d Q E g h=>?_)
 .obtain⟨x,c,rfl,b,q⟩:=h;rfl
 obtain⟨x,c,rfl,b,q⟩:=h;refine⟨_,(ai (aV (fj e bM g U (aa (pv 0) (aa aS ae))))),?_⟩;exact⟨_,U,x,c,_,U,b,q⟩
theorem EV(F:Fun K "__init__" "Only.__init__" Y13 f fd) (bl:Bl K mg Y)(e:cc CX0 P w K mg base 1 "Way" "__init__" ["self","called"] (cH K Y)):aL P w K mg base CX0 2 f fd ["self"] (J8 K Y):=by
 refine F.ok Z13 (λd H Q E h=>?_) (λi A a s H d Q E g h=>?_)
 .obtain⟨x,c,rfl,b,q⟩:=h;rfl
 obtain⟨x,c,rfl,b,q⟩:=h;refine⟨_,(ai (aV (fj e bM g U (aa (pv 0) (aa aS ae))))),?_⟩;exact⟨_,U,x,c,_,U,b,q⟩
theorem O_8(F:Fun K "__init__" "Like.__init__" Y8 f fd) (bl:Bl K mg Y)(e:cc CX0 P w K mg base 1 "Way" "__init__" ["self","called"] (cI K Y)):aL P w K mg base CX0 2 f fd ["self"] (J4 K Y):=by
 refine F.ok Z8 (λd H Q E h=>?_) (λi A a s H d Q E g h=>?_)
 .obtain⟨x,c,rfl,b,q⟩:=h;rfl
 obtain⟨x,c,rfl,b,q⟩:=h;refine⟨_,(ai (aV (fj e bM g U (aa (pv 0) (aa aS ae))))),?_⟩;exact⟨_,U,x,c,_,U,b,q⟩
theorem EW(F:Fun K "__init__" "Low.__init__" Y10 f fd) (bl:Bl K mg Y)(e:cc CX0 P w K mg base 1 "Way" "__init__" ["self","called"] (cY K Y)):aL P w K mg base CX0 2 f fd ["self"] (J6 K Y):=by
 refine F.ok Z10 (λd H Q E h=>?_) (λi A a s H d Q E g h=>?_)
 .obtain⟨x,c,rfl,b,q⟩:=h;rfl
 obtain⟨x,c,rfl,b,q⟩:=h;refine⟨_,(ai (aV (fj e bM g U (aa (pv 0) (aa aS ae))))),?_⟩;exact⟨_,U,x,c,_,U,b,q⟩
theorem O_6(F:Fun K "__init__" "High.__init__" Y6 f fd) (bl:Bl K mg Y)(e:cc CX0 P w K mg base 1 "Way" "__init__" ["self","called"] (cJ K Y)):aL P w K mg base CX0 2 f fd ["self"] (J2 K Y):=by
 refine F.ok Z6 (λd H Q E h=>?_) (λi A a s H d Q E g h=>?_)
 .obtain⟨x,c,rfl,b,q⟩:=h;rfl
 obtain⟨x,c,rfl,b,q⟩:=h;refine⟨_,(ai (aV (fj e bM g U (aa (pv 0) (aa aS ae))))),?_⟩;exact⟨_,U,x,c,_,U,b,q⟩
theorem EY(F:Fun K "__init__" "Sum.__init__" Y15 f fd) (bl:Bl K mg Y)(e:cc CX0 P w K mg base 1 "Way" "__init__" ["self","called"] (cZ K Y)):aL P w K mg base CX0 2 f fd ["self"] (J10 K Y):=by
 refine F.ok Z15 (λd H Q E h=>?_) (λi A a s H d Q E g h=>?_)
 .obtain⟨x,c,rfl,b,q⟩:=h;rfl
 obtain⟨x,c,rfl,b,q⟩:=h;refine⟨_,(ai (aV (fj e bM g U (aa (pv 0) (aa aS ae))))),?_⟩;exact⟨_,U,x,c,_,U,b,q⟩
theorem O_2(F:Fun K "has_code" "Domain.has_code" Y2 f fd) (bl:Bl K mg Y)(e:Callee P w K mg base 1 "is_whole" ["value"] (fv K Y)):aL P w K mg base CX0 2 f fd ["self","value"] (bO K Y):=by
 refine F.okA Z2 λn A c s H o Q E g h=>?_
 obtain⟨a,b,i,rfl,⟨p,fs,d,j,k,_⟩,m,l,q⟩:=h;refine⟨_,(ai (av (gN (aI e g U (aa (pv 1) ae)) (jb (mi fg fg (bc (pv 0) U) (pv 1) (bc (pv 0) U)))))),?_⟩;refine⟨_,U,i,U,_,U,eJ ?_⟩;refine⟨_,U,a,_,_,_,_,U,d,bl.k_Numbers,bl.na_Numbers_low,j,_,U,_,_,U,U,_,U,fm m ?_⟩;refine⟨_,U,a,_,_,_,_,U,d,bl.k_Numbers,bl.na_Numbers_high,k,_,_,U,U,?_⟩;show Q (.bl (decide (i<=b.2))) H;rw[decide_eq_true l];exact q
theorem O_3(F:Fun K "has_code" "Domain.has_code" Y3 f fd) (bl:Bl K mg Y)(e:Callee P w K mg base 1 "is_whole" ["value"] (fv K Y)):aL P w K mg base CX0 2 f fd ["self","value"] (b9 K Y):=by
 refine F.okA Z3 λn A c s H o Q E g h=>?_
 obtain⟨a,b,i,rfl,⟨p,fs,d,j,k,_⟩,m,l,q⟩:=h;refine⟨_,(ai (av (gN (aI e g U (aa (pv 1) ae)) (jb (mi fg fg (bc (pv 0) U) (pv 1) (bc (pv 0) U)))))),?_⟩;refine⟨_,U,i,U,_,U,eJ ?_⟩;refine⟨_,U,a,_,_,_,_,U,d,bl.k_Words,bl.na_Words_low,j,_,U,_,_,U,U,_,U,fm m ?_⟩;refine⟨_,U,a,_,_,_,_,U,d,bl.k_Words,bl.na_Words_high,k,_,_,U,U,?_⟩;show Q (.bl (decide (i<=b.2))) H;rw[decide_eq_true l];exact q
theorem EZ(F:Fun K "__init__" "Numbers.__init__" Y12 f fd) (bl:Bl K mg Y)(d:cc CX0 P w K mg base 1 "Domain" "__init__" ["self","low","high"] (bN K Y)):aL P w K mg base CX0 2 f fd ["self","low","high"] (bo K Y):=by
 refine F.okA Z12 λi A a s H j Q E c h=>?_
 obtain⟨x,e,lo,hi,rfl,b,g,q⟩:=h
 refine⟨_,(aj (aM (aF mh (pv 1) (pv 2) (aH _))
  (ai bE)
  az)
  (ai (aV (fj d bM c U (aa (pv 0) (aa (pv 1) (aa (pv 2) ae))))))),?_⟩
 exact⟨_,U,_,U,_,_,U,U,_,U,cm (by lia) ⟨_,U,_,U,_,U,x,e,lo,hi,U,b,q⟩⟩
theorem E1(F:Fun K "verdict" "Way.verdict" Y24 f fd) (bl:Bl K mg Y)(r:bj CX0 P w K mg base 1 Y.b "chosen" ["self","codes","outcome"] (J1 K Y)):aL P w K mg base CX0 2 f fd ["self","codes","outcome"] (J12 K Y):=by
 refine F.ok Z24 (λp H Q E h=>?_) (λu A i s H p Q E t h=>?_)
 .obtain⟨x,c,o,a,b,rfl,⟨m,z,e⟩,j,d,g,k,q⟩:=h;rfl
 obtain⟨x,c,o,a,b,rfl,⟨m,z,e⟩,j,d,g,k,q⟩:=h
 refine⟨_,(aj (aM (cy (c9 (pv 1) (by intro _;rfl)))
  (ai (av (cC (v:=.ref Y.l) U bl.NONE_ U)))
  az)
  (ai (av (oO r bM bl.k_First t (pv 0) (aa (pv 1) (aa (pv 2) ae)))))),?_⟩
 refine⟨_,U,!(a.map V.int).isEmpty,.inl ⟨_,g,U⟩,?_⟩;cases a with
 |nil=>exact eJ (q _ _ (aq.refl _) (.inr bl.q_NONE))
 |cons n a=>exact bR ⟨_,U,x,_,_,U,e,U,_,U,_,U,x,c,o,n,a,b,U,⟨m,z,e⟩,j,d,g,zf k,q⟩
theorem E2(F:Fun K "verdict" "Way.verdict" Y28 f fd) (bl:Bl K mg Y)(r:bj CX0 P w K mg base 1 Y.c "chosen" ["self","codes","outcome"] (J9 K Y)):aL P w K mg base CX0 2 f fd ["self","codes","outcome"] (J16 K Y):=by
 refine F.ok Z28 (λp H Q E h=>?_) (λu A i s H p Q E t h=>?_)
 .obtain⟨x,c,o,a,b,rfl,⟨m,z,e⟩,j,d,g,k,q⟩:=h;rfl
 obtain⟨x,c,o,a,b,rfl,⟨m,z,e⟩,j,d,g,k,q⟩:=h
 refine⟨_,(aj (aM (cy (c9 (pv 1) (by intro _;rfl)))
  (ai (av (cC (v:=.ref Y.l) U bl.NONE_ U)))
  az)
  (ai (av (oO r bM bl.k_Only t (pv 0) (aa (pv 1) (aa (pv 2) ae)))))),?_⟩
 refine⟨_,U,!(a.map V.int).isEmpty,.inl ⟨_,g,U⟩,?_⟩;cases a with
 |nil=>exact eJ (q _ _ (aq.refl _) (.inr bl.q_NONE))
 |cons n a=>exact bR ⟨_,U,x,_,_,U,e,U,_,U,_,U,x,c,o,n,a,b,U,⟨m,z,e⟩,j,d,g,zf k,q⟩
theorem E3(F:Fun K "verdict" "Way.verdict" Y26 f fd) (bl:Bl K mg Y)(t:bj CX0 P w K mg base 1 Y.d "chosen" ["self","codes","outcome"] (J5 K Y)):aL P w K mg base CX0 2 f fd ["self","codes","outcome"] (J14 K Y):=by
 refine F.ok Z26 (λr H Q E h=>?_) (λy A j s H r Q E u h=>?_)
 .obtain⟨x,c,o,a,b,rfl,⟨p,z,g⟩,k,e,i,m,q⟩:=h;rfl
 obtain⟨x,c,o,a,b,rfl,⟨p,z,g⟩,k,e,i,m,q⟩:=h
 refine⟨_,(aj (aM (cy (c9 (pv 1) (by intro _;rfl)))
  (ai (av (cC (v:=.ref Y.l) U bl.NONE_ U)))
  az)
  (ai (av (oO t bM bl.k_Like u (pv 0) (aa (pv 1) (aa (pv 2) ae)))))),?_⟩
 refine⟨_,U,!(a.map V.int).isEmpty,.inl ⟨_,i,U⟩,?_⟩;cases a with
 |nil=>exact eJ (q _ _ (aq.refl _) (.inr bl.q_NONE))
 |cons n a=>exact bR ⟨_,U,x,_,_,U,g,U,_,U,_,U,x,c,o,n,a,b,U,⟨p,z,g⟩,k,e,i,zf m,q⟩
theorem E4(F:Fun K "verdict" "Way.verdict" Y27 f fd) (bl:Bl K mg Y)(t:bj CX0 P w K mg base 1 Y.e "chosen" ["self","codes","outcome"] (J7 K Y)):aL P w K mg base CX0 2 f fd ["self","codes","outcome"] (J15 K Y):=by
 refine F.ok Z27 (λr H Q E h=>?_) (λy A j s H r Q E u h=>?_)
 .obtain⟨x,c,o,a,b,rfl,⟨p,z,g⟩,k,d,i,m,q⟩:=h;rfl
 obtain⟨x,c,o,a,b,rfl,⟨p,z,g⟩,k,d,i,m,q⟩:=h
 refine⟨_,(aj (aM (cy (c9 (pv 1) (by intro _;rfl)))
  (ai (av (cC (v:=.ref Y.l) U bl.NONE_ U)))
  az)
  (ai (av (oO t bM bl.k_Low u (pv 0) (aa (pv 1) (aa (pv 2) ae)))))),?_⟩
 refine⟨_,U,!(a.map V.int).isEmpty,.inl ⟨_,i,U⟩,?_⟩;cases a with
 |nil=>exact eJ (q _ _ (aq.refl _) (.inr bl.q_NONE))
 |cons n a=>exact bR ⟨_,U,x,_,_,U,g,U,_,U,_,U,x,c,o,n,a,b,U,⟨p,z,g⟩,k,d,i,zf m,q⟩
theorem E5(F:Fun K "verdict" "Way.verdict" Y25 f fd) (bl:Bl K mg Y)(r:bj CX0 P w K mg base 1 Y.f "chosen" ["self","codes","outcome"] (J3 K Y)):aL P w K mg base CX0 2 f fd ["self","codes","outcome"] (J13 K Y):=by
 refine F.ok Z25 (λp H Q E h=>?_) (λu A i s H p Q E t h=>?_)
 .obtain⟨x,c,o,a,b,rfl,⟨m,z,e⟩,j,d,g,k,q⟩:=h;rfl
 obtain⟨x,c,o,a,b,rfl,⟨m,z,e⟩,j,d,g,k,q⟩:=h
 refine⟨_,(aj (aM (cy (c9 (pv 1) (by intro _;rfl)))
  (ai (av (cC (v:=.ref Y.l) U bl.NONE_ U)))
  az)
  (ai (av (oO r bM bl.k_High t (pv 0) (aa (pv 1) (aa (pv 2) ae)))))),?_⟩
 refine⟨_,U,!(a.map V.int).isEmpty,.inl ⟨_,g,U⟩,?_⟩;cases a with
 |nil=>exact eJ (q _ _ (aq.refl _) (.inr bl.q_NONE))
 |cons n a=>exact bR ⟨_,U,x,_,_,U,e,U,_,U,_,U,x,c,o,n,a,b,U,⟨m,z,e⟩,j,d,g,zf k,q⟩
theorem E6(F:Fun K "verdict" "Way.verdict" Y29 f fd) (bl:Bl K mg Y)(t:bj CX0 P w K mg base 1 Y.g "chosen" ["self","codes","outcome"] (J11 K Y)):aL P w K mg base CX0 2 f fd ["self","codes","outcome"] (J17 K Y):=by
 refine F.ok Z29 (λr H Q E h=>?_) (λy A j s H r Q E u h=>?_)
 .obtain⟨x,c,o,a,b,rfl,⟨p,z,e⟩,k,d,i,m,q⟩:=h;rfl
 obtain⟨x,c,o,a,b,rfl,⟨p,z,e⟩,k,d,i,m,q⟩:=h
 refine⟨_,(aj (aM (cy (c9 (pv 1) (by intro _;rfl)))
  (ai (av (cC (v:=.ref Y.l) U bl.NONE_ U)))
  az)
  (ai (av (oO t bM bl.k_Sum u (pv 0) (aa (pv 1) (aa (pv 2) ae)))))),?_⟩
 refine⟨_,U,!(a.map V.int).isEmpty,.inl ⟨_,i,U⟩,?_⟩;cases a with
 |nil=>exact eJ (q _ _ (aq.refl _) (.inr bl.q_NONE))
 |cons n a=>exact bR ⟨_,U,x,_,_,U,e,U,_,U,_,U,x,c,o,n,a,b,U,⟨p,z,e⟩,k,d,i,zf m,q⟩
theorem E7(F:Fun K "grain" "grain" Y47 f fd) (bl:Bl K mg Y)(fJ:Callee P w K mg base 2 "cut_columns" ["bounds","marks"] (dC K Y)):aL P w K mg base CX0 3 f fd ["bounds","marks"] (nu K Y):=by
 refine F.okA Z47 λa3 A G s H vs Q E o h=>?_
 obtain⟨a,b,O,ps,as,c,rfl,ha,hP,Z,hM,hok,q⟩:=h
 refine⟨_,(aj (aJ (i:=2) Z47.nd U (Or.inl U) ag)
  (aj (bp PassesOwn.never U (aW (aI fJ o U (aa (pv 0) (aa (pv 1) ae)))) (aC (i:=3) Z47.nd U (Or.inl U))
  (ai (rW (i:=2) Z47.nd U (Or.inl U) (au aw U bl.len_ boot_len (aa (pv 3) ae)) AG)))
  (ai (av (pv 2))))),?_⟩
 refine⟨_,U,_,U,a,b,O,ps,as,c,U,ha,hP,Z,hM,hok,λl xs N D S L a2 C I=>?_⟩;obtain⟨a1,a0,x⟩:=hok;have z:xs.length=ps.length:=by rw[I.1,jE];lia
 refine⟨l,U,⟨_,SqL.of L⟩,bF (xs:=xs) (λi d k=>k=N/\∃v:Option V,d=[some (.ref a),some (.ref b),some (.int ((gr ps c i:Nat):Int)),v]) ⟨U,none,U⟩ (λi d k _ h=>by rw[h.1];exact SqL.of L) (λi y d k e h=>?_) (λd k h=>?_)⟩
 .obtain⟨u,v,rfl⟩:=h;rw[u];obtain⟨r,n,rfl,g,R,o,W⟩:=aD.get I e;have hi:i<xs.length:=(GI.mp e).1;obtain⟨p,t⟩:∃p,ps[i]?=some p:=⟨_,GH (by lia)⟩;obtain⟨j,M⟩:∃j,D[i]?=some j:=⟨_,GH (by lia)⟩;obtain⟨m,J⟩:∃m,c[i]?=some m:=⟨_,GH (by lia)⟩;obtain⟨B,T,_⟩:=C i p m j t J M;rw[kT,t,M]at g;have g:bW p.1 p.2 j=n:=Option.some.inj g;have X:R.length=gl ps c i:=by
   rw[W.length,←g,fQ,AX B T];unfold gl;rw[dE,t,dE,J];rfl
  have b1:=zQ (ps:=ps) x i;have b2:(58:Nat)^i<=58^6:=Nat.pow_le_pow_right (by decide) (by lia);have b3:(58:Nat)^3<2^64:=by decide
  refine⟨_,U,_,U,r,_,U,.inl (SqL.of o),_,_,U,U,yt.ok (.inl ⟨by lia,by lia⟩),U,some (.ref r),?_⟩;rw[X];show[some (V.ref a),some (.ref b),some (.int (((gr ps c i:Nat):Int)*((gl ps c i:Nat):Int))),some (.ref r)]=_;rw[show gr ps c (i+1)=gr ps c i*gl ps c i from U,Int.natCast_mul]
 .obtain⟨u,v,rfl⟩:=h;rw[u,z];exact⟨_,U,q N S⟩
theorem E8(F:Fun K "refuse_names" "refuse_names" Y78 f fd) (bl:Bl K mg Y)(u:Callee P w K mg base 2 "is_word" ["text"] (gE K Y)):aL P w K mg base CX0 3 f fd ["names"] (eB K Y):=by
 refine F.okA Z78 λL A r s H M Q E B h=>?_
 obtain⟨p,a,rfl,n,x,C,N,q⟩:=h
 refine⟨_,(aN (bp PassesOwn.never U (aW (pv 0)) (aC (i:=1) Z78.nd U (Or.inl U))
  (ai (aM (cy (cD (aI u B U (aa (pv 1) ae))))
  (ai bE)
  az)))
  (ai (aM (aF lu (au i5 U bl.len_ boot_len (aa (bK (i3 U) U bl.set_ PyProof.Rows.boot_set (aa (pv 0) ae)) ae)) (au aw U bl.len_ boot_len (aa (pv 0) ae)) (aH _))
  (ai bE)
  az))),?_⟩
 have k:(a.map V.str).length=a.length:=bx _;refine⟨λo b=>b=H/\∃c:Option V,o=[some (.ref p),c],?_,?_⟩
 .refine⟨_,U,p,U,⟨_,n⟩,bF (xs:=a.map V.str) (λi m b=>b=H/\∃c:Option V,m=[some (.ref p),c]) ⟨U,_,U⟩ (λi m b _ h=>by rw[h.1];exact n) (λi y m b e h=>?_) (λm b h=>h)⟩;obtain⟨I,c,rfl⟩:=h;rw[I];obtain⟨z,rfl,D⟩:=j5 e;have d:=x z (GJ D);have v:z.length<=1000:=by
   have g:=d;unfold isw at g;simp only[AI,decide_eq_true_eq]at g;lia
  refine⟨_,U,z,U,v,_,U,?_⟩;rw[d];exact bR ⟨U,_,U⟩
 rintro J O ⟨G,c,rfl⟩;rw[G];refine⟨_,U,p,a,U,n,by lia,λl j=>⟨l,a,U,ab,by lia,_,U,p,_,U,.inl ((af j _).seq n),_,_,U,U,_,U,?_⟩⟩;have t:=kE a a.length (w5 _);rw[iv]at t;exact cm (by rw[k,t.mpr C];lia) (q _ (af j _))
theorem E9(F:Fun K "refuse_row" "refuse_row" Y79 f fd) (bl:Bl K mg Y)(fc:bj CX0 P w K mg base 2 Y.i "has_code" ["self","value"] (bO K Y)) (fX:bj CX0 P w K mg base 2 Y.j "has_code" ["self","value"] (b9 K Y)):aL P w K mg base CX0 3 f fd ["domains","outcome","cells","code"] (fG K Y):=by
 refine F.okA Z79 λa2 A a0 s H vs Q E hr h=>?_
 obtain⟨v,m,z,dv,xs,bs,o,t,rfl,N,G,hO,O,I,ok,q⟩:=h
 refine⟨_,(aj (aM (aF qz (au aw U bl.len_ boot_len (aa (pv 2) ae)) (au aw U bl.len_ boot_len (aa (pv 0) ae)) (aH _))
  (ai bE)
  az)
  (aN (bp PassesOwn.never U (pP U bl.zip_ (aa (pv 0) (aa (pv 2) ae))) (eO U (aK (aC (i:=4) Z79.nd U (Or.inl U)) (aK (aC (i:=5) Z79.nd U (Or.inl U)) bH)))
  (ai (bp PassesOwn.never U (aW (pv 5)) (eO U (aK (aC (i:=6) Z79.nd U (Or.inl U)) (aK (aC (i:=7) Z79.nd U (Or.inl U)) bH)))
  (ai (aM (PW.pt (vT (aF lu (pv 6) (bc (pv 4) U) (aH _)) (rV (aF mh (pv 7) (bc (pv 4) U) (aH _)))))
  (ai bE)
  az)))))
  (ai (aM (cy (cD (wI (qV fc bl.k_Numbers (qV fX bl.k_Words BZ)) bM hr (pv 1) (aa (pv 3) ae))))
  (ai bE)
  az)))),?_⟩
 have Z:∀(C:Addr),(C=Y.i\/C=Y.j)->Cls K C/\NoAttr K C s!"low"/\NoAttr K C s!"high":=λC h=>by
  rcases h with rfl|rfl
  .exact⟨bl.k_Numbers,bl.na_Numbers_low,bl.na_Numbers_high⟩
  .exact⟨bl.k_Words,bl.na_Words_low,bl.na_Words_high⟩
 have J:xs.length=dv.length:=by rw[I.1,ok.len,G.1]
 refine⟨_,U,z,_,U,.inl (SqL.of O),_,U,v,_,U,.inl (N),U,_,U,zF (by rw[J]) ?_⟩;refine⟨λW c=>aq H c/\∃D B k g:Option V,W=[some (.ref v),some (.ref m),some (.ref z),some (.int t.2),D,B,k,g],?_,?_⟩
 .refine⟨_,U,_,U,v,z,U,⟨_,N⟩,⟨_,SqL.of O⟩,pQ (xs:=dv) (ys:=xs) (λi d c=>aq H c/\∃D B k g:Option V,d=[some (.ref v),some (.ref m),some (.ref z),some (.int t.2),D,B,k,g]) ⟨aq.refl _,_,_,_,_,U⟩ (λi d c h=>⟨h.1.seq N,SqL.of (h.1 _ _ O)⟩) (λi x y d c T ex ey h hT=>?_) (λd c h=>h)⟩;obtain⟨sm,D,B,k,g,rfl⟩:=h;have s2:=sm.trans (af hT (.tup [x,y]));have eT:upd c T (.tup [x,y]) T=some (.tup [x,y]):=ab;generalize upd c T (.tup [x,y])=H2 at s2 eT⊢;obtain⟨a,b,rfl,eb,hb⟩:=G.get ex;obtain⟨l,ps,rfl,ep,hl⟩:=aD.get I ey;obtain⟨C,n,S,fs,u,f1,f2,_⟩:=hb.same s2;obtain⟨k1,k2,k3⟩:=Z C n;obtain⟨_,ys,el,hp⟩:=hl.same s2;refine⟨T,_,U,SqT.of eT,U,_,_,U,_,_,U,U,?_⟩;refine⟨_,U,l,U,⟨_,SqL.of el⟩,bF (xs:=ys) (λj d c=>c=H2/\∃k g:Option V,d=[some (.ref v),some (.ref m),some (.ref z),some (.int t.2),some (.ref a),some (.ref l),k,g]) ⟨U,_,_,U⟩ (λj d c _ h=>by rw[h.1];exact SqL.of el) (λj y d c e h=>?_) (λd c h=>?_)⟩
  .obtain⟨R,k,g,rfl⟩:=h;rw[R];obtain⟨p,r,e1,rfl,X⟩:=hp.get e;obtain⟨i1,i2⟩:=ok.inn i ps b ep eb p (GJ e1);refine⟨r,_,U,SqT.of X,U,_,_,U,_,_,U,U,?_⟩;refine⟨_,U,_,U,a,_,_,_,_,U,u,k1,k2,f1,_,_,U,U,_,U,cm (by lia) ?_⟩;exact⟨_,U,_,U,a,_,_,_,_,U,u,k1,k3,f2,_,_,U,U,_,U,cm (by lia) ⟨U,_,_,U⟩⟩
  .obtain⟨R,k,g,rfl⟩:=h;rw[R];exact⟨s2,_,_,_,_,U⟩
 rintro a1 H3 ⟨L,D,B,k,g,rfl⟩;obtain⟨C,n,M⟩:=hO.same L;obtain⟨S,fs,u,f1,f2,f3⟩:=id M;rcases n with rfl|rfl
 .exact⟨_,U,m,_,S,fs,U,.head _,u,f3,_,U,m,o,t.2,U,M,ok.lo,ok.hi,_,U,bR (q _ L)⟩
 .exact⟨_,U,m,_,S,fs,U,.tail _ (.head _),u,f3,_,U,m,o,t.2,U,M,ok.lo,ok.hi,_,U,bR (q _ L)⟩
theorem Fb(F:Fun K "mask" "mask" Y74 f fd) (bl:Bl K mg Y)(Bd:Callee P w K mg base 2 "fits" ["table","k","codes"] (qe K Y)):aL P w K mg base CX0 3 f fd ["table","codes"] (kg K Y):=by
 refine F.okA Z74 λa4 A z s H vs Q E S h=>?_
 obtain⟨t,c,a,wi,o,j,rfl,⟨G,ou,Z,fs,r,wy,J,M,a2,a3,m,O,a0,a1,R,vm⟩,W,p,q⟩:=h;refine⟨_,(ai (av (au (fA U) U bl.sum_ PyProof.Rows.boot_sum (aa (cO (aZ U bl.range_ (aa (au aw U bl.len_ boot_len (aa (bc (pv 0) U) ae)) ae)) (bw (N:=["k","table","codes"]) (fr:=[0,1]) (cl:=[("table",s.heap.objs.size+1),("codes",s.heap.objs.size+1+1)]) U U (by decide+kernel) (by decide+kernel) U (by decide+kernel) U U U (hQ.mpr ⟨U,hQ.mpr ⟨U,iQ _⟩⟩) U) U (λ_ _ _ _=>(jU (cD (aI Bd S U (aa (pv 1) (aa (pv 0) (aa (pv 2) ae))))))) (λ_ _ _ _=>(ar pE ag (pv 0)))) ae)))),?_⟩;have l:r.length=a.length:=O.1
 refine⟨_,U,t,_,_,_,_,U,J,bl.k_Table,bl.na_Table_rows,M,G,_,U,.inl (SqL.of m),_,U,(by show -(2^62)<=((r.length:Nat):Int);lia),(by show((r.length:Nat):Int)<2^62;lia),bY (λD i zs k=>aq H k/\k D=some (.lst zs)/\∃b:List Int,zs=b.map V.int/\b.sum=((msk (iO a j) i:Nat):Int)/\b.length<=i)
  (λD u=>⟨af u _,ab,[],U,U,yh _⟩) (λD i zs k u hi h=>?_) (λD zs k u h=>?_)⟩
 .obtain⟨d,x,b,rfl,g,T⟩:=h;have y:i<a.length:=by first|lia|(rw[←l];lia)
  obtain⟨e,v⟩:∃e,a[i]?=some e:=⟨_,GH y⟩;have L:a.getD i ([],0)=e:=getD_at v;refine⟨_,U,_,U,_,U,t,G,c,Z,fs,r,a,i,e,j,by rw[BO],d _ _ J,M,d _ _ m,O.same d,v,d.seq W,p e (GJ v),λH3 C=>⟨_,U,?_⟩⟩;have B:=d.trans C;have n:=C _ _ x;cases hb:oh e.1 j with
  |true =>
   refine eJ ⟨_,U,_,_,U,U,⟨by lia,by lia,by decide⟩,cP.mk hi n (ax (by rw[bx];lia)) ⟨B.upd u,ab,b++[1*2^(0+(i:Int)).toNat],by simp,?_,by simp;lia⟩⟩;have X:(0+(i:Int)).toNat=i:=by lia
   rw[X,List.sum_append,g,kc,show iO a j i=true by unfold iO;rw[L];exact hb];simp;lia
  |false =>
   refine bR (eH.mk (zs:=b.map V.int) hi ⟨B,n,b,U,?_,by lia⟩);rw[g,kc,show iO a j i=false by unfold iO;rw[L];exact hb];simp
 .obtain⟨d,x,b,rfl,g,T⟩:=h;rw[Bt]at g;refine⟨D,b,U,SqL.of x,?_⟩;have I:=q k d;rw[←l,←g]at I;exact I
theorem Fc(F:Fun K "table_marks" "table_marks" Y87 f fd) (bl:Bl K mg Y)(nB:Callee P w K mg base 2 "column_marks" ["table","column"] (eA K Y)):aL P w K mg base CX0 3 f fd ["table"] (eX K Y):=by
 refine F.okA Z88 λa3 A Z s H vs Q E hr h=>?_
 obtain⟨t,G,bs,o,L,rfl,u,hb,T,kO,hL,q⟩:=h;refine⟨_,(ai (av (cO (aZ U bl.range_ (aa (au aw U bl.len_ boot_len (aa (bc (pv 0) U) ae)) ae)) (bw (N:=["column","table"]) (fr:=[0]) (cl:=[("table",s.heap.objs.size+1)]) U U (by decide+kernel) (by decide+kernel) U (by decide+kernel) U U U (hQ.mpr ⟨U,iQ _⟩) U) U (λ_ _ _ _=>bz) (λ_ _ _ _=>(aI nB hr U (aa (pv 1) (aa (pv 0) ae))))))),?_⟩;obtain⟨rl,dx,dl,fs,xs,ht,f1,f2,W,M,a2,hR⟩:=id u;have a0:G.length=bs.length:=M.1;refine⟨_,U,t,_,_,_,_,U,ht,bl.k_Table,bl.na_Table_domains,f2,dl,_,U,.inl (SqL.of W),_,U,(by show -(2^62)<=((G.length:Nat):Int);lia),(by show((G.length:Nat):Int)<2^62;lia),bY (λD i v d=>aq H d/\d D=some (.lst v)/\∃(m:List Addr)(a:List (List Int)),v=m.map V.ref/\MLs (hide d D) m a/\a.length=i/\∀(c:Nat)(b:Int×Int)(j:List Int),bs[c]?=some b->a[c]?=some j->j.Pairwise (· < ·)/\∀x,x∈j↔MkC o c b x) (λD n=>⟨af n _,ab,[],[],U,MLs.nil,U,λc b j _ e=>by simp at e⟩) (λD i v d n hi h=>?_) (λD v d n h=>?_)⟩
 .obtain⟨y,C,m,a,rfl,B,p,g⟩:=h;have r:i<bs.length:=by lia
  obtain⟨b,I⟩:∃b,bs[i]?=some b:=⟨_,GH r⟩;obtain⟨S,R⟩:=hL i b I;refine⟨_,U,_,U,t,i,G,bs,o,b,L i,by rw[BO],u.same y,I,T,λw hw=>⟨by rw[(kO w hw).1];exact r,(kO w hw).2 i⟩,S,R,λl cs H2 s2 nl el pw hm=>?_⟩;have X:=s2 _ _ C;have nD:l≠D:=λz=>by rw[z,C]at nl;cases nl
  have a1:=B.1;refine cP.mk hi X (ax (by rw[bx];lia)) ⟨(y.trans s2).upd n,ab,m++[l],a++[cs],by rw[ij];rfl,?_,by rw[cK,gI,p],λc b' j J k=>?_⟩
  .rw[m6];exact MLs.snoc (B.same (kL s2)) (dh el nD)
  .by_cases hc:c<a.length
   .rw[iP hc]at k;exact g c b' j J k
   .rw[lg (by lia)]at k;have h0:=(GI.mp k).1;rw[gI]at h0;have O:c=i:=by lia
    subst O;rw[I]at J;cases J;rw[show c-a.length=0 by lia]at k;cases k;exact⟨pw,hm⟩
 .obtain⟨y,C,m,a,rfl,B,p,g⟩:=h;exact q D m a d y n C (B.same (qc d D)) (by lia) g
theorem Fd(F:Fun K "refuse_unlike" "refuse_unlike" Y80 f fd) (bl:Bl K mg Y)(fY:Callee P w K mg base 2 "refuse_unlike_domains" ["ones","others"] (b8 K Y)):aL P w K mg base CX0 3 f fd ["one","other"] (dP K Y):=by
 refine F.okA Z80 λa2 A D s H vs Q E W h=>?_
 obtain⟨t,u,g,O,a,c,ds,d,rfl,⟨dx,dl,fs,L,f1,f2,C⟩,⟨dy,el,gs,J,Z,X,B⟩,N,M,z,o,l1,q⟩:=h;refine⟨_,(ai (aV (aI fY W U (aa (ar dJ (bc (pv 0) U) (aP (aa (bc (pv 0) U) ae))) (aa (ar dJ (bc (pv 1) U) (aP (aa (bc (pv 1) U) ae))) ae))))),?_⟩;have a1:=N.1;have a0:=M.1;refine⟨_,U,t,_,_,_,_,U,L,bl.k_Table,bl.na_Table_domains,f1,_,U,t,_,_,_,_,U,L,bl.k_Table,bl.na_Table_outcome,f2,(by show 1<=sizeLine;decide),λk y=>?_⟩;have n:=af y (.lst [.ref a]);have S:upd H k (.lst [.ref a]) k=some (.lst [.ref a]):=ab;generalize upd H k (.lst [.ref a])=H1 at n S⊢;refine⟨dl,k,_,_,U,U,n _ _ C,S,yj (ax (by show g.length+1<=1000;lia)),λj x=>?_⟩;have I:=af x (.lst (g++[.ref a]));have s2:=n.trans I;have e:upd H1 j (.lst (g++[.ref a])) j=some (.lst (g++[.ref a])):=ab;generalize upd H1 j (.lst (g++[.ref a]))=H2 at s2 e⊢;clear I;refine⟨_,U,u,_,_,_,_,U,s2 _ _ J,bl.k_Table,bl.na_Table_domains,Z,_,U,u,_,_,_,_,U,s2 _ _ J,bl.k_Table,bl.na_Table_outcome,X,(by show 1<=sizeLine;decide),λi v=>?_⟩;have l:=af v (.lst [.ref c]);have m:=s2.trans l;have R:upd H2 i (.lst [.ref c]) i=some (.lst [.ref c]):=ab;have e:=l _ _ e;generalize upd H2 i (.lst [.ref c])=H3 at m R e⊢;clear l;refine⟨el,i,_,_,U,U,m _ _ B,R,yj (ax (by show O.length+1<=1000;lia)),λV r=>?_⟩;have G:=af r (.lst (O++[.ref c]));have b:=m.trans G;exact⟨j,V,_,_,ds++[d],U,G _ _ e,ab,aD.snoc (aD.mono N λ_ _ p=>p.same b) (z.same b),aD.snoc (aD.mono M λ_ _ p=>p.same b) (o.same b),λH5 T=>q H5 (b.trans T)⟩
theorem Fe(F:Fun K "__init__" "Words.__init__" Y30 f fd) (bl:Bl K mg Y)(fZ:cc CX0 P w K mg base 2 "Domain" "__init__" ["self","low","high"] (b7 K Y)) (kW:Callee P w K mg base 2 "is_word" ["text"] (gE K Y)):aL P w K mg base CX0 3 f fd ["self","words"] (bD K Y):=by
 refine F.okA Z30 λa2 A S s H vs Q E Z h=>?_
 obtain⟨x,d,p,a,rfl,W,L,G,q⟩:=h
 refine⟨_,(aj (aM (cy (gQ fg fg ag (au aw U bl.len_ boot_len (aa (pv 1) ae)) (lD U bl.MOST_WORDS_)))
  (ai bE)
  az)
  (aN (bp PassesOwn.never U (aW (pv 1)) (aC (i:=2) Z30.nd U (Or.inl U))
  (ai (aM (cy (cD (aI kW Z U (aa (pv 2) ae))))
  (ai bE)
  az)))
  (aj (aM (aF lu (au i5 U bl.len_ boot_len (aa (bK (i3 U) U bl.set_ PyProof.Rows.boot_set (aa (pv 1) ae)) ae)) (au aw U bl.len_ boot_len (aa (pv 1) ae)) (aH _))
  (ai bE)
  az)
  (aj (aV (fj fZ bM Z U (aa (pv 0) (aa ag (aa (ar cz (au aw U bl.len_ boot_len (aa (pv 1) ae)) ag) ae)))))
  (ai (cE (pv 0) (bK cn U bl.list_ PyProof.Rows.boot_list (aa (pv 1) ae)) U)))))),?_⟩
 have t:SqL K H p (a.map V.str):=SqL.of L;have B:p≠x:=dS L W (by intro z;cases z);have c:(a.map V.str).length=a.length:=bx _;have h1:=G.some_;have a1:=G.few;refine⟨_,U,p,_,U,.inl t,_,_,U,U,_,U,fm (by rw[c];lia) ?_⟩;refine⟨_,_,U,U,_,U,?_⟩;rw[decide_eq_true (show(((a.map V.str).length:Nat):Int)<=40 by rw[c];lia)];refine bR ?_;refine⟨λO n=>n=H/\∃u:Option V,O=[some (.ref x),some (.ref p),u],?_,?_⟩
 .refine⟨_,U,p,U,⟨_,t⟩,bF (xs:=a.map V.str) (λi D n=>n=H/\∃u:Option V,D=[some (.ref x),some (.ref p),u]) ⟨U,_,U⟩ (λi D n _ h=>by rw[h.1];exact t) (λi y D n e h=>?_) (λD n h=>h)⟩;obtain⟨e0,u,rfl⟩:=h;rw[e0];obtain⟨z,rfl,ez⟩:=j5 e;have X:=G.words z (GJ ez);have hz:z.length<=1000:=by
   have v:=X;unfold isw at v;simp only[AI,decide_eq_true_eq]at v;lia
  refine⟨_,U,z,U,hz,_,U,?_⟩;rw[X];exact bR ⟨U,_,U⟩
 rintro a0 H2 ⟨I,u,rfl⟩;rw[I];refine⟨_,U,p,a,U,t,by lia,λl hl=>⟨l,a,U,ab,by lia,_,U,p,_,U,.inl ((af hl _).seq t),_,_,U,U,_,U,?_⟩⟩;have J:=af hl (nX P w l a);have cf:=kE a a.length (w5 _);rw[iv]at cf;refine cm (by rw[c,cf.mpr G.once];lia) ?_;have R:=J _ _ W;have C:=J _ _ L;refine⟨_,U,_,U,p,_,U,.inl (SqL.of C),_,_,U,U,x,d,0,_,U,R,?_⟩;have N:mkd Y.j (upd H l (nX P w l a)) x d 0 ((((a.map V.str).length:Nat):Int)-1) x=some (.ins Y.j d [("low",.int 0),("high",.int ((((a.map V.str).length:Nat):Int)-1))]):=ab;have I:mkd Y.j (upd H l (nX P w l a)) x d 0 ((((a.map V.str).length:Nat):Int)-1) p=some (.lst (a.map V.str)):=by unfold mkd;rw[ay B,ay B];exact C
 have M:∀b o,b≠x->H b=some o->mkd Y.j (upd H l (nX P w l a)) x d 0 ((((a.map V.str).length:Nat):Int)-1) b=some o:=λb o r h=>by unfold mkd;rw[ay r,ay r];exact J b o h
 have eh:(((a.map V.str).length:Nat):Int)-1=hiW a:=by rw[c];rfl
 refine⟨_,U,p,_,U,.inl (SqL.of I),λk m=>⟨_,U,x,_,d,_,U,cG N m,bl.k_Words,bl.na_Words_words,(by show 2<1000;decide),?_⟩⟩;show Q .non (upd (upd (mkd Y.j (upd H l (nX P w l a)) x d 0 ((((a.map V.str).length:Nat):Int)-1)) k (.lst (a.map V.str))) x (.ins Y.j d (br s!"words" (.ref k) [(s!"low",.int 0),(s!"high",.int ((((a.map V.str).length:Nat):Int)-1))])));rw[put3];have g:mkd Y.j (upd H l (nX P w l a)) x d 0 ((((a.map V.str).length:Nat):Int)-1) k=none:=m;clear m;generalize mkd Y.j (upd H l (nX P w l a)) x d 0 ((((a.map V.str).length:Nat):Int)-1)=H2 at N I M g⊢;rw[eh];have T:k≠x:=(bf N g).symm;exact q _ k (λb o r h=>(ay r).trans (cG (M b o r h) g)) ab ((ay T).trans ab) (by cases z:H k with|none=>rfl|some o=>have:=M k o T z;rw[g]at this;cases this)
theorem Ff(F:Fun K "way_by" "way_by" Y89 f fd) (bl:Bl K mg Y)(k_First:bh CX0 P w K mg base 2 "First" Y.b ["self"] (J0 K Y)) (k_Only:bh CX0 P w K mg base 2 "Only" Y.c ["self"] (J8 K Y)) (k_Like:bh CX0 P w K mg base 2 "Like" Y.d ["self"] (J4 K Y)) (k_Low:bh CX0 P w K mg base 2 "Low" Y.e ["self"] (J6 K Y)) (k_High:bh CX0 P w K mg base 2 "High" Y.f ["self"] (J2 K Y)) (k_Sum:bh CX0 P w K mg base 2 "Sum" Y.g ["self"] (J10 K Y)):aL P w K mg base CX0 4 f fd ["name"] (iK K Y):=by
 refine F.okA Z91 λa3 A a2 s H vs Q E hr h=>?_
 obtain⟨z,rfl,hz,q⟩:=h
 refine⟨_,(aj (bp PassesOwn.never U (aW (aP (aa (kH k_First bM hr U) (aa (kH k_Only bM hr U) (aa (kH k_Like bM hr U) (aa (kH k_Low bM hr U) (aa (kH k_High bM hr U) (aa (kH k_Sum bM hr U) ae)))))))) (aC (i:=1) Z91.nd U (Or.inl U))
  (ai (aM (aF bq (bc (pv 1) U) (pv 0) (aH _))
  (ai (av (pv 1)))
  az)))
  (ai bE)),?_⟩
 refine λv N m k o=>⟨v,N,U,ab,U,?_⟩
 have t0:aq H (upd (upd (upd H N (.own v)) v (.ins Y.b N [])) v (.ins Y.b N [("called",.str s!"first")])):=((af k _).upd m).upd m;have B:WyN Y.b (upd (upd (upd H N (.own v)) v (.ins Y.b N [])) v (.ins Y.b N [("called",.str s!"first")])) v s!"first":=⟨N,ab⟩;generalize upd (upd (upd H N (.own v)) v (.ins Y.b N [])) v (.ins Y.b N [("called",.str s!"first")])=H0 at t0 B⊢;clear m k o;refine λu M m k o=>⟨u,M,U,ab,U,?_⟩
 have t1:aq H0 (upd (upd (upd H0 M (.own u)) u (.ins Y.c M [])) u (.ins Y.c M [("called",.str s!"only")])):=((af k _).upd m).upd m;have D:WyN Y.c (upd (upd (upd H0 M (.own u)) u (.ins Y.c M [])) u (.ins Y.c M [("called",.str s!"only")])) u s!"only":=⟨M,ab⟩;generalize upd (upd (upd H0 M (.own u)) u (.ins Y.c M [])) u (.ins Y.c M [("called",.str s!"only")])=H1 at t1 D⊢;clear m k o;have B:=B.same t1;refine λt L m k o=>⟨t,L,U,ab,U,?_⟩
 have t2:aq H1 (upd (upd (upd H1 L (.own t)) t (.ins Y.d L [])) t (.ins Y.d L [("called",.str s!"like")])):=((af k _).upd m).upd m;have O:WyN Y.d (upd (upd (upd H1 L (.own t)) t (.ins Y.d L [])) t (.ins Y.d L [("called",.str s!"like")])) t s!"like":=⟨L,ab⟩;generalize upd (upd (upd H1 L (.own t)) t (.ins Y.d L [])) t (.ins Y.d L [("called",.str s!"like")])=H2 at t2 O⊢;clear m k o;have B:=B.same t2;have D:=D.same t2;refine λw3 J m k o=>⟨w3,J,U,ab,U,?_⟩
 have t3:aq H2 (upd (upd (upd H2 J (.own w3)) w3 (.ins Y.e J [])) w3 (.ins Y.e J [("called",.str s!"low")])):=((af k _).upd m).upd m;have R:WyN Y.e (upd (upd (upd H2 J (.own w3)) w3 (.ins Y.e J [])) w3 (.ins Y.e J [("called",.str s!"low")])) w3 s!"low":=⟨J,ab⟩;generalize upd (upd (upd H2 J (.own w3)) w3 (.ins Y.e J [])) w3 (.ins Y.e J [("called",.str s!"low")])=H3 at t3 R⊢;clear m k o;have B:=B.same t3;have D:=D.same t3;have O:=O.same t3;refine λr I m k o=>⟨r,I,U,ab,U,?_⟩
 have Z:aq H3 (upd (upd (upd H3 I (.own r)) r (.ins Y.f I [])) r (.ins Y.f I [("called",.str s!"high")])):=((af k _).upd m).upd m;have X:WyN Y.f (upd (upd (upd H3 I (.own r)) r (.ins Y.f I [])) r (.ins Y.f I [("called",.str s!"high")])) r s!"high":=⟨I,ab⟩;generalize upd (upd (upd H3 I (.own r)) r (.ins Y.f I [])) r (.ins Y.f I [("called",.str s!"high")])=H4 at Z X⊢;clear m k o;have B:=B.same Z;have D:=D.same Z;have O:=O.same Z;have R:=R.same Z;refine λp G m k o=>⟨p,G,U,ab,U,?_⟩
 have T:aq H4 (upd (upd (upd H4 G (.own p)) p (.ins Y.g G [])) p (.ins Y.g G [("called",.str s!"sum")])):=((af k _).upd m).upd m;have y5:WyN Y.g (upd (upd (upd H4 G (.own p)) p (.ins Y.g G [])) p (.ins Y.g G [("called",.str s!"sum")])) p s!"sum":=⟨G,ab⟩;generalize upd (upd (upd H4 G (.own p)) p (.ins Y.g G [])) p (.ins Y.g G [("called",.str s!"sum")])=H5 at T y5⊢;clear m k o;have B:=B.same T;have D:=D.same T;have O:=O.same T;have R:=R.same T;have X:=X.same T;have s5:aq H H5:=((((t0.trans t1).trans t2).trans t3).trans Z).trans T;refine⟨(by show 6<=sizeLine;decide),λl hl=>?_⟩;have S:aq H5 (upd H5 l (.lst [V.ref v,.ref u,.ref t,.ref w3,.ref r,.ref p])):=af hl _;have el:upd H5 l (.lst [V.ref v,.ref u,.ref t,.ref w3,.ref r,.ref p]) l=some (.lst [V.ref v,.ref u,.ref t,.ref w3,.ref r,.ref p]):=ab;generalize upd H5 l (.lst [V.ref v,.ref u,.ref t,.ref w3,.ref r,.ref p])=H6 at S el⊢;have B:=B.same S;have D:=D.same S;have O:=O.same S;have R:=R.same S;have X:=X.same S;have y5:=y5.same S;have sA:=s5.trans S;have a0:∀(i:Nat)(x:V),[V.ref v,.ref u,.ref t,.ref w3,.ref r,.ref p][i]?=some x->∃(a C:Addr)(y:Str),x=.ref a/\(cl6 Y.b Y.c Y.d Y.e Y.f Y.g)[i]?=some C/\six[i]?=some y/\WyN C H6 a y/\Cls K C/\NoAttr K C s!"called":=λi x e=>by
  match i,e with
  |0,e=>cases e;exact⟨v,Y.b,_,U,U,U,B,bl.k_First,bl.na_First_called⟩
  |1,e=>cases e;exact⟨u,Y.c,_,U,U,U,D,bl.k_Only,bl.na_Only_called⟩
  |2,e=>cases e;exact⟨t,Y.d,_,U,U,U,O,bl.k_Like,bl.na_Like_called⟩
  |3,e=>cases e;exact⟨w3,Y.e,_,U,U,U,R,bl.k_Low,bl.na_Low_called⟩
  |4,e=>cases e;exact⟨r,Y.f,_,U,U,U,X,bl.k_High,bl.na_High_called⟩
  |5,e=>cases e;exact⟨p,Y.g,_,U,U,U,y5,bl.k_Sum,bl.na_Sum_called⟩
  |n+6,e=>simp at e
 refine⟨l,U,⟨_,SqL.of el⟩,bF (xs:=[V.ref v,.ref u,.ref t,.ref w3,.ref r,.ref p]) (λi σ H'=>(∃c1:Option V,σ=[some (.str z),c1])/\H'=H6/\∀j:Nat,j<i->six[j]?≠some z) ⟨⟨_,U⟩,U,(λj h=>absurd h (zb j))⟩ (λi σ H' _ h=>by rw[h.2.1];exact SqL.of el) (λi x σ H' e h=>?_) (λσ H' h=>?_)⟩
 .obtain⟨⟨c1,rfl⟩,e0,W⟩:=h;rw[e0];obtain⟨a,C,y,rfl,eC,ey,⟨dx,ha⟩,hc,hn⟩:=a0 i x e;refine⟨_,U,a,_,_,_,_,U,ha,hc,hn,U,_,U,U,_,U,?_⟩;refine bG (λg=>?_) (λg=>?_)
  .have g':V.str y=V.str z:=iZ g;injection g' with g';subst g';exact⟨_,U,q i ey a C H6 sA eC ⟨dx,ha⟩⟩
  .refine⟨⟨_,U⟩,U,λj hj=>?_⟩;by_cases a1:j<i
   .exact W j a1
   .have:j=i:=by lia
    subst this;rw[ey];intro q2;exact(lB g) (by injection q2 with q2;rw[q2])
 .obtain⟨⟨c1,rfl⟩,e0,W⟩:=h;rw[e0];obtain⟨j,hj,ej⟩:=List.getElem_of_mem hz;exact absurd (by rw[GH hj,ej]) (W j hj)
theorem Fg(F:Fun K "refuse_way" "refuse_way" Y82 f fd) (bl:Bl K mg Y)(l:Callee P w K mg base 4 "way_by" ["name"] (iK K Y)):aL P w K mg base CX0 5 f fd ["way","outcome"] (fH K Y):=by
 refine F.okA Z82 λu A g s H y Q E r h=>?_
 obtain⟨z,B,rfl,m,d,q⟩:=h
 refine⟨_,(ai (aM (PW.pt (ja (aF bq (bc (aI l r U (aa (pv 0) ae)) U) aS (aH _)) (gj (cD (au cj U bl.isinstance_ PyProof.Rows.boot_isinstance (aa (pv 1) (aa (cC (v:=.ref Y.j) U bl.Words_ U) ae)))))))
  (ai bE)
  az)),?_⟩
 refine⟨_,U,z,U,m,λi D x C J b a p=>?_⟩;have k:Cls K C/\NoAttr K C s!"called":=by
  match i,a with
  |0,a=>cases a;exact⟨bl.k_First,bl.na_First_called⟩
  |1,a=>cases a;exact⟨bl.k_Only,bl.na_Only_called⟩
  |2,a=>cases a;exact⟨bl.k_Like,bl.na_Like_called⟩
  |3,a=>cases a;exact⟨bl.k_Low,bl.na_Low_called⟩
  |4,a=>cases a;exact⟨bl.k_High,bl.na_High_called⟩
  |5,a=>cases a;exact⟨bl.k_Sum,bl.na_Sum_called⟩
  |n+6,a=>simp[cl6]at a
 obtain⟨I,o⟩:=p;refine⟨x,_,_,_,_,U,o,k.1,k.2,U,U,_,U,?_⟩;by_cases c:z=s!"sum"
 .obtain⟨G,fs,t⟩:=d c;exact fm (by rw[c]) ⟨_,U,_,_,_,_,false,U,.ref _,bl.t_Numbers.ty (b _ _ t),bl.f_nw,_,U,bR (q _ b)⟩
 .exact cm (λe=>by injection e with e;exact c e) (bR (q _ b))
theorem Fh(F:Fun K "judged" "judged" Y51 f fd) (bl:Bl K mg Y)(iS:bj CX0 P w K mg base 4 Y.b "verdict" ["self","codes","outcome"] (J12 K Y)) (jy:bj CX0 P w K mg base 4 Y.c "verdict" ["self","codes","outcome"] (J16 K Y)) (jz:bj CX0 P w K mg base 4 Y.d "verdict" ["self","codes","outcome"] (J14 K Y)) (kh:bj CX0 P w K mg base 4 Y.e "verdict" ["self","codes","outcome"] (J15 K Y)) (jA:bj CX0 P w K mg base 4 Y.f "verdict" ["self","codes","outcome"] (J13 K Y)) (ki:bj CX0 P w K mg base 4 Y.g "verdict" ["self","codes","outcome"] (J17 K Y)) (nC:Callee P w K mg base 4 "way_by" ["name"] (iK K Y)):aL P w K mg base CX0 5 f fd ["table","rows"] (fT K Y):=by
 refine F.okA Z51 λa7 A a6 s H vs Q E hr h=>?_
 obtain⟨t,a,wi,o,m,rfl,⟨rl,ou,dx,fs,xs,wy,S,hf,a3,a4,B,hR,z,a2,G,vm⟩,q⟩:=h
 refine⟨_,(aj (wO (i:=2) Z51.nd U (Or.inl U) (yH U bl.enumerate_ (aa (bc (pv 0) U) ae)) (fq (N:=["k","row","rows"]) (k:=2) (fr:=[1]) (cl:=[("rows",s.heap.objs.size+1)]) U U (by decide+kernel) (by decide+kernel) U U (hQ.mpr ⟨U,iQ _⟩) U) U (λ_ _ _ _=>(jW (K:=K) (n:=2) U U (aK (aC (i:=0) (show(["k","row","rows"]:List Str).Nodup by decide+kernel) U (Or.inl U) (Or.inr U)) (aK (aC (i:=1) (show(["k","row","rows"]:List Str).Nodup by decide+kernel) U (Or.inl U) (Or.inr U)) bH)))) (λ_ _ _ _=>(jU (vc (K:=K) U (ar sf (ar se (pv 2) (pv 0)) ag)))) (λ_ _ _ _=>(aE (gm (K:=K) U) (pv 1) ag (λ_ _=>U))))
  (ai (av (wI (qV iS bl.k_First (qV jy bl.k_Only (qV jz bl.k_Like (qV kh bl.k_Low (qV jA bl.k_High (qV ki bl.k_Sum BZ)))))) bM hr (aI nC hr U (aa (bc (pv 0) U) ae)) (aa (pv 2) (aa (bc (pv 0) U) ae)))))),?_⟩
 have X:xs.length=a.length:=hR.1
 refine⟨_,U,t,_,_,_,_,U,S,bl.k_Table,bl.na_Table_rows,hf,rl,U,⟨_,SqL.of B⟩,tE (xs:=xs) (λD i zs p=>aq H p/\p D=some (.lst zs)/\zs=(pkF a (bQ m) i).map V.int)
  (λD y=>⟨af y _,ab,U⟩) (λD i zs p y _ h=>SqL.of (h.1 _ _ B)) (λD i x zs p T y ex h hT ts a0=>?_) (λD zs p y h=>?_)⟩
 .obtain⟨L,O,rfl⟩:=h;have s2:=L.trans (af hT (.tup [.int i,x]));have eT:upd p T (.tup [.int i,x]) T=some (.tup [.int i,x]):=ab;have u:=af hT (.tup [.int i,x]) _ _ O;generalize upd p T (.tup [.int i,x])=H2 at s2 eT u⊢;obtain⟨r,w_,rfl,ew,ce,cv,g1,_,g2,g3⟩:=aD.get (hR.same s2) ex;have hi:i<xs.length:=(GI.mp ex).1;have hg:a.getD i ([],0)=w_:=getD_at ew;have a1:=ux a (bQ m) i;obtain⟨J,I,rfl⟩:∃J I,ts=[J,I]:=by
   match ts,a0 with
   | [J,I],_=>exact⟨J,I,U⟩
  refine⟨T,_,U,SqT.of eT,U,_,_,U,_,_,U,U,⟨[some (.int i),some (.ref r)],U,U⟩,?_⟩;refine⟨_,U,_,U,_,_,U,U,Int.natCast_nonneg _,_,_,U,U,bQ m i,U,?_⟩;have v:=xj a (bQ m) i;rw[hg]at v;cases hb:bQ m i with
  |true =>
   rw[hb]at v;refine eJ ⟨_,U,r,_,_,_,U,U,SqT.of g1,U,cP.mk hi u (ax (by rw[bx];lia)) ⟨s2.upd y,ab,?_⟩⟩;rw[v,ij];rfl
  |false =>
   rw[hb]at v;refine bR (eH.mk (zs:=(pkF a (bQ m) i).map V.int) hi ⟨s2,u,?_⟩);rw[v];simp
 .obtain⟨L,O,rfl⟩:=h;rw[X]at O;have Z:wy∈six:=GJ z;refine⟨_,U,t,_,_,_,_,U,L _ _ S,bl.k_Table,bl.na_Table_way,a3,wy,U,Z,λM a5 x C H2 s2 l hw=>?_⟩;have ii:M=wi:=yK a5 z;subst ii;have R:=L.trans s2;obtain⟨dw,hx⟩:=hw;have a1:=ux a (bQ m) a.length;have W:(C,kb K C Y.i Y.j M)∈[(Y.b,kb K Y.b Y.i Y.j 0),(Y.c,kb K Y.c Y.i Y.j 1),(Y.d,kb K Y.d Y.i Y.j 2),(Y.e,kb K Y.e Y.i Y.j 3),(Y.f,kb K Y.f Y.i Y.j 4),(Y.g,kb K Y.g Y.i Y.j 5)]:=by
   match M,l with
   |0,l=>cases l;exact .head _
   |1,l=>cases l;exact .tail _ (.head _)
   |2,l=>cases l;exact .tail _ (.tail _ (.head _))
   |3,l=>cases l;exact .tail _ (.tail _ (.tail _ (.head _)))
   |4,l=>cases l;exact .tail _ (.tail _ (.tail _ (.tail _ (.head _))))
   |5,l=>cases l;exact .tail _ (.tail _ (.tail _ (.tail _ (.tail _ (.head _)))))
   |n+6,l=>simp[cl6]at l
  refine⟨x,(C,kb K C Y.i Y.j M),dw,_,U,W,hx,U,_,U,_,U,t,_,_,_,_,U,R _ _ S,bl.k_Table,bl.na_Table_outcome,a4,x,D,ou,_,o,U,⟨dw,_,hx⟩,a2.same R,G,SqL.of (s2 _ _ O),by lia,λr H3 s3 h3=>q r H3 (R.trans s3) h3⟩
theorem Fi(F:Fun K "_law_domain" "_law_domain" Y54 f fd) (bl:Bl K mg Y)(a:bh CX0 P w K mg base 3 "Numbers" Y.i ["self","low","high"] (bo K Y)) (k:bh CX0 P w K mg base 3 "Words" Y.j ["self","words"] (bD K Y)) (d6:Callee P w K mg base 4 "_law_word" ["cell","k"] (dY K Y)):aL P w K mg base CX0 5 f fd ["cell","points"] (fI K Y):=by
 refine F.okA Z54 λa0 A T s H vs Q E G h=>?_
 obtain⟨c,l,d,rfl,L,I,hw,q⟩:=h
 refine⟨_,(aj (aM (aF bq (ar aO (pv 0) ag) ag (aH _))
  (ai (av (qJ k bM G U (aa (cO (aZ U bl.range_ (aa (ar cz (au aw U bl.len_ boot_len (aa (pv 1) ae)) ag) ae)) (bw (N:=["k","cell"]) (fr:=[0]) (cl:=[("cell",s.heap.objs.size+1)]) U U (by decide+kernel) (by decide+kernel) U (by decide+kernel) U U U (hQ.mpr ⟨U,iQ _⟩) U) U (λ_ _ _ _=>bz) (λ_ _ _ _=>(aI d6 G U (aa (pv 1) (aa (pv 0) ae))))) ae))))
  az)
  (ai (av (qJ a bM G U (aa (aE aG (pv 1) ag (λ_ _=>U)) (aa (ar cz (aE aG (pv 1) (lr gP ag) (λ_ _=>U)) ag) ae)))))),?_⟩
 have h2:=I.two;refine⟨_,U,_,_,U,U,(by show(0:Int)<3;decide),U,_,U,?_⟩;refine bG (λg=>?_) (λg=>?_)
 .obtain⟨m,W,M,rfl⟩:=hw (fL g);have hl:((cX (m+1)).map V.int).length=m+1:=by rw[bx,bZ]
  have t:((((cX (m+1)).map V.int).length:Nat):Int)-1=(m:Int):=by rw[hl];lia
  refine⟨_,U,l,_,U,.inl (SqL.of L),_,_,U,U,_,U,(by rw[t];lia),(by rw[t];lia),bY (λD i v r=>aq H r/\r D=some (.lst v)/\v=(w3s c i).map V.str) (λD z=>⟨af z _,ab,U⟩) (λD i v r z hi J=>?_) (λD v r z J=>?_)⟩
  .obtain⟨y,B,rfl⟩:=J;rw[t]at hi;refine⟨_,U,_,U,c,_,U,(by lia),(by lia),cP.mk (by rw[t];exact hi) B (ax (by rw[bx,fu];lia)) ⟨y.upd z,ab,?_⟩⟩;rw[mY,ij];rfl
  .obtain⟨y,B,rfl⟩:=J;rw[t]at B;refine λx n p o S=>?_
   have C:aq r (upd (upd r n (.own x)) x (.ins Y.j n [])):=(af o _).upd p;refine⟨x,n,D,w3s c m,U,ab,C _ _ B,rj W M,λH6 Z k1 X k3 k4=>⟨U,q x H6 (y.trans λb u e=>k1 b u (bf e p) (C _ _ e)) ?_ ?_⟩⟩
   rotate_left
   .unfold vw;rw[if_pos (fL g),bZ];exact⟨n,_,Z,X,U,k3,U,U,U,y.free (C.free k4)⟩
   refine⟨Y.j,.inr U,n,_,X,?_,?_,U⟩
   .rw[vn W];rfl
   .rw[vo];show some (V.int (hiW (w3s c m)))=_;unfold hiW;rw[fu]
 .have e0:d[0]?=some (loP d):=by
   unfold loP;rw[dE,GH (by lia)];rfl
  have R:atI (d.map V.int) 0=some (.int (loP d)):=aR (j:=0) (get_map e0);have O:atI (d.map V.int) (-1)=some (.int (hiP d+1)):=by
   unfold atI;rw[mV (by rw[bx];lia),bx];exact get_map I.last
  refine⟨_,U,l,_,_,_,U,U,SqL.of L,R,_,U,_,U,l,_,_,_,U,U,SqL.of L,O,_,_,U,U,λx n p o S=>⟨x,n,loP d,hiP d,?_,ab,I.le,U,?_⟩⟩
  .show[V.ref x,V.int (loP d),V.int (hiP d+1-1)]=_;rw[show hiP d+1-1=hiP d by lia]
  refine q x _ ?_ ⟨Y.i,.inl U,n,_,ab,U,U,U⟩ (by unfold vw;rw[if_neg (iF g)];exact⟨n,_,ab,U,U,U⟩);unfold mkd;exact(((af o _).upd p).upd p).upd p
theorem Fj(F:Fun K "_law_outcome" "_law_outcome" Y62 f fd) (bl:Bl K mg Y)(a:bh CX0 P w K mg base 3 "Numbers" Y.i ["self","low","high"] (bo K Y)) (d:bh CX0 P w K mg base 3 "Words" Y.j ["self","words"] (bD K Y)) (d6:Callee P w K mg base 4 "_law_word" ["cell","k"] (dY K Y)):aL P w K mg base CX0 5 f fd ["cell","outs"] (eY K Y):=by
 refine F.okA Z62 λa1 A G s H vs Q E y h=>?_
 obtain⟨c,l,os,rfl,L,W,q⟩:=h
 refine⟨_,(aj (aM (aF bq (ar aO (pv 0) ag) ag (aH _))
  (ai (av (qJ d bM y U (aa (cO (aZ U bl.range_ (aa ag ae)) (bw (N:=["k","cell"]) (fr:=[0]) (cl:=[("cell",s.heap.objs.size+1)]) U U (by decide+kernel) (by decide+kernel) U (by decide+kernel) U U U (hQ.mpr ⟨U,iQ _⟩) U) U (λ_ _ _ _=>bz) (λ_ _ _ _=>(aI d6 y U (aa (pv 1) (aa (pv 0) ae))))) ae))))
  az)
  (ai (av (qJ a bM y U (aa (aE aG (pv 1) ag (λ_ _=>U)) (aa (aE aG (pv 1) ag (λ_ _=>U)) ae)))))),?_⟩
 obtain⟨O,x1,x2,x3,M,rfl,h1,h2,h3,h4,X⟩:=W;refine⟨_,U,_,_,U,U,(by show(0:Int)<3;decide),U,_,U,?_⟩;refine bG (λg=>?_) (λg=>?_)
 .obtain⟨e0,Z⟩:=X (fL g);subst e0 Z;refine⟨_,U,(by decide),(by decide),bY (λD i r p=>aq H p/\p D=some (.lst r)/\r=(w3s c i).map V.str) (λD t=>⟨af t _,ab,U⟩) (λD i r p t hi z=>?_) (λD r p t z=>?_)⟩
  .obtain⟨v,B,rfl⟩:=z;have a0:i<5:=hi;refine⟨_,U,_,U,c,_,U,(by lia),(by lia),cP.mk hi B (ax (by rw[bx,fu];lia)) ⟨v.upd t,ab,?_⟩⟩;rw[mY,ij];rfl
  .obtain⟨v,B,rfl⟩:=z;refine λx k o m C=>?_
   have I:aq p (upd (upd p k (.own x)) x (.ins Y.j k [])):=(af m _).upd o;refine⟨x,k,D,w3s c 5,U,ab,I _ _ B,rj (by decide) (by decide),λH6 R T J S k4=>⟨U,q x H6 (v.trans λb u e=>T b u (bf e o) (I _ _ e)) ?_ (λn=>absurd (fL g) n) (by unfold dmO;rw[if_pos (fL g)];exact⟨k,_,R,J,U,S,U,U,U⟩)⟩⟩;refine⟨Y.j,.inr U,k,_,J,U,?_,U⟩;show some (V.int (hiW (w3s c 5)))=some (.int 4);unfold hiW;rw[fu];rfl
 .refine⟨_,U,l,_,_,_,U,U,SqL.of L,U,_,U,l,_,_,_,U,U,SqL.of L,U,λx k o m C=>⟨x,k,O,M,U,ab,by lia,U,?_⟩⟩;refine q x _ ?_ ⟨Y.i,.inl U,k,_,ab,U,U,U⟩ (λ_=>⟨k,_,ab⟩) (by unfold dmO;rw[if_neg (iF g)];exact⟨k,_,ab,U,U,U⟩);unfold mkd;exact(((af m _).upd o).upd o).upd o
theorem Fl(F:Fun K "__init__" "Table.__init__" Y17 f fd) (bl:Bl K mg Y)(nE:Callee P w K mg base 5 "refuse_names" ["names"] (eB K Y)) (lN:Callee P w K mg base 5 "refuse_counts" ["names","rows"] (dO K Y)) (qh:Callee P w K mg base 5 "refuse_way" ["way","outcome"] (fH K Y)) (qi:Callee P w K mg base 5 "refuse_row" ["domains","outcome","cells","code"] (fG K Y)) (vH:Callee P w K mg base 5 "own_row" ["cells","code"] (jk K Y)):aL P w K mg base CX0 6 f fd ["self","name","names","domains","outcome","way","rows"] (ck K Y):=by
 refine F.okA Z17 λd5 A d0 s H vs Q E hr h=>?_
 obtain⟨x,g,na,dl,m,rl,c,C,l,J,rx,bs,o,a1,rfl,hx,W,hw,b5,h1,h4,b0,b1,a0,c1,b4,S,hR,vm,d4,hok,q⟩:=h
 refine⟨_,(aj (aV (aI nE hr U (aa (ar dJ (aP (aa (pv 1) ae)) (pv 2)) ae)))
  (aj (aV (aI lN hr U (aa (pv 2) (aa (pv 6) ae))))
  (aj (aV (aI qh hr U (aa (pv 5) (aa (pv 4) ae))))
  (aN (bp PassesOwn.never U (aW (pv 6)) (eO U (aK (aC (i:=7) Z17.nd U (Or.inl U)) (aK (aC (i:=8) Z17.nd U (Or.inl U)) bH)))
  (ai (aV (aI qi hr U (aa (pv 3) (aa (pv 4) (aa (pv 7) (aa (pv 8) ae))))))))
  (aj (cE (pv 0) (pv 1) U)
  (aj (cE (pv 0) (bK cn U bl.list_ PyProof.Rows.boot_list (aa (pv 2) ae)) U)
  (aj (cE (pv 0) (bK cn U bl.list_ PyProof.Rows.boot_list (aa (pv 3) ae)) U)
  (aj (cE (pv 0) (pv 4) U)
  (aj (cE (pv 0) (pv 5) U)
  (ai (cE (pv 0) (dU (aW (pv 6)) (dA (N:=["cells","code"]) (k:=2) U U (by decide+kernel) (by decide+kernel) (by decide+kernel)) U (λ_ _ _ _=>(jW (K:=K) (n:=2) U U (aK (aC (i:=0) (show(["cells","code"]:List Str).Nodup by decide+kernel) U (Or.inl U) (Or.inr U)) (aK (aC (i:=1) (show(["cells","code"]:List Str).Nodup by decide+kernel) U (Or.inl U) (Or.inr U)) bH)))) (λ_ _ _ _=>bz) (λ_ _ _ _=>(aI vH hr U (aa (pv 0) (aa (pv 1) ae))))) U))))))))))),?_⟩
 have Z:(l.map V.str).length=l.length:=bx _;refine⟨_,U,(by show 1<=sizeLine;decide),λl1 c0=>?_⟩;have s1:=af c0 (.lst [.str c]);have e1:upd H l1 (.lst [.str c]) l1=some (.lst [.str c]):=ab;generalize upd H l1 (.lst [.str c])=H1 at s1 e1⊢;refine⟨_,U,l1,na,_,_,U,U,e1,s1 _ _ W,(by rw[Z];show 1+l.length<=sizeLine;exact big (by lia)),λl2 b6=>?_⟩;have s2:=s1.trans (af b6 (.lst ([V.str c]++l.map V.str)));have e2:upd H1 l2 (.lst ([V.str c]++l.map V.str)) l2=some (.lst ((c :: l).map V.str)):=ab;generalize upd H1 l2 (.lst ([V.str c]++l.map V.str))=H2 at s2 e2⊢;refine⟨l2,c :: l,U,SqL.of e2,hw,b5,by rw[ik];lia,λH3 t3=>?_⟩;have s3:=s2.trans t3;refine⟨_,U,_,U,na,rl,_,_,U,SqL.of (s3 _ _ W),SqL.of (s3 _ _ S),by rw[Z];exact h1,by rw[Z];exact h4,vm,?_⟩;refine⟨_,U,_,U,C,m,U,b0,(λz=>let ⟨dx',fs',e'⟩:=b1 z;⟨dx',fs',s3 _ _ e'⟩),λH4 t4=>?_⟩;have s4:=s3.trans t4;refine⟨λa6 v=>aq H v/\∃c7 c8:Option V,a6=[some (.ref x),some (.str c),some (.ref na),some (.ref dl),some (.ref m),some (.str C),some (.ref rl),c7,c8],?_,?_⟩
 .refine⟨_,U,rl,U,⟨_,SqL.of (s4 _ _ S)⟩,bF (xs:=rx) (λi σ v=>aq H v/\∃c7 c8:Option V,σ=[some (.ref x),some (.str c),some (.ref na),some (.ref dl),some (.ref m),some (.str C),some (.ref rl),c7,c8]) ⟨s4,_,_,U⟩ (λi σ v _ h=>SqL.of (h.1 _ _ S)) (λi y σ v e h=>?_) (λσ v h=>h)⟩;obtain⟨u,c7,c8,rfl⟩:=h;obtain⟨r,w_,rfl,ew,ce,cv,g1,_,g2,g3⟩:=aD.get (hR.same u) e;refine⟨r,_,U,SqT.of g1,U,_,_,U,_,_,U,U,?_⟩;exact⟨_,U,_,U,_,U,_,U,dl,m,ce,J,cv,bs,o,w_,U,SqL.of (u _ _ a0),aD.mono c1 λ_ _ p=>p.same u,b4.same u,g2,g3,hok w_ (GJ ew),λH2 t2=>⟨u.trans t2,_,_,U⟩⟩
 rintro d1 L ⟨T,c7,c8,rfl⟩;have x5:=T _ _ hx;have a8:na≠x:=dS W hx (by intro z;cases z);have c5:dl≠x:=dS a0 hx (by intro z;cases z);have a7:rl≠x:=dS S hx (by intro z;cases z);have k5:∀b o,b≠x->H b=some o->L b=some o:=λb o _ e=>T b o e
 have R5:=RL.hide x5 (hR.same T);refine⟨_,U,_,U,x,_,g,_,U,x5,bl.k_Table,bl.na_Table_name,(by show 0<1000;decide),?_⟩;have k6:∀b o,b≠x->L b=some o->upd L x (.ins Y.k g [(s!"name",.str c)]) b=some o:=λb o t e=>(ay t).trans e
 have x6:upd L x (.ins Y.k g [(s!"name",.str c)]) x=some (.ins Y.k g [(s!"name",.str c)]):=ab;have g6:upd L x (.ins Y.k g (br s!"name" (.str c) []))=upd L x (.ins Y.k g [(s!"name",.str c)]):=rfl;rw[g6];clear g6;generalize upd L x (.ins Y.k g [(s!"name",.str c)])=H6 at k6 x6⊢;refine⟨_,U,na,_,U,.inl (SqL.of (k6 _ _ a8 (T _ _ W))),λd I=>⟨_,U,x,_,g,_,U,cG x6 I,bl.k_Table,bl.na_Table_names,(by show 1<1000;decide),?_⟩⟩;have g7:upd (upd H6 d (.lst (l.map V.str))) x (.ins Y.k g (br s!"names" (V.ref d) [(s!"name",V.str c)]))=upd (upd H6 d (.lst (l.map V.str))) x (.ins Y.k g [(s!"name",V.str c),(s!"names",V.ref d)]):=by rw[pf1]
 rw[g7];clear g7;have k7:∀b o,b≠x->L b=some o->upd (upd H6 d (.lst (l.map V.str))) x (.ins Y.k g [(s!"name",V.str c),(s!"names",V.ref d)]) b=some o:=λb o t e=>(ay t).trans (cG (k6 b o t e) I)
 have x7:upd (upd H6 d (.lst (l.map V.str))) x (.ins Y.k g [(s!"name",V.str c),(s!"names",V.ref d)]) x=some (.ins Y.k g [(s!"name",V.str c),(s!"names",V.ref d)]):=ab;have G:d≠x:=λz=>by rw[z,x6]at I;cases I
 have j7:upd (upd H6 d (.lst (l.map V.str))) x (.ins Y.k g [(s!"name",V.str c),(s!"names",V.ref d)]) d=some (.lst (l.map V.str)):=(ay G).trans ab;generalize upd (upd H6 d (.lst (l.map V.str))) x (.ins Y.k g [(s!"name",V.str c),(s!"names",V.ref d)])=H7 at k7 x7 j7⊢;refine⟨_,U,dl,_,U,.inl (SqL.of (k7 _ _ c5 (T _ _ a0))),λj B=>⟨_,U,x,_,g,_,U,cG x7 B,bl.k_Table,bl.na_Table_domains,(by show 2<1000;decide),?_⟩⟩;have g8:upd (upd H7 j (.lst J)) x (.ins Y.k g (br s!"domains" (V.ref j) [(s!"name",V.str c),(s!"names",V.ref d)]))=upd (upd H7 j (.lst J)) x (.ins Y.k g [(s!"name",V.str c),(s!"names",V.ref d),(s!"domains",V.ref j)]):=by rw[pf2]
 rw[g8];clear g8;have k8:∀b o,b≠x->L b=some o->upd (upd H7 j (.lst J)) x (.ins Y.k g [(s!"name",V.str c),(s!"names",V.ref d),(s!"domains",V.ref j)]) b=some o:=λb o t e=>(ay t).trans (cG (k7 b o t e) B)
 have x8:upd (upd H7 j (.lst J)) x (.ins Y.k g [(s!"name",V.str c),(s!"names",V.ref d),(s!"domains",V.ref j)]) x=some (.ins Y.k g [(s!"name",V.str c),(s!"names",V.ref d),(s!"domains",V.ref j)]):=ab;have O:j≠x:=λz=>by rw[z,x7]at B;cases B
 have j8:upd (upd H7 j (.lst J)) x (.ins Y.k g [(s!"name",V.str c),(s!"names",V.ref d),(s!"domains",V.ref j)]) d=some (.lst (l.map V.str)):=(ay G).trans (cG j7 B);have i8:upd (upd H7 j (.lst J)) x (.ins Y.k g [(s!"name",V.str c),(s!"names",V.ref d),(s!"domains",V.ref j)]) j=some (.lst J):=(ay O).trans ab;generalize upd (upd H7 j (.lst J)) x (.ins Y.k g [(s!"name",V.str c),(s!"names",V.ref d),(s!"domains",V.ref j)])=H8 at k8 x8 j8 i8⊢;refine⟨_,U,_,U,x,_,g,_,U,x8,bl.k_Table,bl.na_Table_outcome,(by show 3<1000;decide),?_⟩;have g9:upd H8 x (.ins Y.k g (br s!"outcome" (V.ref m) [(s!"name",V.str c),(s!"names",V.ref d),(s!"domains",V.ref j)]))=upd H8 x (.ins Y.k g [(s!"name",V.str c),(s!"names",V.ref d),(s!"domains",V.ref j),(s!"outcome",V.ref m)]):=by rw[pf3]
 rw[g9];clear g9;have k9:∀b o,b≠x->L b=some o->upd H8 x (.ins Y.k g [(s!"name",V.str c),(s!"names",V.ref d),(s!"domains",V.ref j),(s!"outcome",V.ref m)]) b=some o:=λb o t e=>(ay t).trans (k8 b o t e)
 have x9:upd H8 x (.ins Y.k g [(s!"name",V.str c),(s!"names",V.ref d),(s!"domains",V.ref j),(s!"outcome",V.ref m)]) x=some (.ins Y.k g [(s!"name",V.str c),(s!"names",V.ref d),(s!"domains",V.ref j),(s!"outcome",V.ref m)]):=ab;have j9:upd H8 x (.ins Y.k g [(s!"name",V.str c),(s!"names",V.ref d),(s!"domains",V.ref j),(s!"outcome",V.ref m)]) d=some (.lst (l.map V.str)):=(ay G).trans j8;have i9:upd H8 x (.ins Y.k g [(s!"name",V.str c),(s!"names",V.ref d),(s!"domains",V.ref j),(s!"outcome",V.ref m)]) j=some (.lst J):=(ay O).trans i8;generalize upd H8 x (.ins Y.k g [(s!"name",V.str c),(s!"names",V.ref d),(s!"domains",V.ref j),(s!"outcome",V.ref m)])=H9 at k9 x9 j9 i9⊢;refine⟨_,U,_,U,x,_,g,_,U,x9,bl.k_Table,bl.na_Table_way,(by show 4<1000;decide),?_⟩;have a4:upd H9 x (.ins Y.k g (br s!"way" (V.str C) [(s!"name",V.str c),(s!"names",V.ref d),(s!"domains",V.ref j),(s!"outcome",V.ref m)]))=upd H9 x (.ins Y.k g [(s!"name",V.str c),(s!"names",V.ref d),(s!"domains",V.ref j),(s!"outcome",V.ref m),(s!"way",V.str C)]):=by rw[pf4]
 rw[a4];clear a4;have R:∀b o,b≠x->L b=some o->upd H9 x (.ins Y.k g [(s!"name",V.str c),(s!"names",V.ref d),(s!"domains",V.ref j),(s!"outcome",V.ref m),(s!"way",V.str C)]) b=some o:=λb o t e=>(ay t).trans (k9 b o t e)
 have M:upd H9 x (.ins Y.k g [(s!"name",V.str c),(s!"names",V.ref d),(s!"domains",V.ref j),(s!"outcome",V.ref m),(s!"way",V.str C)]) x=some (.ins Y.k g [(s!"name",V.str c),(s!"names",V.ref d),(s!"domains",V.ref j),(s!"outcome",V.ref m),(s!"way",V.str C)]):=ab;have a2:upd H9 x (.ins Y.k g [(s!"name",V.str c),(s!"names",V.ref d),(s!"domains",V.ref j),(s!"outcome",V.ref m),(s!"way",V.str C)]) d=some (.lst (l.map V.str)):=(ay G).trans j9;have a3:upd H9 x (.ins Y.k g [(s!"name",V.str c),(s!"names",V.ref d),(s!"domains",V.ref j),(s!"outcome",V.ref m),(s!"way",V.str C)]) j=some (.lst J):=(ay O).trans i9;generalize upd H9 x (.ins Y.k g [(s!"name",V.str c),(s!"names",V.ref d),(s!"domains",V.ref j),(s!"outcome",V.ref m),(s!"way",V.str C)])=H10 at R M a2 a3⊢;have c6:RL NT H10 rx a1:=RL.same R5 (hide_same R);have zW:=R _ _ a7 (T _ _ S)
 refine⟨_,U,rl,U,⟨_,SqL.of zW⟩,eQ (xs:=rx) (λD i l v=>aq H10 v/\v D=some (.lst l)/\RL (Fr H10 D) v l (a1.take i))
  (λD X=>⟨af X _,ab,aD.nil⟩) (λD i l v X _ h=>SqL.of (h.1 _ _ zW)) (λD i y l v X e h ts b3=>?_) (λD l v X h=>?_)⟩
 .obtain⟨u,eD,hz⟩:=h;obtain⟨r,w_,rfl,ew,ce,cv,g1,_,g2,g3⟩:=aD.get (c6.same u) e;have hi:i<rx.length:=(GI.mp e).1;obtain⟨t0,t1,rfl⟩:∃t0 t1,ts=[t0,t1]:=by
   match ts,b3 with
   | [t0,t1],_=>exact⟨t0,t1,U⟩
  refine⟨r,_,U,SqT.of g1,U,_,_,U,_,_,U,U,⟨[some (.ref ce),some (.int w_.2)],U,U⟩,?_⟩;refine⟨_,U,_,U,ce,cv,w_,U,g2,g3,by rw[(hok w_ (GJ ew)).len];lia,λr2 H2 t2 d2 kO=>?_⟩;have a5:=t2 _ _ eD;have d3:l.length<=200:=by
   have:=hz.1;rw[ip]at this;lia
  refine cP.mk hi a5 (ax (by lia)) ⟨(u.trans t2).upd X,ab,?_⟩;rw[take_snoc ew];exact RL.updN (aD.snoc (hz.same t2) (kO.wk λa h=>⟨u.free h,λz=>by rw[z,eD]at h;cases h⟩)) Fr.out a5
 .obtain⟨u,eD,hz⟩:=h;rw[hR.1,iv]at hz;refine⟨_,U,x,_,g,_,U,u _ _ M,bl.k_Table,bl.na_Table_rows,(by show 5<1000;decide),?_⟩;have c2:upd v x (.ins Y.k g (br s!"rows" (V.ref D) [(s!"name",V.str c),(s!"names",V.ref d),(s!"domains",V.ref j),(s!"outcome",V.ref m),(s!"way",V.str C)]))=upd v x (.ins Y.k g [(s!"name",V.str c),(s!"names",V.ref d),(s!"domains",V.ref j),(s!"outcome",V.ref m),(s!"way",V.str C),(s!"rows",V.ref D)]):=by rw[pf5]
  rw[c2];have a9:D≠x:=λz=>by rw[z,M]at X;cases X
  have CA:∀a,H10 a=none->H a=none:=λa ha=>by
   cases hh:H a with
   |none=>rfl
   |some o =>
    have nx:a≠x:=λz=>by rw[z,M]at ha;cases ha
    rw[R a o nx (T _ _ hh)]at ha;cases ha
  have c4:H d=none:=by
   cases hh:H d with
   |none=>rfl
   |some o=>rw[k6 d o G (T _ _ hh)]at I;cases I
  have c3:H j=none:=by
   cases hh:H j with
   |none=>rfl
   |some o=>rw[k7 j o O (T _ _ hh)]at B;cases B
  refine q _ _ D l (λb o t e=>(ay t).trans (u _ _ (R b o t (T _ _ e)))) ab U U U U ⟨d,j,U,U,(ay G).trans (u _ _ a2),(ay O).trans (u _ _ a3),c4,c3⟩ (CA D X) ((ay a9).trans eD) ?_;exact RL.same (RL.hideN (u _ _ M) (aD.mono hz λr w h=>h.wk λa ha=>CA a ha.1)) (hide_same λb o t e=>(ay t).trans e)
theorem Fn{k n:Nat}(F:Fun K "boxes" "boxes" Y33 f fd) (bl:Bl K mg Y)(qj:Callee P w K mg base k "boxes" ["form","deep"] (ie K Y n)):aL P w K mg base CX0 (k+1) f fd ["form","deep"] (ie K Y (n+1)):=by
 refine F.okA Z33 λd3 A d0 s H vs Q E hr h=>?_
 obtain⟨g,a7,a,d,f_,v,rfl,hf,hn,J,h6,q⟩:=h
 refine⟨_,(aj (aM (aF bq (pv 1) ag (aH _))
  (ai (av (aP (aa (aX (aa (aX ae) (aa (pv 0) ae))) ae))))
  az)
  (aj (aJ (i:=2) Z33.nd U (Or.inl U) (aP ae))
  (aj (bp PassesOwn.never U (rZ (pv 0)) (eO U (aK (aC (i:=3) Z33.nd U (Or.inl U)) (aK (aC (i:=4) Z33.nd U (Or.inl U)) (aK (aC (i:=5) Z33.nd U (Or.inl U)) bH))))
  (ai (bp PassesOwn.never U (aW (aI qj hr U (aa (pv 5) (aa (ar cz (pv 1) ag) ae)))) (eO U (aK (aC (i:=6) Z33.nd U (Or.inl U)) (aK (aC (i:=7) Z33.nd U (Or.inl U)) bH)))
  (ai (aV (eG PySem.F.plainAttrs_list PySem.F.slot_list_append PySem.F.type_list_append bg (pv 2) (aa (aX (aa (ar wD (aX (aa (aX (aa (pv 3) (aa (pv 4) ae))) ae)) (pv 6)) (aa (pv 7) ae))) ae)))))))
  (ai (av (pv 2)))))),?_⟩
 cases d with
 |zero =>
  have hf:a.R H f_ v:=hf;refine⟨_,U,U,_,U,fm U ?_⟩;refine⟨(by show 0<=sizeLine;decide),λb hb=>?_⟩;have s1:=af hb (.tup []);have e1:upd H b (.tup []) b=some (.tup []):=ab;generalize upd H b (.tup [])=H1 at s1 e1⊢;refine⟨_,U,bu,λt ht=>?_⟩;have s2:=af ht (.tup [.ref b,v]);have e2:upd H1 t (.tup [.ref b,v]) t=some (.tup [.ref b,v]):=ab;generalize upd H1 t (.tup [.ref b,v])=H2 at s2 e2⊢;refine⟨(by show 1<=sizeLine;decide),λl X=>?_⟩;have s3:=af X (.lst [V.ref t]);have s:=(s1.trans s2).trans s3;exact q l _ _ s ((s1.trans s2).free X) ab (.cons ⟨t,b,v,U,s3 _ _ e2,⟨[],s3 _ _ (s2 _ _ e1),.nil⟩,a.mono s.tups hf⟩ .nil)
 |succ d =>
  obtain⟨r,xs,rfl,er,hp⟩:=hf;obtain⟨L,hL⟩:∃L:List (T3a (Fm g d)),L=f_:=⟨f_,U⟩;have hp:FmL (FmV a H d) H L xs:=by rw[hL];exact hp
  have J:(bxs (d+1) (show Fm g (d+1)from L)).length<=2000:=by rw[hL];exact J
  have h6:∀q∈bxs (d+1) (show Fm g (d+1)from L),q.1.length<=6:=by rw[hL];exact h6
  have q:∀(l:Addr)(xs:List V)(o:Hp),aq H o->H l=none->o l=some (.lst xs)->BxG a o xs (bxs (d+1) (show Fm g (d+1)from L))->Q (.ref l) o:=by rw[hL];exact q
  have a8:xs.length=L.length:=hp.1;refine⟨_,U,U,_,U,cm (λz=>by have:=V.int.inj z;lia) ?_⟩;refine⟨(by show 0<=sizeLine;decide),λl X=>?_⟩;have s0:aq H (upd H l (.lst [])):=af X _;have e0:upd H l (.lst []) l=some (.lst []):=ab;generalize upd H l (.lst [])=H0 at s0 e0⊢;refine⟨_,U,r,U,⟨_,SqT.of (s0 _ _ er)⟩,yq (xs:=xs) (λi C o=>aq H o/\∃(D:List V)(c3 c4 c5 O N:Option V),o l=some (.lst D)/\BxG a o D (bxs (d+1) (show Fm g (d+1)from L.take i))/\C=[some (.ref r),some (.int ((d+1:Nat):Int)),some (.ref l),c3,c4,c5,O,N]) ⟨s0,[],_,_,_,_,_,e0,.nil,U⟩ (λi C o _ h=>SqT.of (h.1 _ _ er)) (λi x C o ex M=>?_) (λC o M=>?_)⟩
  .obtain⟨sm,D,c3,c4,c5,O,N,el,hy,rfl⟩:=M;obtain⟨e,ee⟩:∃e,L[i]?=some e:=⟨_,GH (by have:=(GI.mp ex).1;lia)⟩;obtain⟨t,u,a3,et,hu⟩:=hp.2 i e ee;rw[ex]at a3;cases a3;have es:bxs (d+1) (show Fm g (d+1)from L.take (i+1))=bxs (d+1) (show Fm g (d+1)from L.take i)++((bxs d e.2.2).map λq=>((e.1,e.2.1) :: q.1,q.2)):=by
    rw[take_snoc ee,uA,yS]
   have qQ:∀q∈(bxs d e.2.2).map (λq=>((e.1,e.2.1) :: q.1,q.2)),q∈bxs (d+1) (show Fm g (d+1)from L):=λq hq=>nU.mpr ⟨e,GJ ee,hq⟩
   have d2:(bxs (d+1) (show Fm g (d+1)from L.take i)).length+(bxs d e.2.2).length<=2000:=by
    have e3:bxs (d+1) (show Fm g (d+1)from L)=bxs (d+1) (show Fm g (d+1)from L.take (i+1))++bxs (d+1) (show Fm g (d+1)from L.drop (i+1)):=by rw[←uA,List.take_append_drop]
    have:=congrArg List.length e3;rw[es,cK,cK,bx]at this;lia
   have b5:∀q∈bxs d e.2.2,q.1.length<=6:=λq hq=>by
    have:=h6 _ (qQ _ (en.mpr ⟨q,hq,U⟩));have:q.1.length+1<=6:=this;lia
   have b6:∀q∈bxs d e.2.2,q.1.length<=5:=λq hq=>by
    have:=h6 _ (qQ _ (en.mpr ⟨q,hq,U⟩));have:q.1.length+1<=6:=this;lia
   refine⟨t,_,U,SqT.of (sm _ _ et),U,_,_,U,_,_,U,_,_,U,U,?_⟩;refine⟨_,U,_,U,_,_,U,U,g,a7,a,d,e.2.2,u,(by show[u,V.int (((d+1:Nat):Int)-1)]=[u,V.int (d:Int)];rw[show((d+1:Nat):Int)-1=(d:Int) by lia]),FmV.mono sm.tups hu,by lia,by lia,b5,λl2 zs H2 s2 f2 e2 hz=>?_⟩;have c2:=s2 _ _ el;have nl:l≠l2:=λz=>by rw[←z,el]at f2;cases f2
   refine⟨l2,U,⟨_,SqL.of e2⟩,bF (xs:=zs) (λk C B=>aq H B/\cb H2 B/\B l2=some (.lst zs)/\∃(D:List V)(O N:Option V),B l=some (.lst D)/\BxG a B D (bxs (d+1) (show Fm g (d+1)from L.take i)++((bxs d e.2.2).take k).map λq=>((e.1,e.2.1) :: q.1,q.2))/\C=[some (.ref r),some (.int ((d+1:Nat):Int)),some (.ref l),some (.int e.1),some (.int e.2.1),some u,O,N]) ⟨sm.trans s2,(λ_ _ h=>h),e2,D,_,_,c2,by rw[List.take_zero,rE,jt];exact hy.mono s2.tups,U⟩ (λk C B _ h=>SqL.of h.2.2.1) (λk x C B c0 M=>?_) (λC B M=>?_)⟩
   .obtain⟨T,S,a4,G,O,N,I,y,rfl⟩:=M;obtain⟨q2,W,t2,b2,Z,rfl,c1,b4,a9⟩:=gx (hz.mono S) c0;have hk:k<(bxs d e.2.2).length:=(GI.mp W).1;have d1:=b6 q2 (GJ W);refine⟨t2,_,U,SqT.of c1,U,_,_,U,_,_,U,U,?_⟩;refine⟨_,U,.inl ⟨U,_,SqL.of I⟩,_,U,_,U,bu,λp b1=>?_⟩;have u1:=af b1 (.tup [.int e.1,.int e.2.1]);have g1:upd B p (.tup [.int e.1,.int e.2.1]) p=some (.tup [.int e.1,.int e.2.1]):=ab;generalize upd B p (.tup [.int e.1,.int e.2.1])=H4 at u1 g1⊢;refine⟨(by show 1<=sizeLine;decide),λp2 b3=>?_⟩;have u2:=af b3 (.tup [V.ref p]);have g2:upd H4 p2 (.tup [V.ref p]) p2=some (.tup [V.ref p]):=ab;generalize upd H4 p2 (.tup [V.ref p])=H5 at u2 g2⊢;obtain⟨bs,c8,a1⟩:=b4;have a0:=u1.trans u2;refine⟨_,U,xx g2 (a0 _ _ c8) (yj (ax (by rw[a1.length,gI];lia))) λp3 H6 u3 g3=>?_⟩;have a5:=a0.trans u3;refine⟨_,U,bu,λj b0=>?_⟩;have u4:=af b0 (.tup [.ref p3,Z]);have g4:upd H6 j (.tup [.ref p3,Z]) j=some (.tup [.ref p3,Z]):=ab;generalize upd H6 j (.tup [.ref p3,Z])=H7 at u4 g4⊢;have c:=a5.trans u4;have a2:=c _ _ I;refine⟨l,_,_,U,U,a2,vp (by rw[y.length,cK,bx,ip];lia),?_⟩;have m:cb H7 (upd H7 l (.lst (G++[.ref j]))):=aQ a2;refine⟨(T.trans c).upd X,(S.trans c.tups).trans m,(ay nl.symm).trans (c _ _ a4),G++[.ref j],_,_,ab,?_,U⟩;rw[take_snoc W,ij,←pA];refine ji (y.mono (c.tups.trans m)) (.cons ⟨j,p3,Z,U,m _ _ g4,⟨_,m _ _ (u4 _ _ g3),?_⟩,a.mono (c.tups.trans m) a9⟩ .nil);have a6:PL H7 [V.ref p] [(e.1,e.2.1)]:=.cons ⟨p,U,u4 _ _ (u3 _ _ (u2 _ _ g1))⟩ .nil;exact(PL.app a6 (a1.mono c.tups)).mono m
   .obtain⟨T,S,a4,G,O,N,I,y,rfl⟩:=M;rw[hz.length,iv]at y;exact⟨T,G,_,_,_,_,_,I,by rw[es];exact y,U⟩
  .obtain⟨sm,D,c3,c4,c5,O,N,el,hy,rfl⟩:=M;rw[a8,iv]at hy;exact⟨_,U,q l D o sm X el hy⟩
theorem Fo(F:Fun K "boxes_with_leaf" "boxes_with_leaf" Y34 f fd) (bl:Bl K mg Y)(qj:Callee P w K mg base 7 "boxes" ["form","deep"] (ie K Y 7)):aL P w K mg base CX0 8 f fd ["form","deep"] (dn K Y):=by
 refine F.okA Z34 λa4 A a1 s H vs Q E hr h=>?_
 obtain⟨d,X,v,rfl,hF,hd,zg,h6,q⟩:=h;refine⟨_,(ai (av (dU (aW (aI qj hr U (aa (pv 0) (aa (pv 1) ae)))) (dA (N:=["box","leaf"]) (k:=2) U U (by decide+kernel) (by decide+kernel) (by decide+kernel)) U (λ_ _ _ _=>(jW (K:=K) (n:=2) U U (aK (aC (i:=0) (show(["box","leaf"]:List Str).Nodup by decide+kernel) U (Or.inl U) (Or.inr U)) (aK (aC (i:=1) (show(["box","leaf"]:List Str).Nodup by decide+kernel) U (Or.inl U) (Or.inr U)) bH)))) (λ_ _ _ _=>(jU (aF (yY (K:=K) U hr) (pv 1) (lD U bl.NOTHING_) (aH _)))) (λ_ _ _ _=>(aX (aa (pv 0) (aa (pv 1) ae))))))),?_⟩;refine⟨_,U,_,U,_,_,LPd,d,X,v,U,hF,by lia,by lia,h6,λl xs H1 s1 nl el V=>?_⟩;have L:xs.length=(bxs d X).length:=Paired.length V;generalize a3:bxs d X=BX at V zg L q;refine⟨l,U,⟨_,SqL.of el⟩,eQ (xs:=xs) (λD j r b=>aq H1 b/\b D=some (.lst r)/\BxG (K:=K) LPd b r (dc (BX.take j))) (λD C=>⟨af C _,ab,.nil⟩) (λD j r b C _ I=>SqL.of (I.1 _ _ el)) (λD j y r b C e I ts m=>?_) (λD r b C I=>?_)⟩
 .obtain⟨o,T,B⟩:=I;obtain⟨p,eq,tx,G,t,rfl,g1,g2,g3⟩:=gx V e;have hj:j<xs.length:=(GI.mp e).1;obtain⟨S,R,rfl⟩:∃S R,ts=[S,R]:=by
   match ts,m with
   | [S,R],_=>exact⟨S,R,U⟩
  have a2:=B.length;have Gy:(dc (BX.take j)).length<=300:=yc (nt _ _) (by rw[ip];lia);have m:dc (BX.take (j+1))=dc (BX.take j)++if p.2=none then[] else[p]:=by
   unfold dc;rw[take_snoc eq,mv];by_cases h:p.2=none
   .rw[if_pos h,pC (by simpa using h)];rfl
   .rw[if_neg h,pB (by simpa using h)];rfl
  refine⟨tx,_,U,SqT.of (o _ _ g1),U,_,_,U,_,_,U,U,⟨[some (.ref G),some t],U,U⟩,?_⟩;refine⟨_,U,λa0=>LPd.ne (x:=p.2) (y:=none) a0 (LPd.mono o.tups g3) U ⟨_,U,?_⟩⟩;refine bG (λg=>?_) (λg=>?_)
  .have W:p.2≠none:=λz=>by rw[z]at g;exact absurd g (by decide)
   refine⟨_,U,_,U,bu,λc Z=>?_⟩;have u:=af Z (.tup [.ref G,t]);have eT:upd b c (.tup [.ref G,t]) c=some (.tup [.ref G,t]):=ab;have a:=u _ _ T;have J:=B.mono u.tups;have O:=(g2.mono o.tups).mono u.tups;have M:=LPd.mono u.tups (LPd.mono o.tups g3);generalize upd b c (.tup [.ref G,t])=H3 at u eT a J O M⊢;refine cP.mk hj a (ax (by lia)) ⟨(o.trans u).upd C,ab,?_⟩;rw[m,if_neg W];exact ji (J.mono (aQ a)) (.cons ⟨c,G,t,U,aQ a _ _ eT,O.mono (aQ a),LPd.mono (aQ a) M⟩ .nil)
  .have W:p.2=none:=by
    by_cases z:p.2=none
    .exact z
    .exact absurd (show(!decide (p.2=none))=true by rw[decide_eq_false z];rfl) g
   refine eH.mk hj ⟨o,T,?_⟩;rw[m,if_pos W,jt];exact B
 .obtain⟨o,T,B⟩:=I;rw[L,iv]at B;exact q D r b (s1.trans o) (s1.free C) T B
theorem Fp(F:Fun K "_law_table" "_law_table" Y68 f fd) (bl:Bl K mg Y)(aY:Callee P w K mg base 7 "_law_cell" ["script","k"] (dX K Y)) (a9:bh CX0 P w K mg base 6 "Table" Y.k ["self","name","names","domains","outcome","way","rows"] (ck K Y)) (ot:Callee P w K mg base 7 "_law_domain" ["cell","points"] (fI K Y)) (d6:Callee P w K mg base 7 "_law_word" ["cell","k"] (dY K Y)) (nF:Callee P w K mg base 7 "_law_outcome" ["cell","outs"] (eY K Y)) (qk:Callee P w K mg base 7 "_law_spans" ["points","bits"] (gC K Y)):aL P w K mg base CX0 8 f fd ["script","points","outs","way","rows","turn"] (gH K Y):=by
 refine F.okA Z68 λp2 A m5 s H vs Q E hr h=>?_
 obtain⟨a,pl,ol,rl,ns,xs,c,os,rx,a1,wy,wi,tu,rfl,h9,i0,hS,a7,c4,hg,n7,n3,l4,e4,e7,b0,p0,k7,q⟩:=h
 refine⟨_,(aN (lV (i:=6) Z68.nd U (Or.inl U) (aZ U bl.range_ (aa (au aw U bl.len_ boot_len (aa (pv 1) ae)) ae)) (bw (N:=["k","script","points"]) (fr:=[0,1]) (cl:=[("script",s.heap.objs.size+1),("points",s.heap.objs.size+1+1)]) U U (by decide+kernel) (by decide+kernel) U (by decide+kernel) U U U (hQ.mpr ⟨U,hQ.mpr ⟨U,iQ _⟩⟩) U) U (λ_ _ _ _=>bz) (λ_ _ _ _=>(aI ot hr U (aa (aI aY hr U (aa (pv 1) (aa (ar bL ag (pv 0)) ae))) (aa (aE (dz (K:=K) U) (pv 2) (pv 0) (λ_ _=>U)) ae)))))
  (aN (lV (i:=7) Z68.nd U (Or.inl U) (aZ U bl.range_ (aa ag ae)) (bw (N:=["k","script","turn"]) (fr:=[0,5]) (cl:=[("turn",s.heap.objs.size+1+1+1),("script",s.heap.objs.size+1)]) U U (by decide+kernel) (by decide+kernel) U (by decide+kernel) U U U (hQ.mpr ⟨U,hQ.mpr ⟨U,iQ _⟩⟩) U) U (λ_ _ _ _=>bz) (λ_ _ _ _=>(aI d6 hr U (aa (ar bL (ar bI (aI aY hr U (aa (pv 1) (aa ag ae))) ag) (pv 2)) (aa (pv 0) ae)))))
  (aj (aJ (i:=8) Z68.nd U (Or.inl U) (aI aY hr U (aa (pv 0) (aa ag ae))))
  (aj (aJ (i:=9) Z68.nd U (Or.inl U) (aP ae))
  (aN (bp PassesOwn.never U (aW (pv 4)) (aC (i:=10) Z68.nd U (Or.inr U))
  (ai (aV (eG PySem.F.plainAttrs_list PySem.F.slot_list_append PySem.F.type_list_append bg (pv 9) (aa (aX (aa (cO (aZ U bl.range_ (aa (au aw U bl.len_ boot_len (aa (pv 1) ae)) ae)) (bw (N:=["k","points","row"]) (fr:=[1,10]) (cl:=[("row",s.heap.objs.size+1+1+1+1),("points",s.heap.objs.size+1+1)]) U U (by decide+kernel) (by decide+kernel) U (by decide+kernel) U U U (hQ.mpr ⟨U,hQ.mpr ⟨U,iQ _⟩⟩) U) U (λ_ _ _ _=>bz) (λ_ _ _ _=>(aI qk hr U (aa (aE (dz (K:=K) U) (pv 1) (pv 0) (λ_ _=>U)) (aa (aE (dz (K:=K) U) (aE (gm (K:=K) U) (pv 2) ag (λ_ _=>U)) (pv 0) (λ_ _=>U)) ae))))) (aa (aE bA (pv 10) ag (λ_ _=>U)) ae))) ae)))))
  (ai (av (qJ a9 bM hr U (aa (aE aG (pv 7) ag (λ_ _=>U)) (aa (cw dR (pv 7) de (df (au aw U bl.len_ boot_len (aa (pv 1) ae)))) (aa (pv 6) (aa (aI nF hr U (aa (pv 8) (aa (pv 2) ae))) (aa (pv 3) (aa (pv 9) ae)))))))))))))),?_⟩
 have d5:xs.length=c.length:=c4.1;obtain⟨bs,a5⟩:∃bs,bs=c.map λo=>(loP o,hiP o):=⟨_,U⟩
 have k8:bs.length=c.length:=by rw[a5];simp
 refine⟨λa2 l=>aq H l/\∃(dl:Addr)(dv:List V),l dl=some (.lst dv)/\aD dv bs (Dom Y.i Y.j l)/\aD dv (dms ns c) (DmX Y.i Y.j l)/\a2=[some (.ref a),some (.ref pl),some (.ref ol),some (.str wy),some (.ref rl),some (.int tu),some (.ref dl),none,none,none,none],?_,?_⟩
 .refine⟨_,U,pl,_,U,.inl (SqL.of a7),_,U,(by show -(2^62)<=((xs.length:Nat):Int);lia),(by show((xs.length:Nat):Int)<2^62;lia),bY (λD i G l=>aq H l/\l D=some (.lst G)/\aD G (bs.take i) (Dom Y.i Y.j l)/\aD G ((dms ns c).take i) (DmX Y.i Y.j (hide l D))) (λD M=>⟨af M _,ab,aD.nil,aD.nil⟩) (λD i G l M hi L=>?_) (λD G l M L=>?_)⟩
  .obtain⟨I,eD,R,a4⟩:=L;have k0:i<c.length:=by lia
   obtain⟨o,B⟩:∃o,c[i]?=some o:=⟨_,GH k0⟩;obtain⟨r,er,i8⟩:=c4.2 i o B;have eb:bs[i]?=some (loP o,hiP o):=by rw[a5,fo,B];rfl
   refine⟨_,U,_,U,_,_,U,U,a,ns,_,U,I.seq hS,(by show 0<=1+(0+(i:Int));lia),_,U,_,U,pl,_,_,_,U,U,SqL.of (I _ _ a7),og er,_,r,o,U,I _ _ i8,hg.pts o (GJ B),hg.wrd i o B,λd H2 v hd c7=>?_⟩;have a8:=v _ _ eD;have j2:G.length<=4:=by have:=R.1;rw[ip]at this;lia
   refine cP.mk hi a8 (ax (by lia)) ⟨(I.trans v).upd M,ab,?_,?_⟩
   rotate_left
   .rw[take_snoc (A7 B),m6];exact aD.snoc (aD.mono a4 λ_ _ p=>p.same (kL v)) (c7.hide eD v)
   rw[take_snoc eb];exact aD.mono (aD.snoc (aD.mono R λ_ _ p=>p.same v) hd) λ_ _ p=>p.upd a8
  .obtain⟨I,eD,R,a4⟩:=L;rw[Bt,d5]at R a4;rw[←k8,iv]at R;rw[show c.length=(dms ns c).length by unfold dms;rw[bx,jQ],iv]at a4;exact⟨I,D,G,eD,R,aD.mono a4 λ_ _ p=>p.same (qc l D),U⟩
 rintro n2 H1 ⟨s1,dl,dv,l6,e6,Fq,rfl⟩;obtain⟨J,k6⟩:∃J,J=cx ns 0 / 4+tu:=⟨_,U⟩;refine⟨λa2 l=>aq H1 l/\∃na:Addr,l na=some (.lst ((w3s J 5).map V.str))/\a2=[some (.ref a),some (.ref pl),some (.ref ol),some (.str wy),some (.ref rl),some (.int tu),some (.ref dl),some (.ref na),none,none,none],?_,?_⟩
 .refine⟨_,U,(by decide),(by decide),bY (λD i G l=>aq H1 l/\l D=some (.lst G)/\G=(w3s J i).map V.str) (λD M=>⟨af M _,ab,U⟩) (λD i G l M hi L=>?_) (λD G l M L=>?_)⟩
  .obtain⟨I,eD,rfl⟩:=L;have o3:i<5:=hi;refine⟨_,U,a,ns,0,U,(s1.trans I).seq hS,Int.le_refl _,_,_,U,U,⟨by decide,by decide⟩,_,U,_,_,U,U,_,U,_,_,U,(by lia),(by lia),?_⟩;rw[←k6];refine cP.mk hi eD (ax (by rw[bx,fu];lia)) ⟨I.upd M,ab,?_⟩;rw[mY,ij];rfl
  .obtain⟨I,eD,rfl⟩:=L;exact⟨I,D,eD,U⟩
 rintro n1 H2 ⟨v,na,l5,rfl⟩;have a3:=s1.trans v;refine⟨_,U,a,ns,5,U,a3.seq hS,by decide,?_⟩;refine⟨(by show 0<=sizeLine;decide),λZ e5=>?_⟩;have u3:=af e5 (.lst []);have e9:upd H2 Z (.lst []) Z=some (.lst []):=ab;generalize upd H2 Z (.lst [])=H3 at u3 e9⊢;have f8:=a3.trans u3;refine⟨λa2 l=>aq H2 l/\∃(X:List V)(g:List Rw)(c8:Option V),l Z=some (.lst X)/\RL NT l X g/\g.length=a1.length/\(∀w∈g,lE bs (o0 os,o4 os) w)/\(∀(k:Nat)(b:List Int×Int)(x:Rw),a1[k]?=some b->g[k]?=some x->GrR c b x)/\a2=[some (.ref a),some (.ref pl),some (.ref ol),some (.str wy),some (.ref rl),some (.int tu),some (.ref dl),some (.ref na),some (.int (cx ns 5)),some (.ref Z),c8],?_,?_⟩
 .refine⟨_,U,rl,U,⟨_,SqL.of (f8 _ _ e7)⟩,bF (xs:=rx) (λi σ l=>aq H2 l/\∃(X:List V)(g:List Rw)(c8:Option V),l Z=some (.lst X)/\RL (Fr H2 Z) l X g/\g.length=i/\(∀w∈g,lE bs (o0 os,o4 os) w)/\(∀(k:Nat)(b:List Int×Int)(x:Rw),a1[k]?=some b->g[k]?=some x->GrR c b x)/\σ=[some (.ref a),some (.ref pl),some (.ref ol),some (.str wy),some (.ref rl),some (.int tu),some (.ref dl),some (.ref na),some (.int (cx ns 5)),some (.ref Z),c8]) ⟨u3,[],[],_,e9,aD.nil,U,(λw h=>by cases h),(λk b x _ e=>by simp at e),U⟩ (λi σ l _ L=>SqL.of ((a3.trans L.1) _ _ e7)) (λi y σ l e L=>?_) (λσ l L=>?_)⟩
  .obtain⟨I,X,g,c8,em,hR,C,hok,a6,rfl⟩:=L;have sA:=a3.trans I;obtain⟨r,b,rfl,eb,m2,e1,e2⟩:=aD.get b0 e;have hi:i<rx.length:=(GI.mp e).1;obtain⟨o5,l2,l1⟩:=k7 b (GJ eb);have m0:=sA _ _ e1;have p1:=sA _ _ e2;have Fs:=sA _ _ a7;refine⟨_,U,.inl ⟨U,_,SqL.of em⟩,_,U,pl,_,U,.inl (SqL.of Fs),_,U,(by show -(2^62)<=((xs.length:Nat):Int);lia),(by show((xs.length:Nat):Int)<2^62;lia),bY (λD j G O=>aq l O/\O D=some (.lst G)/\∃n:List Prs,CL (Fr l D) O G n/\n.length=j/\(∀(i:Nat)(qs:Prs)(b:Int×Int),n[i]?=some qs->bs[i]?=some b->∀p∈qs,b.1<=p.1/\p.2<=b.2)/\(∀(i:Nat)(qs:Prs)(o:List Int)(m:Int),n[i]?=some qs->c[i]?=some o->b.1[i]?=some m->SpG o m (o.length-1) qs)) (λD M=>⟨af M _,ab,[],aD.nil,U,(λi qs b e=>by simp at e),(λi qs o m e=>by simp at e)⟩) (λD j G O M hj L=>?_) (λD G O M L=>?_)⟩
   .obtain⟨T,eD,n,R,a0,c2,c3⟩:=L;have j8:j<c.length:=by lia
    obtain⟨o,B⟩:∃o,c[j]?=some o:=⟨_,GH j8⟩;obtain⟨rp,l3,i7⟩:=c4.2 j o B;have sB:=sA.trans T;have k9:atI (b.1.map V.int) (0+(j:Int))=some (.int (b.1[j]'(by lia))):=og (get_map (GH (by lia)));refine⟨_,U,_,U,pl,_,_,_,U,U,SqL.of (sB _ _ a7),og l3,_,U,r,_,_,_,U,U,SqT.of (sB _ _ e1),U,_,U,m2,_,_,_,U,U,SqL.of (sB _ _ e2),k9,rp,o,_,U,sB _ _ i7,hg.pts o (GJ B),l1 _ (lI _),λsp qs p3 b5 e0 j9 i2=>?_⟩;have a8:=b5 _ _ eD;have j2:G.length=j:=by rw[R.1,a0]
    have c1:O sp=none:=e0.1;have nD:sp≠D:=λz=>by rw[z,eD]at c1;cases c1
    refine cP.mk hj a8 (ax (by lia)) ⟨(T.trans b5).upd M,ab,n++[qs],CL.updN (aD.snoc (R.same b5) ⟨⟨T.free c1,nD⟩,e0.2⟩) Fr.out a8,by simp[a0],(λi' b6 b' S W=>?_),λi' b6 g0 m' S W f3=>?_⟩
    rotate_left
    .by_cases c6:i'<n.length
     .rw[iP c6]at S;exact c3 i' b6 g0 m' S W f3
     .have c5:i'=n.length:=by
       have:=(GI.mp S).1;simp at this;lia
      subst c5;simp at S;subst S;rw[a0]at W f3;rw[B]at W;cases W;rw[GH (by lia)]at f3;cases f3;exact i2
    by_cases c6:i'<n.length
    .rw[iP c6]at S;exact c2 i' b6 b' S W
    .have c5:i'=n.length:=by
      have:=(GI.mp S).1;simp at this;lia
     subst c5;simp at S;subst S;rw[a0,a5,fo,B]at W;cases W;exact j9
   .obtain⟨T,eD,n,R,a0,c2,c3⟩:=L;rw[Bt]at a0;have f0:=T _ _ em;refine⟨_,U,r,_,_,_,U,U,SqT.of (T _ _ m0),U,bu,λt ht=>?_⟩;have ut:=af ht (.tup [.ref D,.int b.2]);have sC:=T.trans ut;have o2:X.length=i:=by rw[hR.1,C]
    refine⟨Z,_,_,U,U,ut _ _ f0,ax (by lia),?_⟩;have j1:H2 D=none:=I.free M;have j0:D≠Z:=λz=>by rw[z,em]at M;cases M
    have CB:jh (Fr H2 Z) (upd O t (.tup [.ref D,.int b.2])) t (n,b.2):=⟨D,G,ab,⟨j1,j0⟩,ut _ _ eD,(R.same ut).wk λx hx=>⟨I.free hx.1,λz=>by have h1:=hx.1;rw[z,em]at h1;cases h1⟩⟩;have h8:RL (Fr H2 Z) (upd O t (.tup [.ref D,.int b.2])) (X++[.ref t]) (g++[(n,b.2)]):=aD.snoc (hR.same sC) CB;refine⟨(I.trans sC).upd e5,X++[.ref t],g++[(n,b.2)],_,ab,RL.updN h8 Fr.out (ut _ _ f0),by simp[C],(λw hw=>?_),(λk b' x S W=>?_),U⟩
    rotate_left
    .by_cases hk:k<g.length
     .rw[iP hk]at W;exact a6 k b' x S W
     .have j7:k=g.length:=by
       have:=(GI.mp W).1;simp at this;lia
      subst j7;simp at W;subst W;rw[C,eb]at S;cases S;exact⟨U,by show n.length=c.length;lia,λj o qs m g1 g2 g3=>c3 j qs o m g2 g1 g3⟩
    rcases gg.mp hw with hw|hw
    .exact hok w hw
    .rw[show w=(n,b.2) by simpa using hw];have ho:=yN e4 b.2 l2;exact⟨by show n.length=bs.length;lia,c2,ho.1,ho.2⟩
  .obtain⟨I,X,g,c8,em,hR,C,hok,a6,rfl⟩:=L;have:rx.length=a1.length:=b0.1;exact⟨I,X,g,c8,em,hR.any,by lia,hok,a6,U⟩
 rintro n0 H4 ⟨t4,X,g,c8,em,hR,C,hok,a6,rfl⟩;have d4:=a3.trans t4;obtain⟨H5,f4⟩:∃H5,H5=H4:=⟨_,U⟩;have t5:aq H4 H5:=by rw[f4];exact aq.refl _
 rw[←f4];have f6:=t4.trans t5;have h7:atI ((w3s J 5).map V.str) 4=some (.str (w3 J (0+4))):=rfl;have CC:=f6 _ _ l5;refine⟨_,U,na,_,_,_,U,U,SqL.of CC,h7,_,U,_,U,pl,_,U,.inl (SqL.of ((d4.trans t5) _ _ a7)),_,U,na,_,U,SqL.of CC,λnn i9=>?_⟩;have Ft:jS ((w3s J 5).map V.str) none (some ((xs.length:Nat):Int))=(w3s J c.length).map V.str:=by
  rw[d5];have:c.length=1\/c.length=2\/c.length=3\/c.length=4:=by lia
  rcases this with h|h|h|h <;> rw[h] <;> rfl
 rw[Ft];have u6:=af i9 (.lst ((w3s J c.length).map V.str));have e8:upd H5 nn (.lst ((w3s J c.length).map V.str)) nn=some (.lst ((w3s J c.length).map V.str)):=ab;generalize upd H5 nn (.lst ((w3s J c.length).map V.str))=H6 at u6 e8⊢;have d2:=t5.trans u6;have d3:=d4.trans d2;refine⟨_,U,_,U,_,U,_,ol,os,U,d3 _ _ l4,e4,λou H7 s7 e3 Fu Fv=>?_⟩;have b4:=d2.trans s7;refine⟨_,U,_,U,λx dx hx c7 o1=>?_⟩;have s8:aq H7 (upd (upd H7 dx (.own x)) x (.ins Y.k dx [])):=(af c7 _).upd hx;have f7:=s7.trans s8;have b1:(w3 J (0+4) :: w3s J c.length).Nodup/\∀z∈w3 J (0+4) :: w3s J c.length,isw z=true:=by
  constructor
  .rw[lz];refine⟨λh=>?_,pd _ _⟩;unfold w3s at h;obtain⟨j,hj,e⟩:=en.mp h;have:=jr.mp hj;have:=xn (by lia) (by lia) e;lia
  .intro z R;rcases dt.mp R with rfl|R
   .exact xm _ _ (by lia) (by lia)
   .exact uy (by lia) z R
 have rG:wy=s!"sum" -> ∃dx fs,H7 ou=some (.ins Y.i dx fs):=λz=>Fu λe=>i0 e z
 have i1:=fu J c.length;have b3:=(t4.trans b4);refine⟨x,dx,nn,dl,ou,Z,_,_,w3s J c.length,dv,X,bs,(o0 os,o4 os),g,U,ab,f7 _ _ e8,b1.2,b1.1,by lia,by lia,GJ h9,λz=>?_,s8 _ _ (b3 _ _ (v _ _ l6)),aD.mono e6 λ_ _ p=>((p.same v).same b3).same s8,e3.same s8,s8 _ _ (b4 _ _ em),(hR.same b4).same s8,?_,by lia,hok,λl fs f9 f5 k1 k2 k3 h6 h5 h4 ⟨g4,m1,h3,h0,g9,g8,g7,g6⟩ g5 k4 k5=>?_⟩
 .obtain⟨d1,d0,e2⟩:=rG z;exact⟨d1,d0,s8 _ _ e2⟩
 .have h1:=hR.1;have h2:rx.length=a1.length:=b0.1;lia
 have s9:aq H7 l:=λb u e=>k1 b u (bf e hx) (s8 _ _ e)
 have sT:aq H H7:=d3.trans s7;have fr:∀a,upd (upd H7 dx (.own x)) x (.ins Y.k dx []) a=none->H a=none:=λa ha=>sT.free (s8.free ha)
 refine⟨U,q x g _ ou _ dv l (sT.trans s9) ⟨f9,dx,g4,m1,fs,f5,k2,k3,h4,h6,h5,h3,h0,g9,g8,k4,aD.mono k5 λr w h=>h.wk λa ha=>fr a ha,fr _ g7,fr _ g6,fr _ g5,?_⟩ ?_ (e3.same s9) ?_ (Fv.same s9) ?_ b1.2 b1.1 i1 C ?_ a6⟩
 .have h1:=k5.1;have h2:rx.length=a1.length:=b0.1;lia
 .rw[←a5];exact aD.mono e6 λ_ _ p=>((p.same v).same b3).same s9
 .exact aD.mono Fq λ_ _ p=>((p.same v).same b3).same s9
 .intro z;obtain⟨d1,d0,e2⟩:=rG z;exact⟨d1,d0,s9 _ _ e2⟩
 .rw[←a5];exact hok
theorem Fw{k n:Nat}(F:Fun K "layered" "layered" Y72 f fd) (bl:Bl K mg Y)(iq:Callee P w K mg base k "closed" ["triples"] (fS K Y)) (kX:Callee P w K mg base k "layered" ["columns","ahead","leaf"] (eZ K Y P w mg base n)) (hk:8<=k):aL P w K mg base CX0 (k+1) f fd ["columns","ahead","leaf"] (eZ K Y P w mg base (n+1)):=by
 refine F.okA Z72 λc0 A b5 s H vs Q E hr h=>?_
 obtain⟨c,b,f_,xs,a,M,m,L,iL,A,g,J,rfl,hn,hc,hC,hb,a1,b3,b0,hm,Z,hJ,q⟩:=h
 refine⟨_,(aj (aM (cy (c9 (pv 0) (by intro _;rfl)))
  (ai (av (pS (k:=8) (i:=2) (hr.mono hk) U (Or.inr (Or.inl U)) (aa (pv 1) ae))))
  az)
  (ai (av (aI iq hr U (aa (dU (aW (aE aG (pv 0) ag (λ_ _=>U))) (fq (N:=["low","high","columns","ahead","leaf"]) (k:=2) (fr:=[0,1,2]) (cl:=[("leaf",s.heap.objs.size+1+1+1),("columns",s.heap.objs.size+1),("ahead",s.heap.objs.size+1+1)]) U U (by decide+kernel) (by decide+kernel) U U (hQ.mpr ⟨U,hQ.mpr ⟨U,hQ.mpr ⟨U,iQ _⟩⟩⟩) U) U (λ_ _ _ _=>(jW (K:=K) (n:=2) U U (aK (aC (i:=0) (show(["low","high","columns","ahead","leaf"]:List Str).Nodup by decide+kernel) U (Or.inl U) (Or.inr U)) (aK (aC (i:=1) (show(["low","high","columns","ahead","leaf"]:List Str).Nodup by decide+kernel) U (Or.inl U) (Or.inr U)) bH)))) (λ_ _ _ _=>bz) (λ_ _ _ _=>(aX (aa (pv 0) (aa (pv 1) (aa (aI kX hr U (aa (cw (wR (K:=K) U) (pv 2) (df ag) de) (aa (ar dJ (pv 3) (aP (aa (pv 0) ae))) (aa (pv 4) ae)))) ae)))))) ae))))),?_⟩
 cases a with
 |nil =>
  have hx:xs=[]:=List.eq_nil_of_length_eq_zero hC.1;subst hx;obtain⟨sp,hF,a9⟩:=Z.fn;refine⟨_,U,_,.inl ⟨_,SqL.of hc,U⟩,eJ ?_⟩;exact⟨f_,sp,U,Z.ob H hJ,hF,_,U,Z.ob H hJ,a9 H b M _ hJ (by rw[hm];rfl) hb λv u h' hv=>q v u h' hv⟩
 |cons y a =>
  obtain⟨r,ex,ts,er,hp⟩:=hC.2 0 y U;obtain⟨l,rfl⟩:∃l,xs=.ref r :: l:=by
   cases xs with
   |nil=>cases ex
   |cons x l=>cases ex;exact⟨l,U⟩
  have b4:CoL H l a:=⟨by simpa using hC.1,λj c e=>by simpa using hC.2 (j+1) c (by simpa using e)⟩;have b6:y.length<=64:=a1 y fb;have a5:ts.length=y.length:=hp.length;have Gz:a.length<=5:=by rw[ik]at b0;lia
  refine⟨_,U,_,.inl ⟨_,SqL.of hc,U⟩,bR ?_⟩
  refine⟨_,U,c,_,_,_,U,U,SqL.of hc,aR (j:=0) U,r,U,⟨_,SqL.of er⟩,eQ (xs:=ts) (λD i G u=>aq H u/\u D=some (.lst G)/\FmL (FmV A u a.length) u ((y.take i).map λp=>(p.1,p.2,lay g a (M++[p.1]))) G/\G.length<=i)
   (λD hD=>⟨af hD _,ab,FmL.nil,yh _⟩) (λD i G u hD _ h=>SqL.of (h.1 _ _ er)) (λD i x G u hD e h ss a8=>?_) (λD G u hD h=>?_)⟩
  .obtain⟨I,eD,S,a4⟩:=h;obtain⟨p,t,ep,rfl,ht⟩:=hp.get e;have hi:i<ts.length:=(GI.mp e).1;obtain⟨t0,B,rfl⟩:∃t0 B,ss=[t0,B]:=by
    match ss,a8 with
    | [t0,B],_=>exact⟨t0,B,U⟩
   refine⟨t,_,U,SqT.of (I _ _ ht),U,_,_,U,_,_,U,U,⟨[some (.int p.1),some (.int p.2)],U,U⟩,?_⟩;refine⟨_,U,_,U,_,U,_,U,c,_,U,SqL.of (I _ _ hc),λc2 b1=>?_⟩;rw[xk];have s2:aq u (upd u c2 (.lst l)):=af b1 _;have a2:upd u c2 (.lst l) c2=some (.lst l):=ab;generalize upd u c2 (.lst l)=T at s2 a2⊢;refine⟨_,U,_,U,(by show 1<=sizeLine;decide),λB a7=>?_⟩;have X:aq T (upd T B (.lst [.int p.1])):=af a7 _;have e1:upd T B (.lst [.int p.1]) B=some (.lst [.int p.1]):=ab;generalize upd T B (.lst [.int p.1])=H3 at X e1⊢;refine⟨b,B,_,_,U,U,X _ _ (s2 _ _ (I _ _ hb)),e1,yj (ax (by rw[bx];show M.length+1<=1000;lia)),λR a0=>?_⟩;have s4:aq H3 (upd H3 R (.lst (M.map V.int++[.int p.1]))):=af a0 _;have e2:upd H3 R (.lst (M.map V.int++[.int p.1])) R=some (.lst ((M++[p.1]).map V.int)):=by rw[ij];exact ab
   generalize upd H3 R (.lst (M.map V.int++[.int p.1]))=H4 at s4 e2⊢;have O:aq u H4:=(s2.trans X).trans s4;have f2:u R=none:=(s2.trans X).free a0;refine⟨_,U,c2,R,f_,l,a,M++[p.1],m,L,iL,A,g,J,U,by rw[ik]at hn;lia,s4 _ _ (X _ _ a2),b4.same (I.trans O),e2,λz S=>a1 z (iC _ S),by rw[cK,gI];rw[ik]at b3;lia,by lia,by rw[cK,gI];rw[ik]at hm;lia,Z,Z.st _ _ hJ (I.trans O),λv H5 h5 hv=>?_⟩;have s5:aq u H5:=λd o ed=>h5 d o (λz=>by rw[z,f2]at ed;cases ed) (O _ _ ed)
   refine⟨(by show 3<=sizeLine;decide),λW a6=>?_⟩;have s6:aq H5 (upd H5 W (.tup [.int p.1,.int p.2,v])):=af a6 _;have e3:upd H5 W (.tup [.int p.1,.int p.2,v]) W=some (.tup [.int p.1,.int p.2,v]):=ab;generalize upd H5 W (.tup [.int p.1,.int p.2,v])=H6 at s6 e3⊢;have C:=s5.trans s6;have a3:=C _ _ eD;refine cP.mk hi a3 (ax (by lia)) ⟨(I.trans C).upd hD,ab,?_,by rw[cK,gI];lia⟩;have st:cb H6 (upd H6 D (.lst (G++[.ref W]))):=aQ a3;rw[take_snoc ep,ij];exact(S.mono (λ_ _ z=>FmV.mono (C.tups.trans st) z) (C.tups.trans st)).snoc (st _ _ e3) (FmV.mono (s6.tups.trans st) hv)
  .obtain⟨I,eD,S,a4⟩:=h;rw[a5,iv]at S;refine⟨L,iL,A,a.length,D,G,_,U,by lia,eD,S,by rw[bx];lia,λr2 T s2 hf=>?_⟩;exact q _ T (λd o _ ed=>(I.trans s2) _ _ ed) hf
theorem Fx{k n:Nat}(F:Fun K "mapped" "mapped" Y73 f fd) (bl:Bl K mg Y)(iq:Callee P w K mg base k "closed" ["triples"] (fS K Y)) (nG:Callee P w K mg base k "mapped" ["form","deep","change"] (fU K Y P w mg base n)) (hk:8<=k):aL P w K mg base CX0 (k+1) f fd ["form","deep","change"] (fU K Y P w mg base (n+1)):=by
 refine F.okA Z73 λb1 A a8 s H vs Q E Z h=>?_
 obtain⟨L,M,iL,iM,A,B,h_,J,d,F_,v,f_,rfl,hn,b0,R,a6,m,S,q⟩:=h
 refine⟨_,(aj (aM (aF bq (pv 1) ag (aH _))
  (ai (av (pS (k:=8) (i:=2) (Z.mono hk) U (Or.inr (Or.inl U)) (aa (pv 0) ae))))
  az)
  (ai (av (aI iq Z U (aa (dU (rZ (pv 0)) (fq (N:=["low","high","beneath","deep","change"]) (k:=3) (fr:=[1,2]) (cl:=[("deep",s.heap.objs.size+1),("change",s.heap.objs.size+1+1)]) U U (by decide+kernel) (by decide+kernel) U U (hQ.mpr ⟨U,hQ.mpr ⟨U,iQ _⟩⟩) U) U (λ_ _ _ _=>(jW (K:=K) (n:=3) U U (aK (aC (i:=0) (show(["low","high","beneath","deep","change"]:List Str).Nodup by decide+kernel) U (Or.inl U) (Or.inr U)) (aK (aC (i:=1) (show(["low","high","beneath","deep","change"]:List Str).Nodup by decide+kernel) U (Or.inl U) (Or.inr U)) (aK (aC (i:=2) (show(["low","high","beneath","deep","change"]:List Str).Nodup by decide+kernel) U (Or.inl U) (Or.inr U)) bH))))) (λ_ _ _ _=>bz) (λ_ _ _ _=>(aX (aa (pv 0) (aa (pv 1) (aa (aI nG Z U (aa (pv 2) (aa (ar cz (pv 3) ag) (aa (pv 4) ae)))) ae)))))) ae))))),?_⟩
 cases d with
 |zero =>
  obtain⟨sp,hF,a5⟩:=m.fn;refine⟨_,U,U,_,U,fm U ?_⟩;exact⟨f_,sp,U,m.ob H S,hF,_,U,m.ob H S,a5 H v F_ _ S R λu b s' X=>q u b s' X⟩
 |succ d =>
  obtain⟨G,rfl⟩:∃G:List (T3a (Fm L d)),(G:Fm L (d+1))=F_:=⟨F_,U⟩;obtain⟨a9,zc⟩:SmS 300 (SmF 300 d) G:=a6;obtain⟨a,xs,rfl,ha,hG⟩:∃(a:Addr)(xs:List V),v=.ref a/\H a=some (.tup xs)/\FmL (FmV A H d) H G xs:=R;have a1:=hG.1;refine⟨_,U,U,_,U,cm (λz=>by have:=V.int.inj z;lia) ?_⟩
  refine⟨_,U,a,U,⟨_,SqT.of ha⟩,o6 (xs:=xs) (λD i g b=>aq H b/\b D=some (.lst g)/\FmL (FmV B b d) b ((G.take i).map λt=>(t.1,t.2.1,oi h_ d t.2.2)) g/\g.length<=i)
   (λD o=>⟨af o _,ab,FmL.nil,yh _⟩) (λD i g b o _ h=>SqT.of (h.1 _ _ ha)) (λD i x g b o e h ss a4=>?_) (λD g b o h=>?_)⟩
  .obtain⟨j,eD,O,a0⟩:=h;have hi:i<xs.length:=(GI.mp e).1;obtain⟨t,et⟩:∃t,G[i]?=some t:=⟨_,GH (by lia)⟩;obtain⟨r,u,ex,er,X⟩:=hG.2 i t et;rw[e]at ex;cases ex;obtain⟨I,C,y,rfl⟩:∃I C y,ss=[I,C,y]:=by
    match ss,a4 with
    | [I,C,y],_=>exact⟨I,C,y,U⟩
   have a7:=j _ _ er;have a2:=FmV.mono j.tups X;refine⟨r,_,U,SqT.of a7,U,_,_,U,_,_,U,_,_,U,U,⟨[some (.int t.1),some (.int t.2.1),some u],U,U⟩,?_⟩;refine⟨_,U,_,U,_,U,_,U,_,_,U,U,_,U,L,M,iL,iM,A,B,h_,J,d,t.2.2,u,f_,by simp,by lia,by lia,a2,zc t (GJ et),m,m.st _ _ S j,λv T s5 R=>?_⟩;refine⟨(by show 3<=sizeLine;decide),λl a3=>?_⟩;have W:aq T (upd T l (.tup [.int t.1,.int t.2.1,v])):=af a3 _;have e3:upd T l (.tup [.int t.1,.int t.2.1,v]) l=some (.tup [.int t.1,.int t.2.1,v]):=ab;generalize upd T l (.tup [.int t.1,.int t.2.1,v])=H6 at W e3⊢;have c:=s5.trans W;have p:=c _ _ eD;refine cP.mk hi p (ax (by lia)) ⟨(j.trans c).upd o,ab,?_,by rw[cK,gI];lia⟩;have st:cb H6 (upd H6 D (.lst (g++[.ref l]))):=aQ p;rw[take_snoc et,ij];exact(O.mono (λ_ _ z=>FmV.mono (c.tups.trans st) z) (c.tups.trans st)).snoc (st _ _ e3) (FmV.mono (W.tups.trans st) R)
  .obtain⟨j,eD,O,a0⟩:=h;rw[a1,iv]at O;refine⟨M,iM,B,d,D,g,_,U,by lia,eD,O,by rw[bx];lia,λr2 H2 s2 hf=>?_⟩;exact q _ H2 (j.trans s2) hf
theorem Fy{k n:Nat}(F:Fun K "paired" "paired" Y76 f fd) (bl:Bl K mg Y)(iq:Callee P w K mg base k "closed" ["triples"] (fS K Y)) (nH:Callee P w K mg base k "paired" ["one","other","deep","pair"] (fV K Y P w mg base n)) (hk:8<=k):aL P w K mg base CX0 (k+1) f fd ["one","other","deep","pair"] (fV K Y P w mg base (n+1)):=by
 refine F.okA Z76 λf4 A e5 s H vs Q E hr h=>?_
 obtain⟨L,M,N,iL,iM,iN,A,B,C,h_,J,d,F_,G_,v,u,X,ps,rfl,hn,f0,hv,hu,d0,Cr,c7,zc,hL,hJ,q⟩:=h
 refine⟨_,(aj (aM (aF bq (pv 2) ag (aH _))
  (ai (av (xg (k:=8) (i:=3) (hr.mono hk) U (Or.inl U) (aa (pv 0) (aa (pv 1) ae)))))
  az)
  (aj (aJ (i:=4) Z76.nd U (Or.inl U) (aP ae))
  (aj (aJ (i:=5) Z76.nd U (Or.inl U) (aE bA (aE bA (pv 0) ag (λ_ _=>U)) ag (λ_ _=>U)))
  (aj (aJ (i:=6) Z76.nd U (Or.inl U) ag)
  (aj (aJ (i:=7) Z76.nd U (Or.inl U) ag)
  (aj (vY PassesOwn.never (aF lu (pv 6) (au aw U bl.len_ boot_len (aa (pv 0) ae)) (aH _))
  (aN (aJ (i:=8) Z76.nd U (Or.inl U) (au (kB U) U bl.min_ PyProof.Rows.boot_min (aa (aE bA (aE bA (pv 0) (pv 6) (λ_ _=>U)) ag (λ_ _=>U)) (aa (aE bA (aE bA (pv 1) (pv 7) (λ_ _=>U)) ag (λ_ _=>U)) ae))))
  (aN (aV (eG PySem.F.plainAttrs_list PySem.F.slot_list_append PySem.F.type_list_append bg (pv 4) (aa (aX (aa (pv 5) (aa (pv 8) (aa (aI nH hr U (aa (aE bA (aE bA (pv 0) (pv 6) (λ_ _=>U)) ag (λ_ _=>U)) (aa (aE bA (aE bA (pv 1) (pv 7) (λ_ _=>U)) ag (λ_ _=>U)) (aa (ar cz (pv 2) ag) (aa (pv 3) ae))))) ae)))) ae)))
  (aN (aM (aF bq (aE bA (aE bA (pv 0) (pv 6) (λ_ _=>U)) ag (λ_ _=>U)) (pv 8) (aH _))
  (ai (rW (i:=6) Z76.nd U (Or.inl U) ag vX))
  az)
  (aN (aM (aF bq (aE bA (aE bA (pv 1) (pv 7) (λ_ _=>U)) ag (λ_ _=>U)) (pv 8) (aH _))
  (ai (rW (i:=7) Z76.nd U (Or.inl U) ag vX))
  az)
  (ai (aJ (i:=5) Z76.nd U (Or.inl U) (ar bL (pv 8) ag))))))))
  (ai (av (aI iq hr U (aa (pv 4) ae)))))))))),?_⟩
 cases d with
 |zero =>
  obtain⟨sp,hF,a8⟩:=hL.fn;refine⟨_,U,U,_,U,fm U ?_⟩;rcases hL.ob with ob|kk
  .exact .h ⟨X,sp,U,ob H hJ,hF,_,U,_,U,ob H hJ,a8 H v u F_ G_ _ hJ hv hu λr T s' hr=>q r T s' hr⟩
  .exact .k X sp U kk hF ⟨_,U,_,U,a8 H v u F_ G_ _ hJ hv hu λr T s' hr=>q r T s' hr⟩
 |succ d =>
  obtain⟨f,rfl⟩:∃f:List (T3a (Fm L d)),(f:Fm L (d+1))=F_:=⟨F_,U⟩;obtain⟨g,rfl⟩:∃g:List (T3a (Fm M d)),(g:Fm M (d+1))=G_:=⟨G_,U⟩;obtain⟨e6,Fz⟩:SmS 300 (SmF 300 d) f:=c7;obtain⟨Gh,FA⟩:SmS 300 (SmF 300 d) g:=zc;obtain⟨p,r,rfl,a9,a3,e9,eP⟩:ShS (cq d) f ps:=d0;obtain⟨p',r',e,yP,p8,yQ,m5⟩:ShS (cq d) g (p :: r):=Cr;cases e;obtain⟨a,xs,rfl,ha,hf⟩:∃(a:Addr)(xs:List V),v=.ref a/\H a=some (.tup xs)/\FmL (FmV A H d) H f xs:=hv;obtain⟨b,ys,rfl,hb,hg⟩:∃(a:Addr)(xs:List V),u=.ref a/\H a=some (.tup xs)/\FmL (FmV B H d) H g xs:=hu;have e8:=hf.1;have e7:=hg.1;obtain⟨z,ez,hz,d6⟩:=m4 (h:=h_) a3 a9 p8;refine⟨_,U,U,_,U,cm (λz=>by have:=V.int.inj z;lia) ?_⟩;obtain⟨t0,f',rfl⟩:∃t0 f',f=t0 :: f':=by
   cases f with
   |nil=>exact absurd U a9
   |cons t0 f'=>exact⟨t0,f',U⟩
  obtain⟨r0,u0,d3,d5,_⟩:=hf.2 0 t0 U;have d4:t0.1=p.1:=a3.1;generalize ef:t0 :: f'=f at *
  refine⟨(by show 0<=sizeLine;decide),λl hl=>?_⟩;have s0:aq H (upd H l (.lst [])):=af hl _;have b3:upd H l (.lst []) l=some (.lst []):=ab;generalize upd H l (.lst [])=H0 at s0 b3⊢;refine⟨_,U,a,_,_,_,U,U,SqT.of (s0 _ _ ha),aR (j:=0) d3,r0,_,_,_,U,U,SqT.of (s0 _ _ d5),U,?_⟩;rw[d4]
  refine⟨λm σ T=>∃(i j:Nat)(lo:Int)(G:List (T3a (Fm N d)))(W:List V)(c8:Option V),m=(f.length-i)+(g.length-j)/\i<=f.length/\j<=g.length/\aq H T/\T l=some (.lst W)/\FmL (FmV C T d) T G W/\z=G++kJ (pairF h_ d) lo (f.drop i) (g.drop j)/\Cov (f.drop i) lo p.2/\Cov (g.drop j) lo p.2/\G.length<=i+j/\σ=[some (.ref a),some (.ref b),some (.int ((d+1:Nat):Int)),some (.ref X),some (.ref l),some (.int lo),some (.int (i:Int)),some (.int (j:Int)),c8],
   ⟨f.length+g.length,0,0,p.1,[],[],none,U,yh _,yh _,s0,b3,FmL.nil,ez,a3.cov,p8.cov,yh _,U⟩,?_⟩
  rintro m σ T ⟨i,j,lo,G,W,c8,rfl,hi,hj,O,el,a0,jV,cf,cg,f1,rfl⟩;refine⟨_,U,_,U,a,_,U,.inr (SqT.of (O _ _ ha)),_,_,U,U,_,U,?_⟩;refine bG (λgd=>?_) (λgd=>?_)
  .have a1:i<f.length:=by have:(i:Int)<((xs.length:Nat):Int):=iZ gd;lia
   have d2:j<g.length:=by
    by_cases d1:j<g.length
    .exact d1
    .exfalso;rw[List.drop_eq_nil_of_le (by lia)]at cg;have cg:lo=p.2+1:=cg;obtain⟨c,es⟩:∃c,f[i]?=some c:=⟨_,GH a1⟩;rw[gw es]at cf;have c1:=cf.1;have c2:=cf.2.le;lia
   obtain⟨c,es⟩:∃c,f[i]?=some c:=⟨_,GH a1⟩;obtain⟨o,et⟩:∃o,g[j]?=some o:=⟨_,GH d2⟩;obtain⟨r1,u1,a5,a7,c5⟩:=hf.2 i c es;obtain⟨r2,u2,a4,a6,c4⟩:=hg.2 j o et;have ms:=GJ es;have mt:=GJ et;rw[gw es]at cf jV;rw[gw et]at cg jV;obtain⟨f3,b5⟩:=cf;obtain⟨f2,b4⟩:=cg;obtain⟨x,I⟩:∃x:Int,x=if o.2.1<c.2.1 then o.2.1 else c.2.1:=⟨_,U⟩
   refine⟨λD y=>∃m',m'<(f.length-i)+(g.length-j)/\∃(i j:Nat)(lo:Int)(G:List (T3a (Fm N d)))(W:List V)(c8:Option V),m'=(f.length-i)+(g.length-j)/\i<=f.length/\j<=g.length/\aq H y/\y l=some (.lst W)/\FmL (FmV C y d) y G W/\z=G++kJ (pairF h_ d) lo (f.drop i) (g.drop j)/\Cov (f.drop i) lo p.2/\Cov (g.drop j) lo p.2/\G.length<=i+j/\D=[some (.ref a),some (.ref b),some (.int ((d+1:Nat):Int)),some (.ref X),some (.ref l),some (.int lo),some (.int (i:Int)),some (.int (j:Int)),c8],λD y hh=>hh,?_⟩;refine⟨λD y=>y=T/\D=[some (.ref a),some (.ref b),some (.int ((d+1:Nat):Int)),some (.ref X),some (.ref l),some (.int lo),some (.int (i:Int)),some (.int (j:Int)),some (.int x)],?_,?_⟩
   .refine⟨_,U,_,U,a,_,_,_,U,U,SqT.of (O _ _ ha),aR a5,r1,_,_,_,U,U,SqT.of (O _ _ a7),U,_,U,_,U,b,_,_,_,U,U,SqT.of (O _ _ hb),aR a4,r2,_,_,_,U,U,SqT.of (O _ _ a6),U,_,_,U,U,?_⟩;rw[I];rfl
   rintro c0 H3 ⟨S,rfl⟩;rw[S];clear S;refine⟨λD y=>aq H y/\∃a2:List V,y l=some (.lst a2)/\FmL (FmV C y d) y (G++[(lo,x,pairF h_ d c.2.2 o.2.2)]) a2/\D=[some (.ref a),some (.ref b),some (.int ((d+1:Nat):Int)),some (.ref X),some (.ref l),some (.int lo),some (.int (i:Int)),some (.int (j:Int)),some (.int x)],?_,?_⟩
   .refine⟨_,U,.inl ⟨U,_,SqL.of el⟩,_,U,_,U,_,U,_,U,a,_,_,_,U,U,SqT.of (O _ _ ha),aR a5,r1,_,_,_,U,U,SqT.of (O _ _ a7),U,_,U,_,U,b,_,_,_,U,U,SqT.of (O _ _ hb),aR a4,r2,_,_,_,U,U,SqT.of (O _ _ a6),U,_,U,_,_,U,U,_,U,L,M,N,iL,iM,iN,A,B,C,h_,J,d,c.2.2,o.2.2,u1,u2,X,r,by simp,by lia,by lia,FmV.mono O.tups c5,FmV.mono O.tups c4,eP c ms,m5 o mt,Fz c ms,FA o mt,hL,hL.st _ _ hJ O,λv H5 s5 hv=>?_⟩;refine⟨(by show 3<=sizeLine;decide),λt3 c6=>?_⟩;have s6:aq H5 (upd H5 t3 (.tup [.int lo,.int x,v])):=af c6 _;have S:upd H5 t3 (.tup [.int lo,.int x,v]) t3=some (.tup [.int lo,.int x,v]):=ab;generalize upd H5 t3 (.tup [.int lo,.int x,v])=H6 at s6 S⊢;have Z:=s5.trans s6;have b1:=Z _ _ el;refine⟨l,W,_,U,U,b1,ax (by have:=a0.1;lia),?_⟩;have st:cb H6 (upd H6 l (.lst (W++[.ref t3]))):=aQ b1;exact⟨(O.trans Z).upd hl,_,ab,(a0.mono (λ_ _ z=>FmV.mono (Z.tups.trans st) z) (Z.tups.trans st)).snoc (t:=(lo,x,pairF h_ d c.2.2 o.2.2)) (st _ _ S) (FmV.mono (s6.tups.trans st) hv),U⟩
   rintro c0 H3 ⟨s3,a2,e0,c3,rfl⟩;refine⟨λD y=>y=H3/\D=[some (.ref a),some (.ref b),some (.int ((d+1:Nat):Int)),some (.ref X),some (.ref l),some (.int lo),some (.int ((if c.2.1<=o.2.1 then i+1 else i:Nat):Int)),some (.int (j:Int)),some (.int x)],?_,?_⟩
   .refine⟨_,U,_,U,a,_,_,_,U,U,SqT.of (s3 _ _ ha),aR a5,r1,_,_,_,U,U,SqT.of (s3 _ _ a7),U,_,U,U,_,U,?_⟩;refine bG (λR=>?_) (λR=>?_)
    .have R:c.2.1=x:=V.int.inj (iZ R);have e:c.2.1<=o.2.1:=by split at I <;> lia
     rw[if_pos e];exact⟨_,U,_,_,U,U,U,U⟩
    .have R:¬ c.2.1=x:=λz=>lB R (by rw[z])
     have e:¬ c.2.1<=o.2.1:=by split at I <;> lia
     rw[if_neg e];exact⟨U,U⟩
   rintro b6 H4 ⟨e4,rfl⟩;rw[e4];clear e4;refine⟨λD y=>y=H3/\D=[some (.ref a),some (.ref b),some (.int ((d+1:Nat):Int)),some (.ref X),some (.ref l),some (.int lo),some (.int ((if c.2.1<=o.2.1 then i+1 else i:Nat):Int)),some (.int ((if o.2.1<=c.2.1 then j+1 else j:Nat):Int)),some (.int x)],?_,?_⟩
   .refine⟨_,U,_,U,b,_,_,_,U,U,SqT.of (s3 _ _ hb),aR a4,r2,_,_,_,U,U,SqT.of (s3 _ _ a6),U,_,U,U,_,U,?_⟩;refine bG (λR=>?_) (λR=>?_)
    .have R:o.2.1=x:=V.int.inj (iZ R);have e:o.2.1<=c.2.1:=by split at I <;> lia
     rw[if_pos e];exact⟨_,U,_,_,U,U,U,U⟩
    .have R:¬ o.2.1=x:=λz=>lB R (by rw[z])
     have e:¬ o.2.1<=c.2.1:=by split at I <;> lia
     rw[if_neg e];exact⟨U,U⟩
   rintro b6 H4 ⟨e4,rfl⟩;rw[e4];clear e4;refine⟨_,U,_,_,U,U,_,?_,_,_,_,_,_,_,U,?_,?_,s3,e0,c3,?_,?_,?_,?_,U⟩
   .split <;> split <;> lia
   .split <;> lia
   .split <;> lia
   .rw[jV,kJ,pA];show _=G++(lo,x,pairF h_ d c.2.2 o.2.2) :: _;rw[I];by_cases q1:c.2.1<o.2.1
    .have e1:(if o.2.1<c.2.1 then o.2.1 else c.2.1)=c.2.1:=if_neg (by lia);have e2:(if c.2.1<=o.2.1 then i+1 else i)=i+1:=if_pos (by lia);have S:(if o.2.1<=c.2.1 then j+1 else j)=j:=if_neg (by lia);rw[if_pos q1,e1,e2,S,gw et];rfl
    .rw[if_neg q1];by_cases q2:o.2.1<c.2.1
     .have e2:(if c.2.1<=o.2.1 then i+1 else i)=i:=if_neg (by lia);have S:(if o.2.1<=c.2.1 then j+1 else j)=j+1:=if_pos (by lia);rw[if_pos q2,if_pos q2,e2,S,gw es];rfl
     .have e2:(if c.2.1<=o.2.1 then i+1 else i)=i+1:=if_pos (by lia);have S:(if o.2.1<=c.2.1 then j+1 else j)=j+1:=if_pos (by lia);rw[if_neg q2,if_neg q2,e2,S];rfl
   .rw[I];by_cases q1:c.2.1<=o.2.1
    .rw[if_pos q1,if_neg (by lia)];exact b5.cov
    .rw[if_neg q1,if_pos (by lia),gw es];exact⟨by lia,b5⟩
   .rw[I];by_cases q1:o.2.1<=c.2.1
    .rw[if_pos q1];have e:(if o.2.1<c.2.1 then o.2.1 else c.2.1)=o.2.1:=by split <;> lia
     rw[e];exact b4.cov
    .rw[if_neg q1,if_neg (by lia),gw et];exact⟨by lia,b4⟩
   .rw[cK,gI];split <;> split <;> lia
  .have a1:i=f.length:=by have:¬ (i:Int)<((xs.length:Nat):Int):=lB gd;lia
   rw[a1,List.drop_length,kJ,jt]at jV;rw[←jV]at a0;refine⟨_,U,N,iN,C,d,l,W,z,U,by lia,el,a0,by have:=hz.len;lia,λr2 H2 s2 b0=>?_⟩;refine q _ H2 (O.trans s2) ?_;rw[←d6]at b0;exact b0
theorem FC(F:Fun K "built" "built" Y35 f fd) (bl:Bl K mg Y)(kX:Callee P w K mg base 15 "layered" ["columns","ahead","leaf"] (eZ K Y P w mg base 7)) (zh:Callee P w K mg base 15 "grain" ["bounds","marks"] (nu K Y)) (fJ:Callee P w K mg base 15 "cut_columns" ["bounds","marks"] (dC K Y)):aL P w K mg base CX0 16 f fd ["bounds","marks","leaf"] (nv K Y P w mg base):=by
 refine F.okA Z35 λa1 A T s H vs Q E M h=>?_
 obtain⟨a,b,f_,V,c,as,k,L,iL,A,g,J,rfl,Z,N,X,hM,hok,hg,hL,hJ,q⟩:=h
 refine⟨_,(aj (aM (aF mh (aI zh M U (aa (pv 0) (aa (pv 1) ae))) (lD U bl.MOST_GRAIN_) (aH _))
  (ai bE)
  az)
  (ai (av (aI kX M U (aa (aI fJ M U (aa (pv 0) (aa (pv 1) ae))) (aa (aP ae) (aa (pv 2) ae))))))),?_⟩
 have a0:=N.length;obtain⟨y,x,u⟩:=hok;refine⟨_,U,_,U,a,b,V,c,as,k,U,Z,N,X,hM,⟨y,x,u⟩,λH1 m=>?_⟩;refine⟨_,_,U,U,_,U,?_⟩;refine bG (λg=>absurd (iZ g) (by lia)) (λ_=>?_);refine⟨_,U,_,U,a,b,V,c,as,k,U,m _ _ Z,N.mono m.tups,m _ _ X,hM.same m,⟨y,x,u⟩,λl xs G e s2 el R C hx=>?_⟩;refine⟨(by show 0<=sizeLine;decide),λt W=>?_⟩;have D:aq G (upd G t (.lst [])):=af W _;have et:upd G t (.lst []) t=some (.lst []):=ab;generalize upd G t (.lst [])=H3 at D et⊢;have r:=(m.trans s2).trans D;have B:(List.zipWith (λp i=>bW p.1 p.2 i) c e).length=c.length:=by rw[jE];lia
 refine⟨_,U,l,t,f_,xs,_,[],c.length,L,iL,A,g,J,U,by lia,D _ _ el,hx.same D,et,λS FD=>?_,by rw[B];show 0+c.length<=6;lia,by lia,by rw[B];show c.length=0+c.length;lia,hL,hL.st _ _ hJ r,λv H4 h4 hv=>?_⟩
 .obtain⟨j,n⟩:=js FD;have hj:j<(List.zipWith (λp i=>bW p.1 p.2 i) c e).length:=(GI.mp n).1;obtain⟨p,ep⟩:∃p,c[j]?=some p:=⟨_,GH (by lia)⟩;obtain⟨i,ec⟩:∃i,e[j]?=some i:=⟨_,GH (by lia)⟩;obtain⟨I,em⟩:∃I,k[j]?=some I:=⟨_,GH (by lia)⟩;rw[kT,ep,ec]at n;have n:bW p.1 p.2 i=S:=Option.some.inj n;rw[←n,fQ];have:=(C j p I i ep em ec).2.2;lia
 .exact q v H4 e (λd o O=>h4 d o (λz=>by have f:=(m.trans s2).free W;rw[z,f]at O;cases O) (r _ _ O)) R C hv
theorem FE(F:Fun K "changed_boxes" "changed_boxes" Y36 f fd) (bl:Bl K mg Y)(nH:Callee P w K mg base 15 "paired" ["one","other","deep","pair"] (fV K Y P w mg base 7)) (kY:Callee P w K mg base 8 "differing_pair" ["old","new"] (dB K Y)) (kj:Callee P w K mg base 15 "boxes_with_leaf" ["form","deep"] (dn K Y)):aL P w K mg base CX0 16 f fd ["old","new","deep"] (dQ K Y):=by
 refine F.okA Z36 λc1 A b5 s H vs Q E hr h=>?_
 obtain⟨v,u,d,M,L,ps,rfl,hd,hv,hu,W,V,b0,a9,zg,c0,q⟩:=h
 refine⟨_,(aj (aJ (i:=3) Z36.nd U (Or.inl U) (aI nH hr U (aa (pv 0) (aa (pv 1) (aa (pv 2) (aa (AQ kY U) ae))))))
  (ai (av (dU (aW (aI kj hr U (aa (pv 3) (aa (pv 2) ae)))) (dA (N:=["box","told"]) (k:=2) U U (by decide+kernel) (by decide+kernel) (by decide+kernel)) U (λ_ _ _ _=>(jW (K:=K) (n:=2) U U (aK (aC (i:=0) (show(["box","told"]:List Str).Nodup by decide+kernel) U (Or.inl U) (Or.inr U)) (aK (aC (i:=1) (show(["box","told"]:List Str).Nodup by decide+kernel) U (Or.inl U) (Or.inr U)) bH)))) (λ_ _ _ _=>bz) (λ_ _ _ _=>(aX (aa (pv 0) (aa (aE (gm (K:=K) U) (pv 1) ag (λ_ _=>U)) (aa (aE (gm (K:=K) U) (pv 1) ag (λ_ _=>U)) ae))))))))),?_⟩
 refine⟨_,U,_,U,_,U,λf_ b3 b1=>?_⟩;have hP:Cn (K':=K) LVd LVd LPd P w K mg base f_ dpr (λ_=>True):=⟨⟨_,b3,λH0 v0 u0 x0 y0 Q0 _ a3 a4 k0=>by
  obtain⟨l,rfl,h1⟩:=a3;obtain⟨g,rfl,h2⟩:=a4;exact⟨l,g,x0,y0,U,h1,h2,λv1 H1 s1 e1=>k0 v1 H1 s1 e1⟩⟩,.inr b1,λ_ _ _ _=>trivial⟩
 refine⟨SI,SI,Option (SI×SI),inferInstance,inferInstance,inferInstance,LVd,LVd,LPd,dpr,_,d,M,L,v,u,f_,ps,U,by lia,by lia,hv,hu,W,V,b0,a9,hP,trivial,λr H1 s1 b4=>?_⟩;have a8:=l0 (h:=dpr) W V;refine⟨_,U,_,U,d,_,r,U,b4,by lia,zg,(λq_ hq=>by rw[(rn a8 q_ hq).1.len];lia),λl2 ys H2 s2 b6 a1 hB=>?_⟩;have T:ys.length=(dc (bxs d (pairF dpr d M L))).length:=Paired.length hB;have a7:(dc (bxs d (pairF dpr d M L))).length<=300:=yc (nt _ _) zg;have X:∀q_∈dc (bxs d (pairF dpr d M L)),q_.2≠none:=λq_ hq=>of_decide_eq_true (jw.mp hq).2
 generalize dc (bxs d (pairF dpr d M L))=TL at hB T a7 X q;refine⟨l2,U,⟨_,SqL.of a1⟩,eQ (xs:=ys) (λD j c b=>aq H2 b/\b D=some (.lst c)/\ChL K b c (TL.take j)) (λD x=>⟨af x _,ab,.nil⟩) (λD j c b x _ J=>SqL.of (J.1 _ _ a1)) (λD j y c b x e J ts a6=>?_) (λD c b x J=>?_)⟩
 .obtain⟨t,eD,I⟩:=J;obtain⟨qx,eq,tx,B,wx,rfl,g1,g2,g3⟩:=gx hB e;have hj:j<ys.length:=(GI.mp e).1;obtain⟨t0,t1,rfl⟩:∃t0 t1,ts=[t0,t1]:=by
   match ts,a6 with
   | [t0,t1],_=>exact⟨t0,t1,U⟩
  obtain⟨p,ep⟩:∃p,qx.2=some p:=by
   cases z:qx.2 with
   |none=>exact absurd z (X qx (GJ eq))
   |some p=>exact⟨p,U⟩
  have g3:RPd K H2 qx.2 wx:=g3;rw[ep]at g3;obtain⟨m,rfl,l,g,a0,v1,v2⟩:=g3;have a2:c.length=(TL.take j).length:=Paired.length I;rw[ip]at a2;refine⟨tx,_,U,SqT.of (t _ _ g1),U,_,_,U,_,_,U,U,⟨[some (.ref B),some (.ref m)],U,U⟩,?_⟩;refine⟨_,U,_,U,m,_,_,_,U,U,SqT.of (t _ _ a0),U,_,U,m,_,_,_,U,U,SqT.of (t _ _ a0),U,(by show 3<=sizeLine;decide),λa a5=>?_⟩;have s3:=af a5 (.tup [.ref B,.ref l,.ref g]);have eT:upd b a (.tup [.ref B,.ref l,.ref g]) a=some (.tup [.ref B,.ref l,.ref g]):=ab;have o:=s3 _ _ eD;have S:=I.mono s3.tups;have G:=t.trans s3;have Z:=g2.mono G.tups;have R:=v1.mono G.tups;have O:=v2.mono G.tups;generalize upd b a (.tup [.ref B,.ref l,.ref g])=H3 at s3 eT o S G Z R O⊢;refine cP.mk hj o (ax (by lia)) ⟨G.upd x,ab,?_⟩;rw[take_snoc eq];have C:cb H3 (upd H3 D (.lst (c++[.ref a]))):=aQ o;exact ji (S.mono C) (.cons ⟨a,B,l,g,p,U,ep,C _ _ eT,Z.mono C,R.mono C,O.mono C⟩ .nil)
 .obtain⟨t,eD,I⟩:=J;rw[T,iv]at I;exact q D c b ((s1.trans s2).trans t) ((s1.trans s2).free x) eD I
theorem kl{c' c_0:Addr}{doc pm ctv:Value}(bl:Bl K mg Y)(n:Callee P w K mg base 7 "mask" ["table","codes"] (kg K Y)) (inj:∀x y c,([("table",c_0)]:List (Str×Addr)).lookup x=some c->([("table",c_0)]:List (Str×Addr)).lookup y=some c->x=y):HFn P w K mg base 8 f (fW K Y f c' c_0 doc pm ctv):=by
 have Z84:=@Z84 c_0;refine xf (qual := "row_form.<locals>.<lambda>") (e:=Y83) (c':=c') (cl:=[("table",c_0)]) (pm:=pm) (ctv:=ctv) Z84 inj (λr v=>match r,v with | [D],_=>rfl) (λp H Q E h=>?_) (λA g s H p Q E z h=>?_)
 .obtain⟨a,t,m,b,i,o,rfl,d,l,k,j,q⟩:=h;rfl
 obtain⟨a,t,m,b,i,o,rfl,d,l,k,j,q⟩:=h;refine⟨_,d,uq U,λC=>⟨_,(aI n z U (aa (pv 1) (aa (pv 0) ae))),?_⟩⟩;have B:=d.2.2.fzs;have so:=So.hide B;exact⟨_,U,_,U,t,a,b,i,o,m,U,Tbl.so so l,SqL.of (so.lst k),j,λF u _=>q _ (mN u)⟩
theorem FG(F:Fun K "row_form" "row_form" s_row_form f fd) (bl:Bl K mg Y)(zi:Callee P w K mg base 16 "built" ["bounds","marks","leaf"] (nv K Y P w mg base)) (nJ:Callee P w K mg base 16 "table_bounds" ["table"] (d9 K Y)) (ow:Callee P w K mg base 16 "table_marks" ["table"] (eX K Y)) (ya:Callee P w K mg base 16 "mask" ["table","codes"] (kg K Y)) {cL tP:Addr}(a4:fd.code=.ref cL)(ht:W.tabIn K "row_form" = some (cL,tP)) (hT:W.CodeHd base cL tP/\base.BuiltinsAt mg tP)(Be:Callee P w K mg base 7 "mask" ["table","codes"] (kg K Y)):aL P w K mg base CX0 17 f fd ["table"] (ig K Y):=by
 refine F.okT a4 Z83 (λvs H Q E h=>?_) (λA b6 s H vs Q E hr h=>?_)
 .obtain⟨t,dv,bs,g,L,i,o,rfl,G,T,h4,V,kO,J,S,O,q⟩:=h;rfl
 obtain⟨t,dv,bs,g,L,i,o,rfl,G,T,h4,V,kO,J,S,O,q⟩:=h;refine⟨_,(ai (av (wV (zs:=[("table",0,s.heap.objs.size+1)]) zi hr U (aa (aI nJ hr U (aa (pv 0) ae)) (aa (aI ow hr U (aa (pv 0) ae)) (aa (xc (clos:=[("table",s.heap.objs.size+1)]) U hT.1 hT.2 U (hQ.mpr ⟨U,iQ _⟩)) ae))) (hQ.mpr ⟨⟨U,Or.inl U,U,Or.inl U⟩,iQ _⟩)))),?_⟩;have a6:∀(c:Nat)(b:Int×Int),bs[c]?=some b->(L c).length<64/\∀x,MkC g c b x->x∈L c:=λc b e=>⟨zl (J c b e).1 (by decide),(J c b e).2⟩
 refine⟨_,U,t,dv,bs,g,U,G,by lia,λl1 ys H1 s1 n1 e1 a5=>?_⟩;refine⟨_,U,t,dv,bs,g,L,U,G.same s1,by lia,V,kO,a6,λl2 as r H2 s2 n2 e2 hM R y=>?_⟩;have n:=s1.trans s2;have CD:=(O _ ht).same n;obtain⟨c0,b0,_⟩:=id CD;refine⟨[(rb Y83,"row_form.<locals>.<lambda>")],fb,?_,CD,λZ c' oc pm ctv M hf kp ef ec a2 wX inj=>?_⟩
 .intro p hp _ _;rw[hZ.mp hp];rfl
 have m:So H2 M:=λd o p e=>kp d o (λz=>by rw[z,b0]at e;cases e;exact p) e
 refine λos u hz ho=>?_
 have l:=mR u hz;have a8:∃o,hU M ((([("table",0,s.heap.objs.size+1)]:List (Str×Nat×Addr)).map (·.2.2)).zip os) (s.heap.objs.size+1)=some (.frz o TTh):=by
  obtain⟨o,_,e⟩:=gu (H:=M) (fz:=(([("table",0,s.heap.objs.size+1)]:List (Str×Nat×Addr)).map (·.2.2)).zip os) (b:=s.heap.objs.size+1) (by rw[mQ u];exact fb);exact⟨o,e⟩
 have a3:=qZ (H:=M) (cl:=[("table",s.heap.objs.size+1)]) (ws:=[("table",.ref t)]) u (by simp) ho (λc hc=>by
  simp only[kU,rE,dt,ju,or_false]at hc;exact⟨_,fb,hc.symm⟩) (λx v e=>by
  unfold List.lookup at e;split at e
  .rename_i C
   cases e;rw[eq_of_beq C];exact⟨_,fb,U,U⟩
  .cases e)
 have nI:i6 (hU M ((([("table",0,s.heap.objs.size+1)]:List (Str×Nat×Addr)).map (·.2.2)).zip os)) Z c' (W.kla_obj "<lambda>" "row_form.<locals>.<lambda>" (pY Y83) (n9 Y83) (j4 Y83) [("table",s.heap.objs.size+1)] pm c' ctv) "row_form.<locals>.<lambda>" [("table",s.heap.objs.size+1)] [("table",.ref t)]:=⟨l _ _ ef,⟨oc,l _ _ ec,a2⟩,a3⟩;have hN:AY (K':=K) xb P w K mg base Z bs.length (λcd=>((msk (iO g cd) g.length:Nat):Int)) (λN=>i6 N Z c' (W.kla_obj "<lambda>" "row_form.<locals>.<lambda>" (pY Y83) (n9 Y83) (j4 Y83) [("table",s.heap.objs.size+1)] pm c' ctv) "row_form.<locals>.<lambda>" [("table",s.heap.objs.size+1)] [("table",.ref t)]/\Tbl Y.k Y.i Y.j N t g i o) :=
  ⟨⟨_,kl (doc:=.none) (pm:=pm) (ctv:=ctv) (c':=c') (c_0:=s.heap.objs.size+1) bl Be inj,λN a cd Q0 D hl ha k=>⟨a,t,cd,g,i,o,U,D.1,D.2,ha,(λx C=>by rw[(kO x C).1,hl]),λb5 X=>k _ _ (λb o _ e=>X b o e) U⟩⟩,λN D=>⟨_,_,D.1.1,U⟩,λN b5 D X=>⟨D.1.same X,Tbl.same D.2 X⟩⟩
 have FH:MOK bs r:=⟨R.symm,by lia,λB a0=>by
  obtain⟨c,ec⟩:=js a0;have hc:=(GI.mp ec).1;obtain⟨b,eb⟩:∃b,bs[c]?=some b:=⟨_,GH (by lia)⟩;obtain⟨pw,hm⟩:=y c b B eb ec;exact yc (xG pw λx C=>(J c b eb).2 x ((hm x).mp C)) (J c b eb).1⟩
 refine⟨l1,l2,Z,ys,bs,as,r,Int,inferInstance,xb,_,_,U,(So.lst m (s2 _ _ e1) |> λe=>l _ _ e),((a5.mono s2.tups).mono m.tups).mono l.tups,l _ _ (m.lst e2),(MLs.so m hM).same l,FH,S r R y,hN,⟨nI,Tbl.same (Tbl.so m (Tbl.same T n)) l⟩,λv H4 b4 s4 FI a1 a7=>?_⟩;have hs:=L2.hide_same u hz s4;obtain⟨o2,b1⟩:=a8;have a9:Fzs H4 [s.heap.objs.size+1]:=λd hd=>by rw[hZ.mp hd];exact⟨o2,s4 _ _ b1⟩
 refine q v _ b4 (((So.of n).trans m).trans (So.of hs)) (λz ez=>?_) ⟨_,ht⟩ FI (λj p cs ep b3=>?_) (a7.mono (So.hide a9).tups)
 .rw[ht]at ez;cases ez;exact⟨wX.same hs,λd o hd e=>hs _ _ (kp d o hd (n _ _ e))⟩
 .obtain⟨B,I⟩:∃B,r[j]?=some B:=⟨_,GH (by have:=(GI.mp ep).1;lia)⟩;obtain⟨pw,hm,_⟩:=a1 j p B cs ep I b3;refine⟨pw,λx=>(hm x).trans ⟨λh=>((y j p B ep I).2 x).mp h.1,λh=>⟨((y j p B ep I).2 x).mpr h,?_⟩⟩⟩;obtain⟨w_,_,C⟩:=h;have:=(jw.mp C).2;rw[AI,decide_eq_true_iff,decide_eq_true_iff]at this;exact this
theorem gM{c' c_0:Addr}{doc pm ctv:Value}(bl:Bl K mg Y)(p:Callee P w K mg base 7 "judged" ["table","rows"] (fT K Y)) (inj:∀x y c,([("table",c_0)]:List (Str×Addr)).lookup x=some c->([("table",c_0)]:List (Str×Addr)).lookup y=some c->x=y):HFn P w K mg base 8 f (dZ K Y f c' c_0 doc pm ctv):=by
 have Z90:=@Z90 c_0;refine xf (qual := "verdict_form.<locals>.<lambda>") (e:=Y88) (c':=c') (cl:=[("table",c_0)]) (pm:=pm) (ctv:=ctv) Z90 inj (λl v=>match l,v with | [F],_=>rfl) (λk H Q E h=>?_) (λA g s H k Q E z h=>?_)
 .obtain⟨m,t,a,i,o,rfl,b,j,q⟩:=h;rfl
 obtain⟨m,t,a,i,o,rfl,b,j,q⟩:=h;refine⟨_,b,uq U,λD=>⟨_,(aI p z U (aa (pv 1) (aa (pv 0) ae))),?_⟩⟩;have C:=b.2.2.fzs;have so:=So.hide C;refine⟨_,U,_,U,t,a,i,o,m,U,Tbl.so so j,λr G n d u=>q r _ (mN n) ?_⟩;rcases d with e|e
 .exact .inl ((cR λB=>by have:=u r B;rw[e]at this;cases this).trans e)
 .exact .inr e
theorem FJ(F:Fun K "verdict_form" "verdict_form" s_verdict_form f fd) (bl:Bl K mg Y)(nG:Callee P w K mg base 17 "mapped" ["form","deep","change"] (fU K Y P w mg base 7)) (tW:Callee P w K mg base 17 "row_form" ["table"] (ig K Y)) (rH:Callee P w K mg base 17 "judged" ["table","rows"] (fT K Y)) {cL tP:Addr}(c2:fd.code=.ref cL)(ht:W.tabIn K "verdict_form" = some (cL,tP)) (hT:W.CodeHd base cL tP/\base.BuiltinsAt mg tP)(yb:Callee P w K mg base 7 "judged" ["table","rows"] (fT K Y)):aL P w K mg base CX0 18 f fd ["table"] (eF K Y):=by
 refine F.okT c2 Z89 (λvs H Q E h=>?_) (λA d5 s H vs Q E hr h=>?_)
 .obtain⟨t,dv,bs,a,L,kk,i,o,rfl,h,N,a0,q⟩:=h;rfl
 obtain⟨t,dv,bs,a,L,kk,i,o,rfl,h,N,a0,q⟩:=h;refine⟨_,(ai (av (wV (zs:=[("table",0,s.heap.objs.size+1)]) nG hr U (aa (aI tW hr U (aa (pv 0) ae)) (aa (au aw U bl.len_ boot_len (aa (bc (pv 0) U) ae)) (aa (xc (clos:=[("table",s.heap.objs.size+1)]) U hT.1 hT.2 U (hQ.mpr ⟨U,iQ _⟩)) ae))) (hQ.mpr ⟨⟨U,Or.inl U,U,Or.inl U⟩,iQ _⟩)))),?_⟩;have e0:=h.b4;obtain⟨rl,dx,dl,fs,xs,b1,f1,f2,d3,b6,e3,hR⟩:=id h.td;have c0:dv.length=bs.length:=b6.1;refine⟨_,U,t,dv,bs,a,L,i,o,U,h.td,h.tb,h.b4,h.r60,h.row,(λc b e=>⟨yc (h.mrk c b e).1 h.k57,(h.mrk c b e).2⟩),h.gr,N,λv H1 O y b3 a8 a3 D a4=>?_⟩;generalize uF:List.zipWith (λp l=>bW p.1 p.2 l) bs O=cols at a4;have hok:fO cols bs:=by
  rw[←uF];exact tQ a3 h.le λj p l e1 e2=>⟨(D j p l e1 e2).1,λc r=>xH (((D j p l e1 e2).2 c).mp r)⟩
 have a2:cols.length=bs.length:=by rw[←uF,jE];lia
 have I:∀c∈cols,c.length<=kk+1:=λc r=>by
  rw[←uF]at r;obtain⟨j,T⟩:=js r;have m:=(GI.mp T).1;rw[jE]at m;obtain⟨p,ep⟩:∃p,bs[j]?=some p:=⟨_,GH (by lia)⟩;obtain⟨l,ec⟩:∃l,O[j]?=some l:=⟨_,GH (by lia)⟩;rw[kT,ep,ec]at T;have T:bW p.1 p.2 l=c:=Option.some.inj T;rw[←T,fQ];obtain⟨pw,hm⟩:=D j p l ep ec;have:=xG pw λx S=>(h.mrk j p ep).2 x ((hm x).mp S)
  have:=(h.mrk j p ep).1;lia
 have r:Co bs a cols:=⟨hok,O,a3,uF.symm,D⟩;refine⟨_,U,t,_,_,_,_,U,y.ins b1,bl.k_Table,bl.na_Table_domains,f2,dl,_,U,.inl (SqL.of (y.lst d3)),?_⟩;obtain⟨z_,G⟩:=a8;obtain⟨b0,b5⟩:=b3 z_ G;have X:=bl.nt0 z_ _ G ht;have a1:dG H1 tP [(rb Y88,"verdict_form.<locals>.<lambda>")]:=by
  obtain⟨pz,d1,_⟩:=N z_ G;exact tab_keep (a0 _ ht) X.symm d1 b5
 obtain⟨d6,a6,_⟩:=id a1;refine⟨[(rb Y88,"verdict_form.<locals>.<lambda>")],fb,?_,a1,λf_ c' oc pm ctv R hf kp ef ec c1 wX inj=>?_⟩
 .intro p hp _ _;rw[hZ.mp hp];rfl
 have J:So H1 R:=λd o p e=>kp d o (λz=>by rw[z,a6]at e;cases e;exact p) e
 have FK:dG R z_.2 [(rb Y83,"row_form.<locals>.<lambda>")]:=tab_keep b0 X a6 kp;refine λos B hz ho=>?_
 have C:=mR B hz;have c4:∃o,hU R ((([("table",0,s.heap.objs.size+1)]:List (Str×Nat×Addr)).map (·.2.2)).zip os) (s.heap.objs.size+1)=some (.frz o TTh):=by
  obtain⟨o,_,e⟩:=gu (H:=R) (fz:=(([("table",0,s.heap.objs.size+1)]:List (Str×Nat×Addr)).map (·.2.2)).zip os) (b:=s.heap.objs.size+1) (by rw[mQ B];exact fb);exact⟨o,e⟩
 have FL:=qZ (H:=R) (cl:=[("table",s.heap.objs.size+1)]) (ws:=[("table",.ref t)]) B (by simp) ho (λc r=>by
  simp only[kU,rE,dt,ju,or_false]at r;exact⟨_,fb,r.symm⟩) (λx v e=>by
  unfold List.lookup at e;split at e
  .rename_i S
   cases e;rw[eq_of_beq S];exact⟨_,fb,U,U⟩
  .cases e)
 have nI:i6 (hU R ((([("table",0,s.heap.objs.size+1)]:List (Str×Nat×Addr)).map (·.2.2)).zip os)) f_ c' (W.kla_obj "<lambda>" "verdict_form.<locals>.<lambda>" (pY Y88) (n9 Y88) (j4 Y88) [("table",s.heap.objs.size+1)] pm c' ctv) "verdict_form.<locals>.<lambda>" [("table",s.heap.objs.size+1)] [("table",.ref t)]:=⟨C _ _ ef,⟨oc,C _ _ ec,c1⟩,FL⟩;have hN:Cm (K':=K) xb LVd P w K mg base f_ (vdm a i o) (λV=>i6 V f_ c' (W.kla_obj "<lambda>" "verdict_form.<locals>.<lambda>" (pY Y88) (n9 Y88) (j4 Y88) [("table",s.heap.objs.size+1)] pm c' ctv) "verdict_form.<locals>.<lambda>" [("table",s.heap.objs.size+1)] [("table",.ref t)]/\Tbl Y.k Y.i Y.j V t a i o) :=
  ⟨⟨_,gM (doc:=.none) (pm:=pm) (ctv:=ctv) (c':=c') (c_0:=s.heap.objs.size+1) bl yb inj,λV v x Q0 m hv k=>by
   have hv:v=.int x:=hv;subst hv;exact⟨x,t,a,i,o,U,m.1,m.2,λr_ d4 s0 a9=>k _ _ s0 ⟨r_,U,a9⟩⟩⟩,λV m=>⟨_,_,m.1.1,U⟩,λV d4 m s0=>⟨m.1.same s0,Tbl.same m.2 s0⟩⟩
 refine⟨Int,SI,inferInstance,inferInstance,xb,LVd,vdm a i o,_,cols.length,lay (mkg a) cols [],v,f_,?_,by lia,by lia,?_,?_,hN,⟨nI,Tbl.same (Tbl.so J (Tbl.so y h.tb)) C⟩,λu H4 s4 a5=>?_⟩
 .rw[c0,←a2]
 .exact(a4.mono J.tups).mono C.tups
 .exact(tO hok I []).le (by have:=h.few;have:=h.k57;lia)
 rw[yZ hok]at a5;have M:=L2.hide_same B hz s4;obtain⟨o2,d2⟩:=c4;have c5:Fzs H4 [s.heap.objs.size+1]:=λd hd=>by rw[hZ.mp hd];exact⟨o2,s4 _ _ d2⟩
 have c3:=a5.mono (So.hide c5).tups;have a7:So H (hideL H4 [s.heap.objs.size+1]):=(y.trans J).trans (So.of M);obtain⟨F',d0,c8,c7,c6⟩:=zV a2 (lay (λcd=>vdm a i o (mkg a cd)) cols []) (λn F=>FmV (K:=K) LVd (hideL H4 [s.heap.objs.size+1]) n F u/\cq n F bs/\SmF 300 n F/\∀l,InB l bs->Tel n F l (vdm a i o (mkg a l))) ⟨c3,mS hok [],(tO hok I []).le (by have:=h.few;have:=h.k57;lia),λl Z=>by
  have:=lY (g:=λcd=>vdm a i o (mkg a cd)) hok [] l Z;rw[List.nil_append,yX r (λx S=>(h.row x S).1) Z]at this;exact this⟩
 refine q u F' _ a7 (λz e=>?_) (λz e=>?_) d0 c8 c7 c6
 .rw[G]at e;cases e;exact FK.same M
 .rw[ht]at e;cases e;exact wX.same M
theorem FN(F:Fun K "changes" "changes" Y37 f fd) (bl:Bl K mg Y)(lO:Callee P w K mg base 18 "refuse_unlike" ["one","other"] (dP K Y)) (lP:Callee P w K mg base 18 "changed_boxes" ["old","new","deep"] (dQ K Y)) (ir:Callee P w K mg base 18 "verdict_form" ["table"] (eF K Y)):aL P w K mg base CX0 19 f fd ["one","other"] (jn K Y):=by
 refine F.okA Z37 λb0 A a7 s H vs Q E C h=>?_
 obtain⟨t,u,bs,c,k,i,j,o,gc,rfl,a5,a1,a0,q⟩:=h
 refine⟨_,(aj (aV (aI lO C U (aa (pv 0) (aa (pv 1) ae))))
  (ai (av (aI lP C U (aa (aI ir C U (aa (pv 0) ae)) (aa (aI ir C U (aa (pv 1) ae)) (aa (au aw U bl.len_ boot_len (aa (bc (pv 0) U) ae)) ae))))))),?_⟩
 obtain⟨⟨R,ev,L,L',kk,D,hB,a2,ou,pu,ds,d,e1,e2,e3,e4,e5,e6,e7⟩,O,k2,k3,k4⟩:=a5;have a8:=D.b4;refine⟨_,U,_,U,t,u,R,ev,ou,pu,ds,d,U,e1,e2,e3,e4,e5,e6,e7,λH1 N=>?_⟩;have p:=So.of N;refine⟨_,U,t,R,bs,c,L,kk,i,o,U,D.so p,a1.same N,a0.same N,λv F H2 Z X V f1 J f3 f4=>?_⟩;have vI:=p.trans Z;refine⟨_,U,u,ev,bs,k,L',kk,j,o,U,hB.so vI,X,V,λw_ G H3 m W T g1 I g3 g4=>?_⟩;have S:=vI.trans m;obtain⟨rl,dx,dl,fs,xs,ht,j1,j2,a6,a3,a9,hR⟩:=(D.so S).td;have a4:R.length=bs.length:=a3.1;obtain⟨G0,p1,p2,p3⟩:=zV k2 (lay (dif c k i j o) gc []) (λn F=>cq n F bs/\(bxs n F).length<=300/\∀b,InB b bs->Tel n F b (dif c k i j o b)) ⟨mS O [],yc (xD O a2 []) (by rw[k2];exact D.few),λb a=>by
  have:=lY (g:=dif c k i j o) O [] b a;rw[List.nil_append]at this;unfold dif at this⊢;rw[k3 b a,k4 b a]at this;exact this⟩
 have r:∀b,InB b bs->Tel bs.length (pairF dpr bs.length F G) b (dif c k i j o b):=λb a=>xt (f4 b a) (g4 b a) J I a
 have B:pairF dpr bs.length F G=G0:=kK (l0 J I) p1 λb a x y hx hy=>(iJ hx (r b a)).trans (iJ hy (p3 b a)).symm
 refine⟨_,U,t,_,_,_,_,U,ht,bl.k_Table,bl.na_Table_domains,j2,dl,_,U,.inl (SqL.of a6),v,w_,bs.length,F,G,bs,by rw[a4],by lia,f1.mono m.tups,g1,J,I,f3,g3,by rw[B];exact p2,by lia,λl ys H4 M nl el hC=>?_⟩;exact q l ys (pairF dpr bs.length F G) H4 (S.trans (So.of M)) (λo_ po e=>absurd (nl.symm.trans (S l o_ po e)) (by intro z;cases z)) (W.same M) (T.same M) el ⟨l0 J I,r,by rw[B];exact p2⟩ hC
theorem FO(F:Fun K "first_unlike" "first_unlike" Y44 f fd) (bl:Bl K mg Y)(O:Callee P w K mg base 19 "changes" ["one","other"] (jn K Y)) (M:Callee P w K mg base 19 "corner" ["box"] (kS K Y)):aL P w K mg base CX0 20 f fd ["one","other"] (di K Y):=by
 refine F.okA Z44 λa2 A G s H vs Q E r h=>?_
 obtain⟨t,u,bs,y,Z,i,R,o,W,rfl,e,B,z,q⟩:=h
 refine⟨_,(aj (aJ (i:=2) Z44.nd U (Or.inl U) (aI O r U (aa (pv 0) (aa (pv 1) ae))))
  (ai (av (jR (c9 (pv 2) (by intro _;rfl)) (aI M r U (aa (aE bA (aE aG (pv 2) ag (λ_ _=>U)) ag (λ_ _=>U)) ae)) ky)))),?_⟩
 have a1:bs.length<=4:=by obtain⟨dv,ev,L,L',kk,V,_⟩:=e.ex;exact V.b4
 refine⟨_,U,_,U,t,u,bs,y,Z,i,R,o,W,U,e,B,z,λl N k H1 d nl c a J v g=>?_⟩;have C:∀n∈dc (bxs bs.length k),n.1.length<=6:=λn S=>by rw[(rn v.sh n (jw.mp S).1).1.len];lia
 refine⟨_,U,!N.isEmpty,.inl ⟨_,SqL.of J,U⟩,?_⟩;cases hT:dc (bxs bs.length k) with
 |nil =>
  rw[hT]at g;cases g;exact bR (q .non k H1 d c a v (.inl ⟨hT,U⟩))
 |cons m rest =>
  rw[hT]at g;cases g with
  | @cons x _ xs' _ hx r =>
   obtain⟨tt,b,r1,r2,p,rfl,ep,X,T,v1,v2⟩:=hx;refine eJ ⟨_,U,l,_,_,_,U,U,SqL.of J,aR (j:=0) U,tt,_,_,_,U,U,SqT.of X,U,b,m.1,U,T,C m (by rw[hT];exact .head _),λI H2 s2 a0 D=>?_⟩;exact q (.ref I) k H2 (d.trans (So.of s2)) (c.same s2) (a.same s2) v (.inr ⟨m,rest,I,hT,U,D⟩)
theorem FP(F:Fun K "same_everywhere" "same_everywhere" Y84 f fd) (bl:Bl K mg Y)(B:Callee P w K mg base 20 "first_unlike" ["one","other"] (di K Y)):aL P w K mg base CX0 21 f fd ["one","other"] (dq K Y):=by
 refine F.okA Z85 λI A m s H J Q E r h=>?_
 obtain⟨t,u,bs,e,C,i,n,o,y,rfl,k,j,g,q⟩:=h;refine⟨_,(ai (av (eI pF (aI B r U (aa (pv 0) (aa (pv 1) ae))) ky (aH _)))),?_⟩;refine⟨_,U,_,U,t,u,bs,e,C,i,n,o,y,U,k,j,g,λv D G d c b x p=>⟨U,?_⟩⟩;have z:=q D G d c b x;rcases p with⟨a,rfl⟩|⟨L,rest,l,a,rfl,_⟩
 .rw[a]at z;exact z
 .rw[a]at z;exact z
theorem FQ(F:Fun K "law" "law" Y52 f fd) (bl:Bl K mg Y)(jB:Callee P w K mg base 21 "_law_grid_points" ["script","most"] (dk K Y)) (rJ:Callee P w K mg base 21 "_law_outs" ["cell"] (ia K Y)) (km:Callee P w K mg base 21 "_law_table" ["script","points","outs","way","rows","turn"] (gH K Y)) (qm:Callee P w K mg base 21 "_law_least" ["points","two","ways","outs"] (gG K Y)) (kn:Callee P w K mg base 21 "same_everywhere" ["one","other"] (dq K Y)) (aY:Callee P w K mg base 21 "_law_cell" ["script","k"] (dX K Y)) (jC:Callee P w K mg base 21 "_law_way" ["cell","words"] (jl K Y)) (jo:Callee P w K mg base 21 "_law_row" ["cell","points","outs"] (gB K Y)) (qo:Callee P w K mg base 21 "_law_other" ["rows","cell","points","outs"] (gF K Y)) (nK:Callee P w K mg base 21 "_law_numbers" ["script","start","most"] (eV K Y)) (lH:Callee P w K mg base 21 "_law_good" ["found","due"] (ib K Y)) (dD:Callee P w K mg base 21 "first_unlike" ["one","other"] (di K Y)):aL P w K mg base CX0 22 f fd ["script"] (J18 K):=by
 refine F.ok Z52 (λvs H Q E h=>?_) (λu4 A p0 s H vs Q E I h=>?_)
 .obtain⟨a,G,rfl,hS,h63,g2,g0,q⟩:=h;rfl
 obtain⟨a,G,rfl,hS,h63,g2,g0,q⟩:=h;refine'⟨?tt,?r0,?rd⟩
 case' r0=>refine' aN ?st0 ?r1
 case' r1=>refine' aN ?st1 ?r2
 case' r2=>refine' aN ?st2 ?r3
 case' r3=>refine' aN ?st3 ?r4
 case' r4=>refine' aN ?st4 ?r5
 case' r5=>refine' aN ?st5 ?r6
 case' r6=>refine' aN ?st6 ?r7
 case' r7=>refine' aN ?st7 ?r8
 case' r8=>refine' aN ?st8 ?r9
 case' r9=>refine' aN ?st9 ?r10
 case' r10=>refine' aN ?st10 ?r11
 case' r11=>refine' aN ?st11 ?r12
 case' r12=>refine' ai ?st12
 case' st0 =>
  refine' aJ (i:=1) ?u2a ?u2b ?u2c ?h1 ?u2d ?u2e
  case' u2a=>exact Z52.nd
  case' u2b=>exact U
  case' u2c=>exact(Or.inr U)
  case' h1=>refine' aI jB I U ?h3
  case' h3=>refine' aa ?h4 ?h5 ?h6
  case' h4=>exact(pv 0)
  case' h5=>refine' aa ?h7 ?h8 ?h9
  case' h7=>refine' aE aG ?h10 ?h11 (λ_ _=>U)
  case' h10=>refine' aP ?h12
  case' h12=>refine' aa ?h13 ?h14 ?h15
  case' h13=>refine' aP ?h16
  case' h16=>refine' aa ?h17 ?h18 ?h19
  case' h17=>exact ag
  case' h18=>exact ae
  case' h19=>exact U
  case' h14=>refine' aa ?h20 ?h21 ?h22
  case' h20=>refine' aP ?h23
  case' h23=>refine' aa ?h24 ?h25 ?h26
  case' h24=>exact ag
  case' h25=>refine' aa ?h27 ?h28 ?h29
  case' h27=>exact ag
  case' h28=>exact ae
  case' h29=>exact U
  case' h26=>exact U
  case' h21=>refine' aa ?h30 ?h31 ?h32
  case' h30=>refine' aP ?h33
  case' h33=>refine' aa ?h34 ?h35 ?h36
  case' h34=>exact ag
  case' h35=>refine' aa ?h37 ?h38 ?h39
  case' h37=>exact ag
  case' h38=>refine' aa ?h40 ?h41 ?h42
  case' h40=>exact ag
  case' h41=>exact ae
  case' h42=>exact U
  case' h39=>exact U
  case' h36=>exact U
  case' h31=>refine' aa ?h43 ?h44 ?h45
  case' h43=>refine' aP ?h46
  case' h46=>refine' aa ?h47 ?h48 ?h49
  case' h47=>exact ag
  case' h48=>refine' aa ?h50 ?h51 ?h52
  case' h50=>exact ag
  case' h51=>refine' aa ?h53 ?h54 ?h55
  case' h53=>exact ag
  case' h54=>refine' aa ?h56 ?h57 ?h58
  case' h56=>exact ag
  case' h57=>exact ae
  case' h58=>exact U
  case' h55=>exact U
  case' h52=>exact U
  case' h49=>exact U
  case' h44=>exact ae
  case' h45=>exact U
  case' h32=>exact U
  case' h22=>exact U
  case' h15=>exact U
  case' h11=>refine' ar ?h59 ?h60 ?h61
  case' h59=>exact aO
  case' h60=>refine' aI aY I U ?h62
  case' h62=>refine' aa ?h63 ?h64 ?h65
  case' h63=>exact(pv 0)
  case' h64=>refine' aa ?h66 ?h67 ?h68
  case' h66=>exact ag
  case' h67=>exact ae
  case' h68=>exact U
  case' h65=>exact U
  case' h61=>exact ag
  case' h8=>exact ae
  case' h9=>exact U
  case' h6=>exact U
  case' u2d=>exact U
  case' u2e=>first|exact .inl U|exact .inr U
 case' st1=>exact(aJ (i:=2) Z52.nd U (Or.inr U) (aI rJ I U (aa (aI aY I U (aa (pv 0) (aa ag ae))) ae)))
 case' st2=>exact(aJ (i:=3) Z52.nd U (Or.inl U) (eI bq (ar aO (aI aY I U (aa (pv 0) (aa ag ae))) ag) ag (aH _)))
 case' st3=>exact(aJ (i:=4) Z52.nd U (Or.inl U) (aP (aa (aI jC I U (aa (aI aY I U (aa (pv 0) (aa ag ae))) (aa (pv 3) ae))) (aa (aI jC I U (aa (aI aY I U (aa (pv 0) (aa ag ae))) (aa (pv 3) ae))) ae))))
 case' st4=>exact(aM (aF bq (ar aO (ar bI (aI aY I U (aa (pv 0) (aa ag ae))) ag) ag) ag (aH _))
 (ai (mf (aI jC I U (aa (ar bI (aI aY I U (aa (pv 0) (aa ag ae))) ag) (aa (pv 3) ae))) (ma (pv 4) ag set_list)))
 az)
 case' st5=>exact(lV (i:=5) Z52.nd U (Or.inl U) (aW (aI nK I U (aa (pv 0) (aa ag (aa ag ae))))) (bw (N:=["cell","points","outs"]) (fr:=[1,2]) (cl:=[("points",s.heap.objs.size+1),("outs",s.heap.objs.size+1+1)]) U U (by decide+kernel) (by decide+kernel) U (by decide+kernel) U U U (hQ.mpr ⟨U,hQ.mpr ⟨U,iQ _⟩⟩) U) U (λ_ _ _ _=>bz) (λ_ _ _ _=>(aI jo I U (aa (pv 0) (aa (pv 1) (aa (pv 2) ae))))))
 case' st6=>exact(aJ (i:=6) Z52.nd U (Or.inl U) (aP (aa (pv 5) (aa (aI qo I U (aa (pv 5) (aa (aI aY I U (aa (pv 0) (aa ag ae))) (aa (pv 1) (aa (pv 2) ae))))) ae))))
 case' st7=>exact(aJ (i:=7) Z52.nd U (Or.inl U) (aI km I U (aa (pv 0) (aa (pv 1) (aa (pv 2) (aa (aE aG (pv 4) ag (λ_ _=>U)) (aa (aE aG (pv 6) ag (λ_ _=>U)) (aa ag ae))))))))
 case' st8=>exact(aJ (i:=8) Z52.nd U (Or.inl U) (aI km I U (aa (pv 0) (aa (pv 1) (aa (pv 2) (aa (aE aG (pv 4) ag (λ_ _=>U)) (aa (aE aG (pv 6) ag (λ_ _=>U)) (aa ag ae))))))))
 case' st9=>exact(aJ (i:=9) Z52.nd U (Or.inl U) (aI qm I U (aa (pv 1) (aa (pv 6) (aa (pv 4) (aa (pv 2) ae))))))
 case' st10=>exact(aM (PW.pt (vT (cy (cD (aI lH I U (aa (aI dD I U (aa (pv 7) (aa (pv 8) ae))) (aa (pv 9) ae))))) (rV (cy (cD (aI lH I U (aa (aI dD I U (aa (pv 8) (aa (pv 7) ae))) (aa (pv 9) ae))))))))
 (ai (av fK))
 az)
 case' st11=>exact(aJ (i:=10) Z52.nd U (Or.inl U) (aI kn I U (aa (pv 7) (aa (pv 8) ae))))
 case' st12=>exact(av (gN (au cj U bl.isinstance_ PyProof.Rows.boot_isinstance (aa (pv 10) (aa (iD (v:=.ty "bool") U bl.bool_ PyProof.Rows.boot_bool U) ae))) (jb (eI bq (pv 10) (eI pF (pv 9) ky (aH _)) (aH _)))))
 case rd =>
  refine⟨λC g=>aq H g/\∃(W:Addr)(xs:List V)(d:List (List Int))(kk:Nat),g W=some (.lst xs)/\PTL g xs d/\pZ G d/\1<=d.length/\d.length<=4/\(∀M∈d,M.length<=kk)/\(kk+1)^d.length<=300/\kk<=57/\C=[some (.ref a),some (.ref W),none,none,none,none,none,none,none,none,none],?_,?_⟩
  .refine⟨_,U,(by show 1<=sizeLine;decide),λp1 h1=>?_⟩;have s1:=af h1 (.lst ([12].map V.int));have e1:upd H p1 (.lst ([12].map V.int)) p1=some (.lst ([12].map V.int)):=ab;have ee:upd H p1 (.lst [.int 12])=upd H p1 (.lst ([12].map V.int)):=rfl;rw[ee];generalize upd H p1 (.lst ([12].map V.int))=H1 at s1 e1⊢;clear ee;refine⟨(by show 2<=sizeLine;decide),λp2 h2=>?_⟩;have s2:=af h2 (.lst ([5,5].map V.int));have e2:upd H1 p2 (.lst ([5,5].map V.int)) p2=some (.lst ([5,5].map V.int)):=ab;have ee:upd H1 p2 (.lst [.int 5,.int 5])=upd H1 p2 (.lst ([5,5].map V.int)):=rfl;rw[ee];generalize upd H1 p2 (.lst ([5,5].map V.int))=H2 at s2 e2⊢;clear ee;refine⟨(by show 3<=sizeLine;decide),λp3 h3=>?_⟩;have s3:=af h3 (.lst ([3,3,3].map V.int));have e3:upd H2 p3 (.lst ([3,3,3].map V.int)) p3=some (.lst ([3,3,3].map V.int)):=ab;have ee:upd H2 p3 (.lst [.int 3,.int 3,.int 3])=upd H2 p3 (.lst ([3,3,3].map V.int)):=rfl;rw[ee];generalize upd H2 p3 (.lst ([3,3,3].map V.int))=H3 at s3 e3⊢;clear ee;refine⟨(by show 4<=sizeLine;decide),λp4 h4=>?_⟩;have s4:=af h4 (.lst ([2,2,2,2].map V.int));have e4:upd H3 p4 (.lst ([2,2,2,2].map V.int)) p4=some (.lst ([2,2,2,2].map V.int)):=ab;have ee:upd H3 p4 (.lst [.int 2,.int 2,.int 2,.int 2])=upd H3 p4 (.lst ([2,2,2,2].map V.int)):=rfl;rw[ee];generalize upd H3 p4 (.lst ([2,2,2,2].map V.int))=H4 at s4 e4⊢;clear ee;refine⟨(by show 4<=sizeLine;decide),λp hp=>?_⟩;have s5:=af hp (.lst [.ref p1,.ref p2,.ref p3,.ref p4]);have e5:upd H4 p (.lst [.ref p1,.ref p2,.ref p3,.ref p4]) p=some (.lst [.ref p1,.ref p2,.ref p3,.ref p4]):=ab;generalize upd H4 p (.lst [.ref p1,.ref p2,.ref p3,.ref p4])=H5 at s5 e5⊢;have f2:=s4.trans s5;have f3:=s3.trans f2;have f4:=s2.trans f3;have Bg:=s1.trans f4;refine⟨_,U,a,G,0,U,Bg.seq hS,Int.le_refl _,_,_,U,U,(by show(0:Int)<4;decide),?_⟩;obtain⟨m,qs,kk,hv,em,hq,u3,l4,l5,c2,vE⟩:∃(m:Addr)(qs:List Int)(kk:Nat),atI [V.ref p1,.ref p2,.ref p3,.ref p4] (cx G 0%4)=some (.ref m)/\H5 m=some (.lst (qs.map V.int))/\(∀x∈qs,1<=x/\x<=12)/\1<=qs.length/\qs.length<=4/\(∀x∈qs,x+1<=(kk:Int))/\(kk+1)^qs.length<=300/\kk<=57:=by
    have x0:=Ba (cx G 0) (show(4:Int)≠0 by decide);have x1:=Bf (cx G 0) (show(0:Int)<4 by decide);generalize cx G 0%4=k at x0 x1⊢;have:k=0\/k=1\/k=2\/k=3:=by lia
    rcases this with rfl|rfl|rfl|rfl
    .exact⟨p1,_,13,U,f4 _ _ e1,by decide,by decide,by decide,by decide,by decide,by decide⟩
    .exact⟨p2,_,6,U,f3 _ _ e2,by decide,by decide,by decide,by decide,by decide,by decide⟩
    .exact⟨p3,_,4,U,f2 _ _ e3,by decide,by decide,by decide,by decide,by decide,by decide⟩
    .exact⟨p4,_,3,U,s5 _ _ e4,by decide,by decide,by decide,by decide,by decide,by decide⟩
   refine⟨p,_,_,_,U,U,SqL.of e5,hv,a,m,G,qs,U,Bg.seq hS,SqL.of em,hq,l4,λl xs d g s' el hx hg i8 a7=>⟨Bg.trans s',l,xs,d,kk,el,hx,hg,by lia,by lia,(λM l1=>?_),by rw[i8];exact c2,vE,U⟩⟩;obtain⟨j,ej⟩:=js l1;have hj:=(GI.mp ej).1;have ex:=GH (l:=qs) (i:=j) (by lia);have:=a7 j M _ ej ex;have:=l5 _ (GJ ex);lia
  rintro t0 H1 ⟨s1,W,xs,d,kk,n2,g3,hg,d4,a2,a7,c2,vE,rfl⟩;have t5:xs.length=d.length:=g3.1;refine⟨λC g=>aq H1 g/\∃(ol:Addr)(B:List Int),g ol=some (.lst (B.map V.int))/\gv (cx G 5) B/\C=[some (.ref a),some (.ref W),some (.ref ol),none,none,none,none,none,none,none,none],?_,?_⟩
  .exact⟨_,U,a,G,5,U,s1.seq hS,by decide,_,U,λl B g s' el ho=>⟨s',l,B,el,ho,U⟩⟩
  rintro s0 H2 ⟨t2,ol,B,n3,a4,rfl⟩;have s2:=s1.trans t2;have FR:=t2 _ _ n2;have FT:=g3.same t2;have za:o0 B<=o4 B:=by
   obtain⟨x0,x1,x2,x3,x4,rfl,GB,h12,h23,h34,_⟩:=id a4;show x0<=x4;lia
  obtain⟨T,f9⟩:∃T,T=decide (V.int (cx G 5%3)=V.int 1):=⟨_,U⟩;refine⟨λC g=>g=H2/\C=[some (.ref a),some (.ref W),some (.ref ol),some (.bl T),none,none,none,none,none,none,none],⟨_,U,a,G,5,U,s2.seq hS,by decide,_,_,U,U,(by show(0:Int)<3;decide),U,U,by rw[f9];rfl⟩,?_⟩;rintro q7 H3 ⟨e3,rfl⟩;subst e3;refine⟨λC g=>aq H3 g/\∃(S:Addr)(w0 w1:Str)(X J:Nat),H3 S=none/\g S=some (.lst [.str w0,.str w1])/\six[X]?=some w0/\six[J]?=some w1/\(T=true->w0≠s!"sum")/\(T=true->w1≠s!"sum")/\C=[some (.ref a),some (.ref W),some (.ref ol),some (.bl T),some (.ref S),none,none,none,none,none,none],?_,?_⟩
  .refine⟨_,U,a,G,6,U,s2.seq hS,by decide,_,U,_,T,U,λw0 X H4 s4 a6 d3=>?_⟩;refine⟨_,U,a,G,6,U,(s2.trans s4).seq hS,by decide,_,U,_,T,U,λw1 J H5 s5 a1 a8=>⟨(by show 2<=sizeLine;decide),λS f8=>?_⟩⟩;exact⟨(s4.trans s5).trans (af f8 _),S,w0,w1,X,J,(s4.trans s5).free f8,ab,a6,a1,d3,a8,U⟩
  rintro q6 H4 ⟨t4,S,w0,j1,X,k6,k4,CF,a6,FU,d3,FV,rfl⟩;refine⟨λC g=>aq H3 g/\∃(w1:Str)(J:Nat),g S=some (.lst [.str w0,.str w1])/\six[J]?=some w1/\(T=true->w1≠s!"sum")/\C=[some (.ref a),some (.ref W),some (.ref ol),some (.bl T),some (.ref S),none,none,none,none,none,none],?_,?_⟩
  .refine⟨_,U,a,G,6,U,(s2.trans t4).seq hS,by decide,_,_,U,U,⟨by decide,by decide⟩,_,_,U,U,(by show(0:Int)<3;decide),U,_,U,?_⟩;refine bG (λ_=>?_) (λ_=>⟨t4,j1,k6,CF,FU,FV,U⟩);refine⟨_,U,a,G,6,U,(s2.trans t4).seq hS,by decide,_,_,U,U,⟨by decide,by decide⟩,_,U,_,T,U,λw1 J H5 s5 a1 a8=>?_⟩;refine⟨_,U,S,_,_,_,U,U,s5 _ _ CF,uz (j:=1) (by show 1<2;decide),?_⟩;exact⟨(t4.trans s5).upd k4,w1,J,ab,a1,a8,U⟩
  rintro q5 Hw ⟨c0,w1,J,n1,a1,a8,rfl⟩;have sw:=s2.trans c0;have CG:=c0 _ _ FR;have CH:=FT.same c0;have CI:=c0 _ _ n3;refine⟨λC g=>aq Hw g/\∃(rl:Addr)(rx:List V)(o:List (List Int×Int)),g rl=some (.lst rx)/\BRL g rx o/\rx.length<=24/\(∀b∈o,b.1.length=d.length/\b.2∈B/\∀x∈b.1,0<=x)/\C=[some (.ref a),some (.ref W),some (.ref ol),some (.bl T),some (.ref S),some (.ref rl),none,none,none,none,none],?_,?_⟩
  .refine⟨_,U,a,G,U,sw.seq hS,h63,λc1 ms H3 u1 e1 GC=>?_⟩;have u2:(ms.map V.int).length=ms.length:=bx _;refine⟨c1,U,⟨_,SqL.of e1⟩,dM (xs:=ms.map V.int) (λD i zs g=>aq H3 g/\g D=some (.lst zs)/\zs.length=i/\∃o:List (List Int×Int),aD zs o (λr b=>∃bl:Addr,bl≠D/\g r=some (.tup [.ref bl,.int b.2])/\g bl=some (.lst (b.1.map V.int)))/\∀b∈o,b.1.length=d.length/\b.2∈B/\∀x∈b.1,0<=x) (λD hD=>⟨af hD _,ab,U,[],aD.nil,(λb h=>by cases h)⟩) (λD i zs g hD _ hh=>SqL.of (hh.1 _ _ e1)) (λD i y zs g hD e hh=>?_) (λD zs g hD hh=>?_)⟩
   .obtain⟨sm,eD,hl,o,hz,hb⟩:=hh;obtain⟨c,rfl⟩:=mU e;have hi:i<(ms.map V.int).length:=(GI.mp e).1;have sA:=u1.trans sm;refine⟨_,U,_,U,_,U,c,W,ol,xs,d,B,_,U,sA _ _ CG,CH.same sA,a2,hg.pts,sA _ _ CI,a4,λr g9 mm cd i7 s' nr nb er eb l3 l2 m0=>?_⟩;have g7:=s' _ _ eD;have k5:g9≠D:=λz=>by rw[z,eD]at nb;cases nb
    refine cP.mk hi g7 (ax (by lia)) ⟨(sm.trans s').upd hD,ab,by rw[cK,gI,hl],o++[(mm,cd)],?_,λb b5=>?_⟩
    .have k7:aD (zs++[.ref r]) (o++[(mm,cd)]) (λr b=>∃bl:Addr,bl≠D/\i7 r=some (.tup [.ref bl,.int b.2])/\i7 bl=some (.lst (b.1.map V.int))):=aD.snoc (aD.mono hz λr b ⟨bl,n,e,f⟩=>⟨bl,n,s' _ _ e,s' _ _ f⟩) ⟨g9,k5,er,eb⟩;exact aD.mono k7 λr b ⟨bl,n,e,f⟩=>⟨bl,n,(ay (dS e g7 (by intro z;cases z))).trans e,(ay n).trans f⟩
    .rcases gg.mp b5 with b5 | b5
     .exact hb b b5
     .rw[show b=(mm,cd) by simpa using b5];exact⟨l3,m0,l2⟩
   .obtain⟨sm,eD,hl,o,hz,hb⟩:=hh;exact⟨u1.trans sm,D,zs,o,eD,aD.mono hz λr b ⟨bl,_,e,f⟩=>⟨bl,e,f⟩,by lia,hb,U⟩
  rintro q4 H6 ⟨t6,rl,rx,o,CJ,Bh,GD,b1,rfl⟩;have s6:=sw.trans t6;have CK:=t6 _ _ CG;have CM:=CH.same t6;have CN:=t6 _ _ CI;have FW:=t6 _ _ n1;have u0:rx.length=o.length:=Bh.1;refine⟨λC g=>aq H6 g/\∃(tw r2:Addr)(O:List V)(R:List (List Int×Int)),g tw=some (.lst [.ref rl,.ref r2])/\g r2=some (.lst O)/\BRL g O R/\O.length<=31/\vx d B R/\C=[some (.ref a),some (.ref W),some (.ref ol),some (.bl T),some (.ref S),some (.ref rl),some (.ref tw),none,none,none,none],?_,?_⟩
  .refine⟨_,U,_,U,_,U,a,G,7,U,s6.seq hS,by decide,_,U,_,U,rl,W,ol,_,rx,o,xs,d,B,_,U,CJ,Bh,by lia,b1,CK,CM,hg.pts,d4,a2,CN,a4,λr2 O R H7 s7 c5 b0 g4 vK=>⟨(by show 2<=sizeLine;decide),λtw k9=>?_⟩⟩;have u:=af k9 (.lst [.ref rl,.ref r2]);exact⟨s7.trans u,tw,r2,O,R,ab,u _ _ c5,b0.same u,g4,vK,U⟩
  rintro q3 H7 ⟨t7,tw,r2,O,R,f1,c5,b0,g4,vK,rfl⟩;have s7:=s6.trans t7;have Bi:=t7 _ _ CK;have Bj:=CM.same t7;have Bm:=t7 _ _ CN;have Bo:=t7 _ _ FW;have CO:=t7 _ _ CJ;have CP:BRL H7 rx o:=Bh.same t7;have GG:O.length=R.length:=b0.1;have f7:∀{w_:Str},(T=true->w_≠s!"sum")->cx G 5%3=1->w_≠s!"sum" := λ{w_} h e=>h (by rw[f9,e];exact decide_eq_true U)
  refine⟨λC g=>aq H7 g/\∃(t ou:Addr)(L:List Rw)(nm:Str)(zs:List Str)(dv:List V),lM (λ_=>True) Y.k g t L nm w0 ou zs dv/\aD dv (d.map λM=>(loP M,hiP M)) (Dom Y.i Y.j g)/\Dom Y.i Y.j g ou (o0 B,o4 B)/\aD dv (dms G d) (DmX Y.i Y.j g)/\DmX Y.i Y.j g ou (dmO (cx G 5) B)/\L.length=o.length/\(∀w∈L,lE (d.map λM=>(loP M,hiP M)) (o0 B,o4 B) w)/\(∀(k:Nat)(b:List Int×Int)(x:Rw),o[k]?=some b->L[k]?=some x->GrR d b x)/\C=[some (.ref a),some (.ref W),some (.ref ol),some (.bl T),some (.ref S),some (.ref rl),some (.ref tw),some (.ref t),none,none,none],?_,?_⟩
  .refine⟨_,U,_,U,_,U,_,U,S,_,_,_,U,U,SqL.of Bo,aR (j:=0) U,_,U,tw,_,_,_,U,U,SqL.of f1,aR (j:=0) U,a,W,ol,rl,G,xs,d,B,rx,o,w0,X,0,U,a6,f7 d3,s7.seq hS,Bi,Bj,hg,d4,a2,Bm,a4,CO,CP,by lia,b1,λt L nm ou zs dv g s' hT f0 d6 e0 d5 _ _ _ _ FX hok a3=>?_⟩;exact⟨s',t,ou,L,nm,zs,dv,hT.wk,f0,d6,e0,d5,FX,hok,a3,U⟩
  rintro q2 H8 ⟨t8,t,ou,L,nm,zs,dv,hT,f0,d6,e0,d5,a9,hok,a3,rfl⟩;have s8:=s7.trans t8;refine⟨λC g=>aq H8 g/\∃(t_ a5:Addr)(lQ:List Rw)(d2:Str)(c7:List Str)(b6:List V),lM (λ_=>True) Y.k g t_ lQ d2 w1 a5 c7 b6/\aD b6 (d.map λM=>(loP M,hiP M)) (Dom Y.i Y.j g)/\Dom Y.i Y.j g a5 (o0 B,o4 B)/\aD b6 (dms G d) (DmX Y.i Y.j g)/\DmX Y.i Y.j g a5 (dmO (cx G 5) B)/\lQ.length=R.length/\(∀w∈lQ,lE (d.map λM=>(loP M,hiP M)) (o0 B,o4 B) w)/\(∀(k:Nat)(b:List Int×Int)(x:Rw),R[k]?=some b->lQ[k]?=some x->GrR d b x)/\C=[some (.ref a),some (.ref W),some (.ref ol),some (.bl T),some (.ref S),some (.ref rl),some (.ref tw),some (.ref t),some (.ref t_),none,none],?_,?_⟩
  .refine⟨_,U,_,U,_,U,_,U,S,_,_,_,U,U,SqL.of (t8 _ _ Bo),aR (j:=1) U,_,U,tw,_,_,_,U,U,SqL.of (t8 _ _ f1),aR (j:=1) U,a,W,ol,r2,G,xs,d,B,O,R,w1,J,1,U,a1,f7 a8,s8.seq hS,t8 _ _ Bi,Bj.same t8,hg,d4,a2,t8 _ _ Bm,a4,t8 _ _ c5,b0.same t8,by lia,vK,λt_ lQ d2 a5 c7 b6 g s' m5 FY FZ F0 F1 _ _ _ _ CQ F4 F5=>?_⟩;exact⟨s',t_,a5,lQ,d2,c7,b6,m5.wk,FY,FZ,F0,F1,CQ,F4,F5,U⟩
  rintro q1 H9 ⟨t9,u,f5,zj,t3,t1,g8,g6,F6,F7,F8,F9,yd,CS,ye,rfl⟩;have s9:=s8.trans t9;have Z:=t8.trans t9;have b4:∀b∈o,b.1.length=d.length:=λb hb=>(b1 b hb).1
  have b3:∀b∈R,b.1.length=d.length:=λb hb=>(vK b hb).1
  have hA:=(xY hT f0 d6 a6 a9 hok a3 b4 hg.pts za a2 (by lia) a7 c2 vE).so (So.of t9);have hB:=xY g6 F6 F7 a1 yd CS ye b3 hg.pts za a2 (by lia) a7 c2 vE;have l6:(dms G d).length<=10:=by unfold dms;rw[bx,jQ];lia
  have j8:TDo Y.k H9 t dv ou:=by
   obtain⟨k0,dx,na,dl,fs,i9,e1,e2,e3,e4,e5,e6,e7,e8,e9,o3,o2,_⟩:=hT.same t9;exact⟨dx,dl,fs,e1,e7,e5,e9⟩
  have j7:TDo Y.k H9 u g8 f5:=by
   obtain⟨k0,dx,na,dl,fs,i9,e1,e2,e3,e4,e5,e6,e7,e8,e9,o3,o2,_⟩:=id g6;exact⟨dx,dl,fs,e1,e7,e5,e9⟩
  have CT:∀{lQ:List Rw}{zk:List (List Int×Int)},lQ.length=zk.length->(∀(k:Nat)(b:List Int×Int)(x:Rw),zk[k]?=some b->lQ[k]?=some x->GrR d b x)->(∀b∈zk,b.1.length=d.length)->∀cs,InB cs (d.map λM=>(loP M,hiP M))->mkg lQ (List.zipWith bV (fR d) cs)=mkg lQ cs:=λ{lQ zk} h1 h2 h3 cs g5=>by
   obtain⟨u5,m1,CU⟩:=xO hg.pts g5;rw[tS hg.pts h1 h2 h3 CU,tS hg.pts h1 h2 h3 (vD hg.pts m1 g5 CU)]
  have m2:oj K Y.k Y.i Y.j H9 t u (d.map λM=>(loP M,hiP M)) L zj X J (o0 B,o4 B) (fR d):=⟨⟨dv,g8,_,_,kk,hA,hB,vC hg.pts a7,ou,f5,dms G d,dmO (cx G 5) B,j8,j7,aD.mono e0 λ_ _ p=>p.same t9,F8,d5.same t9,F9,l6⟩,xX hg.pts,by rw[pq,bx],CT a9 a3 b4,CT yd ye b3⟩;have j9:kM K H9:=λz e=>(dG.new (g2 z e)).same s9
  have j2:kQ K H9:=λz e=>(dG.new (g0 z e)).same s9
  obtain⟨d0,c4⟩:∃d0:RwD,d0=⟨rl,rx,o,w0,X⟩:=⟨_,U⟩;obtain⟨d1,c3⟩:∃d1:RwD,d1=⟨r2,O,R,w1,J⟩:=⟨_,U⟩;have o1:lG H9 d d0:=by rw[c4];exact⟨Z _ _ CO,CP.same Z,by show rx.length<=60;lia,λb hb=>⟨(b1 b hb).1,(b1 b hb).2.2⟩,a6⟩
  have n7:lG H9 d d1:=by rw[c3];exact⟨Z _ _ c5,b0.same Z,by show O.length<=60;lia,λb hb=>⟨(vK b hb).1,(vK b hb).2.2⟩,a1⟩
  have v0:∀p,vdd B d0 p=vdp o X B p:=λp=>by rw[c4];rfl
  have v1:∀p,vdd B d1 p=vdp R J B p:=λp=>by rw[c3];rfl
  refine⟨λC g=>aq H9 g/\∃v_:V,((∃(j0:Nat)(a0:List Nat)(l:Addr),(bC (gls d))[j0]?=some a0/\vdp o X B a0≠vdp R J B a0/\(∀(j:Nat)(p:List Nat),j<j0->(bC (gls d))[j]?=some p->vdp o X B p=vdp R J B p)/\v_=.ref l/\g l=some (.lst ((dH d a0).map V.int)))\/(∀p∈bC (gls d),vdp o X B p=vdp R J B p)/\v_=.non)/\C=[some (.ref a),some (.ref W),some (.ref ol),some (.bl T),some (.ref S),some (.ref rl),some (.ref tw),some (.ref t),some (.ref u),some v_,none],?_,?_⟩
  .refine⟨_,U,_,U,_,U,_,U,W,tw,S,ol,d0,d1,xs,d,B,_,U,Z _ _ Bi,Bj.same Z,hg.pts,a2,by rw[c4,c3];exact Z _ _ f1,by rw[c4,c3];exact Z _ _ Bo,o1,n7,Z _ _ Bm,a4,λv_ g s' hv=>⟨s',v_,?_,U⟩⟩;rcases hv with⟨j0,a0,l,h1,h2,h3,h4,h5⟩|⟨h1,h2⟩
   .exact .inl ⟨j0,a0,l,h1,by rw[←v0,←v1];exact h2,λj p hj ej=>by rw[←v0,←v1];exact h3 j p hj ej,h4,h5⟩
   .exact .inr ⟨λp hp=>by rw[←v0,←v1];exact h1 p hp,h2⟩
  rintro q0 i2 ⟨c8,v_,hv,rfl⟩;have yf:=m2.so (So.of c8);have Ga:=j9.same c8;have Gb:=j2.same c8;have c6:∀{x:V}{Hx:Hp}{l:List (List (Int×Int)×Option (SI×SI))},So i2 Hx->((l=[]↔∀p∈bC (gls d),vdp o X B p=vdp R J B p)/\∀q rest,l=q :: rest->∀(j0:Nat)(a0:List Nat),(bC (gls d))[j0]?=some a0->vdp o X B a0≠vdp R J B a0->(∀(j:Nat)(p:List Nat),j<j0->(bC (gls d))[j]?=some p->vdp o X B p=vdp R J B p)->q.1.map (·.1)=dH d a0)->(l=[]/\x=.non\/∃q rest lx,l=q :: rest/\x=.ref lx/\Hx lx=some (.lst ((q.1.map (·.1)).map V.int)))->((x=.non/\v_=.non)\/∃(y z:Addr)(cs:List Int),x=.ref y/\v_=.ref z/\Hx y=some (.lst (cs.map V.int))/\Hx z=some (.lst (cs.map V.int))/\cs.length<=60):=λ{x Hx l} so hl hx=>by
   rcases hv with⟨j0,a0,lv,h1,h2,h3,rfl,h5⟩|⟨h1,rfl⟩
   .rcases hx with⟨k1,k2⟩|⟨q_,rest,lx,k1,rfl,k3⟩
    .exact absurd (hl.1.mp k1 a0 (GJ h1)) h2
    .refine .inr ⟨lx,lv,dH d a0,U,U,?_,so.lst h5,?_⟩
     .rw[←hl.2 q_ rest k1 j0 a0 h1 h2 h3];exact k3
     .have lp:a0.length=d.length:=by rw[(hV.iff.mp (GJ h1)).1];unfold gls;rw[bx]
      rw[qd lp];lia
   .rcases hx with⟨k1,rfl⟩|⟨q_,rest,lx,k1,_,_⟩
    .exact .inl ⟨U,U⟩
    .rw[hl.1.mpr h1]at k1;cases k1
  have sy:∀p,(vdp R J B p=vdp o X B p)=(vdp o X B p=vdp R J B p):=λp=>propext ⟨λh=>h.symm,λh=>h.symm⟩
  refine⟨λC g=>So i2 g/\kM K g/\kQ K g/\C=[some (.ref a),some (.ref W),some (.ref ol),some (.bl T),some (.ref S),some (.ref rl),some (.ref tw),some (.ref t),some (.ref u),some v_,none],?_,?_⟩
  .refine⟨_,U,_,U,t,u,_,L,zj,X,J,_,fR d,U,yf,Ga,Gb,λx PF o5 vL Bp Bq hD hx=>?_⟩;have hu:=kR hg.pts a9 a3 b4 yd ye b3 hD;refine⟨_,U,x,v_,U,c6 vL hu hx,_,U,bR ?_⟩;refine⟨_,U,_,U,u,t,_,zj,L,J,X,_,fR d,U,(yf.so vL).turn,Bp,Bq,λx2 u6 h0 vI CV CW n0 k8=>?_⟩;have g1:=kR hg.pts yd ye b3 a9 a3 b4 n0;simp only[ne_eq,sy]at g1;exact⟨_,U,x2,v_,U,c6 (vL.trans vI) g1 k8,_,U,bR ⟨vL.trans vI,CV,CW,U⟩⟩
  rintro p8 o5 ⟨vL,Bp,Bq,rfl⟩;refine⟨λC g=>C=[some (.ref a),some (.ref W),some (.ref ol),some (.bl T),some (.ref S),some (.ref rl),some (.ref tw),some (.ref t),some (.ref u),some v_,some (.bl (decide (v_=.non)))],?_,?_⟩
  .refine⟨_,U,_,U,t,u,_,L,zj,X,J,_,fR d,U,yf.so vL,Bp,Bq,λPF h0 vI CV CW hD=>?_⟩;have hu:=kR hg.pts a9 a3 b4 yd ye b3 hD;have:(dc (bxs _ PF)).isEmpty=decide (v_=.non):=by
    rcases hv with⟨j0,a0,lv,h1,h2,h3,rfl,h5⟩|⟨h1,rfl⟩
    .rw[decide_eq_false (by intro z;cases z),As];intro z;exact h2 (hu.1.mp (List.isEmpty_iff.mp z) a0 (GJ h1))
    .rw[decide_eq_true U,hu.1.mpr h1];rfl
   rw[this];rfl
  rintro p5 h0 rfl;refine⟨_,U,_,_,_,_,true,U,.ty _,.inl (.bl _),(by first|rfl|with_unfolding_all rfl|decide+kernel),_,U,eJ ⟨_,U,_,U,U,U,?_⟩⟩;rw[decide_eq_true U];exact q _
end
structure FF(K:W.Frag)(Y:AD):Prop where
 (h0:GF K "all_among" "all_among" Y32)
 (h1:GF K "is_word" "is_word" Y50)
 (h2:GF K "is_whole" "is_whole" Y49)
 (h3:GF K "alike" "alike" Y31)
 (h4:GF K "holds" "holds" Y48)
 (h5:GF K "edges" "edges" Y43)
 (h6:GF K "stretches" "stretches" Y85)
 (h7:GF K "grain" "grain" Y47)
 (h8:GF K "cut_columns" "cut_columns" Y41)
 (h9:GF K "built" "built" Y35)
 (h10:GF K "layered" "layered" Y72)
 (h11:GF K "closed" "closed" Y38)
 (h12:GF K "mapped" "mapped" Y73)
 (h13:GF K "paired" "paired" Y76)
 (h14:GF K "boxes" "boxes" Y33)
 (h15:GF K "gathered" "gathered" Y46)
 (h16:GF K "corner" "corner" Y40)
 (h17:GF K "way_by" "way_by" Y89)
 (h18:GF K "refuse_names" "refuse_names" Y78)
 (h19:GF K "refuse_counts" "refuse_counts" Y77)
 (h20:GF K "refuse_way" "refuse_way" Y82)
 (h21:GF K "refuse_row" "refuse_row" Y79)
 (h22:GF K "own_row" "own_row" Y75)
 (h23:GF K "fits" "fits" Y45)
 (h24:GF K "mask" "mask" Y74)
 (h25:GF K "judged" "judged" Y51)
 (h26:GF K "table_bounds" "table_bounds" Y86)
 (h27:GF K "table_marks" "table_marks" Y87)
 (h28:GF K "column_marks" "column_marks" Y39)
 (h31:GF K "boxes_with_leaf" "boxes_with_leaf" Y34)
 (h32:GF K "first_unlike" "first_unlike" Y44)
 (h33:GF K "same_everywhere" "same_everywhere" Y84)
 (h34:GF K "changes" "changes" Y37)
 (h35:GF K "changed_boxes" "changed_boxes" Y36)
 (h36:GF K "differing_pair" "differing_pair" Y42)
 (h37:GF K "refuse_unlike" "refuse_unlike" Y80)
 (h38:GF K "refuse_unlike_domains" "refuse_unlike_domains" Y81)
 (h39:GF K "_law_cell" "_law_cell" Y53)
 (h40:GF K "_law_numbers" "_law_numbers" Y60)
 (h41:GF K "_law_points" "_law_points" Y65)
 (h42:GF K "_law_grid_points" "_law_grid_points" Y58)
 (h43:GF K "_law_word" "_law_word" Y71)
 (h44:GF K "_law_domain" "_law_domain" Y54)
 (h45:GF K "_law_outs" "_law_outs" Y63)
 (h46:GF K "_law_outcome" "_law_outcome" Y62)
 (h47:GF K "_law_way" "_law_way" Y69)
 (h48:GF K "_law_row" "_law_row" Y66)
 (h49:GF K "_law_spans" "_law_spans" Y67)
 (h50:GF K "_law_table" "_law_table" Y68)
 (h51:GF K "_law_other" "_law_other" Y61)
 (h52:GF K "_law_places" "_law_places" Y64)
 (h53:GF K "_law_fitting" "_law_fitting" Y56)
 (h54:GF K "_law_due" "_law_due" Y55)
 (h55:GF K "_law_whole" "_law_whole" Y70)
 (h56:GF K "_law_least" "_law_least" Y59)
 (h57:GF K "_law_good" "_law_good" Y57)
 (h89:GF K "law" "law" Y52)
 (m71:MF K Y.i "has_code" "Domain.has_code" Y2)
 (m72:MF K Y.j "has_code" "Domain.has_code" Y3)
 (m77:MF K Y.b "verdict" "Way.verdict" Y24)
 (m78:MF K Y.b "chosen" "First.chosen" Y5)
 (m79:MF K Y.c "verdict" "Way.verdict" Y28)
 (m80:MF K Y.c "chosen" "Only.chosen" Y14)
 (m81:MF K Y.d "verdict" "Way.verdict" Y26)
 (m82:MF K Y.d "chosen" "Like.chosen" Y9)
 (m83:MF K Y.e "verdict" "Way.verdict" Y27)
 (m84:MF K Y.e "chosen" "Low.chosen" Y11)
 (m85:MF K Y.f "verdict" "Way.verdict" Y25)
 (m86:MF K Y.f "chosen" "High.chosen" Y7)
 (m87:MF K Y.g "verdict" "Way.verdict" Y29)
 (m88:MF K Y.g "chosen" "Sum.chosen" Y16)
 (k58:KF K Y.k "Table" "Table.__init__" Y17)
 (k59:KF K Y.b "First" "First.__init__" Y4)
 (k61:KF K Y.c "Only" "Only.__init__" Y13)
 (k63:KF K Y.d "Like" "Like.__init__" Y8)
 (k65:KF K Y.e "Low" "Low.__init__" Y10)
 (k67:KF K Y.f "High" "High.__init__" Y6)
 (k69:KF K Y.g "Sum" "Sum.__init__" Y15)
 (k73:KF K Y.i "Numbers" "Numbers.__init__" Y12)
 (k75:KF K Y.j "Words" "Words.__init__" Y30)
 (b60:BF K Y.a "Way" "__init__" "Way.__init__" Y18)
 (b62:BF K Y.a "Way" "__init__" "Way.__init__" Y22)
 (b64:BF K Y.a "Way" "__init__" "Way.__init__" Y20)
 (b66:BF K Y.a "Way" "__init__" "Way.__init__" Y21)
 (b68:BF K Y.a "Way" "__init__" "Way.__init__" Y19)
 (b70:BF K Y.a "Way" "__init__" "Way.__init__" Y23)
 (b74:BF K Y.h "Domain" "__init__" "Domain.__init__" Y0)
 (b76:BF K Y.h "Domain" "__init__" "Domain.__init__" Y1)
 (t29:TFn K "row_form" s_row_form)
 (t30:TFn K "verdict_form" s_verdict_form)
 (z0:W.nsIn K mainGlobals "len" = some none)
 (z1:W.nsIn K mainGlobals "isinstance" = some none)
 (z2:W.nsIn K mainGlobals "int" = some none)
 (z3:W.nsIn K mainGlobals "bool" = some none)
 (z4:W.nsIn K mainGlobals "sorted" = some none)
 (z5:W.nsIn K mainGlobals "list" = some none)
 (z6:W.nsIn K mainGlobals "set" = some none)
 (z7:W.nsIn K mainGlobals "zip" = some none)
 (z8:W.nsIn K mainGlobals "tuple" = some none)
 (z9:W.nsIn K mainGlobals "min" = some none)
 (z10:W.nsIn K mainGlobals "sum" = some none)
 (z11:W.nsIn K mainGlobals "range" = some none)
 (z12:W.nsIn K mainGlobals "enumerate" = some none)
 (z13:W.nsIn K mainGlobals "reversed" = some none)
 (z14:W.nsIn K mainGlobals "max" = some none)
 (y0:∃u,W.nsIn K mainGlobals "MOST_SIGNS" = some (some u)/\RelV (V.int 12) u)
 (y1:∃u,W.nsIn K mainGlobals "SMALL_LETTERS" = some (some u)/\RelV (V.str "abcdefghijklmnopqrstuvwxyz") u)
 (y2:∃u,W.nsIn K mainGlobals "MOST_GRAIN" = some (some u)/\RelV (V.int 300) u)
 (y3:∃u,W.nsIn K mainGlobals "MOST_ROWS" = some (some u)/\RelV (V.int 200) u)
 (y4:∃u,W.nsIn K mainGlobals "MOST_COLUMNS" = some (some u)/\RelV (V.int 4) u)
 (y5:∃u,W.nsIn K mainGlobals "NOTHING" = some (some u)/\RelV (V.int 0) u)
 (y6:∃u,W.nsIn K mainGlobals "MOST_WORDS" = some (some u)/\RelV (V.int 40) u)
theorem all_mk{l:W.OpenLaw}{w:World}{K:W.Frag}{h:Heap}{f:Str->Option Value}{H:Addr}{Y:AD}(X:K.In h)(G:h.Ns mainGlobals f)(m:f "law" = some (.ref H)) (b:Bk K Y)(u:FF K Y)
  : ∃g:FuncData,(∀(s:Shared)(v:Value),BindsTo s g ⟨[v],[]⟩ [("script",v)])/\∀d:Heap,K.In d->d.Ns mainGlobals f->(∀q∈(W.tabIn K "row_form").toList++(W.tabIn K "verdict_form").toList,W.CodeHd d q.1 q.2/\d.BuiltinsAt f q.2)->aL l.prog w K f d CX0 22 H g ["script"] (J18 K):=by
 cases u.h89 with | @mk _ g a F =>
 cases m.symm.trans (W.mg_of X G a);have bl:Bl K f Y:=⟨b,W.mg_of X G b.n_Way,W.mg_of X G b.n_First,W.mg_of X G b.n_Only,W.mg_of X G b.n_Like,W.mg_of X G b.n_Low,W.mg_of X G b.n_High,W.mg_of X G b.n_Sum,W.mg_of X G b.n_Domain,W.mg_of X G b.n_Numbers,W.mg_of X G b.n_Words,W.mg_of X G b.n_Table,W.mg_of X G b.n_NONE,W.mg_of X G b.n_CLASH,W.mg_none_of X G u.z0,W.mg_none_of X G u.z1,W.mg_none_of X G u.z2,W.mg_none_of X G u.z3,W.mg_none_of X G u.z4,W.mg_none_of X G u.z5,W.mg_none_of X G u.z6,W.mg_none_of X G u.z7,W.mg_none_of X G u.z8,W.mg_none_of X G u.z9,W.mg_none_of X G u.z10,W.mg_none_of X G u.z11,W.mg_none_of X G u.z12,W.mg_none_of X G u.z13,W.mg_none_of X G u.z14,(let ⟨_,y,x⟩:=u.y0;⟨_,W.mg_of X G y,x⟩),(let ⟨_,y,x⟩:=u.y1;⟨_,W.mg_of X G y,x⟩),(let ⟨_,y,x⟩:=u.y2;⟨_,W.mg_of X G y,x⟩),(let ⟨_,y,x⟩:=u.y3;⟨_,W.mg_of X G y,x⟩),(let ⟨_,y,x⟩:=u.y4;⟨_,W.mg_of X G y,x⟩),(let ⟨_,y,x⟩:=u.y5;⟨_,W.mg_of X G y,x⟩),(let ⟨_,y,x⟩:=u.y6;⟨_,W.mg_of X G y,x⟩)⟩;refine⟨g,λs v=>by obtain⟨_,_,_,_,_,_,_,_,_,e,_,_⟩:=F.ex;rw[e];exact .of_eq U,λd _ _ E=>?_⟩;have z:Zb l.prog w K f d:=⟨X,G⟩;have rK:=mkC z u.h0 λF=>DS F bl
 have B:=mkC z u.h2 λF=>DT F bl
 have Q:=mkC z u.h3 λF=>DU F bl
 have P:=mkC z u.h4 λF=>DV F bl
 have O:=mkC z u.h5 λF=>DW F bl
 have rL:=mkC z u.h6 λF=>DX F bl
 have i:=mkC z u.h11 λF=>DZ F bl
 have tX:=mkC z u.h15 λF=>D1 F bl
 have T:=mkC z u.h16 λF=>D3 F bl
 have lR:=mkC z u.h19 λF=>D4 F bl
 have vM:=mkC z u.h22 λF=>D5 F bl
 have nN:=mkC z u.h26 λF=>D6 F bl
 have kZ:=mkC z u.h36 λF=>D7 F bl
 have k:=mkC z u.h39 λF=>D8 F bl
 have ox:=mkC z u.h40 λF=>Ea F bl
 have qp:=mkC z u.h41 λF=>Eb F bl
 have j:=mkC z u.h43 λF=>Ed F bl
 have tY:=mkC z u.h45 λF=>Ee F bl
 have vO:=mkC z u.h47 λF=>Ef F bl
 have A:=mkC z u.h48 λF=>Eg F bl
 have rM:=mkC z u.h49 λF=>Ei F bl
 have qr:=mkC z u.h52 λF=>Ej F bl
 have oy:=mkC z u.h53 λF=>El F bl
 have vP:=mkC z u.h54 λF=>Em F bl
 have rN:=mkC z u.h55 λF=>En F bl
 have iu:=mkB z u.b60 λF=>Eo F bl
 have iT:=mkB z u.b62 λF=>Ep F bl
 have iU:=mkB z u.b64 λF=>Er F bl
 have jF:=mkB z u.b66 λF=>Es F bl
 have iV:=mkB z u.b68 λF=>Et F bl
 have jG:=mkB z u.b70 λF=>Eu F bl
 have fe:=mkB z u.b74 λF=>O_0 F bl
 have f7:=mkB z u.b76 λF=>O_1 F bl
 have iw:=mkM z u.m78 λF=>O_5 F bl
 have jH:=mkM z u.m80 λF=>Ew F bl
 have jI:=mkM z u.m82 λF=>O_9 F bl
 have lh:=mkM z u.m84 λF=>Ex F bl
 have jJ:=mkM z u.m86 λF=>O_7 F bl
 have lj:=mkM z u.m88 λF=>Ey F bl
 have t:=mkC z u.h1 λF=>Ez F bl rK.up
 have D:=mkC z u.h8 λF=>EA F bl rL.up
 have Br:=mkC z u.h23 λF=>EC F bl P.up
 have nO:=mkC z u.h28 λF=>ED F bl tX.up O.up
 have gf:=mkC z u.h38 λF=>EE F bl Q.up
 have ko:=mkC z u.h42 λF=>EF F bl k.up qp.up
 have rO:=mkC z u.h51 λF=>EG F bl A.up
 have rP:=mkC z u.h56 λF=>EM F bl qr.up vP.up oy.up
 have ua:=mkC z u.h57 λF=>EU F bl rN.up
 have gJ:=mkK z u.k59 λF=>O_4 F bl iu.up
 have iz:=mkK z u.k61 λF=>EV F bl iT.up
 have iA:=mkK z u.k63 λF=>O_8 F bl iU.up
 have jK:=mkK z u.k65 λF=>EW F bl jF.up
 have iB:=mkK z u.k67 λF=>O_6 F bl iV.up
 have jL:=mkK z u.k69 λF=>EY F bl jG.up
 have ff:=mkM z u.m71 λF=>O_2 F bl B.up
 have gh:=mkM z u.m72 λF=>O_3 F bl B.up
 have J:=mkK z u.k73 λF=>EZ F bl fe.up
 have iW:=mkM z u.m77 λF=>E1 F bl iw.up
 have jM:=mkM z u.m79 λF=>E2 F bl jH.up
 have jN:=mkM z u.m81 λF=>E3 F bl jI.up
 have kq:=mkM z u.m83 λF=>E4 F bl lh.up
 have jO:=mkM z u.m85 λF=>E5 F bl jJ.up
 have kr:=mkM z u.m87 λF=>E6 F bl lj.up
 have N:=mkC z u.h7 λF=>E7 F bl D.up
 have nP:=mkC z u.h18 λF=>E8 F bl t.up
 have qt:=mkC z u.h21 λF=>E9 F bl ff.up gh.up
 have o:=mkC z u.h24 λF=>Fb F bl Br.up
 have oz:=mkC z u.h27 λF=>Fc F bl nO.up
 have lS:=mkC z u.h37 λF=>Fd F bl gf.up
 have I:=mkK z u.k75 λF=>Fe F bl f7.up t.up
 have r:=mkC z u.h17 λF=>Ff F bl gJ.up iz.up iA.up jK.up iB.up jL.up
 have qu:=mkC z u.h20 λF=>Fg F bl r.up
 have p:=mkC z u.h25 λF=>Fh F bl iW.up jM.up jN.up kq.up jO.up kr.up r.up
 have qv:=mkC z u.h44 λF=>Fi F bl J.up I.up j.up
 have oA:=mkC z u.h46 λF=>Fj F bl J.up I.up j.up
 have gK:=mkK z u.k58 λF=>Fl F bl nP.up lR.up qu.up qt.up vM.up
 have M:=mkR z u.h14 0 7 xZ λn F c=>Fn F bl c
 have ku:=mkC z u.h31 λF=>Fo F bl M.up
 have rS:=mkC z u.h50 λF=>Fp F bl k.up gK.up qv.up j.up oA.up rM.up
 have Z:=mkR z u.h10 8 7 tT λn F c=>Fw F bl (i.mono (by lia)) c (by lia)
 have S:=mkR z u.h12 8 7 vF λn F c=>Fx F bl (i.mono (by lia)) c (by lia)
 have R:=mkR z u.h13 8 7 vG λn F c=>Fy F bl (i.mono (by lia)) c (by lia)
 have L:=mkC z u.h9 λF=>FC F bl Z.up N.up D.up
 have lT:=mkC z u.h35 λF=>FE F bl R.up kZ.up ku.up
 have ub:=mkT z u.t29 (λq h=>E q (by simp only[gg];simp[h])) λF h1 h2 h3=>FG F bl L.up nN.up oz.up o.up h1 h2 h3 o.up
 have nQ:=mkT z u.t30 (λq h=>E q (by simp only[gg];simp[h])) λF h1 h2 h3=>FJ F bl S.up ub.up p.up h1 h2 h3 p.up
 have V:=mkC z u.h34 λF=>FN F bl lS.up lT.up nQ.up
 have C:=mkC z u.h32 λF=>FO F bl V.up T.up
 have kv:=mkC z u.h33 λF=>FP F bl C.up
 exact FQ F bl ko.up tY.up rS.up rP.up kv.up k.up vO.up A.up rO.up ox.up ua.up C.up
theorem walk{l:W.OpenLaw}{q:Program}{c:List Str}{XP:(Str->Option Value)->Heap->Prop}{y:World->Heap->Prop}{d:DefRec}{K:Params->W.Frag}(B:l.most=some 63)(m:d.params.defaults=[])
  (D:∀(w:World)(h:Heap),y w h->(K w.params).In h)(j:∀p:Params,W.noTabs (K p)=true)(i:∃d',(PyProof.Rows.recsOf q).find? (λe=>e.name == ("row_form" : Str))=some d') (G:∃d',(PyProof.Rows.recsOf q).find? (λe=>e.name == ("verdict_form" : Str))=some d')
  (F:∀(w:World)(g:Str->Option Value)(v:Addr)(h:Heap),(K w.params).In h->h.Ns mainGlobals g->g d.name=some (.ref v) ->
   ∃r:FuncData,(∀(s:Shared)(u:Value),BindsTo s r ⟨[u],[]⟩ [("script",u)])/\∀b:Heap,(K w.params).In b->b.Ns mainGlobals g->(∀q∈(W.tabIn (K w.params) "row_form").toList++(W.tabIn (K w.params) "verdict_form").toList,W.CodeHd b q.1 q.2/\b.BuiltinsAt g q.2)->aL l.prog w (K w.params) g b CX0 22 v r ["script"] (J18 (K w.params))) :
  W.WalkO q c XP y l.row.toRowW d [] (λf vs=>PySem.call f vs) :=
 L2.walk_ofT (n:=63) (k:=22) (x := "script") (CX:=λ_=>CX0) (sp:=λw=>J18 (K w.params)) (tabs:=λp=>(W.tabIn (K p) "row_form").toList++(W.tabIn (K p) "verdict_form").toList) (xs:=["row_form","verdict_form"]) B (by decide) m ⟨U,by decide,by decide⟩ D j (hQ.mpr ⟨i,hQ.mpr ⟨G,iQ _⟩⟩)
  (λp t h=>(gg.mp h).elim (λh=>⟨_,fb,uu h⟩) λh=>⟨_,(iC _ fb),uu h⟩) F
  (λw H a A C _ E o=>⟨a,A,U,E,C,λz e=>o z (gg.mpr (.inl (by rw[e];exact fb))),λz e=>o z (gg.mpr (.inr (by rw[e];exact fb))),λ_=>U⟩) λ_ _ _ _ _ z=>z
end My
set_option genSizeOf false in
set_option genInjectivity false in
structure PySem.W.Fast:Prop where (tw10496913906905728302 tw15739724750034444175 tw2023635300845152394 tw5895438980818933530 tw3013672562197063580 tw4891593472051162269 tw339930996777908644 tw2173447875116798638 tw12313672927038610344 tw17730293141394831376 tw1538161848880579616 tw6489101055161987172 tw7273472440995862499 tw4383791308926241823 tw1873313548886617367 tw7095121793550862631 tw14434766172058071491 tw509415330105965490 tw12157862158555569124 tw11494736453334882206 tw15687765039612761393 tw472183278944455231 tw14860579717118910877 tw2302758468485196184 tw4999104151359928668 tw1208711123891303401 tw8667453802586527056 tw6202651554220981138 tw8420830409039341767 tw6516936471243504041 tw8948767661835615119 tw11039615880615123805 tw10774707473135418037 tw4295979765332690906 tw15365149328109516421 tw7713281925808421824 tw12380360688340332999 tw7077470123457288048 tw8665049371033655000 tw3758558208108487964 tw14468659195553647684 tw11781067058277316562 tw14360186459047709022 tw18227206505015998507 tw8528408715067419771 tw15157952987073471763 tw11164122767162302770 tw6516396657718985414 tw3594291478497559830 tw8648407464462582991 tw2675688278839088165 tw14226186433388739537 tw8426204143257459400 tw814039645157472611 tw547244152761405561 tw12707672484075368808 tw1176893104543663932 tw14225266694770298547 tw18387557802198152105 tw15360036185443285161 tw13812770374825924085 tw8193314312234748951 tw16368066569023386608 tw17401652316735188164 tw1119257078155264942 tw18344268425843647621 tw2476002518478385948 tw8923563621938865483 tw18210908919443173681 tw14023194901747561633 tw1157202863647125301 tw16310754335264674286 tw5470779336307941107 tw12532193739290293420 tw2716787439852813617 tw4239081445035454883 tw12397050814925097283 tw11838699636574626236 tw16627083721072414396 tw17843028248651953905 tw1543034674461635992 tw9743986943861326163 tw11607663885035455367 tw13786515701602666127 tw11662925897415311944 tw8863427090544473520 tw2698176512118422764 tw7655880089523896188 tw5091056220975829447 tw16239330309372127438 tw16799559177953698854 tw14014207099172986142 tw14589654079595546241 tw3130408501606748711 tw13126392444173837887 tw7328611649555939724 tw7602388854874717740 tw5256328585360998736 tw425269390938073085 tw16720229724028357844 tw5235937686059832152 tw5816052191471898916 tw13422164248050657955 tw2581944587046717469 tw5418569385683350629 tw9328755228498188673 tw2687795994358894673 tw16113076100279247641 tw8124714035180445261 tw12384639989466196950 tw844388896623826913 tw764641215725397336 tw8834359303012010127 tw2697871105138921142 tw11051780426568888545 tw3774827875275939698 tw8634094689063828259 tw1172284796453963601 tw994051303303737108 tw4104608897333756745 tw2414943524205438448 tw8396888586913847289 tw8956788370299424588 tw6729878888808556591 tw11566162963070805804 tw12515653200959205195 tw4741703018128982322 tw6181457798456711255 tw18070088701955516683 tw567864067909014810 tw4155652451769848232 tw17380903653331473627 tw1568980993879145136 tw6265624264684091824 tw6779342859961958816 tw10590010676314123194 tw7342729624982899846 tw11706325933671421139 tw10841632739666253677 tw6015259350327255472 tw6154093809156445667 tw6781596816113725805 tw17476584231377887011 tw12330036410297234318 tw4707546894476478665 tw5727286622320306662 tw16340701483181475505 tw12356053201137487997 tw17326270541935671523 tw4964154813296555281 tw8881125023813067488 tw13340017412261264558 tw9238901117343507615 tw14729769564635706139 tw5896647151171180268 tw988871764624415667 tw4187345225218653383 tw8900234118598971247 tw18201351993795971504 tw6734540878890165968 tw11452903685463141638 tw7750062321387524571 tw2185490890226973053 tw1097575103465846078 tw5634505145113933724 tw16685620201634848963 tw2054241301868891470 tw17174895113999417375 tw2905180282608993939 tw11786992673678890078 tw1681249217062311388 tw232217239513916655 tw12053421194675925203 tw5709322062813977456 tw11324237612309922925 tw17891066186817107165 tw17878604828900470057 tw13703576677143871094 tw10635099836793320705 tw6482929848268109219 tw17518019330578250416 tw5004045216051619187 tw3985679829656481869 tw9124700262783027075 tw8254077729039227307 tw8914450300063303804 tw14790632865576709957 tw6902774748178464594 tw17674815176130060808 tw7830724236211322092 tw7101754378819079916 tw13096199157858952340 tw6051992763721133850 tw3420603222792427495 tw3994036091783249973 tw14726382838061962915 tw1185975927870651470 tw15589182144711548674 tw3961684134426007811 tw9391927042613118258 tw18130079622717847938 tw1657253499313461945 tw2614371752674496596 tw10134996948377378576 tw13263237049300851253 tw9403298465337758706 tw10923472852181788375 tw2584248053745047289 tw18128670399134419525 tw4842776564996724899 tw3638790117470622598 tw3509150905765755024 tw15223298435398677919 tw11380070945877575115 tw8462527689708483662 tw15692156382166958992 tw10791013301462384590 tw5950071767839977004 tw8450736861026102440 tw6664794589631820001 tw9661838024021398404 tw9373007825434083542 tw15593958388744301011 tw8566300790732116721 tw8083411524403144777 tw10939273172920172589 tw15536271160535027649 tw17438751079352712986 tw13759574412141928922 tw14845257818819433321 tw3966327934986653540 tw11832913229896893888 tw2064621039912029910 tw11903226575434478750 tw13774577494062139018 tw3740690144914839003 tw15020293080377475908 tw3357376955953044803 tw11758458325914683447 tw3313584427090921965 tw17138532434588535815 tw1408464846049561975 tw11631256469818299041 tw65454221148771503 tw560758680251263591 tw14953398460202227659 tw13741251655185386174 tw1141711886868475000 tw12340197817185909463 tw18370832395714309818 tw11908192124487886183 tw9572909147077005388 tw10045917990855568194 tw18155320959372832245 tw2304302223726781850 tw4208782677395944084 tw15564377413741156372 tw9878717014151000952 tw9581470930971353644 tw1615917582753591359 tw15187552618382989528 tw8017893189608723936 tw2756299304782964304 tw14251662423517564623 tw15060000927042872646 tw7845939673945974373 tw10447682288210747698 tw3801998960451224417 tw16714209559894939314 tw8568244859111043198 tw2724338085288937772 tw356487235621023113 tw2249551699783335565 tw12370536509509570581 tw17207225493466876466 tw1605305467390802751 tw4706965797419003661 tw6152059582834053123 tw14741651626210922079 tw16620553281199599583 tw10150678896995444486 tw17917173436846565424 tw899421308465775076 tw9231423948717264715 tw9842011028263769365 tw8648675592291653797 tw350807196569921474 tw7106626191927640164 tw6805906472693123394 tw8424492272777408936 tw1867706056367169449 tw11485937261656625197 tw15442537294975746718 tw6544607878157142371 tw4024355178607781669 tw4867091164303448992 tw14237717782477256082 tw18243905309049154181 tw4187116877540141561 tw6399136163636268147 tw2014579320031692417 tw267412691367210502 tw16624390851234612263 tw16440771681203632586 tw12287519711051197545 tw12362585183422894446 tw12379524779422152980 tw4166916507315163240 tw9556127811949242813 tw17403497235750495593 tw4451526946937879440 tw18379731616164724507 tw15274505593423208476 tw15405527401455934836 tw5680334219324191206 tw7632454408593722051 tw5361593122319303471 tw8871418929263304376 tw7341176488184204049 tw12284002992457163565 tw14825774921833394029 tw893289678461708604 tw11375939715228043887 tw13698257069138239654 tw2238031152858408626 tw6788833541698401050 tw16525431195160157628 tw3591208386772047895 tw2859800638114658497 tw17806801561335589927 tw7007653458071538539 tw243983237725135690 tw10015514648106364853 tw13101999461367913492 tw11634550882907023662 tw1218406535090421710 tw10095959202445829000 tw13852867943561762219 tw1147925605572575983 tw6267249737910636561 tw5200866206726903463 tw14871733206672499697 tw3136318999519852488 tw13473938229119334192 tw12368701663648819933 tw811119802567190518 tw8906522440524880752 tw14898105776530795542 tw4476910093910595051 tw5392700583755414963 tw10921121569146065574 tw6394120349091222751 tw4981592640668243766 tw7852247619944731611 tw18181812689337642374 tw15352207645403196412 tw17473464545286006951 tw14699764980348662152 tw3385489773264954059 tw9001085314341063129 tw5139338394880250343 tw17061302929357421691 tw7074122291678274003 tw15444360614795203765 tw16343302059520142322 tw8894485510937388320 tw1773787294762655804 tw17346484857537879635 tw17445955381113500710 tw3929947189998635492 tw6270752279451325177 tw4437394675695045646 tw1399685488455994337 tw2119173270104275730 tw13285403191884256429 tw913514372547210165 tw17143002740236428331 tw1258094763911271350 tw16408573600409523370 tw8644618539699848351 tw12509766087584564293 tw16081386541737499358 tw8309338595101537798 tw3664803181330531331 tw611247593445185739 tw14980958011818929405 tw3113503742070679112 tw1552485726368865152 tw2048972634106608036 tw1471401310941029390 tw14319902142265856227 tw12452661140870308057 tw16784033627051810297 tw10008309485387475709 tw10828483001745924864 tw4499185747394245917 tw5688693581913004540 tw17088827623291726338 tw519696594500381846 tw16370325429635467493 tw13080853024902696649 tw1605596093573097986 tw11332575948532585212 tw2621017853750428640 tw1528363624117936832 tw17895079314087232661 tw4012423593366870483 tw666121280040118542 tw10728969746490977265 tw11388118877509780166 tw13202595199993088756 tw14577315347488613626 tw3693320440014981498 tw4287397942994602625 tw4170871735891627060 tw2241117596192142329 tw16071718818984051139 tw8182849859928092751 tw13544241029108223868 tw5552503090415729814 tw10880260404793670642 tw6321303635983951983 tw16017415654985676659 tw13025889730112343875 tw15920201424327226034 tw10944035213580033646 tw7140310577711312634 tw13997681426555731738 tw15645854055694693658 tw2730726776333107027 tw17324691078999487886 tw15529091514094371568 tw14732049829653958046 tw2711938035828791512 tw5529136389643157439 tw17344785217414578042 tw13545892843011140376 tw15618677917658513418 tw11017127010919383113 tw10267645589140986407 tw13106499864143557422 tw16915925224668043616 tw14083972697000230691 tw17379586363391751388 tw13932407930830459911 tw11279049269229498234 tw17701822474234025427 tw6348251583804910835 tw17532627951243062117 tw10205677265261486152 tw1274975188728641034 tw11101460873597635262 tw3141519513798155358 tw5482807673274905845 tw11058435401689117297 tw6063256827846969383 tw10556011274518060412 tw10072942399173411457 tw6505629936074281508 tw7567356500336130094 tw4033423876419205576 tw14180599698567925736 tw4774015095362085454 tw15826942487844724851 tw13321424751307248022 tw16298997709206562294 tw3535651126173044515 tw209996207793986018 tw14482413885613588755 tw5146525206036305933 tw2048845704470300531 tw11979565774870291921 tw1192145767811168710 tw9860278415091320495 tw1398566953812174318 tw9861805984099462907 tw2956995376666521852 tw9196628479896417942 tw6676117196273763194 tw10972821074853625079 tw7883985251207141319 tw8064711204547918803 tw13286418778613732804 tw10061784747150900119 tw14158060124594719878 tw9448912929842345774 tw17818344667031379127 tw9876415289002269216 tw6223364869410422139 tw7846317980281846257 tw4703121609117679555 tw17706452092729907871 tw2466489570120655720 tw13146981409066028849 tw12183831258339006405 tw6850094032883624254 tw5113529557290020695 tw13003085313869903974 tw17912245637352720171 tw1361955540948248175 tw8857791399853186944 tw1340657385413604195 tw7424178449960892388 tw7749489520594467310 tw3447835736366858515 tw14423502910173740393 tw10672165671071242216 tw5379219532036923648 tw9638346279963249258 tw4580673078423241475 tw4432395420278033317 tw16973407527074193888 tw16537018687531950203 tw1521014052342157597 tw12528842214897016750 tw5731351198480280616 tw7935509098907563729 tw7159519720256003977 tw8596761169006016716 tw564712717945376645 tw9753658438356765632 tw201212753518291622 tw9636980229028194769 tw13392464836160167203 tw16897526451133179817 tw10393259277849190075 tw15548773292752837161 tw4043674045430422403 tw11034288115112834634 tw16083636477587973305 tw7928935674304903079 tw5847287692782510531 tw5945130705027147013 tw11674015682238027938 tw10452869470604937655 tw13138289127404774719 tw2335672188330031150 tw6771355570480059778 tw10529931243073906932 tw16393908437213762248 tw5697270823672929135 tw15713161604093850755 tw4078000679696497947 tw17726488783540999328 tw8471340958847399115 tw3150418432274419151 tw3789630307739645136 tw6971259745949418707 tw18408926882272079454 tw8999274875525453695 tw12604673066043936423 tw7563130237380990486 tw3787301592120462281 tw16759811292755919954 tw4191953682406707870 tw2580307060308471619 tw11178479042549452303 tw16853776349411025669 tw7761426258339049166 tw6623455482414189641 tw10914577940375065081 tw1853080666658453528 tw5513019331038166193 tw8275579126547416321 tw13544740589804493199 tw12094895795726519763 tw18046011664873486027 tw14129180207050185305 tw9551956326429319873 tw391130140230221440 tw6846894610228401283 tw1815654985168152139 tw14579997497836866719 tw12399346029040633481 tw18142822462020519137 tw7542737849473827699 tw4061374182578515640 tw18329148615955212402 tw4033330537305285468 tw11931256935747830188 tw5906680270316674570 tw1526353857119588394 tw15843323647957520728 tw5989109596812657093 tw6351603344049092080 tw8625559034347444249 tw12289555410039137813 tw2025171313172675869 tw4079061882447167120 tw6126636506841760725 tw9927396524380544151 tw3006254804110411660 tw11989502669118840544 tw16291815428597037939 tw15656925615463170488 tw579336690696792076 tw1570396533127460288 tw2215957264054697375 tw11649790074513267989 tw7008386648797698827 tw18350021953573585761 tw11692290079749525899 tw1591463396754634408 tw11400613277742509742 tw3441014279826374415 tw2276289968519521418 tw10835709822136309078 tw3815960865847146837 tw9142415799575835210 tw12206996405392289985 tw5225785005236186780 tw5275725388919908464 tw17298479991833431663 tw11043371980563083159 tw11235640660373708364 tw6107148690987278871 tw5022413927886171056 tw1488169908546792904 tw10096786645597694362 tw13523600751400538949 tw11158056947866731549 tw11757097570294438305 tw2293180084906481797 tw11139052723029384850 tw924197290184505423 tw10228129914197879094 tw5154185407321015891 tw733553697903589163 tw18215481387778010118 tw6387854324815783292 tw9098205073315886673 tw17935648729743545184 tw8171841139728067082 tw5610499098184646965 tw5519468602105796137 tw17123872058146025180 tw9733458028273799290 tw12763715805918393953 tw15341288138271768813 tw10578110188050303613 tw8288969992518020654 tw3713681964893569802 tw10601296981860693502 tw999422506430232917 tw2641331877159697324 tw13389375780233871489 tw7846205197167052639 tw8853371138011801273 tw1685425644971249379 tw1777657544828778246 tw17839486093534021612 tw14732928880280931170 tw7437187152523535895 tw3828570807453808648 tw9120481968960506043 tw3469134193446194491 tw13908341074555459352 tw14262356868395773939 tw13262789718243718746 tw16999891715069514486 tw14252191327948311883 tw3744016646745001875 tw14452518621346661850 tw2811761006923098239 tw9680399387784186376 tw8193201424535340799 tw950671140738993660 tw16372117443370135645 tw11735631760634874076 tw7043207498450588900 tw5386468529038750097 tw12151130425853832317 tw298670613374480376 tw6963906281706084210 tw3375120065891206536 tw6792092154620324033 tw1977126341459585381 tw661893121543289474 tw9332664059865754932 tw1434982479292726222 tw15825642290714858958 tw15935454160998973278 tw7694823547485320214 tw15209750009700770178 tw13018987874553972245 tw10682593645107357885 tw9386366893387678231 tw14397184190631834346 tw18064341697725983056 tw14236220585809618830 tw12784366815911547711 tw10707492856676181614 tw10763808438525110743 tw10589637181342970180 tw17716412148095975164 tw4306901959624659398 tw13646534748739551848 tw5156523142345074415 tw2594610463299011532 tw16253465652190286028 tw7842058796610562724 tw17519335079501112868 tw3293270372375047530 tw12736781214326832351 tw9587341419785160100 tw7191507046938221285 tw10948824475522583579 tw9973820444685910041 tw2473382531726506624 tw2947306668326725404 tw4483003780327146615 tw16572939551481415608 tw2521427600508560340 tw4866175420769263537 tw10462801552459124401 tw5974169546435555727 tw6595545401202974727 tw18215085367454934062 tw5011636537915815999 tw8424322546940953774 tw13937013757410165548 tw15646560310238387630 tw10182693719436104582 tw8726747032951196540 tw7531311850025576736 tw17178885457561424455 tw4373039789748744186 tw16274254155166467412 tw12651048547063083901 tw6998161984661933247 tw9729600719021969251 tw10232547024585598654 tw12234084865412086017 tw10664963827265885336 tw228303542830261144 tw10150466895179547862 tw12255303911337969987 tw4401983840572638583 tw10101157064556495918 tw6838653493553826166 tw10400601460376166691 tw17489729964258349697 tw10485678644805222939 tw17034590909673625198 tw13113078152539333566 tw2993993493397843285 tw18105922152386173304 tw7079039885464747384 tw14433659932910412507 tw1009371160774769497 tw6062296052058941217 tw14095800355188053903 tw3856680689859492302 tw915947153245812943 tw15119292276006088878 tw1428150665813363156 tw17951171625210111991 tw415118379608268286 tw16265233463164873022 tw16455378417915615752 tw1440761799282230651 tw13830902621471902193 tw6303440482295781566 tw13362679295100084692 tw8998110951754395865 tw12889959720476784285 tw6469402059146722376 tw14976153236505661407 tw17957382657732722845 tw12549778288694363218 tw12044313445979057241 tw15158141235966019181 tw10091684067157271681 tw988477996095225475 tw13928458984942070519 tw14635742700249382431 tw9842448562024762740 tw1415263602064428081 tw2418707994368248499 tw442449101865530133 tw4138163130633072942 tw9443057702431526920 tw12588856302795714352 tw15013685670596397929 tw10961877432759365552 tw6885230881490879693 tw13779488202580938596 tw2387028363947190241 tw11308465348876065412 tw16628289446691291441 tw3234003677261335182 tw7848772994062392994 tw2072615715629495605 tw2620197710764902989 tw13946307159972117018 tw10338247765403212130 tw12396525814096166704 tw17225600338647558004 tw6612457851893415671 tw11590089302027277192 tw4233208045303920690 tw14968519192546966970 tw6374895834861457883 tw3277651731807345009 tw2687622498909747053 tw7503574266106129543 tw4206614235314127537 tw9603964473448185330 tw11707687016150459105 tw418280023550981684 tw16615980788081889233 tw15563587523910573961 tw12357005282928563401 tw12487735985877442261 tw2506982319708267461 tw165644178151184394 tw7751868490805052467 tw13305147813030007072 tw6474509237015786831 tw12553565826850030480 tw1781231076511787686 tw525761519581390940 tw12935345263035632179 tw668750354977744695 tw4345783178144055144 tw15625718726494579973 tw10772638454086153929 tw557418299250187943 tw18396659318450417910 tw4904433302934903172 tw7599440399630619566 tw10329841533860322191 tw14389222418176543497 tw4571646654036685421 tw881835402927921673 tw7776541395819717458 tw4860655023124908440 tw3001535633398930626 tw3268917423247673557 tw11699762662115583157 tw6433071519510647074 tw13938132339141932687 tw10862748823590910773 tw13197996086826283449 tw6622059711626971248 tw9957623018866723465 tw15254994704874674061 tw6062011719617032509 tw13228272762756549513 tw6059081287997537174 tw2885346920035510510 tw748279697087160736 tw11840577459402054543 tw6577802279678001997 tw5084924018938139101 tw11985200419607857907 tw10667555080562301234 tw7808101141804780448 tw13555237693546157626 tw6347533284460662386 tw1361262498196370453 tw8643786111792266682 tw2916663416517762662 tw2095787560110819032 tw5141645636727225903 tw17608049485865704111 tw16960318720366232139 tw13242959174096218027 tw3879849562188602342 tw11827782142359300049 tw8866739119757265425 tw7730967581793350626 tw14368118713415168726 tw13167090038220466712 tw8924281919301720917 tw6501031676004039780 tw15862328077948767567 tw12095983260095531278 tw14653742103216815643 tw18370858981083473640 tw11588381147295254805 tw15527202914251452644 tw14200118108590630470 tw4539656584817717683 tw1592600441489584181 tw10877830521070718794 tw1734302755798225695 tw10581650379965201956 tw8581737757380156605 tw5036547115589942606 tw7397773925996079455 tw7887856429785716684 tw5909992275123081948 tw16791843441702270326 tw8627955020139209701 tw1336681867582204430 tw5102051755478904912 tw4142543213940022754 tw1488318672871827483 tw3400347078096375638 tw15676965160604514139 tw15844050955728972498 tw11756269297898085931 tw1451667667572649562 tw12062130188872582638 tw7296615023191301825 tw2336575796000187805 tw15547999141238712890 tw10299457383158171197 tw8969966291484176600 tw13136064004331906661 tw2231206696195420768 tw371159901613776255 tw14733622647024407556 tw9516237931531255426 tw13437507618889905528 tw16356377044885487940 tw2161436568620564767 tw17078743060453393505 tw2688463579628205790 tw3913996266720320984 tw14341895764321556386 tw6094480476212912583 tw6945082685657752447 tw16544543062223099138 tw17458433083354450569 tw18168874490778143761 tw17106698738139986266 tw9649864242148655654 tw2920593976320435239 tw16675055922132084292 tw569182799575470813 tw2843488335064438423 tw2011893413442695509 tw3987606031293675478 tw3480196611066437022 tw5982336022197848340 tw17829343794059149921 tw11927176160369974943 tw3314533096945807004 tw1041194635441811791 tw1930252258891885665 tw2401771604005062582 tw9218819423216646112 tw9283820759233570734 tw8530169342808866837 tw2348059779896124277 tw2841710983211498718 tw7454012381992717088 tw17004953940063771607 tw13624753942874121210 tw8812647359618385347 tw9603833389862731202 tw10601445276365298397 tw1029867378693456323 tw5727342811555421793 tw14798130704183637350 tw2396530110210333653 tw13534862175299600772 tw16224368036232292302 tw2507545698099332114 tw13504205408780299365 tw6276497779787065041 tw1270146786629704346 tw15637367146794545169 tw15155777049931939840 tw5073203942452878571 tw11886358065440888745 tw9034231721543707576 tw12208672218289309685 tw8998867381388965495 tw180912385311515066 tw6381138354035472923 tw5540807203192063862 tw5168580389915022865 tw2638471909337649156 tw5641240671029701260 tw13490041829704036903 tw15337325806455699029 tw8500827731078869580 tw143133669587115002 tw3506695242056987582 tw3329680987722156475 tw13981634361464193680 tw10508676088449766810 tw802084958990174423 tw8832733900161987194 tw4016959803919719418 tw6067589188608180 tw7921808333201557246 tw6142571016246405050 tw6165639837234540492 tw11159039266122975365 tw12252756830930777806 tw6715963943806012089 tw6833083393597043292 tw5591732106146286210 tw17280818434669665839 tw16847047845550013836:True)
open PySem PySem.W PyProof.Rows
set_option maxRecDepth 100000 in
set_option maxHeartbeats 0 in
theorem PySem.Challenge.cw_rowjudge_k46_least_unlike_holds : PySem.Challenge.rw_rowjudge_k46_least_unlike.Holds := by
 w_on;o_law;k_head;(case hw=>w_witness2)
 k_fill
 refine My.walk (l:=PySem.Challenge.rw_rowjudge_k46_least_unlike) rfl rfl (λw h Y=>PySem.W.km_in_of Y) ?hnK ?hxs ?Bs ?F
 case hnK=>intro p;first|rfl|decide+kernel|with_unfolding_all rfl
 case hxs=>exact⟨_,rfl⟩
 case Bs=>exact⟨_,rfl⟩
 case F =>
  intro w mg fa h KX G hmg;refine' My.all_mk (Y:=.mk ..) KX G hmg ?b ?u
  case b =>
   constructor
   all_goals try dsimp only
   iterate 13 (k_is)
   iterate 9 (constructor <;> first|k_is|rfl|with_unfolding_all rfl)
   iterate 9 (refine'⟨⟨?_,?_,?_,?_⟩,?_,?_,?_,?_⟩ <;> first|k_is|rfl|with_unfolding_all rfl)
   refine' L2.ModT.mk ?lk ?sz ?vs
   (case lk=>k_is)
   (case sz=>decide)
   (case vs=>exact(.cons ⟨_,rfl⟩ (.cons ⟨_,rfl⟩ .nil)))
   refine' L2.ModT.mk ?lk ?sz ?vs
   (case lk=>k_is)
   (case sz=>decide)
   (case vs=>exact(.cons ⟨_,rfl⟩ (.cons ⟨_,rfl⟩ .nil)))
   iterate 18 (delta L2.NoAttr;k_is)
   iterate 4 (first|k_is|rfl|with_unfolding_all rfl)
   refine' My.tab_ne (L2.tab_mk (qual := "row_form") (st:=My.s_row_form) ?a1 ?l1 ?c1 ?e1) (L2.tab_mk (qual := "verdict_form") (st:=My.s_verdict_form) ?a2 ?l2 ?c2 ?e2) ?ne
   (case a1|l1|c1=>k_is)
   (case e1=>rfl)
   (case a2|l2|c2=>k_is)
   (case e2=>rfl)
   (case ne=>first|decide|(intro h;cases h))
  case u =>
   constructor
   all_goals try dsimp only
   iterate 57 (refine' L2.GF.mk ?a1 (L2.fun_mk ?l ?c ?k);(case a1=>k_is);(case l=>k_is);(case c=>k_is);(case k=>k_is))
   iterate 14 (refine' L2.MF.mk ?a1 ?a2 (L2.fun_mk ?l ?c ?k);(case a1=>k_is);(case a2=>k_is);(case l=>k_is);(case c=>k_is);(case k=>k_is))
   iterate 9 (refine' L2.KF.mk ?a1 ?a2 ?a3 ?a4 ?a5 (L2.fun_mk ?l ?c ?k);(case a1=>k_is);(case a2=>k_is);(case a3=>k_is);(case a4=>k_is);(case a5=>k_is);(case l=>k_is);(case c=>k_is);(case k=>k_is))
   iterate 8 (refine' L2.BF.mk ?a1 ?a2 ?a3 ?a4 (L2.fun_mk ?l ?c ?k);(case a1=>k_is);(case a2=>k_is);(case a3=>k_is);(case a4=>k_is);(case l=>k_is);(case c=>k_is);(case k=>k_is))
   iterate 2 (refine' L2.tfn_mk ?l1 ?l2 ?l3 ?l4 ?l5 ?l6;(case l1=>k_is);(case l2=>k_is);(case l3=>k_is);(case l4=>k_is);(case l5=>k_is);(case l6=>rfl))
   iterate 15 (k_is)
   iterate 7 (refine' L2.gv_mk ?a1 ?a2;(case a1=>k_is);(case a2=>exact⟨_,rfl⟩))
