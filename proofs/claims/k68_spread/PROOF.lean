import PyProof.Rows.All
import Wide.All
import OpenK.AllK
import Wide.FinOn
import Lean
import PyProof.EqAt
import PyProof.EqKinds
import PyProof.TupleCall
import KE.KIntText
import PyProof.NeKinds
import KE.KTryMore
import KE.KIsAll
import PyProof.ZipIter
import KE.KRevIter
import PyProof.CollectIter
import PyProof.FactsAll.range_2
import PyProof.FactsAll.range_iterator_1
import KE.KNest
import KE.KLam
import PySem.Challenge.RW_rowjudge_k68_spread
open List renaming length_map→bo,mem_cons→cf,length_append→dg,size_toArray→dn,mem_cons_self→dt,mem_map→dy,getElem?_map→eR,take_length→eU,getElem?_append_left→fc,getD_eq_getElem?_getD→fo,map_append→fF,mem_cons_of_mem→fG,length_cons→gb,length_singleton→hQ,forall_mem_cons→hZ,mem_append→ia,all_eq_true→ik,mem_range→iv,length_take→iD,mem_singleton→iE,forall_mem_nil→jo,mem_append_right→jE,getElem?_of_mem→jF,not_mem_nil→jG,append_nil→jH,getElem?_eq_none→jI,length_range→jJ,mem_filter→kl,mem_append_left→kN,map_cons→kO,range_succ→lg,filter_append→lq,length_zipWith→lz,getElem?_append_right→mu,find?_cons_of_pos→mv,find?_cons_of_neg→ni,getElem_mem→nq,take_add_one→nu,eq_nil_or_concat→ny,concat_eq_append→nB,getElem?_zipWith→nL,filterMap_cons→nS,nodup_cons→nY,length_filter_le→ov,length_replicate→oD,length_drop→pf,all_cons→ph,any_eq_true→pk,mem_flatMap→qk,pairwise_cons→qD,getElem?_zip_eq_some→q5,ext_getElem?→ri,filter_cons_of_pos→rm,reverse_reverse→ro,of_mem_zip→rr,map_nil→rC,nodup_append→rH,nodup_nil→sk,map_fst_zip→tu,append_assoc→tw,getElem_inj→uE,all_map→vj,any_append→vl,map_map→vr,filter_cons→vx
open Nat renaming le_refl→vD,ne_of_lt→vE,lt_of_lt_of_le→vF,le_trans→vG,ne_of_gt→vH,zero_le→vI,lt_succ_of_lt→vJ,le_of_lt→v5,lt_irrefl→wh,lt_succ_self→wj,le_succ→w5,le_add_right→xK,lt_or_ge→xM,zero_add→xT,succ_pos→xU,lt_of_succ_lt→x4,not_lt_zero→yi,pow_succ→yl,mul_le_mul→yt,mod_lt→yY,not_lt→zb
open Int renaming emod_lt_of_pos→zh,emod_nonneg→zi,toNat_natCast→zj,toNat_of_nonneg→zk
open Array renaming length_toList→zl,getElem?_eq_getElem→zo,toList_push→zz
open Bool renaming and_eq_true→zC,eq_false_iff→zD,false_eq_true→An,or_eq_true→AB
open Option renaming isSome_iff_exists→AU,map_eq_some_iff→Bz,getD_none→BV
open PySem renaming wpAny_bind→BX,wpAny_pure→BY,wpAny_holding→B6,wpAny_Call_Name_kw→B7,Value→Ct,World→Cu,Program→Dn,Addr→DF,Heap→DG,sizeLine→DO,sysModules→DS,intKind→DU,mainGlobals→D0,builtinsNs→D4,bootBuiltins→D6,Around→D7,Shared→F7,Scope→Ge,GenState→Gk,Model→Gn,wpAny→GC,storeName→GD,Expr→GG,isTrue→GH,backTo→GI,starEach→GJ,Stmt→GK,wpAny_mono→GL,wpAny_Name→GN,wpAny_loadName_local→GO,wpAny_loadName_cell→GP,standAt→GQ,wpAny_truthy_bool→GR,wpAny_execs_nil→GS,wpAny_execs_cons→GU,swapsWith→GV,assignEach→GW,Operator→GX,wpAny_assign_Name→GY,wpAny_standAt→GZ,wpAny_Assign_Name→G0,PassesOwn→G1,wpAny_passesOwn→G2,pyNext→G3,letOwnedTupleGo→G4,pyIter→G5,rawInt→G6,Walks→G7,wpAny_pyIter_list→G8,Builtin→G9,foldedSetIterable→Ha,binaryOp→Hb,IntMulOk→Hc,intBits_le_64→Hd,compareOp→He,CmpOp→Hf,behindInMarks→Hg,sizeLine_eq→Hh,getMethod→Hi,Result→Hj,codeAny→Hk,attributeBase→Hl,recursionLimit→Hm,cLine→Hn,Code→Ho,FuncData→Hq,BindsTo→Hr,bindArgs→Hs,wpAny_call→Ht,codeAny_mono→Hu,NameKind→Hv,bindL→Hw,bindC→Hy,cellsFrom→Hz,Arguments→HA,concat_meets→HB,noFill_tuple_add→HC,seq_tuple_add→HD,evalPart_none→HE,typeLookup→HF,seqIndex_of→HG,slot_list_getitem→HH,sliceBounds→HI,call_list_seq→HJ,typeOf→HK,backToKw→HL,keywordEach→HM,Params→HN,callerA→HP,compEnvC→HQ,closureFor→HR,closureFor_none→HS,noteFrame→HU,newList→HV,newFunctionEnv→HW,wpAny_newObj_type→HX,wpAny_newFunctionEnv→HY,codeAny_compStart_list→HZ,eval_ListComp→Ia,wpAny_comprehension_free→Ib,compPost→Ic,exec_Assign_Name_used→Ie,setFlight→Ig,wpAny_noteFrame_onW→Ih,wpAny_setFlight_noneW→Ii,wpAny_typeOf_ref→Ij,codeAny_call_builtin→Ik,wpAny_ite_false→Il,codeAny_builtin→Im,checkBuiltinCall→Io,argsOk→Ip,wpAny_of_eq→Iq,wpAny_attempt→Ir,wpAny_ite_true→Iu,slotArgs→Iv,wpAny_rule→Iw,callWith→Iy,WalksS→Iz,scanBound→IA,Moved→IB,setAdd→IC,plainId_quiet→ID,check_set_init_1→IE,wpAny_runValue→IF,codeAny_of_tree→IG,weight_type_call_type→IH,SetTable→II,layNew→IJ,relayAll→IK,pickOrder→IL,intKind_is→IM,wpAny_storeSet_of→IP,fits_of_scanBound→IQ,wpAny_setState_of→IS,wpAny_askSetting→IT,typeLookup_type→IU,builtinLookup_eq_fast→IV,isSubtype_type→IW,entryFor→IX,entryFor_alias→IY,drawOrder→IZ,setNext→I0,wpAny_callSpecial?_slot→I1,wpAny_call_entry→Ja,wpAny_fieldsOf→Jb,wpAny_setEntries_of→Jc,wpAny_setField_rec→Jd,wpAny_setField→Je,newExc→Jf,firstArgMember→Jg,wpAny_handled→Jh,wpAny_isInstance→Ji,isSubtype_stop→Jj,wpAny_seqItems→Jk,wpAny_pyIter_slot→Jl,Setting→Jm,setsByText→Jn,wpAny_newTuple→Jo,wpAny_setEpoch_of→Jp,wpAny_typeOf→Jq,wpAny_specialOf→Jr,updateSeq→Js,wpAny_updateSeq→Jt,wpAny_field→Ju,intItems→Jv,numAt_eq→Jw,IsPair→Jx,ZipApart→Jy,wpAny_pyNext_zip_item→Jz,wpAny_pyNext_zip_end→JA,wpAny_pyIter_zip→JB,wpAny_nextOf_list_item→JC,wpAny_nextOf_list_end→JD,wpAny_pyIter_enum→JE,codeAmong→JF,boot_len→JG
open Option renaming some→JH,none→JI
open Bool renaming true→JJ,false→JK
open Decidable renaming decide→JL
set_option Elab.async false
set_option linter.all false
set_option maxRecDepth 100000
abbrev JN:=@if_neg
abbrev JO:=@if_pos
abbrev JP:=@absurd
abbrev JQ:=@decide_eq_true
abbrev JR:=@decide_eq_false
abbrev JS:=@of_decide_eq_true
abbrev JT:=@congrArg
abbrev JU:=@decide_eq_true_iff
local macro_rules|`(term|s!$x)=>do
 let some t:=x.raw.getArgs[0]? | Lean.Macro.throwUnsupported
 let some v:=t.isInterpolatedStrLit? | Lean.Macro.throwUnsupported
 `(PySem.Str.ofString $(Lean.quote v))
theorem Gz{a:Type _}{l:List a}{i:Nat}(h:i<l.length):l[i]?=JH l[i]:=List.getElem?_eq_getElem h
theorem GA{b:Type _}{a:b}{l:List b}{i:Nat}:l[i]?=JH a ↔ ∃h:i<l.length, l[i]=a:=List.getElem?_eq_some_iff
theorem GB{b:Type _}{l:List b}{i:Nat}{a:b}(e:l[i]?=JH a):a∈l:=List.mem_of_getElem? e
namespace L2
theorem U{b:Sort _}{a:b}:a=a:=rfl
open PySem PySem.Spec PyProof.Rows
abbrev Key:=Sum Int Str
def zm:Key->Ct->Bool
 | .inl k,v=>Ct.isInt k v
 | .inr x,v=>Ct.isStrOf x v
def Dl(w:Cu):Key->Int
 | .inl k=>hashInt k
 | .inr x=>hashStr w x
theorem bU:∀{k:Key}{v:Ct},zm k v=JJ->(∃i t,k=Sum.inl i/\v=Ct.int i t)\/(∃x t,k=Sum.inr x/\v=Ct.str x t)
 | .inl i,v,h=>by
  obtain⟨t,e⟩:=Ct.isInt_shape (k:=i) (v:=v) h;exact .inl ⟨i,t,U,e⟩
 | .inr x,v,h=>by
  obtain⟨t,e⟩:=Ct.isStrOf_shape (x:=x) (v:=v) h;exact .inr ⟨x,t,U,e⟩
theorem Ad(a b:Int):decide ((Sum.inl a:Key)=Sum.inl b)=(a == b):=by
 by_cases e:a=b
 .subst e;simp
 .have h:¬ (Sum.inl a:Key)=Sum.inl b:=λq=>e (Sum.inl.inj q)
  rw[JR h];exact(beq_eq_false_iff_ne.mpr e).symm
theorem Ae(a b:Str):decide ((Sum.inr a:Key)=Sum.inr b)=JL (a=b):=by
 by_cases e:a=b
 .subst e;simp
 .have h:¬ (Sum.inr a:Key)=Sum.inr b:=λq=>e (Sum.inr.inj q)
  rw[JR h,JR e]
theorem Af(a:Int)(b:Str):decide ((Sum.inl a:Key)=Sum.inr b)=false:=JR (λq=>nomatch q)
theorem Ag(a:Str)(b:Int):decide ((Sum.inr a:Key)=Sum.inl b)=false:=JR (λq=>nomatch q)
def pj(prog:Dn)(w:Cu):PySem.KeyKind prog w Key where
 is:=zm
 hash:=Dl w
 inj:=λv a b l f=>by
  rcases bU l with⟨i,t,rfl,rfl⟩|⟨x,t,rfl,rfl⟩
  .rcases bU f with⟨j,u,rfl,e⟩|⟨y,u,rfl,e⟩
   .injection e with c _;rw[c]
   .exact nomatch e
  .rcases bU f with⟨j,u,rfl,e⟩|⟨y,u,rfl,e⟩
   .exact nomatch e
   .injection e with c _;rw[c]
 byValue:=λk v h=>by
  rcases bU h with⟨i,t,rfl,rfl⟩|⟨x,t,rfl,rfl⟩ <;> rfl
 pyHash:=λd h=>by
  rcases bU d with⟨i,t,rfl,rfl⟩|⟨x,t,rfl,rfl⟩
  .exact wpAny_pyHash_int h
  .exact wpAny_pyHash_str h
 eqBool:=λg d h=>by
  rcases bU g with⟨i,t,rfl,rfl⟩|⟨x,t,rfl,rfl⟩
  .rcases bU d with⟨j,u,rfl,rfl⟩|⟨y,u,rfl,rfl⟩
   .rw[Ad]at h;exact wpAny_eqBool_int h
   .rw[Af]at h;exact SeqAt.EqAt.int_str i t y u _ _ _ _ h
  .rcases bU d with⟨j,u,rfl,rfl⟩|⟨y,u,rfl,rfl⟩
   .rw[Ag]at h;exact SeqAt.EqAt.str_int x t j u _ _ _ _ h
   .rw[Ae]at h;exact wpAny_eqBool_str h
 «strs»:=λk x t v h=>by
  rcases bU h with⟨i,u,rfl,e⟩|⟨y,u,rfl,e⟩
  .exact nomatch e
  .injection e with c _;subst c;cases v <;> rfl
inductive V where
 |non|bl (b:Bool)|int (i:Int)|str (x:Str)|byt (b:Array UInt8)|flt (b:UInt64)|ref (a:DF)|ty (n:String)
 deriving DecidableEq
def RelV:V->Ct->Prop
 | .non,u=>u=Ct.none
 | .bl b,u=>u=Ct.bool b
 | .int i,u=>∃t,u=Ct.int i t
 | .str x,u=>∃t,u=Ct.str x t
 | .byt b,u=>∃t,u=Ct.bytes b t
 | .flt b,u=>∃t,u=Ct.float b t
 | .ref a,u=>u=Ct.ref a
 | .ty n,u=>u=Ct.type n
abbrev Vals:List V->List Ct->Prop:=Paired RelV
theorem Vals.length{xs:List V}{us:List Ct}(r:Vals xs us):xs.length=us.length:=Paired.length r
theorem Vals.get:∀{xs:List V}{us:List Ct}{i:Nat}{x:V},Vals xs us->xs[i]?=JH x->∃u,us[i]?=JH u/\RelV x u
 |_,_,_,_,.nil,e=>by simp at e
 |_,_,0,_,.cons r _,e=>by simp at e;subst e;exact⟨_,U,r⟩
 |_,_,i+1,x,.cons _ t,e=>by
  obtain⟨u,b,a⟩:=Vals.get (i:=i) (x:=x) t (by simpa using e);exact⟨u,by simpa using b,a⟩
theorem Vals.set{x:V}{u:Ct}(r:RelV x u):∀{xs:List V}{us:List Ct}(i:Nat),Vals xs us->Vals (xs.set i x) (us.set i u)
 |_,_,_,.nil=>.nil
 |_,_,0,.cons _ t=>.cons r t
 |_,_,i+1,.cons q t=>.cons q (Vals.set r i t)
theorem Vals.append:∀{xs ys:List V}{us ws:List Ct},Vals xs us->Vals ys ws->Vals (xs++ys) (us++ws)
 |_,_,_,_,.nil,s=>s
 |_,_,_,_,.cons r t,s=>.cons r (Vals.append t s)
theorem Vals.take:∀{xs:List V}{us:List Ct}(n:Nat),Vals xs us->Vals (xs.take n) (us.take n)
 |_,_,0,_=>.nil
 |_,_,_+1,.nil=>.nil
 |_,_,n+1,.cons r t=>.cons r (Vals.take n t)
theorem Vals.drop:∀{xs:List V}{us:List Ct}(n:Nat),Vals xs us->Vals (xs.drop n) (us.drop n)
 |_,_,0,r=>r
 |_,_,_+1,.nil=>.nil
 |_,_,n+1,.cons _ t=>Vals.drop n t
def nA:Option V->Option Ct->Prop
 |some v,JH u=>RelV v u
 |none,JI=>True
 |_,_=>False
def KV{a:Type}:List (a×V)->List (a×Ct)->Prop:=Paired λ(p:a×V)(q:a×Ct)=>p.1=q.1/\RelV p.2 q.2
def kV:Key->V
 | .inl i=>.int i
 | .inr x=>.str x
inductive HO where
 |lst (xs:List V)
 |tup (xs:List V)
 |dK (kvs:List (Key×V))|dT (kvs:List (List Key×V))
 |set (S:Int->Bool)(n:Nat)
 |ins (C dx:DF)(fs:List (Str×V))
 |own (x:DF)
 |xd (fs:List (Str×V))
 |met (f x:DF)
 |rng (lo hi:Int)
 |frz (o:Obj)(u:HO)
 |tbl (ps:Array Ct)
 |ext (φ:DG->Prop)
abbrev Hp:=DF->Option HO
def upd(H:Hp)(a:DF)(o:HO):Hp:=λb=>if b=a then JH o else H b
theorem ae{H:Hp}{a:DF}{o:HO}:upd H a o a=JH o:=by unfold upd;rw[JO U]
theorem ay{H:Hp}{a b:DF}{o:HO}(h:b≠a):upd H a o b=H b:=by unfold upd;rw[JN h]
theorem xV{H:Hp}{a:DF}{o u:HO}:upd (upd H a o) a u=upd H a u:=by
 funext b;unfold upd;split <;> rfl
theorem fT{H:Hp}{a b:DF}{o u:HO}(h:H a=JH o)(h':H b=JH u)(d:o≠u):a≠b:=by
 intro e;subst e;rw[h]at h';exact d (Option.some.inj h')
theorem bc{H:Hp}{a b:DF}{o:HO}(h:H a=JH o)(h':H b=JI):a≠b:=by
 intro e;subst e;rw[h]at h';cases h'
section
variable(P:Dn)(w:Cu)
def cq(H:Hp)(h:DG)(a:DF):HO->Prop
 | .lst xs=>xs.length<=DO/\∃(b:List Ct)(n:Nat),Vals xs b/\h.get? a=JH { cls:=.type "list",data:=.seq b.toArray n }
 | .tup xs=>xs.length<=DO/\∃b:List Ct,Vals xs b/\IsTup h a b.toArray
 | .dK kvs=>kvs.length<=DO/\(a == DS)=JK/\∃vs,KV kvs vs/\h.DictOf (pj P w) a vs
 | .dT kvs=>kvs.length<=DO/\(a == DS)=JK/\∃xs:List (List Key×DF×Ct),
   Paired (λ(p:List Key×V)(q:List Key×DF×Ct)=>p.1=q.1/\H q.2.1=JH (.tup (p.1.map kV))/\RelV p.2 q.2.2) kvs xs /\
   ∃o g i,h.get? a=JH o/\o.ExactDict/\o.data=.dict g i/\g.toList=xs.map (entryOfKey (tupleKind (pj P w)))/\(xs.map (·.1)).Nodup
 | .set S n=>h.SetOf (DU P w) a S n
 | .ins C dx fs=>H dx=JH (.own a)/\fs.length<=1000/\dx≠a/\h.get? a=JH (W.instObj C dx) /\
   ∃c,h.Ns1 dx c/\(∀f,nA (fs.lookup f) (c f))/\PySem.Within c (fs.map (·.1))
 | .own _=>∃o,h.get? a=JH o
 | .xd fs=>∃c,h.Ns1 a c/\∀f,nA (fs.lookup f) (c f)
 | .rng lo hi=>∃t u v,h.get? a=JH { cls:=.type "range",data:=.fields #[.int lo t,.int hi u,.int 1 v] }
 | .frz o u=>h.get? a=JH o/\cq H h a u
 | .tbl ps=>h.get? a=JH { cls:=.none,data:=.fields ps }
 | .met f x=>h.get? a=JH (W.methodObj (.ref f) (.ref x))
 | .ext φ=>φ h/\(∃o,h.get? a=JH o)/\∀e d:DG,φ e->(∀o,e.get? a=JH o->d.get? a=JH o)->φ d
def HOk(H:Hp)(h:DG):Prop:=∀a o,H a=JH o->cq P w H h a o
end
variable{P:Dn}{w:Cu}{H H':Hp}{h h':DG}{a:DF}
section
variable{o:HO}
theorem cq.lt(x:cq P w H h a o):a<h.objs.size:=by
 cases o with
 |lst c=>obtain⟨_,_,_,_,e⟩:=x;exact DG.lt_size e
 |tup c=>obtain⟨_,_,_,p⟩:=x;exact p.lt
 |dK b=>obtain⟨_,_,_,_,o,_,_,e,_⟩:=x;exact DG.lt_size e
 |dT b=>obtain⟨_,_,_,_,o,_,_,e,_⟩:=x;exact DG.lt_size e
 |set S n=>obtain⟨o,_,_,_,e,_⟩:=x;exact DG.lt_size e
 |ins C j fs=>obtain⟨_,_,_,e,_⟩:=x;exact DG.lt_size e
 |own y=>obtain⟨_,e⟩:=x;exact DG.lt_size e
 |xd fs=>obtain⟨_,⟨_,_,_,e,_⟩,_⟩:=x;exact DG.lt_size e
 |rng lo hi=>obtain⟨_,_,_,e⟩:=x;exact DG.lt_size e
 |frz i u=>obtain⟨e,_⟩:=x;exact DG.lt_size e
 |tbl g=>exact DG.lt_size (show h.get? a=JH _ from x)
 |met f y=>exact DG.lt_size (show h.get? a=JH _ from x)
 |ext d=>obtain⟨_,⟨_,e⟩,_⟩:=x;exact DG.lt_size e
theorem Paired.mapP{g e:Type}{F G:g->e->Prop}:∀{d:List g}{c:List e},Paired F d c->(∀a b,F a b->G a b)->Paired G d c
 |_,_,.nil,_=>.nil
 |_,_,.cons r t,f=>.cons (f _ _ r) (Paired.mapP t f)
theorem cq.stay(x:cq P w H h a o)(k:∀b u,(b=a\/H b=JH (.own a))->h.get? b=JH u->h'.get? b=JH u)
  (J:∀b,H b=JH (.own a)->H' b=JH (.own a))(I:∀b xs,H b=JH (.tup xs)->H' b=JH (.tup xs)):cq P w H' h' a o:=by
 induction o with
 |lst xs=>obtain⟨z,l,n,r,e⟩:=x;exact⟨z,l,n,r,k _ _ (.inl U) e⟩
 |tup xs=>obtain⟨z,l,r,g,e,c⟩:=x;exact⟨z,l,r,g,k _ _ (.inl U) e,c⟩
 |dK A=>obtain⟨z,y,E,r,g,i,j,e,c⟩:=x;exact⟨z,y,E,r,g,i,j,k _ _ (.inl U) e,c⟩
 |dT A =>
  obtain⟨z,y,xs,r,g,i,j,e,c⟩:=x;exact⟨z,y,xs,Paired.mapP r λp q z=>⟨z.1,I _ _ z.2.1,z.2.2⟩,g,i,j,k _ _ (.inl U) e,c⟩
 |set S n=>obtain⟨g,i,j,t,e,c⟩:=x;exact⟨g,i,j,t,k _ _ (.inl U) e,c⟩
 |ins C M fs =>
  obtain⟨d,z,F,e,s,⟨m,i,j,K,c⟩,r⟩:=x;exact⟨J _ d,z,F,k _ _ (.inl U) e,s,⟨m,i,j,k _ _ (.inr d) K,c⟩,r⟩
 |own y=>obtain⟨g,e⟩:=x;exact⟨g,k _ _ (.inl U) e⟩
 |xd fs=>obtain⟨s,⟨m,i,j,e,c⟩,r⟩:=x;exact⟨s,⟨m,i,j,k _ _ (.inl U) e,c⟩,r⟩
 |rng lo hi=>obtain⟨t,u,v,e⟩:=x;exact⟨t,u,v,k _ _ (.inl U) e⟩
 |frz g u G=>obtain⟨e,q⟩:=x;exact⟨k _ _ (.inl U) e,G q⟩
 |tbl D =>
  have e:h.get? a=JH { cls:=.none,data:=.fields D }:=x;show h'.get? a=JH { cls:=.none,data:=.fields D };exact k a _ (.inl U) e
 |met f y =>
  have e:h.get? a=JH (W.methodObj (.ref f) (.ref y)):=x;show h'.get? a=JH (W.methodObj (.ref f) (.ref y));exact k a _ (.inl U) e
 |ext L=>obtain⟨p,⟨o,e⟩,B⟩:=x;exact⟨B _ _ p λo q=>k _ _ (.inl U) q,⟨o,k _ _ (.inl U) e⟩,B⟩
theorem HOk.lt(x:HOk P w H h)(e:H a=JH o):a<h.objs.size:=(x a o e).lt
theorem HOk.fresh(x:HOk P w H h)(e:h.objs.size<=a):H a=none:=by
 cases q:H a with
 |none=>rfl
 |some u=>exact JP (vF (x.lt q) e) (wh _)
theorem HOk.kept(x:HOk P w H h)(k:∀b u,h.get? b=JH u->h'.get? b=JH u):HOk P w H h':=λa o e =>
 (x a o e).stay (λb u _ q=>k b u q) (λ_ q=>q) λ_ _ q=>q
theorem HOk.laid(x:HOk P w H h)(k:∀b u,h.get? b=JH u->h'.get? b=JH u)(g:h.objs.size<=a)(new:cq P w (upd H a o) h' a o):HOk P w (upd H a o) h':=λb u e=>by
 have d:=x.fresh g;by_cases f:b=a
 .subst f;rw[ae]at e;cases e;exact new
 .rw[ay f]at e;exact(x b u e).stay (λc v _ q=>k c v q) (λc q=>by rw[ay (bc q d)];exact q) λc i q=>by rw[ay (bc q d)];exact q
end
def Rd(H:Hp)(a:DF)(u:HO):Prop:=H a=JH u\/∃o,H a=JH (.frz o u)
theorem Rd.ok{P:Dn}{w:Cu}{H:Hp}{h:DG}{a:DF}{u:HO}(r:Rd H a u)(x:HOk P w H h):cq P w H h a u:=by
 rcases r with r|⟨o,r⟩
 .exact x a u r
 .obtain⟨_,q⟩:=x a _ r;exact q
def Mut:Option HO->Prop
 |some (.lst _)=>True
 |some (.dK _)=>True
 |some (.dT _)=>True
 |some (.set _ _)=>True
 |some (.ins _ _ _)=>True
 |some (.ext _)=>True
 |_=>False
variable{x:DF}
section
variable{e:DF}{o':HO}
theorem HOk.write(ok:HOk P w H h)(f:Mut (H x))(m:e=x\/H e=JH (.own x))(k:∀b u,b≠e->h.get? b=JH u->h'.get? b=JH u)(j:∃u,h'.get? e=JH u)
  (new:cq P w (upd H x o') h' x o'):HOk P w (upd H x o') h':=λb u q=>by
 have n:∀c y,H c=JH (.own y)->c≠x:=λc y r z=>by subst z;rw[r]at f;exact f
 have p:∀c d,H c=JH (.tup d)->c≠x:=λc d r z=>by subst z;rw[r]at f;exact f
 by_cases i:b=x
 .subst i;rw[ae]at q;cases q;exact new
 .rw[ay i]at q;by_cases a:b=e
  .have l:H b=JH (.own x):=by
    rcases m with z|z
    .exact JP (a.trans z) i
    .rw[a];exact z
   rw[q]at l;cases l;obtain⟨v,o⟩:=j;exact⟨v,by rw[a];exact o⟩
  .refine(ok b u q).stay (λc v g r=>k c v ?_ r) (λc r=>by rw[ay (n c b r)];exact r) λc d r=>by rw[ay (p c d r)];exact r
   rcases g with rfl|g
   .exact a
   .rintro rfl;rcases m with z|z
    .exact n c b g z
    .rw[g]at z;cases z;exact i U
end
structure Un(fs ex:List DF)(H H':Hp)(h h':DG):Prop where
 keep:∀b o,h.get? b=JH o->H b=JI->b ∉ fs->b ∉ ex->h'.get? b=JH o
 slot:∀b o,h.get? b=JH o->H b=JI->b∈fs->b ∉ ex->∃sl,h'.get? b=JH { o with slots:=sl }
 free:∀b o,h.get? b=JH o->H b=JI->b ∉ ex->H' b=JI
 there:∀b o,h.get? b=JH o->b ∉ ex->∃o',h'.get? b=JH o'
 tups:∀b xs,H b=JH (.tup xs)->H' b=JH (.tup xs)
 frzs:∀b o u,H b=JH (.frz o u)->H' b=JH (.frz o u)
 tbls:∀b ps,H b=JH (.tbl ps)->∃more,H' b=JH (.tbl (ps++more))
section
variable{fs fs' ex ex':List DF}{H1 H2:Hp}{h1 h2:DG}{e:DF}{o:HO}
theorem Un.any(u:Un fs ex H H1 h h1){b:DF}{a:Obj}(q:h.get? b=JH a)(n:H b=JI)(c:b ∉ ex):∃e,h1.get? b=JH { a with slots:=e }:=by
 by_cases d:b∈fs
 .exact u.slot b a q n d c
 .exact⟨a.slots,u.keep b a q n d c⟩
theorem Un.kept(k:∀b u,h.get? b=JH u->h'.get? b=JH u):Un fs ex H H h h' :=
 ⟨λb a q _ _ _=>k b a q,λb a q _ _ _=>⟨a.slots,k b a q⟩,λ_ _ _ n _=>n,λb a q _=>⟨a,k b a q⟩,λ_ _ q=>q,λ_ _ _ q=>q,λ_ c q=>⟨#[],by rw[q];simp⟩⟩
theorem Un.refl:Un fs ex H H h h:=Un.kept λ_ _ q=>q
theorem Un.laid(k:∀b u,h.get? b=JH u->h'.get? b=JH u)(e:h.objs.size<=a)(c:H a=JI):Un fs ex H (upd H a o) h h' where
 keep:=λb u q _ _ _=>k b u q
 slot:=λb u q _ _ _=>⟨u.slots,k b u q⟩
 free:=λb u q n _=>by rw[ay (vE (vF (DG.lt_size q) e))];exact n
 there:=λb u q _=>⟨u,k b u q⟩
 tups:=λb d q=>by rw[ay (bc q c)];exact q
 frzs:=λb u d q=>by rw[ay (bc q c)];exact q
 tbls:=λb f q=>⟨#[],by rw[ay (bc q c),q];simp⟩
theorem Un.write(c:Mut (H x))(m:e=x\/H e=JH (.own x))(k:∀b u,b≠e->h.get? b=JH u->h'.get? b=JH u)(f:∃u,h'.get? e=JH u):Un fs ex H (upd H x o) h h':=by
 have g:∀b,H b=JI->b≠x:=λb n z=>by subst z;rw[n]at c;exact c
 have i:∀b,H b=JI->b≠e:=λb n z=>by
  subst z;rcases m with r|r
  .exact g b n r
  .rw[n]at r;cases r
 have d:∀b u,H b=JH u->¬ Mut (JH u)->b≠x:=λb u q l z=>by subst z;rw[q]at c;exact l c
 refine⟨λb u q n _ _=>k b u (i b n) q,λb u q n _ _=>⟨u.slots,k b u (i b n) q⟩,λb u q n _=>by rw[ay (g b n)];exact n,λb u q _=>?_,
  λb j q=>by rw[ay (d b _ q λz=>z)];exact q,λb u j q=>by rw[ay (d b _ q λz=>z)];exact q,λb p q=>⟨#[],by rw[ay (d b _ q λz=>z),q];simp⟩⟩
 by_cases a:b=e
 .subst a;exact f
 .exact⟨u,k b u a q⟩
end
def trk(h:DG)(H:Hp):List DF:=(List.range h.objs.size).filter λa=>(H a).isSome
def lP(h:DG)(H:Hp):DG:=W.hideAll h (trk h H)
theorem uF(h:DG)(H:Hp):(lP h H).objs.size=h.objs.size:=W.hideAll_size _ _
theorem vK{h:DG}{H:Hp}{b:DF}{o:Obj}(e:h.get? b=JH o)(n:H b=JI):(lP h H).get? b=JH o :=
 W.hideAll_get _ e λa=>by
  have q:(H b).isSome=true:=(kl.mp a).2;rw[n]at q;simp at q
theorem xW{h:DG}{H:Hp}{b:DF}{o:Obj}(e:(lP h H).get? b=JH o):h.get? b=JH o/\H b=none:=by
 have a:h.get? b=JH o:=W.of_hideAll (trk h H) e;refine⟨a,?_⟩;cases q:H b with
 |none=>rfl
 |some x =>
  have c:b∈trk h H:=kl.mpr ⟨iv.mpr (DG.lt_size a),by simp[q]⟩;have z:(lP h H).get? b=none:=W.hideAll_none (trk h H) c;rw[z]at e;cases e
def xX(g h:DG)(L:DF):List (DF×Obj):=(List.range h.objs.size).filterMap λa=>if a=L\/(g.get? a).isSome=JJ then JI else(h.get? a).map λo=>(a,o)
def rest(g h:DG)(L d:DF):List (DF×Obj):=(xX g h L).filter λp=>decide (p.1≠d)
structure Mod(K:W.Frag)(mg:Str->Option Ct)(base:DG):Prop where
 kin:K.In base
 glob:base.Ns D0 mg
 blt:∃mb,base.Ns D4 mb/\∀x:Str,x ≠ "__name__" -> mb x=D6 x
 nolimit:base.NoLimit
structure Cx where
 prog:Dn
 w:Cu
 K:W.Frag
 mg:Str->Option Ct
 base:DG
 A:D7
 N:List Str
 s₀:F7
 H₀:Hp
 env:Env
 outer:List Env
 stack:List Env
 ex:List DF
 fn:Str->Bool
 calm:Bool
 pn:List (DF×Obj)
 xe:Ct->F7->Prop
def frs(l:List Env):List DF:=l.filterMap (·.frame)
abbrev Cx.fs(X:Cx):List DF:=frs X.outer
def Vis(a:Ge)(x:Str):Prop:=a.names.lookup x=JH .local\/a.names.lookup x=JH .cell\/a.names.lookup x=JH .free
def Loc(a:Ge)(x:Str):Prop:=a.names.lookup x=JH .local\/a.names.lookup x=JH .cell
def Look(a:Env)(h:DG)(m:Str->Option Ct)(x:Str)(u:Ct):Prop :=
 (a.kindOf x=JH .local/\m x=JH u)\/((a.kindOf x=JH .cell\/a.kindOf x=JH .free)/\∃c,a.cells.lookup x=JH c/\h.IsCell c (JH u))
structure Cx.Ok(X:Cx):Prop where
 mod:Mod X.K X.mg X.base
 kind:X.env.scope.kind=.function
 glob:X.env.globals=D0
 blt:X.env.builtins=D4
 above:X.s₀.heap.objs.size<=X.env.locals
 inj:∀x y c,X.env.cells.lookup x=JH c->X.env.cells.lookup y=JH c->x=y
 has:∀x,(X.env.kindOf x=JH .cell\/X.env.kindOf x=JH .free)->∃c,X.env.cells.lookup x=JH c
 cab:∀x c,X.fn x=JJ->X.env.cells.lookup x=JH c->X.s₀.heap.objs.size<=c
 hd:X.calm=JJ->X.A.handled=JI
 frames:X.A.frames=JH X.stack
 stk:X.stack=X.outer\/(X.stack=X.env :: X.outer/\X.env.frame=JH X.env.locals)
 exf:∀b∈X.ex,b≠X.env.locals/\∀x c,X.env.cells.lookup x=JH c->c≠b
 bs:∀b o,X.base.get? b=JH o->X.s₀.heap.get? b=JH o/\X.H₀ b=JI
 bsz:X.base.objs.size<=X.s₀.heap.objs.size
 noex:∀b o,X.base.get? b=JH o->b ∉ X.ex
 exfs:∀b∈X.ex,b ∉ X.fs
 funs:X.s₀.heap.FunFrames X.base X.outer
 frf:∀b∈X.fs,X.H₀ b=JI
structure Inv(X:Cx)(JM:List (DF×Obj))(σ:List (Option V))(H:Hp)(s:F7):Prop where
 ok:X.Ok
 os:s.os=X.s₀.os
 bare:AllBare s.gens
 base:Un X.fs X.ex X.H₀ H X.s₀.heap s.heap
 loc:∃m,s.heap.Ns X.env.locals m/\∀(i:Nat)(x:Str)(v:V),X.N[i]?=JH x->σ[i]?=JH (JH v)->Vis X.env.scope x->∃u,RelV v u/\Look X.env s.heap m x u
 cell:∀x c,X.env.cells.lookup x=JH c->∃v,s.heap.IsCell c v
 free:H X.env.locals=JI
 freeC:∀x c,X.env.cells.lookup x=JH c->H c=JI
 pin:∀p∈X.pn++JM,s.heap.get? p.1=JH p.2/\H p.1=JI/\p.1≠X.env.locals/\p.1 ∉ X.fs/\∀v,p.2.data≠.cell v
 hok:HOk X.prog X.w H s.heap
 len:σ.length=X.N.length
variable{X:Cx}{JM:List (DF×Obj)}{s:F7}
section
variable{σ:List (Option V)}
theorem Cx.Ok.nofr(ok:X.Ok){b:DF}{o:Obj}(e:X.base.get? b=JH o):b ∉ X.fs:=λa=>by
 have:=(ok.funs.mem a).1;rw[e]at this;cases this
theorem Inv.bs(I:Inv X JM σ H s):∀b o,X.base.get? b=JH o->s.heap.get? b=JH o/\H b=none:=λb o e =>
 ⟨I.base.keep b o (I.ok.bs b o e).1 (I.ok.bs b o e).2 (I.ok.nofr e) (I.ok.noex b o e),I.base.free b o (I.ok.bs b o e).1 (I.ok.bs b o e).2 (I.ok.noex b o e)⟩
theorem Inv.bk(I:Inv X JM σ H s):∀b o,X.base.get? b=JH o->s.heap.get? b=JH o:=λb o e=>(I.bs b o e).1
theorem Inv.mod(I:Inv X JM σ H s):Mod X.K X.mg X.base:=I.ok.mod
theorem Inv.kIn(I:Inv X JM σ H s):X.K.In s.heap:=I.ok.mod.kin.keeps I.bk
theorem Inv.lt(I:Inv X JM σ H s):X.env.locals<s.heap.objs.size:=by obtain⟨_,a,_⟩:=I.loc;exact a.lt
theorem Inv.sz(I:Inv X JM σ H s):X.s₀.heap.objs.size<=s.heap.objs.size:=vG I.ok.above (v5 I.lt)
theorem Inv.nofs(I:Inv X JM σ H s){a:DF}(h:s.heap.objs.size<=a):a ∉ X.fs:=λc=>by
 obtain⟨_,o,b,_⟩:=I.ok.funs.mem c;exact JP (vF (DG.lt_size b) (vG I.sz h)) (wh _)
theorem Inv.cne(I:Inv X JM σ H s):∀x c,X.env.cells.lookup x=JH c->c≠X.env.locals:=λx c e z=>by
 obtain⟨v,o,d,f⟩:=I.cell x c e;obtain⟨m,⟨g,h,i,a,b,_⟩,_⟩:=I.loc;rw[z,a]at d;cases d;rw[b]at f;cases f
theorem Inv.funs(I:Inv X JM σ H s):s.heap.FunFrames X.base X.outer:=by
 have all:∀(l:List Env),(∀b∈frs l,b∈X.fs)->X.s₀.heap.FunFrames X.base l->s.heap.FunFrames X.base l:=by
  intro l;induction l with
  |nil=>intro _ _;trivial
  |cons p r g =>
   intro f k;obtain⟨m,⟨L,o,a,j,i,n⟩,h⟩:=k;have d:L∈X.fs:=f L (by unfold frs;rw[nS,a];exact dt);obtain⟨q,e⟩:=I.base.slot L o i (I.ok.frf L d) d λz=>I.ok.exfs L z d
   exact⟨m,⟨L,_,a,j,e,n⟩,g (λb c=>f b (by unfold frs;rw[nS,a];exact fG _ c)) h⟩
 exact all X.outer (λ_ c=>c) I.ok.funs
theorem Inv.stack(I:Inv X JM σ H s):s.heap.FunFrames X.base X.stack:=by
 rcases I.ok.stk with e|⟨e,b⟩
 .rw[e];exact I.funs
 .rw[e];obtain⟨m,a,_⟩:=I.loc;refine .cons (by rw[I.ok.kind];decide) b a ?_ I.funs;exact DG.get?_none_of_le (vG I.ok.bsz I.ok.above)
theorem Inv.stkSub(I:Inv X JM σ H s):∀b∈frs X.stack,b∈X.env.locals :: X.fs:=λb a=>by
 rcases I.ok.stk with e|⟨e,c⟩
 .rw[e]at a;exact fG _ a
 .rw[e]at a;unfold frs at a;rw[nS,c]at a;exact a
theorem Inv.stkFree(I:Inv X JM σ H s):∀b∈frs X.stack,H b=none:=λb a=>by
 rcases cf.mp (I.stkSub b a)with e|a
 .rw[e];exact I.free
 .obtain⟨_,o,c,_⟩:=I.ok.funs.mem a;exact I.base.free b o c (I.ok.frf b a) λz=>I.ok.exfs b z a
theorem Inv.step{g':Array Gk}{t':Nat}{d':Drawn}{ch:List DF}(I:Inv X JM σ H s)
  (g:∀b∈ch,(b∈X.ex\/X.s₀.heap.objs.size<=b)/\b≠X.env.locals/\(∀x c,X.env.cells.lookup x=JH c->c≠b)/\∀p∈X.pn++JM,p.1≠b)
  (keep:∀b o,b≠X.env.locals->b ∉ X.fs->b ∉ ch->s.heap.get? b=JH o->H b=JI->h'.get? b=JH o)
  (slot:∀b o,b≠X.env.locals->b∈X.fs->b ∉ ch->s.heap.get? b=JH o->H b=JI->∃F,h'.get? b=JH { o with slots:=F })(free:∀b o,b ∉ ch->s.heap.get? b=JH o->H b=JI->H' b=JI)
  (there:∀b o,b ∉ ch->s.heap.get? b=JH o->∃B,h'.get? b=JH B)
  (tups:∀b xs,H b=JH (.tup xs)->H' b=JH (.tup xs))(frzs:∀b o u,H b=JH (.frz o u)->H' b=JH (.frz o u))(tbls:∀b ps,H b=JH (.tbl ps)->∃E,H' b=JH (.tbl (ps++E)))
  (ns:∀m,s.heap.Ns X.env.locals m->h'.Ns X.env.locals m)(hok:HOk X.prog X.w H' h')(S:AllBare g') :
  Inv X JM σ H' { s with heap:=h',gens:=g',drawn:=d',toks:=t' }:=by
 have D:∀b o,X.s₀.heap.get? b=JH o->b≠X.env.locals:=λb o e=>vE (vF (DG.lt_size e) I.ok.above)
 have t:∀b o,X.s₀.heap.get? b=JH o->b ∉ X.ex->b ∉ ch:=λb o e a y=>by
  rcases(g b y).1 with z|z
  .exact a z
  .exact JP (vF (DG.lt_size e) z) (wh _)
 have h:∀x c,X.env.cells.lookup x=JH c->∀v,s.heap.IsCell c v->h'.IsCell c v:=λx c e v ⟨o,A,G⟩=>by
  have f:c ∉ ch:=λz=>(g c z).2.2.1 x c e U
  by_cases N:c∈X.fs
  .obtain⟨F,q⟩:=slot c o (I.cne x c e) N f A (I.freeC x c e);exact⟨_,q,G⟩
  .exact⟨o,keep c o (I.cne x c e) N f A (I.freeC x c e),G⟩
 refine⟨I.ok,I.os,S,⟨λb o e n y a=>?_,λb o e n y a=>?_,λb o e n a=>?_,λb o e a=>?_,λb xs e=>tups b xs (I.base.tups b xs e),λb o xs e=>frzs b o xs (I.base.frzs b o xs e),λb ps e=>?_⟩,?_,λx c e=>?_,?_,λx c e=>?_,λp M=>?_,hok,I.len⟩
 .exact keep b o (D b o e) y (t b o e a) (I.base.keep b o e n y a) (I.base.free b o e n a)
 .obtain⟨F,j⟩:=I.base.slot b o e n y a;obtain⟨J,C⟩:=slot b _ (D b o e) y (t b o e a) j (I.base.free b o e n a);exact⟨J,C⟩
 .obtain⟨B,j⟩:=I.base.there b o e a;exact free b B (t b o e a) j (I.base.free b o e n a)
 .obtain⟨B,j⟩:=I.base.there b o e a;exact there b B (t b o e a) j
 .obtain⟨P,j⟩:=I.base.tbls b ps e;obtain⟨O,C⟩:=tbls b _ j;exact⟨P++O,by rw[C,Array.append_assoc]⟩
 .obtain⟨m,Q,R⟩:=I.loc;refine⟨m,ns m Q,λi x v j C T=>?_⟩;obtain⟨u,r,l⟩:=R i x v j C T;refine⟨u,r,?_⟩;rcases l with l|⟨k,c,e,z⟩
  .exact .inl l
  .exact .inr ⟨k,c,e,h x c e _ z⟩
 .obtain⟨v,z⟩:=I.cell x c e;exact⟨v,h x c e v z⟩
 .obtain⟨m,⟨o,_,_,A,_⟩,_⟩:=I.loc;exact free _ o (λz=>(g _ z).2.1 U) A I.free
 .obtain⟨v,o,A,G⟩:=I.cell x c e;exact free c o (λz=>(g c z).2.2.1 x c e U) A (I.freeC x c e)
 .obtain⟨e,n,L,K,d⟩:=I.pin p M;have f:p.1 ∉ ch:=λz=>(g p.1 z).2.2.2 p M U
  exact⟨keep p.1 p.2 L K f e n,free p.1 p.2 f e n,L,K,d⟩
theorem Inv.un{t':Nat}(I:Inv X JM σ H s)(u:Un X.fs [] H H' s.heap h')(hok:HOk X.prog X.w H' h'):Inv X JM σ H' { s with heap:=h',toks:=t' }:=by
 obtain⟨m,⟨o,q,t,g,r⟩,_⟩:=id I.loc;obtain⟨k,j⟩:=u.any g I.free (by simp);exact I.step (g':=s.gens) (d':=s.drawn) (ch:=[]) (λ_ z=>nomatch z) (λb o _ c _ e n=>u.keep b o e n c (by simp)) (λb o _ c _ e n=>u.slot b o e n c (by simp)) (λb o _ e n=>u.free b o e n (by simp)) (λb o _ e=>u.there b o e (by simp)) u.tups u.frzs u.tbls (λp i=>by
  obtain⟨l,d,f,a,h⟩:=i;rw[g]at a;cases a;exact⟨_,d,f,j,h⟩) hok I.bare
theorem Inv.call{g':Array Gk}{t':Nat}{d':Drawn}{ch:List DF}(I:Inv X JM σ H s)(u:Un (frs X.stack) ch H H' s.heap h')(hok:HOk X.prog X.w H' h')(q:AllBare g')
  (f:∀b∈ch,(b∈X.ex\/X.s₀.heap.objs.size<=b)/\b≠X.env.locals/\(∀x c,X.env.cells.lookup x=JH c->c≠b)/\∀p∈X.pn++JM,p.1≠b) :
  Inv X JM σ H' { s with heap:=h',gens:=g',drawn:=d',toks:=t' }:=by
 obtain⟨m,⟨o,B,C,j,r⟩,_⟩:=id I.loc;obtain⟨v,g⟩:=u.any j I.free λz=>(f _ z).2.1 U
 exact I.step (ch:=ch) f (λb o g t a e n=>u.keep b o e n (λz=>(cf.mp (I.stkSub b z)).elim g t) a) (λb o _ _ a e n=>u.any e n a) (λb o a e n=>u.free b o e n a) (λb o a e=>u.there b o e a) u.tups u.frzs u.tbls (λA l=>by
  obtain⟨y,h,i,d,k⟩:=l;rw[j]at d;cases d;exact⟨_,h,i,g,k⟩) hok q
theorem Inv.turned{t':Nat}{it:DF}(I:Inv X JM σ H s)(k:∀b o,b≠it->s.heap.get? b=JH o->h'.get? b=JH o)(h:H it=JI)(f:it≠X.env.locals)
  (w:it∈X.ex\/X.s₀.heap.objs.size<=it)(t:∀x c,X.env.cells.lookup x=JH c->c≠it)(l:∀p∈X.pn++JM,p.1≠it):Inv X JM σ H { s with heap:=h',toks:=t' }:=by
 have d:∀b u,H b=JH u->b≠it:=λb u e z=>by rw[z,h]at e;cases e
 refine I.step (g':=s.gens) (d':=s.drawn) (ch:=[it]) (λb j=>?_) (λb o _ _ a e _=>k b o (λz=>a (by simp[z])) e) (λb o _ _ a e _=>⟨o.slots,k b o (λz=>a (by simp[z])) e⟩) (λ_ _ _ _ n=>n)
  (λb o a e=>⟨o,k b o (λz=>a (by simp[z])) e⟩) (λ_ _ e=>e) (λ_ _ _ e=>e) (λb B e=>⟨#[],by rw[e];simp⟩) (λm i=>?_) (λb u e=>?_) I.bare
 .have e:b=it:=by simpa using j
  subst e;exact⟨w,f,t,l⟩
 .obtain⟨o,y,A,g,r⟩:=i;exact⟨o,y,A,k _ o (Ne.symm f) g,r⟩
 .refine(I.hok b u e).stay (λc v a q=>k c v ?_ q) (λ_ q=>q) λ_ _ q=>q
  rcases a with z|z
  .rw[z];exact d b u e
  .exact d c _ z
theorem Inv.tok(I:Inv X JM σ H s)(t:Nat):Inv X JM σ H { s with toks:=t }:=I.un (h':=s.heap) (t':=t) Un.refl I.hok
theorem Inv.kept{t':Nat}(I:Inv X JM σ H s)(k:∀b u,s.heap.get? b=JH u->h'.get? b=JH u):Inv X JM σ H { s with heap:=h',toks:=t' }:=I.un (Un.kept k) (I.hok.kept k)
theorem Inv.laid{a:DF}{o:HO}{t':Nat}(I:Inv X JM σ H s)(k:∀b u,s.heap.get? b=JH u->h'.get? b=JH u)(c:s.heap.objs.size<=a)(new:cq X.prog X.w (upd H a o) h' a o) :
  Inv X JM σ (upd H a o) { s with heap:=h',toks:=t' }:=I.un (Un.laid k c (I.hok.fresh c)) (I.hok.laid k c new)
theorem Inv.write{x e:DF}{o:HO}{t':Nat}(I:Inv X JM σ H s)(c:Mut (H x))(d:e=x\/H e=JH (.own x))(k:∀b u,b≠e->s.heap.get? b=JH u->h'.get? b=JH u)(a:∃u,h'.get? e=JH u)
  (new:cq X.prog X.w (upd H x o) h' x o):Inv X JM σ (upd H x o) { s with heap:=h',toks:=t' }:=I.un (Un.write c d k a) (I.hok.write c d k a new)
theorem Inv.pins_of{a:List (DF×Obj)}(I:Inv X JM σ H s)(h:∀p∈a,s.heap.get? p.1=JH p.2/\H p.1=JI/\p.1≠X.env.locals/\p.1 ∉ X.fs/\∀v,p.2.data≠.cell v):Inv X a σ H s :=
 ⟨I.ok,I.os,I.bare,I.base,I.loc,I.cell,I.free,I.freeC,λp b=>(ia.mp b).elim (λz=>I.pin p (kN _ z)) (h p),I.hok,I.len⟩
theorem gX{N:List Str}(c:N.Nodup){i j:Nat}{x:Str}(a:N[i]?=JH x)(b:N[j]?=JH x):i=j:=by
 obtain⟨g,e⟩:=GA.mp a;obtain⟨f,d⟩:=GA.mp b;exact(uE c).mp (e.trans d.symm)
theorem kv{M:Gn}{A:D7}{E:Ct->F7->Prop}{i:Nat}{x:Str}{v:V}{u:Ct}{Q:Unit->F7->Prop}(I:Inv X JM σ H s)(hN:X.N.Nodup)(hi:X.N[i]?=JH x)(B:Loc X.env.scope x)(r:RelV v u)
  (h:∀s',Inv X JM (σ.set i (JH v)) H s'->(∃a,DG.SameBut a s.heap s'.heap/\(a=X.env.locals\/X.env.cells.lookup x=JH a))->Q () s')(hf:X.fn x=JJ\/X.env.scope.names.lookup x=JH .local:=by first|exact .inl U|exact .inr U|assumption):GC M A (GD X.env x u) Q E s:=by
 obtain⟨m,hn,hl⟩:=id I.loc;have Ah:(X.env.scope.kind == .class || (X.env.scope.kind == .module && X.env.locals != X.env.globals))=false:=by rw[I.ok.kind];rfl
 have F:i<σ.length:=by rw[I.len];exact(GA.mp hi).1
 have cne:=I.cne;have l:∀{a:DF}{h':DG},(∃o,s.heap.get? a=JH o/\H a=JI)->DG.SameBut a s.heap h'->HOk X.prog X.w H h':=λ{a h'} ha f b ob e=>by
  obtain⟨_,_,tL⟩:=ha;refine(I.hok b ob e).stay (λc R t q=>(f.2 c ?_).trans q) (λ_ q=>q) λ_ _ q=>q
  rintro rfl;rcases t with rfl|t
  .rw[tL]at e;cases e
  .rw[tL]at t;cases t
 rcases B with D|D
 .refine wpAny_storeName_local D hn (λh' a1 f=>?_) Ah;obtain⟨oL,_,_,a0,_⟩:=id hn;refine h _ ⟨I.ok,I.os,I.bare,⟨λb o e n J B=>?_,λb o e n J B=>?_,I.base.free,λb o e B=>?_,I.base.tups,I.base.frzs,I.base.tbls⟩,⟨_,a1,λj y W g C e3=>?_⟩,λy c e=>?_,I.free,I.freeC,λp hp=>?_,l ⟨oL,a0,I.free⟩ f,by simpa using I.len⟩ ⟨_,f,.inl U⟩
  .exact(f.2 b (vE (vF (DG.lt_size e) I.ok.above))).trans (I.base.keep b o e n J B)
  .obtain⟨Z,g⟩:=I.base.slot b o e n J B;exact⟨Z,(f.2 b (vE (vF (DG.lt_size e) I.ok.above))).trans g⟩
  .obtain⟨o',g⟩:=I.base.there b o e B;exact⟨o',(f.2 b (vE (vF (DG.lt_size e) I.ok.above))).trans g⟩
  .by_cases G:j=i
   .subst G;rw[hi]at g;cases g;rw[List.getElem?_set_self F]at C;cases C;exact⟨u,r,.inl ⟨D,by simp⟩⟩
   .rw[List.getElem?_set_ne (Ne.symm G)]at C;obtain⟨Y,r',q⟩:=hl j y W g C e3;refine⟨Y,r',?_⟩;rcases q with⟨k,e⟩|⟨k,c,e,z⟩
    .refine .inl ⟨k,?_⟩;have:y≠x:=λe=>G (gX hN g (e ▸ hi))
     simp[this,e]
    .exact .inr ⟨k,c,e,z.sameBut f (cne y c e)⟩
  .obtain⟨R,z⟩:=I.cell y c e;exact⟨R,z.sameBut f (cne y c e)⟩
  .obtain⟨e,n,S,nf,d⟩:=I.pin p hp;exact⟨(f.2 p.1 S).trans e,n,S,nf,d⟩
 .have K:X.fn x=true:=by
   rcases hf with z|z
   .exact z
   .rw[z]at D;cases D
  obtain⟨c,t⟩:=I.ok.has x (.inl D);obtain⟨R,z⟩:=I.cell x c t;refine wpAny_storeName_cell I.ok.kind D t z (λh' P f=>?_);obtain⟨oc,L,Dp⟩:=id z;refine h { s with heap:=h' } ⟨I.ok,I.os,I.bare,⟨λb o e n J B=>?_,λb o e n J B=>?_,I.base.free,λb o e B=>?_,I.base.tups,I.base.frzs,I.base.tbls⟩,⟨m,hn.sameBut f (Ne.symm (cne x c t)),λj y W g C e3=>?_⟩,λy T e=>?_,I.free,I.freeC,λp hp=>?_,l ⟨oc,L,I.freeC x c t⟩ f,by simpa using I.len⟩ ⟨c,f,.inr t⟩
  .exact(f.2 b (vE (vF (DG.lt_size e) (I.ok.cab x c K t)))).trans (I.base.keep b o e n J B)
  .obtain⟨Z,g⟩:=I.base.slot b o e n J B;exact⟨Z,(f.2 b (vE (vF (DG.lt_size e) (I.ok.cab x c K t)))).trans g⟩
  .obtain⟨o',g⟩:=I.base.there b o e B;exact⟨o',(f.2 b (vE (vF (DG.lt_size e) (I.ok.cab x c K t)))).trans g⟩
  .by_cases G:j=i
   .subst G;rw[hi]at g;cases g;rw[List.getElem?_set_self F]at C;cases C;exact⟨u,r,.inr ⟨.inl D,c,t,P⟩⟩
   .rw[List.getElem?_set_ne (Ne.symm G)]at C;obtain⟨Y,r',q⟩:=hl j y W g C e3;refine⟨Y,r',?_⟩;rcases q with q|⟨k,T,e,z'⟩
    .exact .inl q
    .refine .inr ⟨k,T,e,z'.sameBut f ?_⟩;rintro rfl;exact G (gX hN g (I.ok.inj _ _ _ e t ▸ hi))
  .by_cases O:T=c
   .subst O;exact⟨_,P⟩
   .obtain⟨w2,z2⟩:=I.cell y T e;exact⟨w2,z2.sameBut f O⟩
  .obtain⟨e,n,S,nf,d⟩:=I.pin p hp;refine⟨(f.2 p.1 ?_).trans e,n,S,nf,d⟩;intro q;rw[q,L]at e;have q':oc=p.2:=Option.some.inj e;exact d R (by rw[←q'];exact Dp)
theorem fU{M:Gn}{A:D7}{E:Ct->F7->Prop}{i:Nat}{x:Str}{v:V}{u:Ct}{Q:Unit->F7->Prop}(I:Inv X JM σ H s)(c:X.N.Nodup)(hi:X.N[i]?=JH x)(a:Loc X.env.scope x)(r:RelV v u)
  (h:∀s',Inv X JM (σ.set i (JH v)) H s'->Q () s')(b:X.fn x=JJ\/X.env.scope.names.lookup x=JH .local:=by first|exact .inl U|exact .inr U|assumption):GC M A (GD X.env x u) Q E s :=
 kv I c hi a r (λs' d _=>h s' d) b
theorem Inv.call'{s':F7}{ch:List DF}(I:Inv X JM σ H s)(f:s'.os=s.os)(u:Un (frs X.stack) ch H H' s.heap s'.heap)(hok:HOk X.prog X.w H' s'.heap)(g:AllBare s'.gens)
  (a:∀b∈ch,(b∈X.ex\/X.s₀.heap.objs.size<=b)/\b≠X.env.locals/\(∀x c,X.env.cells.lookup x=JH c->c≠b)/\∀p∈X.pn++JM,p.1≠b):Inv X JM σ H' s':=by
 obtain⟨h',g',d',t',d⟩:=s';have e:d=s.os:=f;subst e;exact I.call (g':=g') (t':=t') (d':=d') u hok g a
end
abbrev XK:=Ct->Option DF->Hp->Prop
abbrev St:=List (Option V)
abbrev VK:=V->Hp->Prop
abbrev TE:=St->Hp->VK->Prop
abbrev TT:=St->Hp->(Bool->Hp->Prop)->Prop
abbrev TA:=St->Hp->(List V->Hp->Prop)->Prop
structure Ends where
 nx:St->Hp->Prop
 rt:VK
 bk:St->Hp->Prop:=λ_ _=>False
 ct:St->Hp->Prop:=λ_ _=>False
abbrev TS:=Ends->St->Hp->Prop
def EP(X:Cx)(JM:List (DF×Obj))(a:St)(Q:VK)(u:Ct)(s':F7):Prop:=∃v H',Inv X JM a H' s'/\RelV v u/\Q v H'
def TP(X:Cx)(JM:List (DF×Obj))(a:St)(Q:Bool->Hp->Prop)(b:Bool)(s':F7):Prop:=∃H',Inv X JM a H' s'/\Q b H'
def AP(X:Cx)(JM:List (DF×Obj))(b:St)(Q:List V->Hp->Prop)(us:List Ct)(s':F7):Prop:=∃a H',Inv X JM b H' s'/\Vals a us/\Q a H'
def SP(X:Cx)(JM:List (DF×Obj))(D:Ends)(f:Flow)(s':F7):Prop :=
 match f with
 | .next=>∃a H',Inv X JM a H' s'/\D.nx a H'
 | .brk=>∃a H',Inv X JM a H' s'/\D.bk a H'
 | .cont=>∃a H',Inv X JM a H' s'/\D.ct a H'
 | .ret u=>∃v a H',Inv X JM a H' s'/\RelV v u/\D.rt v H'
def PE(X:Cx)(e:GG)(t:TE):Prop :=
 ∀(JM:List (DF×Obj))(s:F7)(a:St)(H:Hp)(Q:VK),Inv X JM a H s->t a H Q->GC (model X.prog X.w) X.A (eval e X.env) (EP X JM a Q) X.xe s
def PT(X:Cx)(e:GG)(t:TT):Prop :=
 ∀(JM:List (DF×Obj))(s:F7)(a:St)(H:Hp)(Q:Bool->Hp->Prop),Inv X JM a H s->t a H Q->GC (model X.prog X.w) X.A (GH e X.env (eval e X.env)) (TP X JM a Q) X.xe s
def PW(X:Cx)(e:GG)(t:TT):Prop :=
 ∀(a:Sem Ct)(JM:List (DF×Obj))(s:F7)(b:St)(H:Hp)(Q:Bool->Hp->Prop),Inv X JM b H s->t b H Q->GC (model X.prog X.w) X.A (GH e X.env a) (TP X JM b Q) X.xe s
theorem PW.pt{X:Cx}{e:GG}{t:TT}(h:PW X e t):PT X e t:=h _
def PA(X:Cx)(c:List GG)(t:TA):Prop :=
 ∀(b:Pos)(JM:List (DF×Obj))(s:F7)(a:St)(H:Hp)(Q:List V->Hp->Prop),Inv X JM a H s->t a H Q->GC (model X.prog X.w) X.A (spliced (GI b (GJ c X.env))) (AP X JM a Q) X.xe s
def PS(X:Cx)(st:GK)(t:TS):Prop :=
 ∀(JM:List (DF×Obj))(s:F7)(a:St)(H:Hp)(D:Ends),Inv X JM a H s->t D a H->GC (model X.prog X.w) X.A (exec st X.env) (SP X JM D) X.xe s
def PSs(X:Cx)(st:List GK)(t:TS):Prop :=
 ∀(JM:List (DF×Obj))(s:F7)(a:St)(H:Hp)(D:Ends),Inv X JM a H s->t D a H->GC (model X.prog X.w) X.A (execs st X.env) (SP X JM D) X.xe s
theorem thn{b:Type}{t:Sem b}{Q c:b->F7->Prop}{M:Gn}{A:D7}{E:Ct->F7->Prop}{s:F7}(h:GC M A t Q E s)(d:∀a s,Q a s->c a s):GC M A t c E s:=GL h d λ_ _ x=>x
variable{ta tb:TE}{pos:Pos}
section
inductive Ai(i:Nat)(σ:St)(H:Hp)(Q:VK):Prop
 |mk (v:_)(_:σ[i]?=JH (JH v))(_:Q v H)
def tC(v:V):TE:=λ_ H Q=>Q v H
theorem vL{i:Nat}{x:Str}{pos:Pos}(t:X.N[i]?=JH x)(n:Vis X.env.scope x)(d:(x == ("__debug__" : Str))=false:=by decide) (f:(x == ("__classdict__" : Str))=false:=by decide):PE X (.Name x pos) (Ai i):=by
 intro JM s k H Q I h;obtain⟨v,e,h⟩:=h;obtain⟨m,o,q⟩:=I.loc;obtain⟨u,r,l⟩:=q i x v t e n;have b:EP X JM k Q u s:=⟨v,H,I,r,h⟩;rcases l with⟨a,p⟩|⟨a,c,g,j⟩
 .exact GN (GO I.ok.kind a o p b) d
 .rcases a with a|a
  .exact GN (GP I.ok.kind a g j b) d
  .exact GN (wpAny_loadName_free I.ok.kind a g j b f) d
theorem aj{i j pos}:PE X (.Constant (.int i) j pos) (tC (.int i)):=λ_ _ _ H _ I h=>wpAny_Constant_int ⟨.int i,H,I.tok _,⟨_,U⟩,h⟩
theorem b8{b j pos}:PE X (.Constant (.bool b) j pos) (tC (.bl b)):=λ_ _ _ H _ I h=>Constant_bool ⟨.bl b,H,I,U,h⟩
theorem rK{j pos}:PE X (.Constant .none j pos) (tC .non):=λ_ _ _ H _ I h=>Constant_none ⟨.non,H,I,U,h⟩
theorem aO{x j pos}:PE X (.Constant (.str x) j pos) (tC (.str x)):=λ_ _ _ H _ I h=>Calls.Constant_str ⟨.str x,H,I.tok _,⟨_,U⟩,h⟩
def Gl(X:Cx)(x:Str):Prop:=X.env.kindOf x=JH .globalImplicit
theorem dB{E:Ct->F7->Prop}{JM:List (DF×Obj)}{s:F7}{a:St}{H:Hp}{x:Str}{u:Ct}{pos:Pos}{Q:Ct->F7->Prop}(I:Inv X JM a H s)(c:Gl X x)(b:X.mg x=JH u)(h:Q u s)
  (hd:(x == ("__debug__" : Str))=false:=by decide):GC (model X.prog X.w) X.A (eval (.Name x pos) X.env) Q E s :=
 Calls.Name_function_global I.ok.kind c (Calls.loadGlobal_global (by rw[I.ok.glob];exact I.mod.glob.keeps I.bk) b h) hd
theorem gY{E:Ct->F7->Prop}{JM:List (DF×Obj)}{s:F7}{a:St}{H:Hp}{x:Str}{u:Ct}{pos:Pos}{Q:Ct->F7->Prop}(I:Inv X JM a H s)(e:Gl X x)(d:X.mg x=JI)(b:D6 x=JH u)(h:Q u s)
  (c:x ≠ "__name__" := by decide) (hd:(x == ("__debug__" : Str))=false:=by decide):GC (model X.prog X.w) X.A (eval (.Name x pos) X.env) Q E s:=by
 obtain⟨i,g,f⟩:=I.mod.blt;exact Calls.Name_function_global I.ok.kind e (Calls.loadGlobal_builtin (by rw[I.ok.glob];exact I.mod.glob.keeps I.bk) d (by rw[I.ok.blt];exact g.keeps I.bk) ((f x c).trans b) h) hd
theorem bz{x:Str}{v:V}{u:Ct}{pos:Pos}(b:Gl X x)(a:X.mg x=JH u)(r:RelV v u)(c:(x == ("__debug__" : Str))=false:=by decide):PE X (.Name x pos) (tC v) :=
 λ_ _ _ H _ I h=>dB I b a ⟨v,H,I,r,h⟩ c
theorem dW{x:Str}{v:V}{u:Ct}{pos:Pos}(d:Gl X x)(c:X.mg x=JI)(a:D6 x=JH u)(r:RelV v u)(b:x ≠ "__name__" := by decide) (hd:(x == ("__debug__" : Str))=false:=by decide):PE X (.Name x pos) (tC v) :=
 λ_ _ _ H _ I h=>gY I d c a ⟨v,H,I,r,h⟩ b hd
variable{a b:GG}
inductive tBq  (Q:Bool->Hp->Prop)(x:V)(H1:Hp):Prop
 |mk (c:_)(_:x=.bl c)(_:Q c H1):tBq Q x H1
def tB(t:TE):TT:=λa H Q=>t a H λx b=>tBq Q x b
theorem bG{e:GG}{t:TE}(h:PE X e t)(i:∀a,GH e X.env a=(do let v ←a;GQ e.pos;holding [v] (truthy v)):=by intro _;rfl):PT X e (tB t):=by
 intro JM s b H Q I g;refine isTrue_plain (thn (h JM s b H _ I g) λv l ⟨x,k,j,c,f⟩=>?_) (i _);obtain⟨d,rfl,q⟩:=f;cases c;exact GR ⟨k,j,q⟩
variable{tA tB':TT}{rest:List GG}
def Dq(t u:TT):TT:=λa H Q=>t a H λc b=>if c=JJ then u a b Q else Q JK b
def tOr(t u:TT):TT:=λa H Q=>t a H λc b=>if c=JJ then Q JJ b else u a b Q
def Dr(t:TT):TT:=λa H Q=>t a H λc b=>Q (!c) b
theorem dX(d:PT X a tA):PW X (.BoolOp .And [a] pos) tA:=by
 intro f JM s b H Q I h;refine isTrue_and (thn (d JM s b H Q I h) λc g e=>?_);cases c with
 |true=>exact isTrue_and_nil e
 |false=>exact e
theorem d8(d:PT X a tA):PW X (.BoolOp .Or [a] pos) tA:=by
 intro f JM s b H Q I h;refine isTrue_or (thn (d JM s b H Q I h) λc g e=>?_);cases c with
 |false=>exact isTrue_or_nil e
 |true=>exact e
theorem gm(l:PT X a tA)(k:PW X (.BoolOp .And (b :: rest) pos) tB'):PW X (.BoolOp .And (a :: b :: rest) pos) (Dq tA tB'):=by
 intro i JM s d H Q I h;refine isTrue_and (thn (l JM s d H _ I h) λc j ⟨g,f,e⟩=>?_);cases c with
 |true=>exact k i JM j d g Q f e
 |false=>exact⟨g,f,e⟩
theorem fi(l:PT X a tA)(k:PW X (.BoolOp .Or (b :: rest) pos) tB'):PW X (.BoolOp .Or (a :: b :: rest) pos) (tOr tA tB'):=by
 intro i JM s d H Q I h;refine isTrue_or (thn (l JM s d H _ I h) λc j ⟨g,f,e⟩=>?_);cases c with
 |true=>exact⟨g,f,e⟩
 |false=>exact k i JM j d g Q f e
theorem bM(d:PT X a tA):PT X (.UnaryOp .Not a pos) (Dr tA):=by
 intro JM s b H Q I h;exact isTrue_not (d JM s b H (λc e=>Q (!c) e) I h)
inductive vM(tb:TE)(σ:St)(Q:VK)(x:V)(H1:Hp):Prop
 |mk (c:_)(_:x=.bl c)(_:if c=JJ then tb σ H1 Q else Q (.bl JK) H1)
def BA(ta tb:TE):TE:=λa H Q=>ta a H λx b=>vM tb a Q x b
inductive vO  (Q:VK)(x:V)(H1:Hp):Prop
 |mk (c:_)(_:x=.bl c)(_:Q (.bl (!c)) H1):vO Q x H1
def BB(ta:TE):TE:=λa H Q=>ta a H λx b=>vO Q x b
theorem kx{op} {t:TE}(h:PE X a t):PE X (.BoolOp op [a] pos) t:=λJM s b H Q I c=>BoolOp_one (h JM s b H Q I c)
theorem gZ(l:PE X a ta)(k:PE X (.BoolOp .And (b :: rest) pos) tb):PE X (.BoolOp .And (a :: b :: rest) pos) (BA ta tb):=by
 intro JM s e H Q I h;refine BoolOp_and (thn (l JM s e H _ I h) λv i ⟨x,g,f,j,d⟩=>?_);obtain⟨c,rfl,d⟩:=d;cases j;refine GR ?_;cases c with
 |true=>exact k JM i e g Q f d
 |false=>exact⟨.bl JK,g,f,U,d⟩
theorem vP(f:PE X a ta):PE X (.UnaryOp .Not a pos) (BB ta):=by
 intro JM s d H Q I h;refine UnaryOp_ (thn (f JM s d H _ I h) λv j ⟨x,i,g,e,b⟩=>?_);obtain⟨c,rfl,b⟩:=b;cases e;exact not_of (GR ⟨.bl (!c),i,g,U,b⟩)
def tIf(t:TT)(ta tb:TE):TE:=λa H Q=>t a H λc b=>if c=JJ then ta a b Q else tb a b Q
theorem qo{c:GG}(k:PT X c tA)(m:PE X a ta)(l:PE X b tb):PE X (.IfExp c a b pos) (tIf tA ta tb):=by
 intro JM s e H Q I h;refine wpAny_IfExp (thn (k JM s e H _ I h) λd f ⟨j,i,g⟩=>?_);cases d with
 |true=>exact m JM f e j Q i g
 |false=>exact l JM f e j Q i g
end
def SqL(K:W.Frag)(H:Hp)(a:DF)(xs:List V):Prop :=
 Rd H a (.lst xs) \/
  ∃(o:Obj)(b:Array Ct)(n:Nat),K.lookup a=JH o/\o.cls=.type "list" /\ o.dict=JI/\o.data=.seq b n/\b.size<=DO/\Vals xs b.toList
def SqT(K:W.Frag)(H:Hp)(a:DF)(xs:List V):Prop :=
 Rd H a (.tup xs) \/
  ∃(o:Obj)(b:Array Ct)(n:Nat),K.lookup a=JH o/\o.cls=.type "tuple" /\ o.data=.seq b n/\b.size<=DO/\Vals xs b.toList
def Ds:Ct->Option V
 | .none=>JH .non
 | .bool b=>JH (.bl b)
 | .int i _=>JH (.int i)
 | .str x _=>JH (.str x)
 | .bytes b _=>JH (.byt b)
 | .float b _=>JH (.flt b)
 | .ref a=>JH (.ref a)
 | .type n=>JH (.ty n)
 |_=>JI
theorem RelV.abs{x:V}{u:Ct}(r:RelV x u):Ds u=JH x:=by
 cases x with
 |non=>cases r;rfl
 |bl _=>cases r;rfl
 |int _=>obtain⟨t,rfl⟩:=r;rfl
 |str _=>obtain⟨t,rfl⟩:=r;rfl
 |byt _=>obtain⟨t,rfl⟩:=r;rfl
 |flt _=>obtain⟨t,rfl⟩:=r;rfl
 |ref _=>cases r;rfl
 |ty _=>cases r;rfl
theorem RelV.inj{x y:V}{u:Ct}(r:RelV x u)(q:RelV y u):x=y:=Option.some.inj (r.abs.symm.trans q.abs)
theorem Vals.inj:∀{xs ys:List V}{us:List Ct},Vals xs us->Vals ys us->xs=ys
 |_,_,_,.nil,.nil=>rfl
 |_,_,_,.cons r t,.cons r' t'=>by rw[r.inj r',Vals.inj t t']
variable{σ:St}
section
variable{xs ys:List V}
theorem SqL.of{K:W.Frag}(h:H a=JH (.lst xs)):SqL K H a xs:=.inl (.inl h)
theorem SqT.of{K:W.Frag}(h:H a=JH (.tup xs)):SqT K H a xs:=.inl (.inl h)
theorem Inv.list(I:Inv X JM σ H s)(h:SqL X.K H a xs):∃b:List Ct,Vals xs b/\PlainL s.heap a b.toArray/\xs.length<=DO:=by
 rcases h with h|⟨o,b,n,d,g,f,c,i,r⟩
 .obtain⟨z,b,n,r,e⟩:=h.ok I.hok;exact⟨b,r,⟨_,n,e,U,U,U⟩,z⟩
 .refine⟨b.toList,r,⟨o,n,I.kIn a o d,g,f,by simpa using c⟩,?_⟩;have e:=r.length;simp only[zl]at e;lia
theorem Inv.tuple(I:Inv X JM σ H s)(h:SqT X.K H a xs):∃b:List Ct,Vals xs b/\IsTup s.heap a b.toArray/\xs.length<=DO:=by
 rcases h with h|⟨o,b,n,d,f,c,g,r⟩
 .obtain⟨z,b,r,p⟩:=h.ok I.hok;exact⟨b,r,p,z⟩
 .refine⟨b.toList,r,⟨o,I.kIn a o d,f,n,by simpa using c⟩,?_⟩;have e:=r.length;simp only[zl]at e;lia
theorem Inv.list_inj(I:Inv X JM σ H s)(h:SqL X.K H a xs)(h':SqL X.K H a ys):xs=ys:=by
 obtain⟨c,r,⟨o,n,e,_,_,d⟩,_⟩:=I.list h;obtain⟨b,i,⟨k,l,f,_,_,g⟩,_⟩:=I.list h';rw[e]at f;cases f;rw[d]at g;injection g with j _;have:c=b:=by simpa using JT Array.toList j
 subst this;exact r.inj i
theorem Inv.tuple_inj(I:Inv X JM σ H s)(h:SqT X.K H a xs)(h':SqT X.K H a ys):xs=ys:=by
 obtain⟨c,r,⟨o,e,_,n,d⟩,_⟩:=I.tuple h;obtain⟨b,i,⟨k,f,_,l,g⟩,_⟩:=I.tuple h';rw[e]at f;cases f;rw[d]at g;injection g with j _;have:c=b:=by simpa using JT Array.toList j
 subst this;exact r.inj i
end
abbrev Cx.wish(X:Cx)(E:Ct->F7->Prop):Cx:={ X with xe:=E }
abbrev Cx.nox(X:Cx):Cx:=X.wish λ_ _=>False
theorem Cx.Ok.wish{X:Cx}(ok:X.Ok)(E:Ct->F7->Prop):(X.wish E).Ok :=
 ⟨ok.mod,ok.kind,ok.glob,ok.blt,ok.above,ok.inj,ok.has,ok.cab,ok.hd,ok.frames,ok.stk,ok.exf,ok.bs,ok.bsz,ok.noex,ok.exfs,ok.funs,ok.frf⟩
theorem Cx.Ok.unwish{X:Cx}{E:Ct->F7->Prop}(ok:(X.wish E).Ok):X.Ok :=
 ⟨ok.mod,ok.kind,ok.glob,ok.blt,ok.above,ok.inj,ok.has,ok.cab,ok.hd,ok.frames,ok.stk,ok.exf,ok.bs,ok.bsz,ok.noex,ok.exfs,ok.funs,ok.frf⟩
variable{E:Ct->F7->Prop}
theorem Inv.wish(I:Inv X JM σ H s)(E:Ct->F7->Prop):Inv (X.wish E) JM σ H s:=⟨I.ok.wish E,I.os,I.bare,I.base,I.loc,I.cell,I.free,I.freeC,I.pin,I.hok,I.len⟩
theorem Inv.unwish(I:Inv (X.wish E) JM σ H s):Inv X JM σ H s:=⟨I.ok.unwish,I.os,I.bare,I.base,I.loc,I.cell,I.free,I.freeC,I.pin,I.hok,I.len⟩
theorem SP.unwish{D:Ends}{f:Flow}{s':F7}(h:SP (X.wish E) JM D f s'):SP X JM D f s':=by
 cases f with
 |next=>obtain⟨a,H',I,q⟩:=h;exact⟨a,H',I.unwish,q⟩
 |brk=>obtain⟨a,H',I,q⟩:=h;exact⟨a,H',I.unwish,q⟩
 |cont=>obtain⟨a,H',I,q⟩:=h;exact⟨a,H',I.unwish,q⟩
 |ret u=>obtain⟨v,a,H',I,r,q⟩:=h;exact⟨v,a,H',I.unwish,r,q⟩
theorem PE.nox{e:GG}{t:TE}(h:PE X.nox e t):PE X e t:=λJM s σ H Q I a =>
 GL (h JM s σ H Q (I.wish _) a) (λ_ _ ⟨v,H',b,r,q⟩=>⟨v,H',b.unwish,r,q⟩) λ_ _ z=>False.elim z
theorem PSs.nox{st:List GK}{t:TS}(h:PSs X.nox st t):PSs X st t:=λJM s σ H D I a =>
 GL (h JM s σ H D (I.wish _) a) (λ_ _ q=>q.unwish) λ_ _ z=>False.elim z
variable{e:GG}{te:TE}
section
variable{st:GK}{rest:List GK}{t u:TS}
def BC:TS:=λD σ H=>D.nx σ H
def Dt(t u:TS):TS:=λD σ H=>t { D with nx:=u D } σ H
theorem aE:PSs X [] BC:=λ_ _ σ H _ I h=>GS ⟨σ,H,I,h⟩
theorem ao(d:PS X st t)(c:PSs X rest u):PSs X (st :: rest) (Dt t u):=by
 intro JM s σ H D I h;refine GU (thn (d JM s σ H { D with nx:=u D } I h) λf b q=>?_);cases f with
 |next =>
  obtain⟨a,H',e,q⟩:=q;exact c JM b a H' D e q
 |ret v=>exact q
 |brk=>exact q
 |cont=>exact q
theorem ag(a:PS X st t):PSs X [st] t:=by
 intro JM s σ H D I h;refine GU (thn (a JM s σ H D I h) λf b q=>?_);cases f with
 |next=>exact GS q
 |ret v=>exact q
 |brk=>exact q
 |cont=>exact q
theorem Inv.quiet{JM:List (DF×Obj)}{σ:St}{H:Hp}{s:F7}(I:Inv X JM σ H s):interactive X.env=false:=by simp[interactive,I.ok.kind]
def BD(te:TE):TS:=λD σ H=>te σ H λ_ a=>D.nx σ a
theorem ba(c:PE X e te)(b:GV e JI pos.line X.env=pure false:=by rfl):PS X (.Expr e pos) (BD te):=by
 intro JM s σ H D I h;exact wpAny_Expr_any (thn (c JM s σ H _ I h) λv g ⟨x,f,d,i,a⟩=>⟨σ,f,d,a⟩) I.quiet b
def Du(te:TE):TS:=λD σ H=>te σ H D.rt
theorem av(c:PE X e te):PS X (.Return (JH e) pos) (Du te):=by
 intro JM s σ H D I h;exact wpAny_Return_some (thn (c JM s σ H _ I h) λv g ⟨x,f,d,a,b⟩=>⟨x,σ,f,d,a,b⟩)
def Dv(c:TT)(t u:TS):TS:=λD σ H=>c σ H λb a=>if b=JJ then t D σ a else u D σ a
theorem aP{c:GG}{a b:List GK}{e:TT}(k:PT X c e)(m:PSs X a t)(l:PSs X b u):PS X (.If c a b pos) (Dv e t u):=by
 intro JM s σ H D I h;refine wpAny_If (thn (k JM s σ H _ I h) λd f ⟨j,i,g⟩=>?_);cases d with
 |true=>exact m JM f σ j D i g
 |false=>exact l JM f σ j D i g
def Aj:TS:=λ_ _ _=>False
theorem bV:PS X st Aj:=λ_ _ _ _ _ _ h=>h.elim
end
abbrev TG:=V->St->Hp->(St->Hp->Prop)->Prop
abbrev TGs:=List V->St->Hp->(St->Hp->Prop)->Prop
def PG(X:Cx)(a:GG)(t:TG):Prop :=
 ∀(JM:List (DF×Obj))(s:F7)(σ:St)(H:Hp)(v:V)(u:Ct)(Q:St->Hp->Prop),Inv X JM σ H s->RelV v u->t v σ H Q ->
  GC (model X.prog X.w) X.A (assign a X.env u) (λ_ c=>∃b H',Inv X JM b H' c/\Q b H') X.xe s
def PGs(X:Cx)(ts:List GG)(t:TGs):Prop :=
 ∀(JM:List (DF×Obj))(s:F7)(σ:St)(H:Hp)(b:List V)(c:List Ct)(Q:St->Hp->Prop),Inv X JM σ H s->Vals b c->t b σ H Q ->
  GC (model X.prog X.w) X.A (assignInOrder ((GW ts X.env).map (·.2)) c) (λ_ d=>∃a H',Inv X JM a H' d/\Q a H') X.xe s
abbrev Ak:=V->V->V->Hp->(Hp->Prop)->Prop
def BE(X:Cx)(t:Ak):Prop :=
 ∀(JM:List (DF×Obj))(s:F7)(σ:St)(H:Hp)(o i v:V)(a b u:Ct)(Q:Hp->Prop),Inv X JM σ H s->RelV o a->RelV i b->RelV v u->t o i v H Q ->
  GC (model X.prog X.w) X.A (setItem a b u) (λ_ c=>∃H',Inv X JM σ H' c/\Q H') X.xe s
abbrev TIp:=V->V->Hp->VK->Prop
def PIp(X:Cx)(a:GX)(t:TIp):Prop :=
 ∀(JM:List (DF×Obj))(s:F7)(σ:St)(H:Hp)(x y:V)(v u:Ct)(Q:VK),Inv X JM σ H s->RelV x v->RelV y u->t x y H Q ->
  GC (model X.prog X.w) X.A (inplaceOp a v u) (EP X JM σ Q) X.xe s
def og(i:Nat):TG:=λv σ H Q=>Q (σ.set i (JH v)) H
theorem ax{i:Nat}{x:Str}(c:X.N.Nodup)(hi:X.N[i]?=JH x)(a:Loc X.env.scope x)(b:X.fn x=JJ\/X.env.scope.names.lookup x=JH .local:=by first|exact .inl U|exact .inr U|assumption):PG X (.Name x pos) (og i):=by
 intro JM s σ H v u Q I r h;exact GY (fU I c hi a r (λe d=>⟨_,H,d,h⟩) b)
def Dw:TGs:=λa σ H Q=>a=[]/\Q σ H
def BG(t:TG)(u:TGs):TGs:=λb σ H Q=>∃v r,b=v :: r/\t v σ H λa H'=>u r a H' Q
theorem aV:PGs X [] Dw:=by
 intro JM s σ H a b Q I r h;obtain⟨e,h⟩:=h;subst e;cases r;exact assignInOrder_nil ⟨σ,H,I,h⟩
theorem az{e:GG}{a:List GG}{t:TG}{u:TGs}(j:PG X e t)(i:PGs X a u)
  (g:(GW (e :: a) X.env).map (·.2)=assign e X.env :: (GW a X.env).map (·.2):=by rfl):PGs X (e :: a) (BG t u):=by
 intro JM s σ H n p Q I r h;obtain⟨v,o,k,h⟩:=h;subst k;cases r with
 |cons r d =>
  rw[g];refine assignInOrder_cons (thn (j JM s σ H _ _ _ I r h) λ_ c ⟨b,m,l,f⟩=>?_);exact i JM c b m _ _ Q l d f
def BH(K:W.Frag)(n:Nat)(t:TGs):TG:=λv σ H Q=>∃a b,v=.ref a/\SqT K H a b/\b.length=n/\t b σ H Q
theorem cm{c:List GG}{k:Nat}{t:TGs}{n:Nat}(w:X.calm=JJ)(h:PGs X c t)
  (p:(GW c X.env).length=n:=by rfl)(f:(GW c X.env).findIdx? (·.1)=none:=by rfl):PG X (.Tuple c k pos) (BH X.K n t):=by
 intro JM s σ H v u Q I r d;obtain⟨a,i,x,m,q,d⟩:=d;subst x;cases r;obtain⟨z,g,l,A⟩:=I.tuple m;refine assign_Tuple_tuple (I.ok.hd w) l (by simp[p,←q,g.length]) f λh' j=>?_
 have y:Inv X JM σ H { s with heap:=h' }:=I.kept (t':=s.toks) λb o e=>j b o (vE (DG.lt_size e)) e
 exact h JM _ σ H i _ Q y (by simpa using g) d
def Dx(to ti:TE)(t:Ak):TG:=λv σ H Q=>to σ H λo c=>ti σ c λi b=>t o i v b λa=>Q σ a
theorem rL{o i:GG}{to ti:TE}{t:Ak}(l:PE X o to)(hi:PE X i ti)(k:BE X t)
  (m:∀v,assign (.Subscript o i pos) X.env v=(do
   let a ←holding [v] (eval o X.env)
   let b ←holding [v,a] (eval i X.env)
   GQ pos
   holding [v,a,b] (setItem a b v)
   release [v,a,b] []):=by intro _;rfl):PG X (.Subscript o i pos) (Dx to ti t):=by
 intro JM s σ H v u Q I r h;rw[m];refine BX (B6 (thn (l JM s σ H _ I h) λa c ⟨x,A,q,e,j⟩=>?_));refine BX (B6 (thn (hi JM c σ A _ q j) λb s2 ⟨y,z,p,d,g⟩=>?_));refine BX (GZ (BX (B6 (thn (k JM s2 σ z x y v a b u _ p e d r g) λ_ B ⟨w,n,f⟩=>?_))));exact wpAny_release ⟨σ,w,n,f⟩
def xY(te:TE)(g:TG):TS:=λD σ H=>te σ H λx a=>g x σ a D.nx
theorem rM{a e:GG}{te:TE}{g:TG}(k:PE X e te)(j:PG X a g)(i:swapsWithSole [a] e pos.line X.env=pure false:=by rfl)(f:swappedStores [a] e X.env=pure none:=by rfl)
  (l:(GW [a] X.env).map (·.2)=[assign a X.env]:=by rfl):PS X (.Assign [a] e pos) (xY te g):=by
 intro JM s σ H D I h;refine wpAny_Assign_stores (thn (k JM s σ H _ I h) λv b ⟨x,n,m,c,d⟩=>?_) i f;rw[l];exact thn (j JM b σ n x v _ m c d) λ_ s2 q=>q
theorem aH{i:Nat}{x:Str}{e:GG}{te:TE}{a:Pos}(k:X.N.Nodup)(hi:X.N[i]?=JH x)(d:Loc X.env.scope x)(j:PE X e te)(f:GV e (JH (.Name x a)) pos.line X.env=pure false:=by rfl)(g:X.fn x=JJ\/X.env.scope.names.lookup x=JH .local:=by first|exact .inl U|exact .inr U|assumption) :
  PS X (.Assign [.Name x a] e pos) (xY te (og i)):=by
 intro JM s σ H D I h;refine G0 (thn (j JM s σ H _ I h) λv o ⟨y,n,m,b,c⟩=>?_) f;exact fU m k hi d b (λs2 l=>⟨_,n,l,c⟩) g
inductive BI(i:Nat)(te:TE)(ti:TIp)(D:Ends)(σ:St)(H:Hp):Prop
 |mk (x:_)(_:σ[i]?=JH (JH x))(_:te σ H λy H1=>ti x y H1 λz H2=>D.nx (σ.set i (JH z)) H2)
theorem Al{i:Nat}{x:Str}{e:GG}{te:TE}{g:GX}{ti:TIp}{f:Pos}(O:X.N.Nodup)(hi:X.N[i]?=JH x)(j:Loc X.env.scope x)(L:PE X e te)(E:PIp X g ti)(K:X.fn x=JJ\/X.env.scope.names.lookup x=JH .local:=by first|exact .inl U|exact .inr U|assumption) :
  PS X (.AugAssign (.Name x f) g e pos) (BI i te ti):=by
 intro JM s σ H D I h;obtain⟨v,Q,h⟩:=h;obtain⟨m,F,J⟩:=I.loc;have n:Vis X.env.scope x:=by rcases j with k|k;exact .inl k;exact .inr (.inl k)
 obtain⟨u,r,l⟩:=J i x v hi Q n;refine wpAny_AugAssign_Name ?_;have o:GC (model X.prog X.w) X.A (eval e X.env) (λw d=>GC (model X.prog X.w) X.A (inplaceOp g u w) (λr b=>GC (model X.prog X.w) X.A (GD X.env x r) (λ_=>SP X JM D .next) X.xe b) X.xe d) X.xe s:=by
  refine thn (L JM s σ H _ I h) λw p ⟨y,W,T,t,C⟩=>?_
  refine thn (E JM p σ W v y u w _ T r t C) λz s2 ⟨Y,V,S,q,B⟩=>?_
  exact fU S O hi j q (λZ R=>⟨_,V,R,B⟩) K
 rcases l with⟨a,G⟩|⟨a,c,M,P⟩
 .exact GO I.ok.kind a F G o
 .rcases a with a|a
  .exact GP I.ok.kind a M P o
  .rcases j with k|k
   .have:X.env.scope.names.lookup x=JH .free:=a;rw[k]at this;cases this
   .have:X.env.scope.names.lookup x=JH .free:=a;rw[k]at this;cases this
def Am(c:TT)(tb:TS):TS:=λD σ H=>∃W:Nat->St->Hp->Prop,(∃m,W m σ H)/\∀m σ H,W m σ H ->
 c σ H λb e=>if b=JJ then ∃N:St->Hp->Prop,(∀a H',N a H'->∃d,d<m/\W d a H')/\tb { D with nx:=N,ct:=N,bk:=D.nx } σ e else D.nx σ e
theorem vQ{c:GG}{body:List GK}{q:TT}{tb:TS}(r:G1 (model X.prog X.w) X.A X.env X.xe)(G:PT X c q)(J:PSs X body tb):PS X (.While c body [] pos) (Am q tb):=by
 intro JM s σ H D I h;obtain⟨W,⟨F,B⟩,i⟩:=h;refine wpAny_While (codeAny_whileLoop (λn E=>∃g H',Inv X JM g H' E/\W n g H') ?_ F ⟨σ,H,I,B⟩);rintro n C ⟨d,y,K,z⟩;refine G2 r (thn (G JM C d y _ K (i n d y z)) λb s2 ⟨x,u,k⟩=>?_);cases b with
 |true =>
  obtain⟨N,t,k⟩:=k;rw[JO U];refine G2 r (thn (J JM s2 d x _ u k) λf L j=>?_);cases f with
  |next =>
   obtain⟨a,e,p,l⟩:=j;obtain⟨m,o,w3⟩:=t a e l;exact⟨m,o,a,e,p,w3⟩
  |cont =>
   obtain⟨a,e,p,l⟩:=j;obtain⟨m,o,w3⟩:=t a e l;exact⟨m,o,a,e,p,w3⟩
  |brk=>exact j
  |ret v=>exact j
 |false =>
  rw[JN Bool.false_ne_true];exact GS ⟨d,x,u,k⟩
structure It where
 go:Nat->Hp->Prop
 yld:Nat->Hp->V->Hp->Prop
 stop:Nat->Hp->Prop
def ky(X:Cx)(JM:List (DF×Obj))(H:Hp)(b:DF):Prop :=
 H b=JI/\b≠X.env.locals/\b ∉ X.fs/\(b∈X.ex\/X.s₀.heap.objs.size<=b)/\(∀x c,X.env.cells.lookup x=JH c->c≠b)/\∀p∈X.pn++JM,p.1≠b
theorem Inv.fpOk{X:Cx}{JM:List (DF×Obj)}{σ:St}{H H':Hp}{s:F7}{b:DF}(I:Inv X JM σ H s)(a:s.heap.objs.size<=b)(f:H' b=JI):ky X JM H' b:=by
 refine⟨f,vH (vF I.lt a),I.nofs a,.inr (vG I.sz a),λx c e z=>?_,λp d z=>?_⟩
 .obtain⟨v,q⟩:=I.cell x c e;exact JP (vF q.lt (by rw[z];exact a)) (wh _)
 .exact JP (vF (DG.lt_size (I.pin p d).1) (by rw[z];exact a)) (wh _)
structure Turn(P:Dn)(w:Cu)(K:W.Frag)(tg:GG)(J:It)(fp:List DF)(it:DF)(tn:Nat->DG->Prop):Prop where
 mem:it∈fp
 obj:∀i h,tn i h->∀b∈fp,∃o,h.get? b=JH o/\∀v,o.data≠.cell v
 keep:∀i h h',tn i h->(∀b∈fp,∀o,h.get? b=JH o->h'.get? b=JH o)->tn i h'
 item:∀(X:Cx),X.prog=P->X.w=w->X.K=K->X.calm=JJ->∀(i:Nat)(JM:List (DF×Obj))(s:F7)(σ:St)(H:Hp)(E:Ct->F7->Prop),Inv X JM σ H s->(∀b∈fp,ky X JM H b)->tn i s.heap->J.go i H ->
  GC (model P w) X.A (G3 (.ref it)) (λr s1=>∃u,r=JH u /\
   GC (model P w) X.A (G4 tg (.ref it) u) (λ_ s2=>∃x H',Inv X JM σ H' s2/\RelV x u/\J.yld i H x H'/\tn (i+1) s2.heap/\∀b∈fp,H' b=JI) E s1) E s
 done:∀(X:Cx),X.prog=P->X.w=w->X.K=K->X.calm=JJ->∀(i:Nat)(JM:List (DF×Obj))(s:F7)(σ:St)(H:Hp)(E:Ct->F7->Prop),Inv X JM σ H s->(∀b∈fp,ky X JM H b)->tn i s.heap->J.stop i H ->
  GC (model P w) X.A (G3 (.ref it)) (λr s1=>r=JI/\Inv X JM σ H s1) E s
 self:∀(A:D7)(i:Nat)(s:F7)(Q:Ct->F7->Prop)(E:Ct->F7->Prop),tn i s.heap->Q (.ref it) s->GC (model P w) A (G5 (.ref it)) Q E s
abbrev TI:=St->Hp->(It->Hp->Prop)->Prop
def PIE(X:Cx)(JM:List (DF×Obj))(σ:St)(e:GG)(R:It->Hp->Prop)(a:Ct)(s2:F7):Prop :=
 ∃(it:DF)(d:List DF)(c:Nat->DG->Prop)(J:It)(H':Hp),a=.ref it/\Inv X JM σ H' s2/\Turn X.prog X.w X.K e J d it c/\c 0 s2.heap/\(∀b∈d,ky X JM H' b)/\R J H'
def PI(X:Cx)(c a:GG)(b:TI):Prop :=
 ∀(JM:List (DF×Obj))(s:F7)(σ:St)(H:Hp)(R:It->Hp->Prop),Inv X JM σ H s->b σ H R ->
  GC (model X.prog X.w) X.A (eval a X.env) (λv d=>GC (model X.prog X.w) X.A (G5 v) (PIE X JM σ c R) X.xe d) X.xe s
theorem qp{M:Gn}{A:D7}{E:Ct->F7->Prop}{s:F7}{b:GG}{it:DF}{u:Ct}{o:Obj}{n:String}{vs:Array Ct}{Q:Unit->F7->Prop}(c:s.heap.get? it=JH o)(f:o.cls=.type n)(e:o.data=.fields vs)
  (d:["enumerate","zip","dict_itemiterator","dict_reverseitemiterator","odict_iterator","itertools.zip_longest","itertools.pairwise"].contains n=JK) (a:Q () s):GC M A (G4 b (.ref it) u) Q E s:=by
 unfold G4
 cases b <;> first
  |exact BY a
  |(cases u <;> first
    |exact BY a
    |(refine BX (wpAny_load c ?_);rw[f,e];show GC M A (if (["enumerate","zip","dict_itemiterator","dict_reverseitemiterator","odict_iterator","itertools.zip_longest","itertools.pairwise"].contains n && vs[0]? == JH (G6 _))=JJ then _ else _) Q E s;rw[JN (by intro h;rw[d,Bool.false_and]at h;cases h)];exact BY a))
def Itl(K:W.Frag)(a:DF):It :=
 ⟨λi H=>∃b x,SqL K H a b/\b[i]?=JH x,λi H x H'=>H'=H/\∀b,SqL K H a b->b[i]?=JH x,λi H=>∃b,SqL K H a b/\b.length<=i⟩
def Itt(K:W.Frag)(a:DF):It :=
 ⟨λi H=>∃b x,SqT K H a b/\b[i]?=JH x,λi H x H'=>H'=H/\∀b,SqT K H a b->b[i]?=JH x,λi H=>∃b,SqT K H a b/\b.length<=i⟩
def Itr(lo:Int)(n:Nat):It:=⟨λi _=>i<n,λi H x H'=>H'=H/\x=.int (lo+i),λi _=>n<=i⟩
theorem uG{P:Dn}{w:Cu}{K:W.Frag}{N:GG}(a it:DF):Turn P w K N (Itl K a) [it] it (λi h=>h.IsListIter it a i) where
 mem:=by simp
 obj:=λi h f b g=>by
  have e:b=it:=by simpa using g
  subst e;obtain⟨o,e,c,d⟩:=f;exact⟨o,e,λv z=>by rw[d]at z;cases z⟩
 keep:=λi h h' f k=>f.at λo e=>k it (by simp) o e
 item:=by
  intro X y r A L i JM s σ H E I m f t;subst y r A;obtain⟨M,x,l,q⟩:=t;obtain⟨J,n,p,R⟩:=I.list l;obtain⟨u,T,Q⟩:=n.get q;obtain⟨G,F,V,D,C,B⟩:=m it (by simp);refine wpAny_pyNext_list_item f p.isList (x:=u) (by simpa using T) λh' j O=>?_
  have Z:Inv X JM σ H { s with heap:=h' }:=I.turned (t':=s.toks) (λb o g e=>(O.2 b g).trans e) G F D C B;obtain⟨o,e,c,d⟩:=id j;exact⟨u,U,qp (s:={ s with heap:=h' }) e c d (by decide) ⟨x,H,Z,Q,⟨U,λys S=>by rw[I.list_inj S l];exact q⟩,j,λb g=>(m b g).1⟩⟩
 done:=by
  intro X y r A L i JM s σ H E I m f t;subst y r A;obtain⟨M,l,q⟩:=t;obtain⟨J,n,p,R⟩:=I.list l;obtain⟨G,F,V,D,C,B⟩:=m it (by simp);have hl:=n.length;exact wpAny_pyNext_list_end (I.ok.hd L) f p.isList (by simp;lia) λh' Y=>⟨U,I.turned (t':=s.toks) (λb o g e=>Y b o g e) G F D C B⟩
 self:=λ_ _ _ _ _ f h=>wpAny_pyIter_listiter f h
theorem rN{P:Dn}{w:Cu}{K:W.Frag}{N:GG}(a it:DF):Turn P w K N (Itt K a) [it] it (λi h=>h.IsTupleIter it a i) where
 mem:=by simp
 obj:=λi h f b g=>by
  have e:b=it:=by simpa using g
  subst e;obtain⟨o,e,c,d⟩:=f;exact⟨o,e,λv z=>by rw[d]at z;cases z⟩
 keep:=λi h h' f k=>f.at λo e=>k it (by simp) o e
 item:=by
  intro X A t B L i JM s σ H E I n f y;subst A t B;obtain⟨M,x,m,r⟩:=y;obtain⟨j,q,p,R⟩:=I.tuple m;obtain⟨u,T,Q⟩:=q.get r;obtain⟨J,G,V,F,D,C⟩:=n it (by simp);refine wpAny_pyNext_tuple_item f (show s.heap.IsTuple a j.toArray from p) (x:=u) (by simpa using T) λh' l O=>?_
  have Z:Inv X JM σ H { s with heap:=h' }:=I.turned (t':=s.toks) (λb o g e=>(O.2 b g).trans e) J G F D C;obtain⟨o,e,c,d⟩:=id l;exact⟨u,U,qp (s:={ s with heap:=h' }) e c d (by decide) ⟨x,H,Z,Q,⟨U,λys S=>by rw[I.tuple_inj S m];exact r⟩,l,λb g=>(n b g).1⟩⟩
 done:=by
  intro X A t B L i JM s σ H E I n f y;subst A t B;obtain⟨M,m,r⟩:=y;obtain⟨j,q,p,R⟩:=I.tuple m;obtain⟨J,G,V,F,D,C⟩:=n it (by simp);have hl:=q.length;exact wpAny_pyNext_tuple_end (I.ok.hd L) f (show s.heap.IsTuple a j.toArray from p) (by simp;lia) λh' Y=>⟨U,I.turned (t':=s.toks) (λb o g e=>Y b o g e) J G F D C⟩
 self:=λ_ _ _ _ _ f h=>wpAny_pyIter_tupleiter f h
theorem rO{P:Dn}{w:Cu}{K:W.Frag}{C:GG}(it:DF)(lo:Int)(n:Nat):Turn P w K C (Itr lo n) [it] it (λi h=>IsRangeIter h it (lo+(i:Nat)*1) ((n:Int)-(i:Nat)) 1) where
 mem:=by simp
 obj:=λi h a b c=>by
  have e:b=it:=by simpa using c
  subst e;exact⟨_,a,λv z=>by
   have B:Data.fields _=Data.cell v:=z;cases B⟩
 keep:=λi h h' a k=>k it (by simp) _ a
 item:=by
  intro X m g p l i JM s σ H E I f a j;subst m g p;obtain⟨y,x,G,u,r,q⟩:=f it (by simp);have W:=G7.range (prog:=X.prog) (w:=X.w) (I.ok.hd l) it lo 1 n;refine W.item i s _ _ j a λv h' A F d D=>?_
  obtain⟨t,rfl⟩:=F;have L:Inv X JM σ H { s with heap:=h',toks:=A }:=I.turned (λb o c e=>D b o (by simpa using c) e) y x u r q;refine⟨_,U,qp (s:={ s with heap:=h',toks:=A }) (n := "range_iterator") d U U (by decide) ⟨.int (lo+i),H,L,⟨t,?_⟩,⟨U,U⟩,d,λb c=>(f b c).1⟩⟩;rw[Int.mul_one]
 done:=by
  intro X m g p l i JM s σ H E I f a j;subst m g p;obtain⟨y,x,G,u,r,q⟩:=f it (by simp);exact wpAny_pyNext_range_end (I.ok.hd l) a (by have:n<=i:=j;lia) λh' J=>⟨U,I.turned (t':=s.toks) (λb o c e=>J b o c e) y x u r q⟩
 self:=λ_ _ _ _ _ a h=>wpAny_pyIter_rangeiter a h
section
variable{tg:GG}
inductive vR(K:W.Frag)(R:It->Hp->Prop)(x:V)(H1:Hp):Prop
 |mk (a:_)(_:x=.ref a)(_:(∃xs,SqL K H1 a xs))(_:R (Itl K a) H1)
def BJ(K:W.Frag)(a:TE):TI:=λσ H R=>a σ H λx b=>vR K R x b
inductive zp(K:W.Frag)(R:It->Hp->Prop)(x:V)(H1:Hp):Prop
 |mk (a:_)(_:x=.ref a)(_:(∃xs,SqT K H1 a xs))(_:R (Itt K a) H1)
def BK(K:W.Frag)(a:TE):TI:=λσ H R=>a σ H λx b=>zp K R x b
theorem aU{l:GG}{f:TE}(k:PE X l f):PI X tg l (BJ X.K f):=by
 intro JM s σ H R I h;refine thn (k JM s σ H _ I h) λv c ⟨x,n,d,g,i⟩=>?_
 obtain⟨a,e,⟨t,j⟩,q⟩:=i;subst e;cases g;obtain⟨r,u,p,w⟩:=d.list j;refine G8 p.isList ?_;refine⟨c.heap.objs.size,[c.heap.objs.size],_,_,n,U,d.kept (t':=c.toks) λb o e=>DG.get?_push_of_some _ e,uG a _,⟨_,DG.get?_push_size _ U,U,U⟩,λb m=>?_,q⟩;have e:b=c.heap.objs.size:=by simpa using m
 subst e;exact d.fpOk (vD _) (d.hok.fresh (vD _))
theorem rP{l:GG}{g:TE}(m:PE X l g):PI X tg l (BK X.K g):=by
 intro JM s σ H R I h;refine thn (m JM s σ H _ I h) λv c ⟨x,r,d,i,j⟩=>?_
 obtain⟨a,e,⟨t,k⟩,q⟩:=j;subst e;cases i;obtain⟨f,u,p,w⟩:=d.tuple k;refine wpAny_pyIter_tuple (show c.heap.IsTuple a f.toArray from p) ?_;refine⟨c.heap.objs.size,[c.heap.objs.size],_,_,r,U,d.kept (t':=c.toks) λb o e=>DG.get?_push_of_some _ e,rN a _,⟨_,DG.get?_push_size _ U,U,U⟩,λb n=>?_,q⟩;have e:b=c.heap.objs.size:=by simpa using n
 subst e;exact d.fpOk (vD _) (d.hok.fresh (vD _))
theorem vS{JM:List (DF×Obj)}{σ:St}{H:Hp}{s:F7}{R:It->Hp->Prop}{E:Ct->F7->Prop}{lo hi:Int}{t u v:Tok}{a:Nat}(I:Inv X JM σ H s)(i : -(2^62)<=lo)(h:lo<2^62)(g : -(2^62)<=hi)(f:hi<2^62)
  (q:R (Itr lo (hi-lo).toNat) H):GC (model X.prog X.w) X.A (G5 (.ref s.heap.objs.size)) (PIE X JM σ tg R) E { s with heap:=s.heap.push { cls:=.type "range",data:=.fields #[.int lo t,.int hi u,.int 1 v] },toks:=a }:=by
 refine wpAny_pyIter_range (IsRange.new ..) (small_one i h g f) ?_;have c:Inv X JM σ H { s with heap:=s.heap.push { cls:=.type "range",data:=.fields #[.int lo t,.int hi u,.int 1 v] },toks:=a }:=I.kept λb o e=>DG.get?_push_of_some _ e
 refine⟨(s.heap.push { cls:=.type "range",data:=.fields #[.int lo t,.int hi u,.int 1 v] }).objs.size,[(s.heap.push { cls:=.type "range",data:=.fields #[.int lo t,.int hi u,.int 1 v] }).objs.size],_,_,H,U,
  c.kept (t':=a) λb o e=>DG.get?_push_of_some _ e,rO _ lo (hi-lo).toNat,?_,λb d=>?_,q⟩
 .have k:lo+((0:Nat):Int)*1=lo:=by simp
  have j:(((hi-lo).toNat:Nat):Int)-((0:Nat):Int)=G9.Range.rangeSize lo hi 1:=by rw[rangeSize_one];split <;> lia
  show IsRangeIter _ _ (lo+((0:Nat):Int)*1) ((((hi-lo).toNat:Nat):Int)-((0:Nat):Int)) 1;rw[k,j];exact DG.get?_push_size _ U
 .have e:b=(s.heap.push { cls:=.type "range",data:=.fields #[.int lo t,.int hi u,.int 1 v] }).objs.size:=by simpa using d
  subst e;exact c.fpOk (vD _) (c.hok.fresh (vD _))
inductive vT  (R:It->Hp->Prop)(vs:List V)(H1:Hp):Prop
 |mk (j:Int)(_:vs=[.int j])(_ : -(2^62)<=j)(_:j<2^62)(_:R (Itr 0 j.toNat) H1):vT R vs H1
def BL(ta:TA):TI:=λσ H R=>ta σ H λa b=>vT R a b
theorem cX{a:GG}{ta:TA}{p pos:Pos}(i:Gl X "range") (hm:X.mg "range" = JI) (k:PA X [a] ta)(g:GJ [a] X.env=[(JK,eval a X.env)]:=by rfl):PI X tg (.Call (.Name "range" p) [a] [] pos) (BL ta):=by
 intro JM s σ H R I h;refine Call_ (gY I i hm boot_range (PyProof.Rows.callWith_type1 (thn (k pos JM s σ H _ I h) λn o ⟨m,u,l,d,b⟩=>?_) g U));obtain⟨j,e,b,f,q⟩:=b;subst e;cases d with
 |cons r c =>
  cases c;obtain⟨t,rfl⟩:=r;exact call_range_1 (vS l (by lia) (by lia) b f (by simpa using q))
def Dy(d:TI)(g:TG)(tb:TS):TS:=λD σ H=>d σ H λJ f=>∃W:Nat->Nat->St->Hp->Prop,(∃m,W 0 m σ f)/\∀i m σ H,W i m σ H ->
 (J.stop i H/\D.nx σ H)\/(J.go i H/\∃N:St->Hp->Prop,(∀a H',N a H'->∃c,c<m/\W (i+1) c a H')/\∀x H',J.yld i H x H'->g x σ H' λb e=>tb { D with nx:=N,ct:=N,bk:=D.nx } b e)
def kz(a:List DF)(h:DG):List (DF×Obj):=a.filterMap λb=>(h.get? b).map λo=>(b,o)
theorem dq{a:List DF}{h:DG}{b:DF}{o:Obj}(c:b∈a)(e:h.get? b=JH o):(b,o)∈kz a h:=List.mem_filterMap.mpr ⟨b,c,by rw[e];rfl⟩
theorem uH{a:List DF}{h:DG}{p:DF×Obj}(c:p∈kz a h):p.1∈a/\h.get? p.1=JH p.2:=by
 obtain⟨b,d,e⟩:=List.mem_filterMap.mp c;cases q:h.get? b with
 |none=>rw[q]at e;cases e
 |some o =>
  rw[q]at e;have f:(b,o)=p:=Option.some.inj e;subst f;exact⟨d,q⟩
theorem Inv.pinned{JM:List (DF×Obj)}{σ:St}{H:Hp}{s:F7}{a:List DF}(I:Inv X JM σ H s)(i:∀b∈a,ky X JM H b)(h:∀b∈a,∃o,s.heap.get? b=JH o/\∀v,o.data≠.cell v):Inv X (JM++kz a s.heap) σ H s :=
 I.pins_of λp g=>(ia.mp g).elim (λz=>I.pin p (jE _ z)) λz=>by
  obtain⟨c,e⟩:=uH z;obtain⟨l,k,j,_⟩:=i p.1 c;obtain⟨o,f,d⟩:=h p.1 c;rw[e]at f;cases f;exact⟨e,l,k,j,d⟩
theorem Inv.unpinned{JM pl:List (DF×Obj)}{σ:St}{H:Hp}{s:F7}(I:Inv X (JM++pl) σ H s):Inv X JM σ H s:=I.pins_of λp a=>I.pin p (jE _ (kN _ a))
theorem bh{q:GG}{body:List GK}{Y:TI}{g:TG}{tb:TS}{pos:Pos}(B:G1 (model X.prog X.w) X.A X.env X.xe)(hc:X.calm=JJ)(hi:PI X tg q Y)(hg:PG X tg g)(c:PSs X body tb)
  (hs:∀x,Ha q X.env x=pure x:=by intro _;rfl):PS X (.For tg q body [] pos) (Dy Y g tb):=by
 intro JM s σ H D I h;refine wpAny_For (thn (hi JM s σ H _ I h) λv s1 h1=>thn h1 λa0 s2 h2=>?_) hs;obtain⟨it,C,Z,J,H2,e,I2,T,R,f2,W,⟨m0,w0⟩,G⟩:=h2;subst e;have P:∀{H':Hp},(∀b∈C,H' b=JI)->∀b∈C,ky X JM H' b:=λhn b c=>⟨hn b c,(f2 b c).2⟩
 refine codeAny_forLoop_any (λn s'=>∃i p H',Inv X JM p H' s'/\Z i s'.heap/\(∀b∈C,H' b=JI)/\W i n p H') ?_ m0 ⟨0,σ,H2,I2,R,λb c=>(f2 b c).1,w0⟩;rintro n s3 ⟨i,l,L,I3,E,F,w3⟩;rcases G i n l L w3 with⟨K,qn⟩|⟨go,N,hN,step⟩
 .refine G2 B (thn (T.done X U U U hc i JM s3 l L X.xe I3 (P F) E K) λr s4 ⟨O,I4⟩=>?_);subst O;exact GS ⟨l,L,I4,qn⟩
 .refine G2 B (thn (T.item X U U U hc i JM s3 l L X.xe I3 (P F) E go) λr s4 ⟨u,O,h4⟩=>?_);subst O;refine G2 B (thn h4 λ_ s5 ⟨x,H5,I5,r5,y5,y,S⟩=>?_);have V:=I5.pinned (P S) (T.obj _ _ y);refine G2 B (thn (hg _ s5 l H5 x u _ V r5 (step x H5 y5)) λ_ s6 ⟨Q,H6,I6,q6⟩=>?_);refine G2 B (thn (c _ s6 Q H6 _ I6 q6) λf M t=>?_);have again:∀{a:St}{k:Hp},Inv X (JM++kz C s5.heap) a k M->N a k->∃m,m<n/\∃i p H',Inv X JM p H' M/\Z i M.heap/\(∀b∈C,H' b=JI)/\W i m p H':=λ{a k} j z=>by
   obtain⟨m',hm,w7⟩:=hN a k z;refine⟨m',hm,i+1,a,k,j.unpinned,T.keep _ _ _ y λb c o e=>(j.pin (b,o) (jE _ (jE _ (dq c e)))).1,λb c=>?_,w7⟩;obtain⟨o,e,d⟩:=T.obj _ _ y b c;exact(j.pin (b,o) (jE _ (jE _ (dq c e)))).2.1
  cases f with
  |next=>obtain⟨a,k,j,z⟩:=t;exact again j z
  |cont=>obtain⟨a,k,j,z⟩:=t;exact again j z
  |brk=>obtain⟨a,k,j,t⟩:=t;exact⟨a,k,j.unpinned,t⟩
  |ret v=>obtain⟨x7,a,k,j,r7,t⟩:=t;exact⟨x7,a,k,j.unpinned,r7,t⟩
end
theorem bx{K:W.Frag}{a:DF}{xs:List V}{g:TG}{tb:TS}{D:Ends}{σ:St}{H:Hp}(b:Nat->St->Hp->Prop)(r:b 0 σ H)(n:∀i σ H,i<=xs.length->b i σ H->SqL K H a xs)
  (l:∀i x σ H,xs[i]?=JH x->b i σ H->g x σ H λc h=>tb { D with nx:=b (i+1),ct:=b (i+1),bk:=D.nx } c h)(o:∀σ H,b xs.length σ H->D.nx σ H) :
  ∃W:Nat->Nat->St->Hp->Prop,(∃m,W 0 m σ H)/\∀i m σ H,W i m σ H ->
   ((Itl K a).stop i H/\D.nx σ H)\/((Itl K a).go i H/\∃N:St->Hp->Prop,(∀d H',N d H'->∃j,j<m/\W (i+1) j d H')/\∀x H',(Itl K a).yld i H x H'->g x σ H' λc h=>tb { D with nx:=N,ct:=N,bk:=D.nx } c h):=by
 refine⟨λi m σ H=>m=xs.length-i/\i<=xs.length/\b i σ H,⟨xs.length,by simp,vI _,r⟩,?_⟩;rintro i m σ H ⟨rfl,hi,p⟩;have q:=n i σ H hi p;by_cases f:i<xs.length
 .refine .inr ⟨⟨xs,xs[i],q,by simp[f]⟩,b (i+1),λd H' k=>⟨xs.length-(i+1),by lia,U,f,k⟩,λx H' y=>?_⟩;obtain⟨e,y⟩:=y;subst e;exact l i x σ _ (y xs q) p
 .have e:i=xs.length:=by lia
  subst e;exact .inl ⟨⟨xs,q,vD _⟩,o σ H p⟩
theorem xZ{K:W.Frag}{a:DF}{xs:List V}{g:TG}{tb:TS}{D:Ends}{σ:St}{H:Hp}(b:Nat->St->Hp->Prop)(r:b 0 σ H)(n:∀i σ H,i<=xs.length->b i σ H->SqT K H a xs)
  (l:∀i x σ H,xs[i]?=JH x->b i σ H->g x σ H λc h=>tb { D with nx:=b (i+1),ct:=b (i+1),bk:=D.nx } c h)(o:∀σ H,b xs.length σ H->D.nx σ H) :
  ∃W:Nat->Nat->St->Hp->Prop,(∃m,W 0 m σ H)/\∀i m σ H,W i m σ H ->
   ((Itt K a).stop i H/\D.nx σ H)\/((Itt K a).go i H/\∃N:St->Hp->Prop,(∀d H',N d H'->∃j,j<m/\W (i+1) j d H')/\∀x H',(Itt K a).yld i H x H'->g x σ H' λc h=>tb { D with nx:=N,ct:=N,bk:=D.nx } c h):=by
 refine⟨λi m σ H=>m=xs.length-i/\i<=xs.length/\b i σ H,⟨xs.length,by simp,vI _,r⟩,?_⟩;rintro i m σ H ⟨rfl,hi,p⟩;have q:=n i σ H hi p;by_cases f:i<xs.length
 .refine .inr ⟨⟨xs,xs[i],q,by simp[f]⟩,b (i+1),λd H' k=>⟨xs.length-(i+1),by lia,U,f,k⟩,λx H' y=>?_⟩;obtain⟨e,y⟩:=y;subst e;exact l i x σ _ (y xs q) p
 .have e:i=xs.length:=by lia
  subst e;exact .inl ⟨⟨xs,q,vD _⟩,o σ H p⟩
theorem kA{lo:Int}{n:Nat}{g:TG}{tb:TS}{D:Ends}{σ:St}{H:Hp}(a:Nat->St->Hp->Prop)(o:a 0 σ H)
  (k:∀i σ H,i<n->a i σ H->g (.int (lo+i)) σ H λb f=>tb { D with nx:=a (i+1),ct:=a (i+1),bk:=D.nx } b f)(l:∀σ H,a n σ H->D.nx σ H) :
  ∃W:Nat->Nat->St->Hp->Prop,(∃m,W 0 m σ H)/\∀i m σ H,W i m σ H ->
   ((Itr lo n).stop i H/\D.nx σ H)\/((Itr lo n).go i H/\∃N:St->Hp->Prop,(∀c H',N c H'->∃h,h<m/\W (i+1) h c H')/\∀x H',(Itr lo n).yld i H x H'->g x σ H' λb f=>tb { D with nx:=N,ct:=N,bk:=D.nx } b f):=by
 refine⟨λi m σ H=>m=n-i/\i<=n/\a i σ H,⟨n,by simp,vI _,o⟩,?_⟩;rintro i m σ H ⟨rfl,hi,p⟩;by_cases d:i<n
 .refine .inr ⟨d,a (i+1),λc H' j=>⟨n-(i+1),by lia,U,d,j⟩,λx H' y=>?_⟩;obtain⟨e,y⟩:=y;subst e y;exact k i σ _ d p
 .have e:i=n:=by lia
  subst e;exact .inl ⟨vD _,l σ H p⟩
abbrev R2:=V->V->Hp->VK->Prop
def OpR(X:Cx)(f:Ct->Ct->Sem Ct)(r:R2):Prop :=
 ∀(JM:List (DF×Obj))(s:F7)(σ:St)(H:Hp)(x y:V)(v u:Ct)(Q:VK),Inv X JM σ H s->RelV x v->RelV y u->r x y H Q ->
  GC (model X.prog X.w) X.A (f v u) (EP X JM σ Q) X.xe s
def UnR(X:Cx)(f:Ct->Sem Ct)(r:V->Hp->VK->Prop):Prop :=
 ∀(JM:List (DF×Obj))(s:F7)(σ:St)(H:Hp)(x:V)(v:Ct)(Q:VK),Inv X JM σ H s->RelV x v->r x H Q ->
  GC (model X.prog X.w) X.A (f v) (EP X JM σ Q) X.xe s
def cP(X:Cx)(f:Ct)(r:List V->Hp->VK->Prop):Prop :=
 ∀(JM:List (DF×Obj))(s:F7)(σ:St)(H:Hp)(a:List V)(b:List Ct)(Q:VK),Inv X JM σ H s->Vals a b->r a H Q ->
  GC (model X.prog X.w) X.A (call f b) (EP X JM σ Q) X.xe s
def Dz(X:Cx)(r:V->Hp->(Bool->Hp->Prop)->Prop):Prop :=
 ∀(JM:List (DF×Obj))(s:F7)(σ:St)(H:Hp)(x:V)(v:Ct)(Q:Bool->Hp->Prop),Inv X JM σ H s->RelV x v->r x H Q ->
  GC (model X.prog X.w) X.A (truthy v) (TP X JM σ Q) X.xe s
def tOp(r:R2)(ta tb:TE):TE:=λσ H Q=>ta σ H λx b=>tb σ b λy a=>r x y a Q
def tUn(r:V->Hp->VK->Prop)(ta:TE):TE:=λσ H Q=>ta σ H λx a=>r x a Q
inductive rI(C:Int->Int->Prop)(g:Int->Int->V)(x:V)(y:V)(H:Hp)(Q:VK):Prop
 |mk (i j:_)(_:x=.int i)(_:y=.int j)(_:C i j)(_:Q (g i j) H)
inductive rI0(g:Int->Int->V)(x:V)(y:V)(H:Hp)(Q:VK):Prop
 |mk (i j:_)(_:x=.int i)(_:y=.int j)(_:Q (g i j) H)
inductive rU(g:Int->V)(x:V)(H:Hp)(Q:VK):Prop
 |mk (i:_)(_:x=.int i)(_:Q (g i) H)
section
variable{a b c:GG}{tc:TE}
theorem Ao(o:PE X a ta)(n:PE X b tb){JM:List (DF×Obj)}{s:F7}{σ:St}{H:Hp}{R:V->V->Hp->Prop}(I:Inv X JM σ H s)
  (h:ta σ H λx g=>tb σ g λy c=>R x y c){Q:Ct->F7->Prop}{f:Ct->Ct->Sem Ct}
  (hf:∀v u s2 x y c,Inv X JM σ c s2->RelV x v->RelV y u->R x y c->GC (model X.prog X.w) X.A (f v u) Q X.xe s2) :
  GC (model X.prog X.w) X.A (eval a X.env) (λv e=>GC (model X.prog X.w) X.A (eval b X.env) (λu d=>GC (model X.prog X.w) X.A (f v u) Q X.xe d) X.xe e) X.xe s:=by
 refine thn (o JM s σ H _ I h) λv i ⟨x,g,q,k,m⟩=>?_
 refine thn (n JM i σ g _ q m) λu s2 ⟨y,c,p,j,l⟩=>?_
 exact hf v u s2 x y c p k j l
theorem aw{c:GX}{r:R2}(f:OpR X (Hb c) r)(i:PE X a ta)(g:PE X b tb):PE X (.BinOp a c b pos) (tOp r ta tb):=by
 intro JM s σ H Q I h;exact wpAny_BinOp (Ao i g I h λv u s2 x y k j e d q=>f JM s2 σ k x y v u Q j e d q)
theorem kX{b:UnaryOp}{r:V->Hp->VK->Prop}(f:UnR X (unaryOp b) r)(g:PE X a ta):PE X (.UnaryOp b a pos) (tUn r ta):=by
 intro JM s σ H Q I h;exact UnaryOp_ (thn (g JM s σ H _ I h) λv c ⟨x,j,i,d,e⟩=>f JM c σ j x v Q i d e)
theorem opI{f:Ct->Ct->Sem Ct}{C:Int->Int->Prop}{g:Int->Int->Int}
  (rule:∀(i j:Int)(t u:Tok)(s:F7)(Q:Ct->F7->Prop)(E:Ct->F7->Prop),C i j->Q (.int (g i j) s.toks) { s with toks:=s.toks+1 }->GC (model X.prog X.w) X.A (f (.int i t) (.int j u)) Q E s) :
  OpR X f (rI C λi j=>.int (g i j)):=by
 intro JM s σ H x y v u Q I c b h;obtain⟨i,j,rfl,rfl,d,q⟩:=h;obtain⟨t,rfl⟩:=c;obtain⟨a,rfl⟩:=b;exact rule i j t a s _ _ d ⟨.int (g i j),H,I.tok _,⟨_,U⟩,q⟩
theorem Ap{f:Ct->Ct->Sem Ct}{g:Int->Int->Int}
  (rule:∀(i j:Int)(t u:Tok)(s:F7)(Q:Ct->F7->Prop)(E:Ct->F7->Prop),Q (.int (g i j) s.toks) { s with toks:=s.toks+1 }->GC (model X.prog X.w) X.A (f (.int i t) (.int j u)) Q E s) :
  OpR X f (rI0 λi j=>.int (g i j)):=by
 intro JM s σ H x y v u Q I c b h;obtain⟨i,j,rfl,rfl,q⟩:=h;obtain⟨t,rfl⟩:=c;obtain⟨a,rfl⟩:=b;exact rule i j t a s _ _ ⟨.int (g i j),H,I.tok _,⟨_,U⟩,q⟩
theorem Aq{f:Ct->Ct->Sem Ct}{g:Int->Int->Bool}
  (rule:∀(i j:Int)(t u:Tok)(s:F7)(Q:Ct->F7->Prop)(E:Ct->F7->Prop),Q (.bool (g i j)) s->GC (model X.prog X.w) X.A (f (.int i t) (.int j u)) Q E s) :
  OpR X f (rI0 λi j=>.bl (g i j)):=by
 intro JM s σ H x y v u Q I c b h;obtain⟨i,j,rfl,rfl,q⟩:=h;obtain⟨t,rfl⟩:=c;obtain⟨a,rfl⟩:=b;exact rule i j t a s _ _ ⟨.bl (g i j),H,I,U,q⟩
def DA(i j:Int):Prop:=0<j/\j<1073741824
def BM(i j:Int):Prop:=0<=j/\j<=1000000/\i.natAbs<2^64
def ya(i j:Int):Prop:=(-(2^64)<i/\i<2^64)\/(-(2^64)<j/\j<2^64)
theorem ya.ok{i j:Int}(h:ya i j):Hc i j:=by
 rcases h with⟨b,a⟩|⟨b,a⟩
 .exact .of_left (Hd b a)
 .exact .of_right (Hd b a)
theorem rQ(k:Nat):(0:Int)<=2^k:=by
 rw[two_pow_cast];exact Int.natCast_nonneg _
theorem bH:OpR X (Hb .Add) (rI0 λi j=>.int (i+j)):=Ap λ_ _ _ _ _ _ _ q=>add_int q
theorem d9:OpR X (Hb .Sub) (rI0 λi j=>.int (i-j)):=Ap λ_ _ _ _ _ _ _ q=>sub_int q
theorem pq:OpR X (Hb .Mult) (rI ya λi j=>.int (i*j)):=opI λ_ _ _ _ _ _ _ a q=>mul_int q a.ok
theorem bB:OpR X (Hb .FloorDiv) (rI DA λi j=>.int (i / j)):=opI λi j _ _ _ _ _ a q=>by
 have c:(0:Int)<j:=a.1;have b:j<1073741824:=a.2;exact floordiv_int (by lia) (by rw[Int.fdiv_eq_ediv_of_nonneg i (by lia)];exact q) (.inl (PyProof.noPylong_small (by lia)))
theorem aW:OpR X (Hb .Mod) (rI (λ_ j=>0<j) λi j=>.int (i%j)):=opI λi j _ _ _ _ _ a q=>by
 have b:(0:Int)<j:=a;exact mod_int' (by lia) (by rw[Int.fmod_eq_emod_of_nonneg i (by lia)];exact q)
theorem kB:OpR X (Hb .Pow) (rI BM λi j=>.int (i^j.toNat)):=opI λ_ _ _ _ _ _ _ a q=>pow_int_small a.1 a.2.1 a.2.2 q
theorem vU:OpR X (Hb .LShift) (rI BM λi j=>.int (i*2^j.toNat)):=opI λ_ _ _ _ _ _ _ a q=>lshift_int_small a.1 a.2.1 a.2.2 q
theorem pA:OpR X (Hb .RShift) (rI (λ_ j=>0<=j) λi j=>.int (i / 2^j.toNat)):=opI λi j _ _ _ _ _ a q =>
 rshift_int a (by rw[Int.fdiv_eq_ediv_of_nonneg i (rQ _)];exact q)
theorem pB:OpR X (Hb .BitAnd) (rI0 λi j=>.int (G9.bitAnd i j)):=Ap λ_ _ _ _ _ _ _ q=>and_int q
theorem unI{f:Ct->Sem Ct}{g:Int->Int}
  (rule:∀(i:Int)(t:Tok)(s:F7)(Q:Ct->F7->Prop)(E:Ct->F7->Prop),Q (.int (g i) s.toks) { s with toks:=s.toks+1 }->GC (model X.prog X.w) X.A (f (.int i t)) Q E s) :
  UnR X f (rU λi=>.int (g i)):=by
 intro JM s σ H x v Q I a h;obtain⟨i,rfl,q⟩:=h;obtain⟨t,rfl⟩:=a;exact rule i t s _ _ ⟨.int (g i),H,I.tok _,⟨_,U⟩,q⟩
theorem hU:UnR X (unaryOp .USub) (rU λi=>.int (-i)):=unI λ_ _ _ _ _ q=>neg_int q
end
def BN:V->V->Bool
 | .non,.non=>JJ | .non,.int _=>JJ | .int _,.non=>JJ | .non,.bl _=>JJ | .bl _,.non=>JJ | .non,.str _=>JJ | .str _,.non=>JJ
 | .int _,.int _=>JJ | .bl _,.bl _=>JJ | .str _,.str _=>JJ | .byt _,.byt _=>JJ
 | .int _,.str _=>JJ | .str _,.int _=>JJ | .bl _,.str _=>JJ | .str _,.bl _=>JJ
 |_,_=>JK
def rEq:R2:=λx y H Q=>BN x y=JJ/\Q (.bl (JL (x=y))) H
def rNe:R2:=λx y H Q=>BN x y=JJ/\Q (.bl (!JL (x=y))) H
theorem tM{i j:Int}:decide (V.int i=V.int j)=(i == j):=by
 rw[Bool.eq_iff_iff];simp
theorem vV{i j:Bool}:decide (V.bl i=V.bl j)=(i == j):=by
 rw[Bool.eq_iff_iff];simp
theorem tN{i j:Str}:decide (V.str i=V.str j)=(i == j):=by
 rw[Bool.eq_iff_iff];simp
theorem tO{i j:Array UInt8}:decide (V.byt i=V.byt j)=(i.toList == j.toList):=by
 rw[Bool.eq_iff_iff];cases i;cases j;simp
section
variable{a b c:GG}{tc:TE}
theorem bf{JM:List (DF×Obj)}{σ:St}{H:Hp}{s:F7}{Q:VK}{k a:Bool}(I:Inv X JM σ H s)(q:Q (.bl k) H)(e:k=a):EP X JM σ Q (.bool a) s:=by
 subst e;exact⟨.bl k,H,I,U,q⟩
theorem cc:OpR X (He .Eq) rEq:=by
 intro JM s σ H x y v u Q I d a h;obtain⟨c,q⟩:=h;cases x with
 |non =>
  cases d;cases y with
  |non=>cases a;exact PySem.EqNone.eq_none_none (bf I q (by simp))
  |bl j=>cases a;exact PySem.EqNone.eq_none_bool (bf I q (by simp))
  |int j=>obtain⟨b,rfl⟩:=a;exact PySem.EqNone.eq_none_int (bf I q (by simp))
  |str j=>obtain⟨b,rfl⟩:=a;exact PySem.EqNone.eq_none_str (bf I q (by simp))
  |_=>exact JP (show JK=JJ from c) Bool.false_ne_true
 |bl i =>
  cases d;cases y with
  |non=>cases a;exact PySem.EqNone.eq_bool_none (bf I q (by simp))
  |bl j=>cases a;exact eq_bool (bf I q vV)
  |str j=>obtain⟨b,rfl⟩:=a;exact PySem.EqMixed.eq_bool_str (bf I q (by simp))
  |_=>exact JP (show JK=JJ from c) Bool.false_ne_true
 |int i =>
  obtain⟨t,rfl⟩:=d;cases y with
  |non=>cases a;exact PySem.EqNone.eq_int_none (bf I q (by simp))
  |int j=>obtain⟨b,rfl⟩:=a;exact eq_int (bf I q tM)
  |str j=>obtain⟨b,rfl⟩:=a;exact PySem.EqMixed.eq_int_str (bf I q (by simp))
  |_=>exact JP (show JK=JJ from c) Bool.false_ne_true
 |str i =>
  obtain⟨t,rfl⟩:=d;cases y with
  |non=>cases a;exact PySem.EqNone.eq_str_none (bf I q (by simp))
  |bl j=>cases a;exact PySem.EqMixed.eq_str_bool (bf I q (by simp))
  |int j=>obtain⟨b,rfl⟩:=a;exact PySem.EqMixed.eq_str_int (bf I q (by simp))
  |str j=>obtain⟨b,rfl⟩:=a;exact eq_str (bf I q tN)
  |_=>exact JP (show JK=JJ from c) Bool.false_ne_true
 |byt i =>
  obtain⟨t,rfl⟩:=d;cases y with
  |byt j=>obtain⟨b,rfl⟩:=a;exact W.eq_bytes (bf I q tO)
  |_=>exact JP (show JK=JJ from c) Bool.false_ne_true
 |_=>cases y <;> exact JP (show JK=JJ from c) Bool.false_ne_true
theorem jd:OpR X (He .NotEq) rNe:=by
 intro JM s σ H x y v u Q I d a h;obtain⟨c,q⟩:=h;cases x with
 |non =>
  cases d;cases y with
  |non=>cases a;exact PySem.EqNone.ne_none_none (bf I q (by simp))
  |bl j=>cases a;exact PySem.EqNone.ne_none_bool (bf I q (by simp))
  |int j=>obtain⟨b,rfl⟩:=a;exact PySem.EqNone.ne_none_int (bf I q (by simp))
  |str j=>obtain⟨b,rfl⟩:=a;exact PySem.EqNone.ne_none_str (bf I q (by simp))
  |_=>exact JP (show JK=JJ from c) Bool.false_ne_true
 |bl i =>
  cases d;cases y with
  |non=>cases a;exact PySem.EqNone.ne_bool_none (bf I q (by simp))
  |bl j=>cases a;exact ne_bool (bf I q (JT not vV))
  |str j=>obtain⟨b,rfl⟩:=a;exact PySem.EqMixed.ne_bool_str (bf I q (by simp))
  |_=>exact JP (show JK=JJ from c) Bool.false_ne_true
 |int i =>
  obtain⟨t,rfl⟩:=d;cases y with
  |non=>cases a;exact PySem.EqNone.ne_int_none (bf I q (by simp))
  |int j=>obtain⟨b,rfl⟩:=a;exact ne_int (bf I q (JT not tM))
  |str j=>obtain⟨b,rfl⟩:=a;exact PySem.EqMixed.ne_int_str (bf I q (by simp))
  |_=>exact JP (show JK=JJ from c) Bool.false_ne_true
 |str i =>
  obtain⟨t,rfl⟩:=d;cases y with
  |non=>cases a;exact PySem.EqNone.ne_str_none (bf I q (by simp))
  |bl j=>cases a;exact PySem.EqMixed.ne_str_bool (bf I q (by simp))
  |int j=>obtain⟨b,rfl⟩:=a;exact PySem.EqMixed.ne_str_int (bf I q (by simp))
  |str j=>obtain⟨b,rfl⟩:=a;exact ne_str (bf I q (JT not tN))
  |_=>exact JP (show JK=JJ from c) Bool.false_ne_true
 |byt i =>
  obtain⟨t,rfl⟩:=d;cases y with
  |byt j=>obtain⟨b,rfl⟩:=a;exact W.ne_bytes (bf I q (JT not tO))
  |_=>exact JP (show JK=JJ from c) Bool.false_ne_true
 |_=>cases y <;> exact JP (show JK=JJ from c) Bool.false_ne_true
theorem kY:OpR X (He .Lt) (rI0 λi j=>.bl (JL (i<j))):=Aq λ_ _ _ _ _ _ _ q=>lt_int q
theorem fj:OpR X (He .LtE) (rI0 λi j=>.bl (JL (i<=j))):=Aq λ_ _ _ _ _ _ _ q=>le_int q
theorem gM:OpR X (He .Gt) (rI0 λi j=>.bl (JL (j<i))):=Aq λ_ _ _ _ _ _ _ q=>gt_int q
theorem pC:OpR X (He .NotIn) (λx y H Q=>∃i j,x=.str i/\y=.str j/\Q (.bl (!(!(G9.Str.occurrences j i 0 j.length 1).isEmpty))) H):=by
 intro JM s σ H x y v u Q I b a h;obtain⟨i,j,rfl,rfl,q⟩:=h;obtain⟨t,rfl⟩:=b;obtain⟨c,rfl⟩:=a;exact notIn_str (bf I q U)
theorem aI(b:GG){a:Hf}(h:a≠.In:=by decide)(c:a≠.NotIn:=by decide):Hg a b=false:=by
 have e:(a == Hf.In)=false:=by cases a <;> first|rfl|exact JP U h
 have d:(a == Hf.NotIn)=false:=by cases a <;> first|rfl|exact JP U c
 cases b <;> simp[Hg,e,d]
theorem dY{c:Hf}{r:R2}(f:OpR X (He c) r)(j:PE X a ta)(i:PE X b tb)(g:Hg c b=JK):PE X (.Compare a [c] [b] pos) (tOp r ta tb):=by
 intro JM s σ H Q I h;exact wpAny_Compare1 (Ao j i I h λv u s2 x y l k e d q=>f JM s2 σ l x y v u Q k e d q) g
inductive vW  (Q:Bool->Hp->Prop)(x:V)(H':Hp):Prop
 |mk (k:_)(_:x=.bl k)(_:Q k H'):vW Q x H'
def zq(t:TE):TT:=λσ H Q=>t σ H λx H'=>vW Q x H'
theorem aG{d:Hf}{r:R2}(o:OpR X (He d) r)(t:PE X a ta)(q:PE X b tb)(p:Hg d b=JK):PT X (.Compare a [d] [b] pos) (zq (tOp r ta tb)):=by
 intro JM s σ H Q I h;refine wpAny_isTrue_Compare1 (thn (t JM s σ H _ I h) λv f ⟨x,E,B,j,n⟩=>thn (q JM f σ E _ B n) λu s2 ⟨y,D,A,i,m⟩ =>
  thn (o JM s2 σ D x y v u _ A j i m) λc F ⟨z,C,w,g,k,e,l⟩=>?_) p
 subst e;cases g;exact GR ⟨C,w,l⟩
inductive tQ(r':R2)(tc:TE)(σ:St)(Q:VK)(y:V)(z:V)(H3:Hp):Prop
 |mk (k:_)(_:z=.bl k)(_:(if k=JJ then tc σ H3 λw' H4=>r' y w' H4 Q else Q (.bl JK) H3))
def vX(r a:R2)(ta tb tc:TE):TE:=λσ H Q=>ta σ H λx d=>tb σ d λy c=>r x y c λz b=>tQ a tc σ Q y z b
theorem lQ{g f:Hf}{r l:R2}(J:OpR X (He g) r)(i:OpR X (He f) l)(M:PE X a ta)(L:PE X b tb)(K:PE X c tc)
  (hm:lastMarks [g,f] [b,c]=false:=by with_unfolding_all rfl):PE X (.Compare a [g,f] [b,c] pos) (vX r l ta tb tc):=by
 intro JM s σ H Q I h;refine Compare_chain (thn (M JM s σ H _ I h) λv A ⟨x,T,P,D,G⟩=>chain_link (thn (L JM A σ T _ P G) λu s2 ⟨y,S,O,j,F⟩ =>
  thn (J JM s2 σ S x y v u _ O D j F) λd w ⟨z,o,n,C,k,e,m⟩=>?_)) hm
 subst e;cases C;refine GR ?_;cases k with
 |false=>exact ite_ff ⟨.bl JK,o,n,U,m⟩
 |true=>exact ite_tt (chain_last (thn (K JM w σ o _ n m) λq t ⟨p,R,N,B,E⟩=>i JM t σ R y p u q Q N j B E))
theorem hV{g f:Hf}{r l:R2}(M:OpR X (He g) r)(i:OpR X (He f) l)(P:PE X a ta)(O:PE X b tb)(N:PE X c tc)
  (hm:lastMarks [g,f] [b,c]=false:=by with_unfolding_all rfl):PT X (.Compare a [g,f] [b,c] pos) (zq (vX r l ta tb tc)):=by
 intro JM s σ H Q I h;refine isTrue_chain (thn (P JM s σ H _ I h) λv A ⟨x,H1,Y,E,K⟩=>test_link (thn (O JM A σ H1 _ Y K) λu s2 ⟨y,H2,W,j,J⟩ =>
  thn (M JM s2 σ H2 x y v u _ W E j J) λd w ⟨z,o,n,D,k,e,m⟩=>?_)) hm
 subst e;cases D;refine GR ?_;cases k with
 |false =>
  obtain⟨k',S,L⟩:=m;cases S;exact ite_ff ⟨o,n,L⟩
 |true =>
  refine ite_tt (test_last (thn (N JM w σ o _ n m) λq t ⟨p,H4,V,C,G⟩=>thn (i JM t σ H4 y p u q _ V j C G) λd' s5 ⟨z2,Z,T,B,k2,R,F⟩=>?_));subst R;cases B;exact GR ⟨Z,T,F⟩
def Ar(K:W.Frag)(x:V)(H:Hp)(k:Bool):Prop :=
 match x with
 | .non=>k=JK
 | .bl b=>k=b
 | .int i=>k=(i != 0)
 | .str y=>y.length<=DO/\k=((y.length:Int) != 0)
 | .byt y=>y.size<=DO/\k=((y.size:Int) != 0)
 | .ref p=>(∃a,SqL K H p a/\k = !a.isEmpty)\/(∃a,SqT K H p a/\k = !a.isEmpty)\/∃c,H p=JH (.dK c)/\k = !c.isEmpty
 |_=>False
theorem rR{b:Type}{a:List (b×V)}{vs:List (b×Ct)}(r:KV a vs):(!vs.isEmpty) = !a.isEmpty:=by
 cases r <;> rfl
theorem lR{xs:List V}{a:List Ct}(r:Vals xs a):(!a.toArray.isEmpty) = !xs.isEmpty:=by
 cases r <;> simp
theorem jq:(DO:Nat)<2^63:=by rw[Hh];decide
theorem As:Dz X (λx H Q=>∃k,Ar X.K x H k/\Q k H):=by
 intro JM s σ H x v Q I g h;obtain⟨k,e,q⟩:=h;have C:=jq;have B:DO=16777216:=Hh;cases x with
 |non =>
  cases g;have a:k=false:=e;subst a;exact truthy_none ⟨H,I,q⟩
 |bl b =>
  cases g;have a:k=b:=e;subst a;exact GR ⟨H,I,q⟩
 |int i =>
  obtain⟨t,rfl⟩:=g;have a:k=(i != 0):=e;subst a;exact PySem.P.truthy_int ⟨H,I,q⟩
 |str y =>
  obtain⟨t,rfl⟩:=g;obtain⟨z,a⟩:y.length<=DO/\k=((y.length:Int) != 0):=e;subst a;exact PySem.P.truthy_str (by lia) ⟨H,I.tok _,q⟩
 |byt y =>
  obtain⟨t,rfl⟩:=g;obtain⟨z,a⟩:y.size<=DO/\k=((y.size:Int) != 0):=e;subst a;exact W.truthy_bytes (by lia) ⟨H,I.tok _,q⟩
 |ref p =>
  cases g;have a:(∃f,SqL X.K H p f/\k = !f.isEmpty)\/(∃f,SqT X.K H p f/\k = !f.isEmpty)\/∃c,H p=JH (.dK c)/\k = !c.isEmpty:=e;rcases a with⟨f,j,a⟩|⟨f,j,a⟩|⟨c,j,a⟩
  .subst a;obtain⟨o,r,n,u⟩:=I.list j;have d:=r.length;exact wpAny_truthy_list n.isList (by simp only[dn];lia) ⟨H,I.tok _,by rw[lR r];exact q⟩
  .subst a;obtain⟨o,r,n,u⟩:=I.tuple j;have d:=r.length;exact truthy_tuple n (by simp only[dn];lia) ⟨H,I.tok _,by rw[lR r];exact q⟩
  .subst a;obtain⟨u,A,l,r,m⟩:c.length<=DO/\(p == DS)=JK/\∃l,KV c l/\s.heap.DictOf (pj X.prog X.w) p l:=I.hok p _ j;have d:c.length=l.length:=Paired.length r;exact wpAny_truthy_dict A m (by lia) ⟨H,I.tok _,by rw[rR r];exact q⟩
 |_=>exact(show False from e).elim
theorem c0(g:PE X a ta)(f:∀b,GH a X.env b=(do let v ←b;GQ a.pos;holding [v] (truthy v))) :
  PT X a (λσ H Q=>ta σ H λx H'=>∃k,Ar X.K x H' k/\Q k H'):=by
 intro JM s σ H Q I h;exact isTrue_plain (thn (g JM s σ H _ I h) λv c ⟨x,j,i,d,e⟩=>As JM c σ j x v Q i d e) (f _)
theorem jr:OpR X (Hb .Add) (λx y H Q=>∃i j,x=.str i/\y=.str j/\i.length+j.length<=DO/\Q (.str (i++j)) H):=by
 intro JM s σ H x y v u Q I c b h;obtain⟨i,j,rfl,rfl,d,q⟩:=h;obtain⟨t,rfl⟩:=c;obtain⟨a,rfl⟩:=b;exact add_str (λa e=>⟨.str (i++j),H,I.tok _,⟨_,U⟩,q⟩) d
theorem Au:OpR X (Hb .Add) (λx y H Q=>∃i j,x=.byt i/\y=.byt j/\i.size+j.size<=16777216/\Q (.byt (i++j)) H):=by
 intro JM s σ H x y v u Q I c b h;obtain⟨i,j,rfl,rfl,d,q⟩:=h;obtain⟨t,rfl⟩:=c;obtain⟨a,rfl⟩:=b;exact W.KBy.add_bytes d (λa e=>⟨.byt (i++j),H,I.tok _,⟨_,U⟩,q⟩)
theorem vals1{x:V}{us:List Ct}(r:Vals [x] us):∃u,us=[u]/\RelV x u:=by
 cases r with
 |cons b a=>cases a;exact⟨_,U,b⟩
theorem vals2{x y:V}{us:List Ct}(r:Vals [x,y] us):∃u a,us=[u,a]/\RelV x u/\RelV y a:=by
 cases r with
 |cons e d =>
  cases d with
  |cons c b=>cases b;exact⟨_,_,U,e,c⟩
theorem oh(b:X.calm=JJ):cP X (.builtin "max") (λxs H Q=>∃i j,xs=[.int i,.int j]/\Q (.int (if j>i then j else i)) H):=by
 intro JM s σ H xs d Q I r h;obtain⟨i,j,rfl,q⟩:=h;obtain⟨u,c,rfl,⟨t,rfl⟩,⟨f,rfl⟩⟩:=vals2 r;refine max_two_ints (I.ok.hd b) λh' e k=>⟨_,H,I.kept k,?_,q⟩
 by_cases a:j>i
 .rw[JO a,JO a];exact⟨_,U⟩
 .rw[JN a,JN a];exact⟨_,U⟩
theorem oi(b:X.calm=JJ):cP X (.builtin "min") (λxs H Q=>∃i j,xs=[.int i,.int j]/\Q (.int (if j<i then j else i)) H):=by
 intro JM s σ H xs d Q I r h;obtain⟨i,j,rfl,q⟩:=h;obtain⟨u,c,rfl,⟨t,rfl⟩,⟨f,rfl⟩⟩:=vals2 r;refine min_two_ints (I.ok.hd b) λh' e k=>⟨_,H,I.kept k,?_,q⟩
 by_cases a:j<i
 .rw[JO a,JO a];exact⟨_,U⟩
 .rw[JN a,JN a];exact⟨_,U⟩
end
structure rS(h:DG)(x dx C:DF)(mA:Str->Option Ct):Prop where
 obj:h.get? x=JH (W.instObj C dx)
 ns:h.Ns1 dx mA
 ne:dx≠x
theorem uI{h:DG}{f:DF}{c:Str->Option Ct}(n:h.Ns1 f c):∃b,h.get? f=JH b/\∀name,W.lookIn name b=JH (c name):=by
 obtain⟨o,d,r,i,l,k,_,j⟩:=n;refine⟨o,i,λname=>?_⟩;have e:=j name;unfold nsFind findBy at e;rw[←Array.find?_toList]at e;unfold W.lookIn;rw[l];dsimp only;split
 .rename_i y q
  rw[q]at e;exact JT JH e
 .rename_i q
  rw[q]at e;have a:d.toList.any (·.refKey)=false:=by
   rw[List.any_eq_false];intro y g;obtain⟨z,t,p⟩:=k y (Array.mem_toList_iff.mp g);simp[DictEntry.refKey,p]
  have m:¬ d.toList.any (·.refKey)=true:=by rw[a];exact Bool.false_ne_true
  rw[JN m];exact JT JH e
theorem rS.look{h:DG}{x c C:DF}{b:Str->Option Ct}(I:rS h x c C b):∃a,W.InstAt h x (W.instObj C c) C (JH a)/\∀name,W.lookIn name a=JH (b name):=by
 obtain⟨a,d,e⟩:=uI I.ns;exact⟨a,⟨I.obj,U,U,d⟩,e⟩
variable{A:D7}{dx C f:DF}
section
variable{prog:Dn}{K:W.Frag}{mA:Str->Option Ct}{name:Str}{v:Ct}
theorem get_map{a:Bool}{Q:Ct->F7->Prop}(X:K.In s.heap)(I:rS s.heap x dx C mA)(f:W.plainGet K C name=JJ)(e:W.hasDictIn K C=JJ)
  (g:W.findIn K (.ref C) name=JH JI)(c:mA name=JH v)(b:W.handedIn v=JJ)(h:Q v { s with toks:=s.toks+1 }) :
  GC (model prog w) A (getAttr (.ref x) name a) Q E s:=by
 obtain⟨i,J,d⟩:=I.look;exact W.get_value X J (W.plainGet_of f).1 (W.findObj_own e g U (by rw[d,c])) b h
theorem vY{pl:Sem Bool}{Q:Ct×List Ct->F7->Prop}(X:K.In s.heap)(I:rS s.heap x dx C mA)(a:W.plainGet K C name=JJ)
  (hf:W.findIn K (.ref C) name=JH (JH (.ref f)))(d:W.isFn K (.ref f)=JJ)(c:mA name=JI)(h:Q (.ref f,[.ref x]) s) :
  GC (model prog w) A (Hi (.ref x) name pl) Q E s:=by
 obtain⟨b,J,e⟩:=I.look;exact W.method_fn X J (W.plainGet_of a).1 (W.plainGet_of a).2 hf (beq_iff_eq.mp d) (by show(W.lookIn name b).map (·.isSome)=JH JK;rw[e,c];rfl) h
theorem yb{ns:List Str}{Q:Unit->F7->Prop}(X:K.In s.heap)(I:rS s.heap x dx C mA)
  (l:W.findIn K (.ref C) "__setattr__" = JH (JH (.builtin "object.__setattr__"))) (m:W.plainOver K C=JJ)(k:W.takerIn K C name=JH JI)(n:W.hasDictIn K C=JJ)
  (hw:PySem.Within mA ns)(p:ns.length<=DO)
  (h:∀h',rS h' x dx C (λy=>if y=name then JH v else mA y)->DG.SameBut dx s.heap h'->Q () { s with heap:=h',toks:=s.toks+2 }) :
  GC (model prog w) A (setAttr (.ref x) name v) Q E s:=by
 obtain⟨u,J,B⟩:=I.look;refine W.set_plain X J l (W.osa_open (s:={ s with toks:=s.toks+1 }) (r:=JI) X J m k λb=>?_);obtain⟨D,o,g⟩:=W.any_some n;have j:s.heap.get? x=JH ⟨.ref C,JH dx,.plain,#[]⟩:=I.obj;refine BX (BY (BX (BX (wpAny_loadPart j (BX (W.Looks.here (s:={ s with toks:=s.toks+1 }) (W.looks_clsIn X o) ?_))))));rw[g];refine BY (a:=JH dx) (BX (BY (BX ?_)));refine wpAny_nsSet1 (s:={ s with toks:=s.toks+1 }) I.ns λh' d c=>?_
 obtain⟨z,q,t,e,f,i⟩:=d.count (PySem.Within.cons name v hw);refine BX (wpAny_lookBehind e (by rw[f];exact pastItsLine_dict (vG i (by rw[gb];lia))) ?_);exact BY (h _ ⟨(c.2 _ (Ne.symm I.ne)).trans I.obj,d,I.ne⟩ c)
theorem vZ{R:Hj->F7->Prop}{vs:List Ct}{b:List (Str×Ct)}(X:K.In s.heap)(c:W.makesIn K C=JJ)
  (hi:W.findIn K (.ref C) "__init__" = JH (JH (.ref f))) (hf:W.typeIn K (.ref f)=JH (.type "function"))
  (h:Hk (model prog w) (A.under (.builtin "type.__call__" ⟨.ref C :: vs,b⟩)) (.call (.ref f) ⟨.ref (s.heap.objs.size+1) :: vs,b⟩) (W.InitBack (s.heap.objs.size+1) R)
   { s with heap:=(s.heap.push W.emptyDict).push (W.instObj C s.heap.objs.size) }) :
  Hk (model prog w) A (.call (.ref C) ⟨vs,b⟩) R s:=by
 obtain⟨i,g,d,t,e⟩:=s;exact W.make_core (W.makes_of X c) (W.looks_findIn X hi) (λa=>W.bind_fn X a hf) (.inl U) h
end
def bw(f:Str)(v:V):List (Str×V)->List (Str×V)
 | []=>[(f,v)]
 |(g,x) :: r=>if g=f then(g,v) :: r else(g,x) :: bw f v r
theorem kZ(f g:Str)(v:V):∀fs:List (Str×V),(bw f v fs).lookup g=if g=f then JH v else fs.lookup g
 | []=>by
  show List.lookup g [(f,v)]=_;by_cases h:g=f
  .have a:(g == f)=true:=beq_iff_eq.mpr h;simp only[List.lookup,a,JO h]
  .have a:(g == f)=false:=beq_eq_false_iff_ne.mpr h;simp only[List.lookup,a,JN h]
 |(k,x) :: r=>by
  have c:=kZ f g v r;rw[show bw f v ((k,x) :: r)=(if k=f then(k,v) :: r else(k,x) :: bw f v r)from U];by_cases b:k=f
  .rw[JO b];by_cases h:g=k
   .have a:(g == k)=true:=beq_iff_eq.mpr h;simp only[List.lookup,a,JO (h.trans b)]
   .have a:(g == k)=false:=beq_eq_false_iff_ne.mpr h;simp only[List.lookup,a,JN (λe:g=f=>h (e.trans b.symm))]
  .rw[JN b];by_cases h:g=k
   .have a:(g == k)=true:=beq_iff_eq.mpr h;simp only[List.lookup,a,JN (λe:g=f=>b (h.symm.trans e))]
   .have a:(g == k)=false:=beq_eq_false_iff_ne.mpr h;simp only[List.lookup,a];exact c
theorem kC(f:Str)(v:V):∀fs:List (Str×V),f∈(bw f v fs).map (·.1)/\∀g,g∈fs.map (·.1)->g∈(bw f v fs).map (·.1)
 | []=>⟨by simp[bw],λg h=>by simp at h⟩
 |(k,x) :: r=>by
  obtain⟨c,b⟩:=kC f v r;rw[show bw f v ((k,x) :: r)=(if k=f then(k,v) :: r else(k,x) :: bw f v r)from U];by_cases a:k=f
  .rw[JO a];subst a;exact⟨by simp,λg h=>by simpa using h⟩
  .rw[JN a];refine⟨?_,λg h=>?_⟩
   .rw[kO];exact fG _ c
   .rw[kO]at h⊢;rcases cf.mp h with e|e
    .exact cf.mpr (.inl e)
    .exact fG _ (b g e)
theorem lh(f:Str)(v:V):∀fs:List (Str×V),(bw f v fs).length<=fs.length+1
 | []=>by simp[bw]
 |(k,x) :: r=>by
  have b:=lh f v r;rw[show bw f v ((k,x) :: r)=(if k=f then(k,v) :: r else(k,x) :: bw f v r)from U];by_cases a:k=f
  .rw[JO a,gb,gb];lia
  .rw[JN a,gb,gb];lia
theorem nA.some_of{v:V}{o:Option Ct}(r:nA (JH v) o):∃u,o=JH u/\RelV v u:=by
 cases o with
 |none=>exact(show False from r).elim
 |some u=>exact⟨u,U,r⟩
theorem nA.none_of{o:Option Ct}(r:nA JI o):o=none:=by
 cases o with
 |none=>rfl
 |some u=>exact(show False from r).elim
theorem oj{v:V}{u:Ct}(r:RelV v u):W.handedIn u=true:=by
 cases v with
 |non=>cases (show u=Ct.none from r);rfl
 |bl b=>cases (show u=Ct.bool b from r);rfl
 |int i=>obtain⟨t,e⟩:=(show ∃t,u=Ct.int i t from r);cases e;rfl
 |str x=>obtain⟨t,e⟩:=(show ∃t,u=Ct.str x t from r);cases e;rfl
 |byt b=>obtain⟨t,e⟩:=(show ∃t,u=Ct.bytes b t from r);cases e;rfl
 |flt b=>obtain⟨t,e⟩:=(show ∃t,u=Ct.float b t from r);cases e;rfl
 |ref a=>cases (show u=Ct.ref a from r);rfl
 |ty n=>cases (show u=Ct.type n from r);rfl
section
variable{fs fs':List (Str×V)}
theorem lE(hok:HOk P w H h)(e:H a=JH (.ins C dx fs)):∃b,rS h a dx C b/\(∀f,nA (fs.lookup f) (b f))/\PySem.Within b (fs.map (·.1))/\fs.length<=1000/\H dx=JH (.own a):=by
 obtain⟨d,z,g,c,b,n,r,q⟩:=(show cq P w H h a (.ins C dx fs)from hok a _ e);exact⟨b,⟨c,n,g⟩,r,q,z,d⟩
end
structure Cls(K:W.Frag)(C:DF):Prop where
 pg:W.plainGet K C Str.empty=JJ
 hd:W.hasDictIn K C=JJ
 po:W.plainOver K C=JJ
 sa:W.findIn K (.ref C) "__setattr__" = JH (JH (.builtin "object.__setattr__"))
theorem Cls.get{K:W.Frag}{C:DF}(c:Cls K C)(f:Str):W.plainGet K C f=true:=c.pg
def NoAttr(K:W.Frag)(C:DF)(f:Str):Prop:=W.findIn K (.ref C) f=JH JI
theorem NoAttr.taker{K:W.Frag}{C:DF}{f:Str}(n:NoAttr K C f):W.takerIn K C f=JH none:=by
 unfold W.takerIn;rw[show W.findIn K (.ref C) f=JH JI from n];rfl
structure Con(K:W.Frag)(C:DF)(f:Str)(v:V)(u:Ct):Prop where
 at_:W.findIn K (.ref C) f=JH (JH u)
 rel:RelV v u
 get:W.specialIn K u "__get__" = JH JI
 cp:W.copiedNames.contains f=JK
structure Meth(K:W.Frag)(C:DF)(m:Str)(f:DF):Prop where
 at_:W.findIn K (.ref C) m=JH (JH (.ref f))
 fn:W.isFn K (.ref f)=JJ
 kp:W.keepIn K (.ref f)=JJ
section
variable{fs:List (Str×V)}{f:Str}{v:V}
theorem rT{b:Bool}{Q:Ct->F7->Prop}(I:Inv X JM σ H s)(e:H a=JH (.ins C dx fs))(c:Cls X.K C)(n:NoAttr X.K C f)(l:fs.lookup f=JH v)
  (h:∀u s',Inv X JM σ H s'->RelV v u->Q u s'):GC (model X.prog X.w) A (getAttr (.ref a) f b) Q E s:=by
 obtain⟨g,O,r,_,_,_⟩:=lE I.hok e;obtain⟨u,i,d⟩:=nA.some_of (v:=v) (o:=g f) (by rw[←l];exact r f);exact get_map I.kIn O (c.get f) c.hd n i (oj d) (h u _ (I.tok _) d)
theorem lS{m:Str}{g:DF}{pl:Sem Bool}{Q:Ct×List Ct->F7->Prop}(I:Inv X JM σ H s)(e:H a=JH (.ins C dx fs))(c:Cls X.K C)(k:Meth X.K C m g)(l:fs.lookup m=JI)
  (h:Q (.ref g,[.ref a]) s):GC (model X.prog X.w) A (Hi (.ref a) m pl) Q E s:=by
 obtain⟨b,O,r,_,_,_⟩:=lE I.hok e;have d:b m=none:=nA.none_of (by rw[←l];exact r m);exact vY I.kIn O (c.get m) k.at_ k.fn d h
theorem rV{y:V}{u:Ct}{Q:Unit->F7->Prop}(I:Inv X JM σ H s)(e:H a=JH (.ins C dx fs))(c:Cls X.K C)(n:NoAttr X.K C f)(B:fs.length<1000)(m:RelV y u)
  (h:∀s',Inv X JM σ (upd H a (.ins C dx (bw f y fs))) s'->Q () s'):GC (model X.prog X.w) A (setAttr (.ref a) f u) Q E s:=by
 obtain⟨j,O,r,i,_,k⟩:=lE I.hok e;have p:(fs.map (·.1)).length<=DO:=by rw[bo,Hh];lia
 refine yb I.kIn O c.sa c.po n.taker c.hd i p λh' d l=>h _ ?_
 have hd:∃o,h'.get? dx=JH o:=let ⟨o,_,_,e',_⟩:=d.ns;⟨o,e'⟩;refine I.write (x:=a) (e:=dx) (by rw[e];exact True.intro) (.inr k) (λb q v z=>(l.2 b v).trans z) hd ?_;refine⟨by rw[ay O.ne];exact k,?_,O.ne,d.obj,_,d.ns,λg=>?_,λg t=>?_⟩
 .have:=lh f y fs;lia
 .show nA ((bw f y fs).lookup g) (if g=f then JH u else j g);rw[kZ];by_cases q:g=f
  .rw[JO q,JO q];exact m
  .rw[JN q,JN q];exact r g
 .by_cases q:g=f
  .rw[q];exact(kC f y fs).1
  .refine(kC f y fs).2 g (i g λz=>t ?_);show(if g=f then JH u else j g)=JI;rw[JN q];exact z
theorem Inv.made(I:Inv X JM σ H s):Inv X JM σ (upd (upd H s.heap.objs.size (.own (s.heap.objs.size+1))) (s.heap.objs.size+1) (.ins C s.heap.objs.size []))
  { s with heap:=(s.heap.push W.emptyDict).push (W.instObj C s.heap.objs.size) }:=by
 have d:(s.heap.push W.emptyDict).get? s.heap.objs.size=JH W.emptyDict:=DG.get?_push_size s.heap U;have i:((s.heap.push W.emptyDict).push (W.instObj C s.heap.objs.size)).get? (s.heap.objs.size+1)=JH (W.instObj C s.heap.objs.size):=by
  have:=DG.get?_push_size (s.heap.push W.emptyDict) (o:=W.instObj C s.heap.objs.size) U
  rwa [DG.size_push]at this
 have h:(s.heap.push W.emptyDict).Ns s.heap.objs.size (λ_=>JI):=⟨W.emptyDict,#[],_,d,U,(λe g=>JP g (by simp)),λ_=>U⟩;have j:=I.laid (a:=s.heap.objs.size) (o:=.own (s.heap.objs.size+1)) (h':=s.heap.push W.emptyDict) (t':=s.toks) (λb u q=>DG.get?_push_of_some _ q) (vD _) ⟨_,d⟩;refine j.laid (a:=s.heap.objs.size+1) (o:=.ins C s.heap.objs.size []) (t':=s.toks) (λb u q=>DG.get?_push_of_some _ q) (Nat.le_of_eq (DG.size_push _ _)) ?_;have c:s.heap.objs.size≠s.heap.objs.size+1:=vE (wj _);refine⟨by rw[ay c,ae],vI _,c,i,λ_=>JI,(DG.Ns1.of_empty h).at λo q=>DG.get?_push_of_some _ q,λ_=>True.intro,λy f=>JP U f⟩
theorem yc{prog:Dn}{w:Cu}{a:Env}{e:GG}{f:Str}{pos:Pos}{s:F7}{Q:Ct->F7->Prop}(c:Hl e f a (eval e a)=eval e a)
  (h:GC (model prog w) A (eval e a) (λo b=>GC (model prog w) A (getAttr o f JJ) Q E b) E s):GC (model prog w) A (eval (.Attribute e f pos) a) Q E s :=
 Attribute_any_ h (by rw[arm_eval_Attribute,c])
end
inductive zr(K:W.Frag)(f:Str)(Q:VK)(x:V)(H1:Hp):Prop
 |mk (a C dx fs v:_)(_:x=.ref a)(_:H1 a=JH (.ins C dx fs))(_:Cls K C)(_:NoAttr K C f)(_:fs.lookup f=JH v)(_:Q v H1)
def BO(K:W.Frag)(ta:TE)(f:Str):TE:=λσ H Q=>ta σ H λx a=>zr K f Q x a
def DB(K:W.Frag)(ta c:TE)(f:Str):TS:=λD σ H=>c σ H λy d=>ta σ d λx b=>∃a C dx fs,x=.ref a/\b a=JH (.ins C dx fs)/\Cls K C/\NoAttr K C f/\fs.length<1000 /\
 D.nx σ (upd b a (.ins C dx (bw f y fs)))
variable{o:GG}
section
variable{value:GG}{f:Str}{pos' Gb:Pos}{tv:TE}
theorem aN(g:PE X e ta)(i:Hl e f X.env (eval e X.env)=eval e X.env):PE X (.Attribute e f pos) (BO X.K ta f):=by
 intro JM s σ H Q I h;refine yc i (thn (g JM s σ H _ I h) λu t ⟨x,p,o,b,a,C,dx,fs,v,j,k,c,n,l,q⟩=>?_);subst j;obtain rfl:u=Ct.ref a:=b;exact rT o k c n l λr s2 m d=>⟨v,p,m,d,q⟩
theorem cy(m:PE X o ta)(j:PE X value tv)(k:GV value (JH (.Attribute o f pos')) pos.line X.env=pure JK):PS X (.Assign [.Attribute o f pos'] value pos) (DB X.K ta tv f):=by
 intro JM s σ H D I h;refine plainObj_wpAny_Assign_Attribute (thn (j JM s σ H _ I h) λu b ⟨y,z,w,d,q⟩=>thn (m JM b σ z _ w q) λi s2 ⟨x,B,v,e,a,C,dx,fs,p,r,c,n,l,g⟩=>?_) k;subst p;obtain rfl:i=Ct.ref a:=e;exact rV v r c n l d λA t=>⟨σ,_,t,g⟩
end
section
variable{Q:Ct->F7->Prop}{c:Ct}{b:Bool}
inductive kD(K:W.Frag)(H:Hp):V->Ct->Prop where
 |non:kD K H .non (.type "NoneType")
 |bl (x:Bool):kD K H (.bl x) (.type "bool")
 |int (i:Int):kD K H (.int i) (.type "int")
 |str (x:Str):kD K H (.str x) (.type "str")
 |flt (x:UInt64):kD K H (.flt x) (.type "float")
 |lst {a:DF}{xs:List V}(e:H a=JH (.lst xs)):kD K H (.ref a) (.type "list")
 |frz {a:DF}{o:Obj}{xs:List V}(e:H a=JH (.frz o (.lst xs))):kD K H (.ref a) (.type "list")
 |tup {a:DF}{xs:List V}(e:H a=JH (.tup xs)):kD K H (.ref a) (.type "tuple")
 |dK {a:DF}{kvs:List (Key×V)}(e:H a=JH (.dK kvs)):kD K H (.ref a) (.type "dict")
 |dT {a:DF}{kvs:List (List Key×V)}(e:H a=JH (.dT kvs)):kD K H (.ref a) (.type "dict")
 |ins {a C dx:DF}{fs:List (Str×V)}(e:H a=JH (.ins C dx fs))(cl:Cls K C)(ha:W.findIn K (.ref C) "__class__" = JH (JH (.builtin "object.__class__")))
   (hn:W.specialIn K (.builtin "object.__class__") "__get__" = JH (JH (.builtin "getset_descriptor.__get__"))) (htk:W.takesIn K (.builtin "object.__class__")=JH JJ)
   (hm:W.mroIn K C (.type "object")=JH JJ):kD K H (.ref a) (.ref C)
theorem uJ{x:V}{u t:Ct}(I:Inv X JM σ H s)(d:RelV x u)(ty:kD X.K H x t)(e:W.kitOne X.K t c=JH b)(h:∀k,Q (.bool b) { s with toks:=k }) :
  GC (model X.prog X.w) A (call (.builtin "isinstance") [u,c]) Q E s:=by
 cases ty with
 |non=>cases (show u=Ct.none from d);exact W.kia_one W.kitx_none I.kIn True.intro e (λz=>nomatch z) h
 |bl y=>cases (show u=Ct.bool y from d);exact W.kia_one W.kitx_bool I.kIn True.intro e (λz=>nomatch z) h
 |int i=>obtain⟨t,q⟩:=(show ∃t,u=Ct.int i t from d);cases q;exact W.kia_one W.kitx_int I.kIn True.intro e (λz=>nomatch z) h
 |str y=>obtain⟨t,q⟩:=(show ∃t,u=Ct.str y t from d);cases q;exact W.kia_one W.kitx_str I.kIn True.intro e (λz=>nomatch z) h
 |flt y=>obtain⟨t,q⟩:=(show ∃t,u=Ct.float y t from d);cases q;exact W.kia_one W.kitx_float I.kIn True.intro e (λz=>nomatch z) h
 | @lst a g ea =>
  cases (show u=Ct.ref a from d);obtain⟨_,_,n,_,f⟩:=(show cq X.prog X.w H s.heap a (.lst g)from I.hok a _ ea);exact W.kia_one W.kitx_list I.kIn ⟨_,f,U⟩ e (λz=>nomatch z) h
 | @frz a ob g ea =>
  cases (show u=Ct.ref a from d);obtain⟨_,_,_,n,_,f⟩:=(show cq X.prog X.w H s.heap a (.frz ob (.lst g))from I.hok a _ ea);exact W.kia_one W.kitx_list I.kIn ⟨_,f,U⟩ e (λz=>nomatch z) h
 | @tup a g ea =>
  cases (show u=Ct.ref a from d);obtain⟨_,_,_,p⟩:=(show cq X.prog X.w H s.heap a (.tup g)from I.hok a _ ea);obtain⟨o,f,j,_⟩:=p;exact W.kia_one W.kitx_tuple I.kIn ⟨o,f,j⟩ e (λz=>nomatch z) h
 | @dK a kvs ea =>
  cases (show u=Ct.ref a from d);obtain⟨_,_,r,_,p⟩:=(show cq X.prog X.w H s.heap a (.dK kvs)from I.hok a _ ea);obtain⟨o,l,m,f,j,_⟩:=p;exact W.kia_one W.kitx_dict I.kIn ⟨o,f,j.1⟩ e (λz=>nomatch z) h
 | @dT a kvs ea =>
  cases (show u=Ct.ref a from d);obtain⟨_,_,g,_,o,l,m,f,j,_⟩:=(show cq X.prog X.w H s.heap a (.dT kvs)from I.hok a _ ea);exact W.kia_one W.kitx_dict I.kIn ⟨o,f,j.1⟩ e (λz=>nomatch z) h
 | @ins a C dx fs ea cl ha hn htk hm =>
  cases (show u=Ct.ref a from d);obtain⟨B,O,_⟩:=lE I.hok ea;obtain⟨v,J,_⟩:=O.look;exact W.kia_one (W.kitx_own (cl.get _) cl.hd ha hn htk hm) I.kIn J e (λz=>nomatch z) h
end
structure bN(k:Nat)(A:D7):Prop where
 hd:A.handled=JI
 dp:A.depth+3*k+5<Hm
 un:A.units+16*k+200<Hn
theorem bN.mono{j k:Nat}{A:D7}(r:bN k A)(h:j<=k):bN j A:=⟨r.hd,by have:=r.dp;lia,by have:=r.un;lia⟩
theorem bN.deeper{k:Nat}{A:D7}(r:bN (k+1) A)(a:Env):bN k (A.deeper a) :=
 ⟨r.hd,by have:=r.dp;show A.depth+1+3*k+5<_;lia,by have:=r.un;show A.units+3+16*k+200<_;lia⟩
theorem rW{A:D7}{C:DF}{us:List Ct}{a:List (Str×Ct)}:(A.under (.builtin "type.__call__" ⟨.ref C :: us,a⟩)).depth=A.depth+1:=by
 first|rfl|simp[D7.under,Ho.weight,Ho.isCreation,Ho.isGuard,Ho.isCaller,Ho.frames,Ho.isFrame,guardIds]
theorem rX{A:D7}{C:DF}{us:List Ct}{a:List (Str×Ct)}:(A.under (.builtin "type.__call__" ⟨.ref C :: us,a⟩)).units=A.units+1:=by
 first|rfl|simp[D7.under,Ho.cUnits,Ho.frames,Ho.isFrame]
theorem bN.make{k:Nat}{A:D7}(r:bN (k+1) A)(C:DF)(us:List Ct)(a:List (Str×Ct)):bN k (A.under (.builtin "type.__call__" ⟨.ref C :: us,a⟩)) :=
 ⟨r.hd,by have:=r.dp;rw[rW];lia,by have:=r.un;rw[rX];lia⟩
theorem bN.depth{k:Nat}{A:D7}(r:bN k A):A.depth<Hm:=by have:=r.dp;lia
theorem bN.units{k:Nat}{A:D7}(r:bN k A):A.units+64<Hn:=by have:=r.un;lia
def Aw:TA:=λ_ H Q=>Q [] H
def BP(ta:TE)(b:TA):TA:=λσ H Q=>ta σ H λx d=>b σ d λa c=>Q (x :: a) c
variable{es:List GG}{t:TA}
theorem af:PA X [] Aw:=λ_ _ _ _ H Q I h=>Calls.spliced_nil ⟨[],H,I,.nil,h⟩
theorem aa(k:PE X e te)(j:PA X es t)(i:GJ (e :: es) X.env=(JK,eval e X.env) :: GJ es X.env:=by rfl):PA X (e :: es) (BP te t):=by
 intro pos JM s σ H Q I h;rw[i];show GC _ _ (spliced ((JK,eval e X.env) :: GI pos (GJ es X.env))) _ _ s;refine Calls.spliced_cons (thn (k JM s σ H _ I h) λu b ⟨x,o,m,d,g⟩=>?_);exact thn (j pos JM b σ o _ m g) λp s2 ⟨a,n,l,c,f⟩=>⟨x :: a,n,l,.cons d c,f⟩
def DC(t:TA):TE:=λσ H Q=>t σ H λa b=>a.length<=DO/\∀p,b p=JI->Q (.ref p) (upd b p (.tup a))
def DD(t:TA):TE:=λσ H Q=>t σ H λa b=>a.length<=DO/\∀p,b p=JI->Q (.ref p) (upd b p (.lst a))
theorem aZ{x1} (h:PA X es t):PE X (.Tuple es x1 pos) (DC t):=by
 intro JM s σ H Q I i;refine wpAny_Tuple_spliced (thn (h pos JM s σ H _ I i) λg a ⟨f,d,c,r,z,q⟩=>⟨by rw[←r.length];exact z,?_⟩);have j:d a.heap.objs.size=none:=c.hok.fresh (vD _);refine⟨.ref a.heap.objs.size,upd d a.heap.objs.size (.tup f),c.laid (t':=a.toks) (λb u e=>DG.get?_push_of_some _ e) (vD _) ?_,U,q _ j⟩;exact⟨z,g,r,⟨_,DG.get?_push_size _ U,U,_,U⟩⟩
theorem aX(h:PA X es t):PE X (.List es pos) (DD t):=by
 intro JM s σ H Q I i;refine wpAny_List_spliced (thn (h pos JM s σ H _ I i) λg a ⟨f,d,c,r,z,q⟩=>⟨by rw[←r.length];exact z,?_⟩);have j:d a.heap.objs.size=none:=c.hok.fresh (vD _);refine⟨.ref a.heap.objs.size,upd d a.heap.objs.size (.lst f),c.laid (t':=a.toks) (λb u e=>DG.get?_push_of_some _ e) (vD _) ?_,U,q _ j⟩;exact⟨z,g,0,r,DG.get?_push_size _ U⟩
abbrev Sp:=List V->Hp->VK->XK->Prop
abbrev CXT:=List Env->Hp->F7->XK->Ct->F7->Prop
structure qr(P:Dn)(w:Cu)(K:W.Frag)(mg:Str->Option Ct)(base:DG)(A:D7)(outer:List Env)(s:F7)(H:Hp):Prop where
 frames:A.frames=JH outer
 mod:Mod K mg base
 bs:∀b o,base.get? b=JH o->s.heap.get? b=JH o/\H b=JI
 bsz:base.objs.size<=s.heap.objs.size
 funs:s.heap.FunFrames base outer
 frf:∀b∈frs outer,H b=JI
 hok:HOk P w H s.heap
 bare:AllBare s.gens
def CE(a:List Env)(P:Dn)(w:Cu)(H:Hp)(s:F7)(Q:VK)(u:Ct)(s':F7):Prop :=
 ∃v H',s'.os=s.os/\AllBare s'.gens/\Un (frs a) [] H H' s.heap s'.heap/\HOk P w H' s'.heap/\RelV v u/\Q v H'
def CR(CX:CXT)(a:List Env)(P:Dn)(w:Cu)(H:Hp)(s:F7)(Q:VK)(E:XK)(r:Hj)(s':F7):Prop :=
 match r with
 | .ok (.ret u)=>CE a P w H s Q u s'
 | .ok _=>False
 | .error e=>CX a H s E e s'
structure aJ(P:Dn)(w:Cu)(K:W.Frag)(mg:Str->Option Ct)(base:DG)(CX:CXT)(k:Nat)(f:DF)(fd:Hq)(ps:List Str)(sp:Sp):Prop where
 len:∀vs H Q E,sp vs H Q E->vs.length=ps.length
 run:∀(A:D7)(outer:List Env)(s:F7)(H:Hp)(args:Args)(us:List Ct)(vs:List V)(Q:VK)(E:XK),bN k A->qr P w K mg base A outer s H->Hr s fd args (ps.zip us)->Vals vs us->sp vs H Q E ->
  Hk (model P w) A (.call (.ref f) args) (CR CX outer P w H s Q E) s
theorem aJ.mono{P:Dn}{w:Cu}{K:W.Frag}{mg:Str->Option Ct}{base:DG}{CX:CXT}{j k:Nat}{f:DF}{c:Hq}{ps:List Str}{sp:Sp}(F:aJ P w K mg base CX j f c ps sp)(h:j<=k) :
  aJ P w K mg base CX k f c ps sp:=⟨F.len,λA a s H b e d Q E g=>F.run A a s H b e d Q E (g.mono h)⟩
theorem qr.make{P:Dn}{w:Cu}{K:W.Frag}{mg:Str->Option Ct}{base:DG}{A:D7}{a:List Env}{s:F7}{H:Hp}(e:qr P w K mg base A a s H)(C:DF)(us:List Ct)(b:List (Str×Ct)) :
  qr P w K mg base (A.under (.builtin "type.__call__" ⟨.ref C :: us,b⟩)) a s H:=⟨by first|exact e.frames|(simpa[D7.under,Ho.envs,Ho.isFrame,pushEnvs]using e.frames),e.mod,e.bs,e.bsz,e.funs,e.frf,e.hok,e.bare⟩
section
variable{s':F7}
theorem Inv.env0(I:Inv X JM σ H s):qr X.prog X.w X.K X.mg X.base X.A X.stack s H :=
 ⟨I.ok.frames,I.ok.mod,I.bs,vG I.ok.bsz I.sz,I.stack,I.stkFree,I.hok,I.bare⟩
theorem Inv.after{Q:VK}{u:Ct}(I:Inv X JM σ H s)(h:CE X.stack X.prog X.w H s Q u s'):EP X JM σ Q u s':=by
 obtain⟨v,H',os,a,un,hok,r,q⟩:=h;obtain⟨e,g,d,t,c⟩:=s';obtain rfl:c=s.os:=os;exact⟨v,H',I.call (h':=e) (g':=g) (d':=d) (t':=t) (ch:=[]) un hok a (λb z=>JP z (by simp)),r,q⟩
end
def BQ(sp:Sp)(dvs:List V)(E:XK)(t:TA):TE:=λσ H Q=>t σ H λa b=>sp (a++dvs) b Q E
def zt(C:DF)(sp:Sp)(dvs:List V)(E:XK)(t:TA):TE:=λσ H Q=>t σ H λb a=>∀x dx,a x=JI->a dx=JI->dx≠x ->
 sp (.ref x :: (b++dvs)) (upd (upd a dx (.own x)) x (.ins C dx [])) (λv c=>v=.non/\Q (.ref x) c) E
def Binds(K:W.Frag)(b:Hq)(ps:List Str)(ds:List Ct):Prop :=
 ∀(s:F7)(a:List Ct),K.In s.heap->(a++ds).length=ps.length->Hr s b ⟨a,[]⟩ (ps.zip (a++ds))
theorem Binds.all{K:W.Frag}{b:Hq}{ps:List Str}(h:∀us:List Ct,us.length=ps.length->Hs b ⟨us,[]⟩=pure (ps.zip us)):Binds K b ps []:=λs us _ a=>by
 rw[jH]at a⊢;exact .of_eq (h us a)
def Passes(CX:CXT)(X:Cx)(E:XK):Prop:=∀(JM:List (DF×Obj))(σ:St)(H:Hp)(s:F7)(e:Ct)(a:F7),Inv X JM σ H s->CX X.stack H s E e a->X.xe e a
variable{p:Pos}
section
variable{CX:CXT}{k:Nat}{fd:Hq}{ps:List Str}{sp:Sp}{dvs:List V}{ds:List Ct}{E:XK}{x m:Str}{apos:Pos}
theorem rY{JM:List (DF×Obj)}{σ:St}{H:Hp}{s:F7}{Q:VK}{us:List Ct}{vs:List V}(F:aJ X.prog X.w X.K X.mg X.base CX k f fd ps sp)(g:bN k X.A)(l:Binds X.K fd ps ds)(j:Vals dvs ds)(d:Passes CX X E)
  (I:Inv X JM σ H s)(r:Vals vs us)(h:sp (vs++dvs) H Q E):GC (model X.prog X.w) X.A (call (.ref f) us) (EP X JM σ Q) X.xe s:=by
 have b:Vals (vs++dvs) (us++ds):=r.append j;have i:(us++ds).length=ps.length:=by rw[←b.length];exact F.len _ _ _ _ h
 refine Ht (Hu (F.run X.A X.stack s H ⟨us,[]⟩ (us++ds) (vs++dvs) Q E g I.env0 (l s us I.kIn i) b h) λr c a=>?_);cases r with
 |error e=>exact d JM σ H s e c I a
 |ok fl =>
  cases fl with
  |ret u=>exact I.after a
  |next=>exact False.elim a
  |brk=>exact False.elim a
  |cont=>exact False.elim a
theorem yd(F:aJ X.prog X.w X.K X.mg X.base CX k f fd ps sp)(g:bN k X.A)(l:Gl X x)(i:X.mg x=JH (.ref f))(j:W.keepIn X.K (.ref f)=JJ)(n:Binds X.K fd ps ds)(m:Vals dvs ds)(d:Passes CX X E)
  (o:PA X (e :: es) t)(b:(x == ("__debug__" : Str))=false:=by decide) (he:GJ (e :: es) X.env=(JK,eval e X.env) :: GJ es X.env:=by rfl)(a:(GI pos (GJ es X.env)).any (·.1)=false:=by rfl) :
  PE X (.Call (.Name x p) (e :: es) [] pos) (BQ sp dvs E t):=by
 intro JM s σ H Q I h;refine B7 (dB I l i ?_ b);refine W.callWith_K (h₀:=X.base) I.ok.mod.kin j (thn (o pos JM s σ H _ I h) λv y ⟨u,z,c,r,q⟩=>⟨c.kIn,?_⟩) he a;exact rY F g n m d c r q
structure Mk(K:W.Frag)(C f:DF):Prop where
 makes:W.makesIn K C=JJ
 init:W.findIn K (.ref C) "__init__" = JH (JH (.ref f))
 fn:W.isFn K (.ref f)=JJ
 kp:W.keepIn K (.ref C)=JJ
theorem qt{JM:List (DF×Obj)}{σ:St}{H:Hp}{s:F7}{Q:VK}{us:List Ct}{vs:List V}(M:Mk X.K C f)(F:aJ X.prog X.w X.K X.mg X.base CX k f fd ps sp)(m:bN (k+1) X.A)(p:Binds X.K fd ps ds)(o:Vals dvs ds)
  (l:Passes CX X E)(I:Inv X JM σ H s)(r:Vals vs us)
  (h:∀x dx,H x=JI->H dx=JI->dx≠x->sp (.ref x :: (vs++dvs)) (upd (upd H dx (.own x)) x (.ins C dx [])) (λv y=>v=.non/\Q (.ref x) y) E) :
  GC (model X.prog X.w) X.A (call (.ref C) us) (EP X JM σ Q) X.xe s:=by
 have d:=h (s.heap.objs.size+1) s.heap.objs.size (I.hok.fresh (w5 _)) (I.hok.fresh (vD _)) (vE (wj _));have b:=Inv.made (C:=C) I;have c:Vals (V.ref (s.heap.objs.size+1) :: (vs++dvs)) (Ct.ref (s.heap.objs.size+1) :: (us++ds)):=.cons U (r.append o);have n:(Ct.ref (s.heap.objs.size+1) :: us++ds).length=ps.length:=by
  have e:=c.length;rw[F.len _ _ _ _ d]at e;exact e.symm
 refine Ht (vZ (f:=f) I.kIn M.makes M.init (beq_iff_eq.mp M.fn) (Hu (F.run _ X.stack _ _ ⟨Ct.ref (s.heap.objs.size+1) :: us,[]⟩ (Ct.ref (s.heap.objs.size+1) :: (us++ds)) _ _ E (m.make C us [])
  (b.env0.make C us []) (p _ (Ct.ref (s.heap.objs.size+1) :: us) b.kIn n) c d) λr g a=>?_))
 cases r with
 |error e=>exact l JM σ _ _ e g b a
 |ok fl =>
  cases fl with
  |ret u =>
   obtain⟨v,H',t,i,q,j⟩:=b.after a;subst q;exact⟨i,⟨V.ref (s.heap.objs.size+1),H',t,U,j⟩⟩
  |next=>exact False.elim a
  |brk=>exact False.elim a
  |cont=>exact False.elim a
theorem ye(M:Mk X.K C f)(F:aJ X.prog X.w X.K X.mg X.base CX k f fd ps sp)(g:bN (k+1) X.A)(j:Gl X x)(i:X.mg x=JH (.ref C))(m:Binds X.K fd ps ds)(l:Vals dvs ds)(d:Passes CX X E)
  (n:PA X (e :: es) t)(b:(x == ("__debug__" : Str))=false:=by decide) (he:GJ (e :: es) X.env=(JK,eval e X.env) :: GJ es X.env:=by rfl)(a:(GI pos (GJ es X.env)).any (·.1)=false:=by rfl) :
  PE X (.Call (.Name x p) (e :: es) [] pos) (zt C sp dvs E t):=by
 intro JM s σ H Q I h;refine B7 (dB I j i ?_ b);refine W.callWith_K (h₀:=X.base) I.ok.mod.kin M.kp (thn (n pos JM s σ H _ I h) λu v ⟨o,y,c,r,q⟩=>⟨c.kIn,?_⟩) he a;exact qt M F g m l d c r q
theorem v9(M:Mk X.K C f)(F:aJ X.prog X.w X.K X.mg X.base CX k f fd ps sp)(c:bN (k+1) X.A)(e:Gl X x)(d:X.mg x=JH (.ref C))(i:Binds X.K fd ps ds)(g:Vals dvs ds)(b:Passes CX X E)
  (a:(x == ("__debug__" : Str))=false:=by decide):PE X (.Call (.Name x p) [] [] pos) (zt C sp dvs E Aw):=by
 intro JM s σ H Q I h;refine B7 (dB I e d ?_ a);exact W.callWith_K0 I.kIn M.kp (qt (us:=[]) M F c i g b I .nil h)
end
section
variable{CX:CXT}{k:Nat}{fd:Hq}{ps ks:List Str}{sp:Sp}{E:XK}{x m:Str}{apos Gd:Pos}{kws:List Keyword}{tk:TA}{nm:Option Str}
structure DE(K:W.Frag)(fd:Hq)(ps ks:List Str)(g:List Ct->List Ct->List Ct)(gV:List V->List V->List V):Prop where
 to:∀(s:F7)(us ws:List Ct),K.In s.heap->(g us ws).length=ps.length->Hr s fd ⟨us,ks.zip ws⟩ (ps.zip (g us ws))
 rel:∀{vs:List V}{us:List Ct}{zs:List V}{ws:List Ct},Vals vs us->Vals zs ws->Vals (gV vs zs) (g us ws)
variable{g:List Ct->List Ct->List Ct}{gV:List V->List V->List V}
end
structure aq(N P:List Str)(sc:Ge):Prop where
 kind:sc.kind=.function
 co:sc.isCoroutine=JK
 gen:sc.isGenerator=JK
 nd:N.Nodup
 pre:N.take P.length=P
 par:∀x∈P,sc.names.lookup x=JH .local\/sc.names.lookup x=JH .cell
 nofree:∀y∈sc.names,y.2≠.free
theorem om{a:Str->Option Hv}{x:Str}:∀{binds:List (Str×Ct)}{m:Str->Option Ct},(∀v,(x,v) ∉ binds)->Hw a binds m x=m x
 | [],_,_=>rfl
 |(n,v) :: r,m,h=>by
  unfold Hw;rw[om λw b=>h w (fG _ b)];split
  .have:x≠n:=by rintro rfl;exact h v dt
   simp[this]
  .rfl
theorem oo{a:Str->Option Hv}{x:Str}:∀{binds:List (Str×Ct)}{m:Str->Option Ct},(∀v,(x,v) ∉ binds)->Hy a binds m x=m x
 | [],_,_=>rfl
 |(n,v) :: r,m,h=>by
  unfold Hy;rw[oo λw b=>h w (fG _ b)];split
  .rfl
  .have:x≠n:=by rintro rfl;exact h v dt
   simp[this]
theorem oq{a:Str->Option Hv}{x:Str}{v:Ct}:∀{P:List Str}{vs:List Ct}{i:Nat}{m:Str->Option Ct},P.Nodup->P[i]?=JH x->vs[i]?=JH v->a x=JH .local ->
  Hw a (P.zip vs) m x=JH v
 | [],_,_,_,_,h,_,_=>by simp at h
 |_ :: _,[],_,_,_,_,h,_=>by simp at h
 |p :: P,w :: vs,0,m,nd,h1,h2,hk=>by
  simp at h1 h2;subst h1;subst h2;show Hw a ((p,w) :: P.zip vs) m p=_;unfold Hw;rw[om λv b=>(nY.mp nd).1 (rr b).1,JO hk];simp
 |p :: P,w :: vs,i+1,m,nd,h1,h2,hk=>by
  show Hw a ((p,w) :: P.zip vs) m x=_;unfold Hw;exact oq (i:=i) (nY.mp nd).2 (by simpa using h1) (by simpa using h2) hk
theorem ot{a:Str->Option Hv}{x:Str}{v:Ct}:∀{P:List Str}{vs:List Ct}{i:Nat}{m:Str->Option Ct},P.Nodup->P[i]?=JH x->vs[i]?=JH v->a x≠JH .local ->
  Hy a (P.zip vs) m x=JH v
 | [],_,_,_,_,h,_,_=>by simp at h
 |_ :: _,[],_,_,_,_,h,_=>by simp at h
 |p :: P,w :: vs,0,m,nd,h1,h2,hk=>by
  simp at h1 h2;subst h1;subst h2;show Hy a ((p,w) :: P.zip vs) m p=_;unfold Hy;rw[oo λv b=>(nY.mp nd).1 (rr b).1,JN hk];simp
 |p :: P,w :: vs,i+1,m,nd,h1,h2,hk=>by
  show Hy a ((p,w) :: P.zip vs) m x=_;unfold Hy;exact ot (i:=i) (nY.mp nd).2 (by simpa using h1) (by simpa using h2) hk
def start(N:List Str)(vs:List V):St:=vs.map JH++List.replicate (N.length-vs.length) JI
def iY(CX:CXT)(P:Dn)(w:Cu)(K:W.Frag)(mg:Str->Option Ct)(base:DG)(N:List Str)(qual:Str)(scope:Ge)(f:DF)(b:Ct)(A:D7)(outer:List Env)(s:F7)(H:Hp)(E:XK):Cx where
 prog:=P
 w:=w
 K:=K
 mg:=mg
 base:=base
 A:=A.deeper (envOfC qual scope s.heap.objs.size f b)
 N:=N
 s₀:=s
 H₀:=H
 env:=envOfC qual scope s.heap.objs.size f b
 outer:=outer
 stack:=envOfC qual scope s.heap.objs.size f b :: outer
 ex:=[]
 calm:=JJ
 fn:=λ_=>JJ
 pn:=[]
 xe:=λe c=>GC (model P w) (A.deeper (envOfC qual scope s.heap.objs.size f b)) (leaving (envOfC qual scope s.heap.objs.size f b) e) (λ_ a=>CX outer H s E e a) (λd a=>CX outer H s E d a) c
theorem qu{a:Ge}{n:Nat}{x:Str}(h:a.names.lookup x=JH .cell):∃c,(Hz n a.names []).lookup x=JH c:=by
 have q:=W.cellsFrom_some a.names n [] (.inl h);exact AU.mp q
theorem uK{CX:CXT}{P:Dn}{w:Cu}{K:W.Frag}{mg:Str->Option Ct}{base:DG}{N ps:List Str}{qual:Str}{scope:Ge}{f:DF}{C:Ct}{A:D7}{d:List Env}{s D:F7}{H:Hp}{E:XK}{us:List Ct}{vs:List V}
  (S:aq N ps scope)(J:A.handled=JI)(j:qr P w K mg base A d s H)(Q:vs.length=ps.length)(r:Vals vs us)
  (x:InCallC s s.heap.objs.size (Hw (envOfC qual scope s.heap.objs.size f C).kindOf (ps.zip us) λ_=>JI) (Hz (s.heap.objs.size+1) scope.names []) (Hy (envOfC qual scope s.heap.objs.size f C).kindOf (ps.zip us) λ_=>JI) D) :
  Inv (iY CX P w K mg base N qual scope f C A d s H E) [] (start N vs) H D:=by
 have M:ps.length<=N.length:=by have:=JT List.length S.pre;rw[iD]at this;lia
 obtain⟨B,O,rfl,G⟩:=x.done;have m:∀b:DF,b ∉ (iY CX P w K mg base N qual scope f C A d s H E).ex:=λb z=>JP (show b∈([]:List DF)from z) (by simp)
 refine⟨⟨j.mod,S.kind,U,U,vD _,λy z c B g=>?_,λy l=>?_,λy c _ h=>?_,λ_=>J,D7.frames_deeper j.frames,.inr ⟨U,U⟩,λb z=>JP z (m b),j.bs,j.bsz,λb _ _=>m b,λb z=>JP z (m b),j.funs,j.frf⟩,
  rfl,j.bare,Un.kept G,⟨_,x.toInCall.ns,λi y v B g R=>?_⟩,λy c h=>⟨_,x.cell y c h⟩,j.hok.fresh (vD _),λy c h=>?_,λp o=>JP (show p∈([]:List (DF×Obj))from o) (by simp),j.hok.kept G,?_⟩
 .exact name_of_addr x.apart (mem_of_lookup B) (mem_of_lookup g)
 .have l:scope.names.lookup y=JH .cell\/scope.names.lookup y=JH .free:=l;rcases l with l|l
  .exact qu l
  .exact JP U (S.nofree _ (mem_of_lookup l))
 .exact v5 (x.above y c (mem_of_lookup h))
 .have hi:i<vs.length:=by
   unfold start at g;by_cases hi:i<vs.length
   .exact hi
   .rw[mu (by simpa using hi)]at g;rw[List.getElem?_replicate]at g;split at g <;> cases g
  have L:vs[i]?=JH v:=by
   unfold start at g;rw[fc (by simpa using hi),eR]at g;cases e:vs[i]? with
   |none=>rw[e]at g;cases g
   |some a=>rw[e]at g;cases g;rfl
  obtain⟨u,F,I⟩:=r.get L;have o:ps[i]?=JH y:=by
   rw[←S.pre,List.getElem?_take_of_lt (by lia)];exact B
  have t:ps.Nodup:=by rw[←S.pre];exact S.nd.sublist (List.take_sublist _ _)
  refine⟨u,I,?_⟩;rcases S.par y (GB o)with k|k
  .exact .inl ⟨k,oq t o F k⟩
  .obtain⟨c,e⟩:=qu (n:=s.heap.objs.size+1) k;refine .inr ⟨.inl k,c,e,?_⟩;have q:=x.cell y c e;rw[ot t o F (by show scope.names.lookup y≠_;rw[k];decide)]at q;exact q
 .exact j.hok.fresh (v5 (x.above y c (mem_of_lookup h)))
 .unfold start;show _=N.length;rw[dg,bo,oD];lia
theorem wa{CX:CXT}{P:Dn}{w:Cu}{K:W.Frag}{mg:Str->Option Ct}{base:DG}{k:Nat}{f:DF}{name qual:Str}{params:HA}{body:List GK}{scope:Ge}{F kV doc pm c G X:Ct}{L T:Option DF}
  {z:Array (Option Ct)}{N ps:List Str}{sp:Sp}(Y:K.lookup f=JH ⟨X,T,.func (W.fnOf name qual params body scope F kV doc pm L c G),z⟩)(C:W.codeIn K c qual=JJ)(S:aq N ps scope)
  (len:∀vs H Q E,sp vs H Q E->vs.length=ps.length)
  (eA:∀(A:D7)(a:List Env)(s:F7)(H:Hp)(vs:List V)(Q:VK)(E:XK),bN k (A.deeper (envOfC qual scope s.heap.objs.size f c))->sp vs H Q E ->
   ∃t,PSs (iY CX P w K mg base N qual scope f c A a s H E) body t/\t { nx:=λ_ H'=>Q .non H',rt:=Q } (start N vs) H) :
  aJ P w K mg base CX (k+1) f (W.fnOf name qual params body scope F kV doc pm L c G) ps sp:=by
 refine⟨len,λA a s H O R vs Q E p h hb r i=>?_⟩;have hl:=len _ _ _ _ i;have M:K.In s.heap:=h.mod.kin.keeps λb o e=>(h.bs b o e).1
 have B:s.heap.NoLimit:=h.mod.nolimit.keeps λb o e=>(h.bs b o e).1
 have BR:∀y∈ps.zip R,scope.names.lookup y.1=JH .local\/(scope.names.lookup y.1=JH .cell/\((Hz (s.heap.objs.size+1) scope.names []).lookup y.1).isSome=JJ):=λ⟨n,v⟩ Z=>by
  rcases S.par n (rr Z).1 with q|q
  .exact .inl q
  .exact .inr ⟨q,W.cellsFrom_some _ _ _ (.inl q)⟩
 refine codeAny_call_function p.depth (M _ _ Y) U S.co S.gen U (W.codeRec_of M C) (hb _ _ _ _ ?_);refine wpAny_newFunctionEnv_cells S.kind BR λa0 he D x=>?_
 subst he;refine⟨B.keeps x.toInCall.keep,codeAny_func ?_⟩;obtain⟨t,ht,hq⟩:=eA A a s H vs Q E (p.deeper _) i;have I:Inv (iY CX P w K mg base N qual scope f c A a s H E) [] (start N vs) H D:=uK S p.hd h hl r x;refine GL (ht [] D (start N vs) H _ I hq) (λfl l g=>?_) λe l g=>g
 have j:∀{d:St}{H':Hp}{v:V}{u:Ct},Inv (iY CX P w K mg base N qual scope f c A a s H E) [] d H' l->RelV v u->Q v H'->CE a P w H s Q u l :=
  λ{d H' v u} J m q=>⟨v,H',J.os,J.bare,J.base,J.hok,m,q⟩
 cases fl with
 |ret u =>
  obtain⟨v,d,H',J,m,q⟩:=g;exact j J m q
 |next =>
  obtain⟨d,H',J,q⟩:=g;exact j (v:=V.non) (u:=Ct.none) J U q
 |brk =>
  obtain⟨_,_,_,q⟩:=g;exact False.elim q
 |cont =>
  obtain⟨_,_,_,q⟩:=g;exact False.elim q
section
variable{x:Str}{id T:String}{r:List V->Hp->VK->Prop}
def tCB(r:List V->Hp->VK->Prop)(t:TA):TE:=λσ H Q=>t σ H λa b=>r a b Q
theorem au(n:cP X (.builtin id) r)(m:Gl X x)(l:X.mg x=JI)(j:D6 x=JH (.builtin id))(o:PA X (e :: es) t)(k:x ≠ "__name__" := by decide) (b:(x == ("__debug__" : Str))=false:=by decide)
  (he:GJ (e :: es) X.env=(JK,eval e X.env) :: GJ es X.env:=by rfl)(a:(GI pos (GJ es X.env)).any (·.1)=false:=by rfl):PE X (.Call (.Name x p) (e :: es) [] pos) (tCB r t):=by
 intro JM s σ H Q I h;refine B7 (gY I m l j ?_ k b);exact PyProof.Rows.callWith_builtin1 (thn (o pos JM s σ H _ I h) λd f ⟨c,u,q,g,i⟩=>n JM f σ u c d Q q g i) he a
theorem ck(n:cP X (.type T) r)(m:Gl X x)(l:X.mg x=JI)(j:D6 x=JH (.type T))(o:PA X (e :: es) t)(k:x ≠ "__name__" := by decide) (b:(x == ("__debug__" : Str))=false:=by decide)
  (he:GJ (e :: es) X.env=(JK,eval e X.env) :: GJ es X.env:=by rfl)(a:(GI pos (GJ es X.env)).any (·.1)=false:=by rfl):PE X (.Call (.Name x p) (e :: es) [] pos) (tCB r t):=by
 intro JM s σ H Q I h;refine B7 (gY I m l j ?_ k b);exact PyProof.Rows.callWith_type1 (thn (o pos JM s σ H _ I h) λd f ⟨c,u,q,g,i⟩=>n JM f σ u c d Q q g i) he a
end
end L2
namespace HT
open PySem PyProof.Rows
section
open PySem.SeqAt
open PySem.AutoSeq1 (wpAny_loadPart')
open PySem.MeetsSeq PySem.MeetsSeq2 PySem.MeetsSeq3
end
section
variable{prog:Dn}{w:Cu}{A:D7}{E:Ct->F7->Prop}{s:F7}
theorem cat_tup{t b:DF}{vs ws:List Ct}{Q:Ct->F7->Prop}(r:IsTup s.heap t vs.toArray)(u:IsTup s.heap b ws.toArray)(o:vs≠[])
  (x:ws=[]->Q (.ref t) s)(v:ws≠[]->Q (.ref s.heap.objs.size) { s with heap:=s.heap.push { cls:=.type "tuple",data:=.seq (vs++ws).toArray } })
  (j:vs.length+ws.length<=DO):GC (model prog w) A (Hb .Add (.ref t) (.ref b)) Q E s:=by
 obtain⟨⟨cls,dd,data,l⟩,i,q,n,p⟩:=id r;obtain⟨⟨y,g,k,c⟩,a,f,m,d⟩:=id u;simp only at q p f d;subst q p f d;have e:vs.toArray++ws.toArray=(vs++ws).toArray:=by simp
 by_cases h:ws=[]
 .exact HB ⟨_,i,rfl⟩ ⟨_,a,rfl⟩ HC HD PySem.F.slot_tuple_add PySem.F.entry_tuple_add (PySem.F.args_tuple_add_2 _ _)
   (tuple_addW1 t b vs.toArray ws.toArray n m dd g l c (by simpa using o) (by simp[h])) ⟨i,a,x h⟩
 .refine HB ⟨_,i,rfl⟩ ⟨_,a,rfl⟩ HC HD PySem.F.slot_tuple_add PySem.F.entry_tuple_add (PySem.F.args_tuple_add_2 _ _)
   (tuple_addW2 t b vs.toArray ws.toArray n m dd g l c (by simpa using o) (by simpa using h) (by rw[dn,dn];exact j)) ⟨i,a,?_⟩
  rw[e];exact v h
def sIx(n d:Nat):Option Int->Nat
 |none=>d
 |some v=>if v<0 then(v+(n:Int)).toNat else min v.toNat n
end
end HT
namespace L2
open PySem PySem.Spec PyProof.Rows
abbrev TO:=St->Hp->(Option Int->Hp->Prop)->Prop
def PO(X:Cx)(e:Option GG)(t:TO):Prop :=
 ∀(a:List (DF×Obj))(s:F7)(b:St)(H:Hp)(Q:Option Int->Hp->Prop),Inv X a b H s->t b H Q ->
  GC (model X.prog X.w) X.A (evalPart e X.env) (λu d=>∃o c,Inv X a b c d/\IsPart u o/\Q o c) X.xe s
def yf:TO:=λ_ H Q=>Q JI H
inductive wb  (Q:Option Int->Hp->Prop)(x:V)(H1:Hp):Prop
 |mk (i:_)(_:x=.int i)(_:Q (JH i) H1):wb Q x H1
def BS(t:TE):TO:=λa H Q=>t a H λx b=>wb Q x b
variable{X:Cx}
section
variable{e:GG}{te:TE}{lo hi:Option GG}{tl th:TO}{pos p2:Pos}
theorem lF:PO X JI yf:=by
 intro a s b H Q I h;rw[HE];exact BY ⟨JI,H,I,.none,h⟩
theorem lG(h:PE X e te):PO X (JH e) (BS te):=by
 intro a s b H Q I f;rw[evalPart_some];refine thn (h a s b H _ I f) λu k ⟨x,j,g,c,d⟩=>?_
 obtain⟨i,rfl,q⟩:=d;obtain⟨t,rfl⟩:=c;exact⟨JH i,j,g,.int i t,q⟩
def SlR(X:Cx)(r:V->Option Int->Option Int->Hp->VK->Prop):Prop :=
 ∀(a:List (DF×Obj))(s:F7)(b:St)(H:Hp)(x:V)(v d c:Ct)(lo hi:Option Int)(e:DF)(Q:VK),Inv X a b H s->RelV x v->s.heap.IsSliceOf e d c .none->IsPart d lo->IsPart c hi->r x lo hi H Q ->
  ∃T f,HF (.type T) "__getitem__" = pure (JH (.builtin f))/\s.TypeIs v T/\GC (model X.prog X.w) X.A (getItem v (.ref e)) (EP X a b Q) X.xe s
def tSl(r:V->Option Int->Option Int->Hp->VK->Prop)(te:TE)(tl th:TO):TE:=λa H Q=>te a H λx d=>tl a d λl c=>th a c λu b=>r x l u b Q
theorem jX{r:V->Option Int->Option Int->Hp->VK->Prop}(B:SlR X r)(E:PE X e te)(C:PO X lo tl)(y:PO X hi th):PE X (.Subscript e (.Slice lo hi JI p2) pos) (tSl r te tl th):=by
 intro a s d H Q I h;refine Subscript_ (thn (E a s d H _ I h) λv j ⟨x,N,L,k,o⟩=>?_);refine wpAny_Slice (thn (C a j d N _ L o) λg s2 ⟨l,M,K,t,n⟩=>thn (y a s2 d M _ K n) λf c ⟨u,i,J,p,m⟩=>?_);rw[HE];refine BY ?_;have G:Inv X a d i { c with heap:=c.heap.push { cls:=.type "slice",data:=.fields #[g,f,.none] } }:=J.kept (t':=c.toks) λb O q=>DG.get?_push_of_some _ q
 obtain⟨T,P,F,z,D⟩:=B a { c with heap:=c.heap.push { cls:=.type "slice",data:=.fields #[g,f,.none] } } d i x v g f l u c.heap.objs.size Q G k (DG.IsSliceOf.new ..) t p m;show GC (model X.prog X.w) X.A (subscriptTail e (.Slice lo hi JI p2) v (.ref c.heap.objs.size)) (EP X a d Q) X.xe { c with heap:=c.heap.push { cls:=.type "slice",data:=.fields #[g,f,.none] } };exact tail_any (ops:=[.ref c.heap.objs.size,v]) z F D (by with_unfolding_all rfl)
def lr(xs:List V)(lo hi:Option Int):List V:=(xs.drop (HT.sIx xs.length 0 lo)).take (HT.sIx xs.length xs.length hi-HT.sIx xs.length 0 lo)
theorem qv(xs:List V)(lo hi:Option Int):(lr xs lo hi).length<=xs.length:=by
 unfold lr;rw[iD,pf];lia
inductive zw(K:W.Frag)(x:V)(y:V)(H:Hp)(Q:VK):Prop
 |mk (a b xs ys:_)(_:x=.ref a)(_:y=.ref b)(_:SqT K H a xs)(_:SqT K H b ys)(_:xs≠[])(_:xs.length+ys.length<=DO)(_:(ys=[]->Q (.ref a) H))(_:(ys≠[]->∀p,H p=JI->Q (.ref p) (upd H p (.tup (xs++ys)))))
theorem Vals.nil_iff{xs:List V}{us:List Ct}(r:Vals xs us):us=[]↔xs=[]:=by
 cases r with
 |nil=>simp
 |cons _ _=>simp
theorem yg:OpR X (Hb .Add) (zw X.K):=by
 intro f s B H x y v u Q I k j h;obtain⟨a,b,i,g,rfl,rfl,t,r,p,e,m,l⟩:=h;cases k;cases j;obtain⟨A,d,n,_⟩:=I.tuple t;obtain⟨D,c,p2,_⟩:=I.tuple r;refine HT.cat_tup n p2 (λz=>p (d.nil_iff.mp z)) (λz=>⟨.ref a,H,I,U,m (c.nil_iff.mp z)⟩) (λz=>?_) (by rw[←d.length,←c.length];exact e);refine⟨.ref s.heap.objs.size,_,I.laid (t':=s.toks) (o:=.tup (i++g)) (λb C q=>DG.get?_push_of_some _ q) (vD _) ?_,U,l (λw=>z (c.nil_iff.mpr w)) _ (I.hok.fresh (vD _))⟩;exact⟨by rw[dg];exact e,_,d.append c,IsTup.new _ _⟩
end
def ixN(n:Nat)(i:Int):Option Nat:=if 0<=i then(if i<n then JH i.toNat else JI)else if -(n:Int)<=i then JH (i+n).toNat else JI
def atI{a:Type}(xs:List a)(i:Int):Option a:=(ixN xs.length i).bind λj=>xs[j]?
theorem tS{n:Nat}{i:Int}{j:Nat}(h:ixN n i=JH j):seqIndex? i n=JH j/\j<n/\-(n:Int)<=i/\i<n:=by
 unfold ixN at h;by_cases b:0<=i
 .rw[JO b]at h;by_cases a:i<n
  .rw[JO a]at h;have e:i.toNat=j:=Option.some.inj h;exact⟨by rw[HG b a,e],by lia,by lia,a⟩
  .rw[JN a]at h;cases h
 .rw[JN b]at h;by_cases a : -(n:Int)<=i
  .rw[JO a]at h;have e:(i+n).toNat=j:=Option.some.inj h;exact⟨by rw[seqIndex_neg (by lia) a,e],by lia,a,by lia⟩
  .rw[JN a]at h;cases h
theorem pD{a:Type}{xs:List a}{i:Int}{v:a}(h:atI xs i=JH v):∃j,seqIndex? i xs.length=JH j/\xs[j]?=JH v/\j<xs.length/\-(xs.length:Int)<=i/\i<xs.length:=by
 unfold atI at h;cases e:ixN xs.length i with
 |none=>rw[e]at h;cases h
 |some j =>
  rw[e]at h;obtain⟨f,d,c,b⟩:=tS e;exact⟨j,f,h,d,c,b⟩
theorem cw{a:Type}{xs:List a}{j:Nat}{v:a}(h:xs[j]?=JH v):atI xs (j:Int)=JH v:=by
 have b:j<xs.length:=(GA.mp h).1;have e:ixN xs.length (j:Int)=JH j:=by
  unfold ixN;rw[JO (by lia),JO (by lia)];simp
 unfold atI;rw[e];exact h
theorem hX{a:Type}(xs:List a)(v:a):atI (xs++[v]) (-1)=JH v:=by
 have b:(xs++[v]).length=xs.length+1:=by simp
 have e:ixN (xs++[v]).length (-1)=JH xs.length:=by
  unfold ixN;rw[b,JN (by decide),JO (by lia)]
  congr 1
  lia
 unfold atI;rw[e];show(xs++[v])[xs.length]?=JH v;simp
def yh(b:GG):Prop:=∀o i,subscripted b JK o i=operate [o,i] (getItem o i)
def IxR(X:Cx)(r:R2):Prop :=
 ∀(value a:GG)(b:List (DF×Obj))(s:F7)(c:St)(H:Hp)(x y:V)(v u:Ct)(Q:VK),Inv X b c H s->RelV x v->RelV y u->r x y H Q ->
  subscripted a JK v u=operate [v,u] (getItem v u)->GC (model X.prog X.w) X.A (subscriptTail value a v u) (EP X b c Q) X.xe s
def MtR(X:Cx)(e:String)(r:V->List V->Hp->VK->Prop):Prop :=
 ∀(a:List (DF×Obj))(s:F7)(b:St)(H:Hp)(x:V)(c:List V)(v:Ct)(d:List Ct)(Q:VK),Inv X a b H s->RelV x v->Vals c d->r x c H Q ->
  GC (model X.prog X.w) X.A (call (.builtin e) (v :: d)) (EP X a b Q) X.xe s
section
variable{a b:GG}{ta tb:TE}{pos:Pos}
theorem aK{r:R2}(i:IxR X r)(k:PE X a ta)(j:PE X b tb)(g:yh b):PE X (.Subscript a b pos) (tOp r ta tb):=by
 intro c s d H Q I h;exact Subscript_ (Ao k j I h λv u s2 x y m l f e q=>i a b c s2 d m x y v u Q l f e q (g _ _))
inductive Ax(K:W.Frag)(x:V)(y:V)(H:Hp)(Q:VK):Prop
 |mk (p xs i v:_)(_:x=.ref p)(_:y=.int i)(_:SqL K H p xs)(_:atI xs i=JH v)(_:Q v H)
inductive Ay(K:W.Frag)(x:V)(y:V)(H:Hp)(Q:VK):Prop
 |mk (p xs i v:_)(_:x=.ref p)(_:y=.int i)(_:SqT K H p xs)(_:atI xs i=JH v)(_:Q v H)
inductive BU  (x:V)(y:V)(H:Hp)(Q:VK):Prop
 |mk (z i c:_)(_:x=.str z)(_:y=.int i)(_:z.length<=DO)(_:atI z.cps.toList i=JH c)(_:Q (.str ⟨#[c]⟩) H):BU x y H Q
theorem aQ:IxR X (Ax X.K):=by
 intro value k a s l H x y v u Q I C B h m;obtain⟨p,M,i,z,rfl,rfl,D,F,q⟩:=h;cases C;obtain⟨t,rfl⟩:=B;obtain⟨g,r,d,N⟩:=I.list D;obtain⟨j,c,L,P,J,G⟩:=pD F;obtain⟨w,o,f⟩:=r.get L;have E:=r.length;have O:=jq;have b:EP X a l Q w s:=⟨z,H,I,f,q⟩;by_cases n:0<=i
 .have e:i.toNat=j:=by
   rw[HG n G]at c;exact Option.some.inj c
  exact item_listR d.isList n (by lia) (by rw[e];simpa using o) b m
 .have e:(i+(g.toArray.size:Int)).toNat=j:=by
   rw[seqIndex_neg (by lia) J]at c;rw[dn,←E];exact Option.some.inj c
  exact subscriptTail_builtinR (x:=w) d.isList.typeIs HH.lookup
   (wpAny_getItem_list_neg (Q:=λr A=>r=w/\EP X a l Q r A) d.isList (by lia) (by rw[dn] <;> lia) (by lia) (by rw[e];simpa using o) ⟨U,b⟩) m
theorem bj:IxR X (Ay X.K):=by
 intro value d a s e H x y v u Q I l k h m;obtain⟨p,F,i,z,rfl,rfl,n,A,q⟩:=h;cases l;obtain⟨t,rfl⟩:=k;obtain⟨E,r,f,G⟩:=I.tuple n;obtain⟨j,C,B,N,M,L⟩:=pD A;obtain⟨w,D,b⟩:=r.get B;have o:=r.length;have J:=jq;have c:EP X a e Q w s:=⟨z,H,I,b,q⟩
 exact subscriptTail_builtinR (x:=w) f.typeIs slot_tuple_getitem.lookup
  (getItem_tuple (j:=j) (Q:=λr g=>r=w/\EP X a e Q r g) f (by lia) (by lia) (by rw[dn,←o];exact C) (by simpa using D) ⟨U,c⟩) m
theorem pE:IxR X BU:=by
 intro value a d s w H x y v u Q I f e h g;obtain⟨z,i,c,rfl,rfl,B,l,q⟩:=h;obtain⟨t,rfl⟩:=f;obtain⟨A,rfl⟩:=e;obtain⟨j,b,o,D,n,m⟩:=pD l;have k:z.cps.toList.length=z.length:=by simp[Str.length]
 rw[k]at b n m;have C:=jq;exact tail_any (typeIs_str s z t) slot_str_getitem.lookup (getItem_str (c:=c) (by
  have r:decide (i < -(2^63:Int))=false:=JR (by lia);have p:decide (i ≥ 2^63)=false:=JR (by lia);rw[r,p,Bool.or_false]) (by rw[b];simpa using o) ⟨.str ⟨#[c]⟩,H,I.tok _,⟨_,U⟩,q⟩) g
theorem rZ(a:List Ct)(n j:Nat)(u:Ct):Obj.mapSeq (·.setIfInBounds j u) { cls:=.type "list",data:=.seq a.toArray n }={ cls:=.type "list",data:=.seq (a.set j u).toArray n }:=by
 simp[Obj.mapSeq]
theorem Inv.lst{b:List (DF×Obj)}{c:St}{H:Hp}{s:F7}{p:DF}{xs:List V}(I:Inv X b c H s)(h:H p=JH (.lst xs)) :
  ∃(a:List Ct)(n:Nat),Vals xs a/\s.heap.get? p=JH { cls:=.type "list",data:=.seq a.toArray n }/\xs.length<=DO:=by
 obtain⟨z,a,n,r,e⟩:=I.hok p _ h;exact⟨a,n,r,e,z⟩
theorem Inv.lstUpd{a:List (DF×Obj)}{g:St}{H:Hp}{s:F7}{p:DF}{xs ys:List V}{c its':List Ct}{n d:Nat}{f:Obj->Obj}(I:Inv X a g H s)(h:H p=JH (.lst xs))
  (i:s.heap.get? p=JH { cls:=.type "list",data:=.seq c.toArray n }) (hf:f { cls:=.type "list",data:=.seq c.toArray n }={ cls:=.type "list",data:=.seq its'.toArray d }) (r:Vals ys its')(hz:ys.length<=DO)(t:Nat) :
  Inv X a g (upd H p (.lst ys)) { s with heap:=s.heap.update p f,toks:=t }:=by
 have e:(s.heap.update p f).get? p=JH { cls:=.type "list",data:=.seq its'.toArray d }:=by
  rw[DG.get?_update_self f i (by rw[hf] <;> rfl),hf]
 refine I.write (x:=p) (e:=p) (by rw[h];trivial) (.inl U) (λb u j q=>(DG.get?_update_other _ _ (Ne.symm j)).trans q) ⟨_,e⟩ ?_;exact⟨hz,its',d,r,e⟩
inductive zx  (o:V)(i:V)(v:V)(H:Hp)(Q:(Hp->Prop)):Prop
 |mk (p xs k j:_)(_:o=.ref p)(_:i=.int k)(_:H p=JH (.lst xs))(_:ixN xs.length k=JH j)(_:Q (upd H p (.lst (xs.set j v)))):zx o i v H Q
theorem set_list:BE X zx:=by
 intro b s y H o i v F G u Q I B C A h;obtain⟨p,z,k,j,rfl,rfl,g,E,q⟩:=h;cases B;obtain⟨t,rfl⟩:=C;obtain⟨a,n,r,d,D⟩:=I.lst g;obtain⟨c,K,m,l⟩:=tS E;have e:=r.length;have J:=jq;have x:Inv X b y (upd H p (.lst (z.set j v))) { s with heap:=s.heap.update p (Obj.mapSeq (·.setIfInBounds j u)) } :=
  I.lstUpd g d (rZ a n j u) (r.set A j) (by rw[List.length_set];exact D) s.toks
 by_cases w:0<=k
 .have f:k.toNat=j:=by
   rw[HG w l]at c;exact Option.some.inj c
  exact W.ki_setAt d w (by lia) (by rw[dn,←e];exact l) (by rw[f];exact⟨_,x,q⟩)
 .have f:(k+(a.toArray.size:Int)).toNat=j:=by
   rw[seqIndex_neg (by lia) m]at c;rw[dn,←e];exact Option.some.inj c
  exact W.ki_setBack d (by lia) (by rw[dn,←e];exact m) (by lia) (by rw[f];exact⟨_,x,q⟩)
theorem pF(lo hi:Option Int)(n:Nat):(HI lo hi JI n).1=((HT.sIx n 0 lo:Nat):Int)/\(HI lo hi JI n).2.1=((HT.sIx n n hi:Nat):Int)/\(HI lo hi JI n).2.2=1:=by
 refine⟨?_,?_,U⟩
 .cases lo with
  |none=>simp[HI,HT.sIx]
  |some i =>
   simp only[HI,HT.sIx,BV,show(1:Int)>0 by decide,if_true];by_cases h:i<0
   .simp only[h,if_true] <;> lia
   .simp only[h,if_false] <;> lia
 .cases hi with
  |none=>simp[HI,HT.sIx]
  |some i =>
   simp only[HI,HT.sIx,BV,show(1:Int)>0 by decide,if_true];by_cases h:i<0
   .simp only[h,if_true] <;> lia
   .simp only[h,if_false] <;> lia
theorem nC(a:List Ct)(lo hi:Option Int):slicePick a.toArray lo hi JI=((a.drop (HT.sIx a.length 0 lo)).take (HT.sIx a.length a.length hi-HT.sIx a.length 0 lo)).toArray:=by
 obtain⟨d,c,b⟩:=pF lo hi a.toArray.size;unfold slicePick;rw[d,c,b];simp only[sliceRange_one,pick_run,dn] <;> rfl
inductive Az(K:W.Frag)(x:V)(lo:Option Int)(hi:Option Int)(H:Hp)(Q:VK):Prop
 |mk (a xs:_)(_:x=.ref a)(_:SqL K H a xs)(_:∀p,H p=JI->Q (.ref p) (upd H p (.lst (lr xs lo hi))))
theorem lH:SlR X (Az X.K):=by
 intro f s p H x v u t lo hi w Q I g m j i h;obtain⟨a,c,rfl,l,q⟩:=h;cases g;obtain⟨n,r,e,k⟩:=I.list l;have d:=r.length;refine⟨"list",_,HH.lookup,e.isList.typeIs,?_⟩;refine wpAny_getItem_list_slice e.isList m j i .none (by simp) ?_ (by rw[dn] <;> lia);rw[nC,←d];refine⟨.ref s.heap.objs.size,_,I.laid (t':=s.toks) (o:=.lst (lr c lo hi)) (λb y q=>DG.get?_push_of_some _ q) (vD _) ?_,U,q _ (I.hok.fresh (vD _))⟩;exact⟨vG (qv c lo hi) k,_,0,(r.drop (HT.sIx c.length 0 lo)).take (HT.sIx c.length c.length hi-HT.sIx c.length 0 lo),DG.get?_push_size _ U⟩
def dR:V->Bool
 | .non=>JJ
 | .bl _=>JJ
 | .int _=>JJ
 | .str _=>JJ
 |_=>JK
def eqV:V->V->Bool
 | .non,.non=>JJ
 | .bl a,.bl b=>a == b
 | .bl a,.int b=>(if a then 1 else 0) == b
 | .int a,.bl b=>a == (if b then 1 else 0)
 | .int a,.int b=>a == b
 | .str a,.str b=>a == b
 |_,_=>JK
theorem se{A:D7}{s:F7}{y x:V}{u v:Ct}(e:RelV y u)(c:RelV x v)(g:dR y=JJ)(f:dR x=JJ):SeqAt.EqAt A s u v (eqV y x):=by
 cases y with
 |non =>
  cases e;cases x with
  |non=>cases c;exact SeqAt.EqAt.same _
  |bl b=>cases c;exact SeqAt.EqAt.none_bool b
  |int b=>obtain⟨t,rfl⟩:=c;exact SeqAt.EqAt.none_int b t
  |str b=>obtain⟨t,rfl⟩:=c;exact SeqAt.EqAt.none_str b t
  |_=>exact JP (show JK=JJ from f) Bool.false_ne_true
 |bl a =>
  cases e;cases x with
  |non=>cases c;exact SeqAt.EqAt.bool_none a
  |bl b=>cases c;exact SeqAt.EqAt.bool_bool a b
  |int b=>obtain⟨t,rfl⟩:=c;exact SeqAt.EqAt.bool_int a b t
  |str b=>obtain⟨t,rfl⟩:=c;exact SeqAt.EqAt.bool_str a b t
  |_=>exact JP (show JK=JJ from f) Bool.false_ne_true
 |int a =>
  obtain⟨d,rfl⟩:=e;cases x with
  |non=>cases c;exact SeqAt.EqAt.int_none a d
  |bl b=>cases c;exact SeqAt.EqAt.int_bool a d b
  |int b=>obtain⟨t,rfl⟩:=c;exact SeqAt.EqAt.int_int a d b t
  |str b=>obtain⟨t,rfl⟩:=c;exact SeqAt.EqAt.int_str a d b t
  |_=>exact JP (show JK=JJ from f) Bool.false_ne_true
 |str a =>
  obtain⟨d,rfl⟩:=e;cases x with
  |non=>cases c;exact SeqAt.EqAt.str_none a d
  |bl b=>cases c;exact SeqAt.EqAt.str_bool a d b
  |int b=>obtain⟨t,rfl⟩:=c;exact SeqAt.EqAt.str_int a d b t
  |str b=>obtain⟨t,rfl⟩:=c;exact SeqAt.EqAt.str_str a d b t
  |_=>exact JP (show JK=JJ from f) Bool.false_ne_true
 |_=>exact JP (show JK=JJ from g) Bool.false_ne_true
theorem aC:cP X (.builtin "len") (λxs H Q=>∃p ys,xs=[.ref p]/\(SqL X.K H p ys\/SqT X.K H p ys)/\Q (.int ys.length) H):=by
 intro f s j H xs k Q I r h;obtain⟨p,ys,rfl,b,q⟩:=h;obtain⟨u,rfl,g⟩:=vals1 r;cases g;have l:=jq;rcases b with b|b
 .obtain⟨e,c,d,i⟩:=I.list b;have a:=c.length;exact Calls.call_len_list d.isList (by simp only[dn] <;> lia) ⟨.int ys.length,H,I.tok _,⟨s.toks+1,by rw[dn,a]⟩,q⟩
 .obtain⟨e,c,d,i⟩:=I.tuple b;have a:=c.length;exact len_tuple d (by simp only[dn] <;> lia) ⟨.int ys.length,H,I.tok _,⟨s.toks+1,by rw[dn,a]⟩,q⟩
theorem pG:cP X (.builtin "len") (λxs H Q=>∃z,xs=[.str z]/\z.length<=DO/\Q (.int z.length) H):=by
 intro a s b H xs c Q I r h;obtain⟨z,rfl,d,q⟩:=h;obtain⟨u,rfl,t,rfl⟩:=vals1 r;have e:=jq;exact len_str (by lia) ⟨.int z.length,H,I.tok _,⟨_,U⟩,q⟩
theorem dZ:cP X (.type "list") (λxs H Q=>∃p ys,xs=[.ref p]/\(SqL X.K H p ys\/SqT X.K H p ys)/\∀l,H l=JI->Q (.ref l) (upd H l (.lst ys))):=by
 intro m s B H xs D Q I r h;obtain⟨p,ys,rfl,j,q⟩:=h;obtain⟨u,rfl,C⟩:=vals1 r;cases C
 have k:∀(a:List Ct),Vals ys a->ys.length<=DO->∀(c:DG)(f:Nat),(∀b A,s.heap.get? b=JH A->c.get? b=JH A) ->
   c.get? s.heap.objs.size=JH { cls:=.type "list",dict:=JI,data:=.seq a.toArray f,slots:=#[] }->EP X m B Q (.ref s.heap.objs.size) { s with heap:=c }:=λa d i c f g e =>
  ⟨.ref s.heap.objs.size,_,I.laid (t':=s.toks) g (vD _) (show cq X.prog X.w _ c _ (.lst ys) from⟨i,a,f,d,e⟩),U,q _ (I.hok.fresh (vD _))⟩
 rcases j with j|j
 .obtain⟨a,d,v,i⟩:=I.list j;have t:=d.length;obtain⟨o,x,z,n,y⟩:=v.isList;exact HJ p (.inl U) x z y (λc f g e=>k a d i c f g e) (by simp only[dn] <;> lia)
 .obtain⟨a,d,v,i⟩:=I.tuple j;have t:=d.length;obtain⟨o,x,z,n,y⟩:=v;exact HJ p (.inr U) x z y (λc f g e=>k a d i c f g e) (by simp only[dn] <;> lia)
theorem nE:cP X (.type "tuple") (λxs H Q=>∃p ys,xs=[.ref p]/\((SqL X.K H p ys/\∀l,H l=JI->Q (.ref l) (upd H l (.tup ys)))\/(SqT X.K H p ys/\Q (.ref p) H))):=by
 intro a s j H xs y Q I r h;obtain⟨p,ys,rfl,h⟩:=h;obtain⟨u,rfl,t⟩:=vals1 r;cases t;rcases h with⟨i,q⟩|⟨i,q⟩
 .obtain⟨c,f,g,k⟩:=I.list i;have n:=f.length;refine call_tuple_list g.isList (λd v=>?_) (by simp only[dn] <;> lia);have m:Inv X a j H { s with heap:=d }:=I.kept (t':=s.toks) v;have x:Inv X a j (upd H d.objs.size (.tup ys)) { s with heap:=d.push { cls:=.type "tuple",data:=.seq c.toArray } } :=
   m.laid (t':=s.toks) (λb o e=>DG.get?_push_of_some _ e) (vD _) (show cq X.prog X.w _ _ _ (.tup ys) from⟨k,c,f,IsTup.new _ _⟩)
  exact⟨.ref d.objs.size,_,x,U,q _ (m.hok.fresh (vD _))⟩
 .obtain⟨c,f,g,k⟩:=I.tuple i;exact call_tuple_same g ⟨.ref p,H,I,U,q⟩
def tyV(K:W.Frag)(T:String)(x:V)(H:Hp):Prop:=match x with
 | .str _=>T = "str"
 | .int _=>T = "int"
 | .ref p=>(T = "list" /\ ∃b,SqL K H p b)\/(T = "tuple" /\ ∃o,K.lookup p=JH o/\o.cls=.type "tuple" /\ o.dict=JI) \/
   (T = "dict" /\ ((∃a,H p=JH (.dK a))\/∃a,H p=JH (.dT a)))\/(T = "set" /\ ∃S n,H p=JH (.set S n))
 |_=>False
theorem AA{f:List (DF×Obj)}{m:St}{H:Hp}{s:F7}{T:String}{x:V}{v:Ct}(I:Inv X f m H s)(r:RelV x v)(ty:tyV X.K T x H) :
  s.TypeIs v T/\∀a,v=.ref a->∃l,s.heap.get? a=JH l/\l.dict=none:=by
 cases x with
 |str z =>
  obtain⟨t,rfl⟩:=r;cases (show T = "str" from ty);exact⟨typeIs_str s z t,λ_ e=>nomatch e⟩
 |int i =>
  obtain⟨t,rfl⟩:=r;cases (show T = "int" from ty);exact⟨typeIs_int s i t,λ_ e=>nomatch e⟩
 |ref p =>
  cases r;rcases ty with⟨rfl,y,q⟩|⟨rfl,o,b,u,g⟩|⟨rfl,b⟩|⟨rfl,S,n,b⟩
  .obtain⟨w,_,k,_⟩:=I.list q;refine⟨k.isList.typeIs,λa e=>?_⟩;cases e;obtain⟨o,n,e,c,g,_⟩:=k;exact⟨o,e,g⟩
  .refine⟨⟨o,I.kIn p o b,u⟩,λa e=>?_⟩;cases e;exact⟨o,I.kIn _ o b,g⟩
  .have z:∃o,s.heap.get? p=JH o/\o.ExactDict:=by
    rcases b with⟨j,b⟩|⟨j,b⟩
    .obtain⟨_,_,_,_,o,_,_,e,d,_⟩:=I.hok p _ b;exact⟨o,e,d⟩
    .obtain⟨_,_,_,_,o,_,_,e,d,_⟩:=I.hok p _ b;exact⟨o,e,d⟩
   obtain⟨o,e,d⟩:=z;refine⟨⟨o,e,d.1⟩,λa h=>?_⟩;cases h;exact⟨o,e,d.2.1⟩
  .obtain⟨o,_,_,_,e,d,_⟩:=I.hok p _ b;refine⟨⟨o,e,d.1⟩,λa h=>?_⟩;cases h;exact⟨o,e,d.2.1⟩
 |_=>exact False.elim ty
def tBM(K:W.Frag)(T:String)(r:V->List V->Hp->VK->Prop)(to:TE)(t:TA):TE:=λa H Q=>to a H λx b=>tyV K T x b/\t a b λc d=>r x c d Q
variable{o e:GG}{es:List GG}{to:TE}{t:TA}{name:Str}{apos js:Pos}{T id:String}{r:V->List V->Hp->VK->Prop}
theorem gN(q:PlainAttrs T)(b:Slot T name id)(d:HK (.builtin id)=pure (.type "method_descriptor")) (hm:MtR X id r)(w:PE X o to)(y:PA X (e :: es) t)
  (G:Hl o name X.env (eval o X.env)=eval o X.env:=by rfl)
  (E:((GI js (GJ (e :: es) X.env)).all (λx=>!x.1) && (HL js (HM [] X.env)).all (λx=>x.1.isSome)
   && decide ((e :: es).length+([]:List Keyword).length+(if ([]:List Keyword).isEmpty then 0 else 1)<30))=true:=by rfl)
  (F:(apos.endLine == js.line)=true:=by rfl)(u:GJ (e :: es) X.env=(JK,eval e X.env) :: GJ es X.env:=by rfl)(J:(GI js (GJ es X.env)).any (·.1)=false:=by rfl) :
  PE X (.Call (.Attribute o name apos) (e :: es) [] js) (tBM X.K T r to t):=by
 intro a s c H Q I h;refine wpAny_Call_method_late G E F U (thn (w a s c H _ I h) λv l ⟨x,D,i,f,ty,p⟩=>?_);obtain⟨A,z⟩:=AA i f ty;refine⟨T,id,q,b,d,A,z,?_⟩;have g:=y js a l c D _ i p;rw[u]at g⊢;refine Calls.callWith_builtin (by show(JK || (GI js (GJ es X.env)).any (·.1))=JK;rw[J] <;> rfl) (Calls.evalArgs_plain ?_);exact thn g λk s2 ⟨j,C,B,m,n⟩=>hm a s2 c C x j v k Q B f m n
end
def MtM(X:Cx)(e:String)(r:V->List V->Hp->VK->Prop):Prop :=
 ∀(a:List (DF×Obj))(s:F7)(b:St)(H:Hp)(x:V)(c:List V)(v:Ct)(d:List Ct)(Q:VK),Inv X a b H s->RelV x v->Vals c d->r x c H Q ->
  GC (model X.prog X.w) X.A (call (.builtin e) (v :: d)) (EP X a b Q) X.xe s
theorem Vals.one:∀{x:V}{us:List Ct},Vals [x] us->∃u,us=[u]/\RelV x u
 |_,_,.cons r .nil=>⟨_,U,r⟩
theorem Vals.two:∀{x y:V}{us:List Ct},Vals [x,y] us->∃u v,us=[u,v]/\RelV x u/\RelV y v
 |_,_,_,.cons r (.cons q .nil)=>⟨_,_,U,r,q⟩
section
variable{JM:List (DF×Obj)}{σ:St}{H:Hp}{s:F7}{l b:DF}{xs ys zs:List V}
theorem Inv.lset{a its':List Ct}{n:Nat}{f:Array Ct->Array Ct}{t':Nat}(I:Inv X JM σ H s)(g:H l=JH (.lst xs))
  (e:s.heap.get? l=JH { cls:=.type "list",data:=.seq a.toArray n }) (hf:f a.toArray=its'.toArray)(b:Vals ys its')(hz:ys.length<=DO) :
  Inv X JM σ (upd H l (.lst ys)) { s with heap:=s.heap.update l (Obj.mapSeq f),toks:=t' }:=by
 have q:=PySem.IsL.update e f;rw[hf]at q;refine I.write (x:=l) (e:=l) (by rw[g];exact trivial) (.inl U) (λh u d c=>(DG.get?_update_other s.heap (Obj.mapSeq f) (Ne.symm d)).trans c) ⟨_,q⟩ ?_;exact⟨hz,its',_,b,q⟩
theorem Inv.lnew{a:List Ct}{t':Nat}(I:Inv X JM σ H s)(b:Vals ys a)(hz:ys.length<=DO) :
  Inv X JM σ (upd H s.heap.objs.size (.lst ys)) { s with heap:=s.heap.push { cls:=.type "list",data:=.seq a.toArray },toks:=t' } :=
 I.laid (λ_ _ q=>DG.get?_push_of_some _ q) (vD _) ⟨hz,a,0,b,DG.get?_push_size _ U⟩
theorem Inv.fresh(I:Inv X JM σ H s):H s.heap.objs.size=none:=I.hok.fresh (vD _)
theorem Inv.lstM(I:Inv X JM σ H s)(b:H l=JH (.lst xs)):xs.length<=DO/\∃(a:List Ct)(n:Nat),Vals xs a/\xs.length=a.length/\s.heap.get? l=JH { cls:=.type "list",data:=.seq a.toArray n }:=by
 obtain⟨z,a,n,r,e⟩:=I.hok l _ b;exact⟨z,a,n,r,r.length,e⟩
theorem wc{n:Nat}(h:n<=DO):G9.List.listTooLong n=false:=by
 unfold G9.List.listTooLong;exact JR (by lia)
end
inductive tT  (x:V)(vs:List V)(H:Hp)(Q:VK):Prop
 |mk (l xs y:_)(_:x=.ref l)(_:vs=[y])(_:H l=JH (.lst xs))(_:xs.length<DO)(_:Q .non (upd H l (.lst (xs++[y])))):tT x vs H Q
theorem bL:MtM X "list.append" tT:=by
 intro c s i H x k v m Q I d f h;obtain⟨l,j,y,rfl,rfl,b,o,q⟩:=h;cases d;obtain⟨u,rfl,g⟩:=f.one;obtain⟨z,a,n,r,p,e⟩:=I.lstM b;refine call_meets F.slot_list_append ⟨_,e,U⟩ F.entry_list_append (F.args_list_append_2 _ _) (PySem.list_append l a.toArray n u (by rw[dn];lia)) ⟨e,?_⟩;refine⟨.non,_,I.lset (its':=a++[u]) b e (by simp) (r.append (.cons g .nil)) ?_,U,q⟩;rw[dg,hQ];lia
inductive tU  (x:V)(vs:List V)(H:Hp)(Q:VK):Prop
 |mk (l b xs zs:_)(_:x=.ref l)(_:vs=[.ref b])(_:H l=JH (.lst xs))(_:H b=JH (.lst zs))(_:xs.length+zs.length<=DO)(_:Q .non (upd H l (.lst (xs++zs)))):tU x vs H Q
theorem uL:MtM X "list.extend" tU:=by
 intro g s A H x E v G Q I i j h;obtain⟨l,b,D,B,rfl,rfl,f,p,J,q⟩:=h;cases i;obtain⟨u,rfl,k⟩:=j.one;cases k;obtain⟨z,a,n,r,K,e⟩:=I.lstM f;obtain⟨C,c,o,m,y,t⟩:=I.lstM p;have d:a.toArray.size+c.toArray.size<=DO:=by rw[dn,dn];lia
 have w:¬ (!a.toArray.isEmpty && G9.List.listTooLong (a.toArray.size+c.toArray.size))=true:=by
  rw[wc d,Bool.and_false];exact Bool.false_ne_true
 refine call_meets F.slot_list_extend ⟨_,e,U⟩ F.entry_list_extend (F.args_list_extend_2 _ _)
  (AutoSeq1.list_extend_list_list_0 l a.toArray n b c.toArray o w (by rw[dn];lia) (by lia)) ⟨e,t,?_⟩
 refine⟨.non,_,I.lset (its':=a++c) f e (by simp) (r.append m) ?_,U,q⟩;rw[dg];lia
inductive BZ  (x:V)(y:V)(H:Hp)(Q:VK):Prop
 |mk (l b xs zs:_)(_:x=.ref l)(_:y=.ref b)(_:H l=JH (.lst xs))(_:H b=JH (.lst zs))(_:xs.length+zs.length<=DO)(_:∀p,H p=JI->Q (.ref p) (upd H p (.lst (xs++zs)))):BZ x y H Q
theorem jt:OpR X (Hb .Add) BZ:=by
 intro d s t H x y v u Q I g f h;obtain⟨l,b,B,w,rfl,rfl,j,k,D,q⟩:=h;cases g;cases f;obtain⟨z,a,n,r,E,e⟩:=I.lstM j;obtain⟨A,c,C,i,p,o⟩:=I.lstM k;refine PySem.P.add_list e o ?_ (by rw[dn,dn];lia);have m:a.toArray++c.toArray=(a++c).toArray:=by simp
 rw[m];exact⟨.ref _,_,I.lnew (t':=s.toks) (r.append i) (by rw[dg];lia),U,q _ I.fresh⟩
section
variable{prog:Dn}{w:Cu}{A:D7}{E:Ct->F7->Prop}{s:F7}
end
end L2
namespace Att
open PySem PySem.W PySem.Calls PyProof.Rows
theorem lu{P:HN}{h:DG}:∀(ns:List Int)(vs:List Ct),WellAll P h vs (ns.map WData.int)->IntsAre vs ns:=by
 intro ns;induction ns with
 |nil =>
  intro vs w;rw[rC]at w;cases w;exact .nil
 |cons n ns c =>
  intro vs w;rw[kO]at w;cases w with
  |cons a b =>
   cases a;exact .cons _ _ (c _ b)
theorem uM{l:OpenLaw}{n:Nat}(t:l.most=JH n){P:HN}{h:DG}{args:List WData}{b:List Ct}
  (j:l.row.toRowW.claim.pre args=JJ)(g:WellAll P h b args) :
  ∃a vs ns,b=[Ct.ref a]/\args=[WData.list (ns.map WData.int)]/\h.get? a=JH { cls:=.type "list",data:=.seq vs.toArray }/\IntsAre vs ns/\ns.length<=n:=by
 have i:WShape.hasAll [] args [.list .int]=true:=(pre_splitW j).1;have k:l.pre.holds [] { args:=args }=true:=(pre_splitW j).2;obtain⟨d,r,rfl,w,v⟩:=hasAllW_cons i;obtain rfl:=hasAllW_nil v;obtain⟨y,rfl,u⟩:=hasW_list w;obtain⟨ns,rfl⟩:=items_int u;have c:ns.length<=n:=by
  unfold OpenLaw.pre at k;have f:(WTm.not (.lt (.lit (.int (n:Int))) (.len (.arg 0)))).holds [] { args:=[.list (ns.map .int)] }=true:=by
   have f:=(holds_andW k).1;rw[t]at f;exact f
  have e:=condW_of f (w_not (w_lt w_lit (w_len_list (w_arg rfl))));rw[bo]at e;refine Nat.le_of_not_lt λq=>?_
  have p:(n:Int)<((ns.length:Nat):Int):=by lia
  first
   |(rw[JQ p]at e;exact JP e (by decide))
   |(simp at e;lia)
 cases g with
 |cons o m =>
  cases m;cases o with
  |list s x=>exact⟨_,_,ns,rfl,rfl,s,lu ns _ x,c⟩
theorem uN(l:OpenLaw)(args:List WData):l.row.toRowW.claim.post args (.bool JJ) args=true :=
 postW_of (r:=l.row.toRowW) (X:=(JJ == JJ))
  (show WShape.has [] (.bool JJ) .bool=JJ by first|rfl|decide|simp[WShape.has,WShape.arms,WShape.armsAll])
  (show(WTm.eq .res (.lit (.bool JJ))).value [] { args:=args,res:=JH (.bool JJ),after:=args }=JH (.bool (JJ == JJ))from w_eq_bool (w_res rfl) w_lit) rfl
theorem attach_call{l:OpenLaw}{n:Nat}{q:Dn}{e:List Str}{XP:(Str->Option Ct)->DG->Prop}{v:Cu->DG->Prop}{d:DefRec}
  (C:l.most=JH n)(s:d.params.defaults=[])
  (call:∀(w:Cu)(c b:F7)(mg k:Str->Option Ct)(h:DF)(o:Obj)(pm j doc:Ct)(a:DF)(vs:List Ct)(ns:List Int),
   Ground q e [] XP w c mg k b.heap->v w b.heap ->
   b.heap.get? h=JH o->o.data=.func (docDef d.name d.params d.body d.scope pm j doc)->b.heap.CodeRec j d.name->mg d.name=JH (.ref h) ->
   b.heap.get? a=JH { cls:=.type "list",data:=.seq vs.toArray }->IntsAre vs ns->ns.length<=n->b.gens = #[] ->
   Hk (model l.prog w) HP (.call (.ref h) ⟨[.ref a],[]⟩) (λr s'=>r=.ok (.ret (.bool JJ))/\OldK b.heap s'.heap/\s'.os=b.os/\AllBare s'.gens) b) :
  WalkO q e XP v l.row.toRowW d [] (λf vs=>PySem.call f vs):=by
 intro w c b mg k G Y h o pm j doc K kV B F t u p E y x O z P M m N;obtain rfl:K=.none:=Dflts.none u s;obtain rfl:kV=.none:=Dflts.noKw u;obtain⟨a,vs,ns,rfl,rfl,L,g,i⟩:=uM C z m;refine enter_call (Hu (call w c b mg k h o pm j doc a vs ns G Y B (fd_plain F) t p L g i E) λr s' A=>?_);obtain⟨rfl,J,I,H⟩:=A;exact⟨.inl ⟨.bool JJ,.bool JJ,[],rfl,λ_=>rfl,.bool JJ,uN l _,λ_=>⟨List.Pairwise.nil,λ_ D=>(nomatch D)⟩⟩,J,I,H⟩
section
variable{prog:Dn}{w:Cu}{A:D7}{E:Ct->F7->Prop}{s:F7}{K:Frag}
end
end Att
namespace L2
open PySem PySem.Spec PyProof.Rows
theorem ow:∀{vs:List Ct}{ns:List Int},IntsAre vs ns->Vals (ns.map V.int) vs
 |_,_,.nil=>.nil
 |_,_,.cons n t h=>.cons ⟨t,U⟩ (ow h)
def Gf(H:Hp):Prop:=∀b,H b=JI\/∃o a,H b=JH (.frz o (.lst a))
def inClass(s:GK)(j:Nat):GK:=match s with
 | .ClassDef _ _ _ body _ _ _ _ _ _ _=>body.getD j (.Pass ⟨0,0,0,0⟩)
 |_=>.Pass ⟨0,0,0,0⟩
def gn(s:GK):HA:=match s with
 | .FunctionDef _ a _ _ _ _ _ _ _ _=>a
 |_=>{ posonlyargs:=[],args:=[],vararg:=JI,kwonlyargs:=[],kw_defaults:=[],kwarg:=JI,defaults:=[] }
def cD(s:GK):List GK:=match s with
 | .FunctionDef _ _ b _ _ _ _ _ _ _=>b
 |_=>[]
def ak(s:GK):Ge:=match s with
 | .FunctionDef _ _ _ _ _ _ sc _ _ _=>sc
 |_=>{ kind:=.function,names:=[],isGenerator:=JK,isCoroutine:=JK }
abbrev CX0:CXT:=λ_ _ _ _ _ _=>False
abbrev E0:XK:=λ_ _ _=>False
theorem bW{X:Cx}:Passes CX0 X E0:=λ_ _ _ _ _ _ _ h=>h.elim
structure Fun(K:W.Frag)(x qual:Str)(st:GK)(f:DF)(fd:Hq):Prop where
 ex:∃(oc:Ct)(od:Option DF)(kV doc pm:Ct)(an:Option DF)(cdv ct:Ct)(osl:Array (Option Ct)),
  fd=W.fnOf x qual (gn st) (cD st) (ak st) .none kV doc pm an cdv ct/\K.lookup f=JH ⟨oc,od,.func fd,osl⟩/\W.codeIn K cdv qual=JJ
 kp:W.keepIn K (.ref f)=JJ
section
variable{P:Dn}{w:Cu}{K:W.Frag}{mg:Str->Option Ct}{base:DG}
theorem Fun.ok{x qual:Str}{st:GK}{f:DF}{g:Hq}{N ps:List Str}{k:Nat}{sp:Sp}(F:Fun K x qual st f g)(S:aq N ps (ak st))(c:∀vs H Q E,sp vs H Q E->vs.length=ps.length)
  (l:∀(b:Ct)(A:D7)(a:List Env)(s:F7)(H:Hp)(vs:List V)(Q:VK)(E:XK),bN k (A.deeper (envOfC qual (ak st) s.heap.objs.size f b))->sp vs H Q E ->
   ∃t,PSs (iY CX0 P w K mg base N qual (ak st) f b A a s H E).nox (cD st) t/\t { nx:=λ_ H'=>Q .non H',rt:=Q } (start N vs) H):aJ P w K mg base CX0 (k+1) f g ps sp:=by
 obtain⟨r,p,kV,n,o,v,b,u,m,rfl,i,e⟩:=F.ex;refine wa i e S c λA a s H vs Q E j d=>?_
 obtain⟨t,h,q⟩:=l b A a s H vs Q E j d;exact⟨t,h.nox,q⟩
theorem Fun.binds{x qual:Str}{st:GK}{f:DF}{d:Hq}{ps:List Str}(F:Fun K x qual st f d)
  (h:∀(kV doc pm:Ct)(c:Option DF)(a b:Ct)(us:List Ct),us.length=ps.length->Hs (W.fnOf x qual (gn st) (cD st) (ak st) .none kV doc pm c a b) ⟨us,[]⟩=pure (ps.zip us)):Binds K d ps []:=by
 obtain⟨j,i,kV,doc,pm,c,a,b,e,rfl,k,g⟩:=F.ex;exact .all (h kV doc pm c a b)
theorem fun_mk{x qual:Str}{st:GK}{f:DF}{h:Ct}{g e:Option DF}{b:Array (Option Ct)}{kV doc pm a d:Ct}(l:K.lookup f=JH ⟨h,g,.func (W.fnOf x qual (gn st) (cD st) (ak st) .none kV doc pm e a d),b⟩)
  (c:W.codeIn K a qual=JJ)(k:W.keepIn K (.ref f)=JJ):Fun K x qual st f (W.fnOf x qual (gn st) (cD st) (ak st) .none kV doc pm e a d):=⟨⟨h,g,kV,doc,pm,e,a,d,b,U,l,c⟩,k⟩
end
theorem aD{n:Nat}(h:n<=1000):n<DO:=Nat.lt_of_le_of_lt h (by decide)
variable{X:Cx}
theorem pv(i:Nat){x:Str}{pos:Pos}(d:X.N[i]?=JH x:=by rfl)(b:Vis X.env.scope x:=by first|exact Or.inl U|exact Or.inr (Or.inl U)|exact Or.inr (Or.inr U))(c:(x == ("__debug__" : Str))=false:=by decide)
  (a:(x == ("__classdict__" : Str))=false:=by decide):PE X (.Name x pos) (Ai i):=vL d b c a
theorem bp{A B:Prop}(h:B):if JK=JJ then A else B:=by
 rw[JN Bool.false_ne_true];exact h
theorem cZ{A B:Prop}(h:A):if JJ=JJ then A else B:=by
 rw[JO U];exact h
theorem dh{c A B:Prop} [Decidable c] (b:c->A)(a:¬ c->B):if c then A else B:=by
 by_cases h:c
 .rw[JO h];exact b h
 .rw[JN h];exact a h
theorem je{c A B:Prop} [Decidable c] (a:c)(h:B):if (!decide c)=JJ then A else B:=by
 rw[JQ a];exact bp h
def ar(H H':Hp):Prop:=∀b o,H b=JH o->H' b=JH o
theorem ar.refl(H:Hp):ar H H:=λ_ _ h=>h
theorem ar.trans{H e d:Hp}(a:ar H e)(b:ar e d):ar H d:=λc o h=>b c o (a c o h)
theorem ar.free{H H':Hp}(e:ar H H'){l:DF}(h:H' l=Option.none):H l=Option.none:=by
 cases q:H l with
 |none=>rfl
 |some o =>
  rw[e l o q]at h;cases h
theorem ar.seq{K:W.Frag}{H H':Hp}{a:DF}{xs:List V}(e:ar H H')(h:SqL K H a xs):SqL K H' a xs:=by
 rcases h with(h|⟨o,h⟩)|h
 .exact .inl (.inl (e _ _ h))
 .exact .inl (.inr ⟨o,e _ _ h⟩)
 .exact .inr h
set_option maxHeartbeats 4000000
abbrev Pr:=Int×Int
def inR(n:Int)(p:Pr):Bool:=JL (p.1<=n) && decide (n<=p.2)
def inP(ps:List Pr)(n:Int):Bool:=ps.any (inR n)
structure Apart(R:List Pr):Prop where
 le:∀p∈R,p.1<=p.2
 gap:R.Pairwise λp q=>p.2+2<=q.1
structure Gg(R qs:List Pr):Prop where
 ap:Apart R
 mem:∀n,inP R n=inP qs n
 cov:∀p∈qs,p.1<=p.2->∃r∈R,r.1<=p.1/\p.2<=r.2
 low:∀r∈R,∃q∈qs,r.1=q.1
def Callee(P:Dn)(w:Cu)(K:W.Frag)(mg:Str->Option Ct)(base:DG)(k:Nat)(x:Str)(ps:List Str)(sp:Sp):Prop :=
 ∃f a,aJ P w K mg base CX0 k f a ps sp/\Binds K a ps []/\W.keepIn K (.ref f)=JJ/\mg x=JH (.ref f)
theorem Callee.mono{P:Dn}{w:Cu}{K:W.Frag}{mg:Str->Option Ct}{base:DG}{j k:Nat}{x:Str}{ps:List Str}{sp:Sp}(C:Callee P w K mg base j x ps sp)(h:j<=k):Callee P w K mg base k x ps sp:=by
 obtain⟨f,a,F,r⟩:=C;exact⟨f,a,F.mono h,r⟩
variable{pos:Pos}
section
variable{k:Nat}{x:Str}{ps:List Str}{sp:Sp}{e:GG}{es:List GG}{t:TA}{p:Pos}
def tFn(sp:Sp)(t:TA):TE:=λa H Q=>t a H λb c=>sp b c Q E0
theorem aM(C:Callee X.prog X.w X.K X.mg X.base k x ps sp)(o:bN k X.A)(r:Gl X x)(u:PA X (e :: es) t)(j:(x == ("__debug__" : Str))=false:=by decide)
  (he:GJ (e :: es) X.env=(JK,eval e X.env) :: GJ es X.env:=by rfl)(i:(GI pos (GJ es X.env)).any (·.1)=false:=by rfl):PE X (.Call (.Name x p) (e :: es) [] pos) (tFn sp t):=by
 obtain⟨f,y,F,b,n,m⟩:=C;have h:=yd (E:=E0) (dvs:=[]) (ds:=[]) (p:=p) F o r m n b .nil bW u j he i;intro d s g H Q I q;refine h d s g H Q I ?_;have l:t g H λa c=>sp a c Q E0:=q
 have v:(λ(a:List V)(c:Hp)=>sp (a++[]) c Q E0)=λa c=>sp a c Q E0:=by
  funext a c
  rw[jH]
 show t g H λa c=>sp (a++[]) c Q E0
 rw[v];exact l
end
def DH(t u:TS):TS:=λD c H=>∃M:St->Hp->Prop,t { D with nx:=M } c H/\∀a b,M a b->u D a b
theorem aL{X:Cx}{st:GK}{rest:List GK}{t u:TS}(i:PS X st t)(h:PSs X rest u):PSs X (st :: rest) (DH t u):=by
 intro c s f H D I ⟨M,a,b⟩;refine GU (thn (i c s f H { D with nx:=M } I a) λfl g q=>?_);cases fl with
 |next=>obtain⟨d,e,j,q⟩:=q;exact h c g d e D j (b d e q)
 |ret v=>exact q
 |brk=>exact q
 |cont=>exact q
inductive EqI(K:W.Frag)(H:Hp):V->V->Bool->Prop where
 |flat {x y:V}(fx:dR x=JJ)(fy:dR y=JJ):EqI K H x y (eqV x y)
 |same (a:DF):EqI K H (.ref a) (.ref a) JJ
 |tup {a b:DF}{xs ys:List V}(ha:SqT K H a xs)(hb:SqT K H b ys)(fx:xs.all dR=JJ)(fy:ys.all dR=JJ):EqI K H (.ref a) (.ref b) (JL (xs.length=ys.length) && (List.zipWith eqV xs ys).all id)
theorem jY:∀{x:V},dR x=JJ->eqV x x=JJ
 | .non,_=>rfl
 | .bl b,_=>by simp[eqV]
 | .int i,_=>by simp[eqV]
 | .str z,_=>by simp[eqV]
theorem lT:∀{xs:List V},xs.all dR=JJ->(List.zipWith eqV xs xs).all id=JJ
 | [],_=>rfl
 |x :: xs,h=>by
  rw[ph,zC]at h;rw[List.zipWith_cons_cons,ph,lT h.2,Bool.and_true];exact jY h.1
theorem jf{f:Nat->Bool}:∀{xs ys:List V},(∀j x y,xs[j]?=JH x->ys[j]?=JH y->f j=eqV x y)->(List.range (min xs.length ys.length)).all f=(List.zipWith eqV xs ys).all id
 | [],ys,_=>by simp
 |x :: xs,[],_=>by simp
 |x :: xs,y :: ys,h=>by
  have c:=jf (f:=λj=>f (j+1)) (xs:=xs) (ys:=ys) λj a b g e=>h (j+1) a b (by simpa using g) (by simpa using e)
  have i:=h 0 x y U U;have d:min (x :: xs).length (y :: ys).length=min xs.length ys.length+1:=by simp only[gb];lia
  rw[d,List.range_succ_eq_map,ph,List.zipWith_cons_cons,ph,vj,i];show(eqV x y && (List.range (min xs.length ys.length)).all (λj=>f (j+1)))=_;rw[c];rfl
section
variable{JM:List (DF×Obj)}{σ:St}{H:Hp}{s:F7}
theorem EqI.at{A:D7}{x y:V}{u v:Ct}{b:Bool}(e:EqI X.K H x y b)(I:Inv X JM σ H s)(W:A.units+1<Hn)(l:RelV x u)(k:RelV y v):SeqAt.EqAt A s u v b:=by
 cases e with
 |flat i m=>exact se l k i m
 |same a =>
  cases (show u=Ct.ref a from l);cases (show v=Ct.ref a from k);exact SeqAt.EqAt.same _
 | @tup a b xs ys ha hb i m =>
  cases (show u=Ct.ref a from l);cases (show v=Ct.ref b from k);by_cases z:a=b
  .subst z;have e:=I.tuple_inj ha hb;subst e;rw[lT i,JQ U];exact SeqAt.EqAt.same _
  .obtain⟨d,r,p,_⟩:=I.tuple ha;obtain⟨c,q,D,_⟩:=I.tuple hb;have F:=r.length;have E:=q.length;have M:=SeqAt.RcAt.tuples (A:=A) (e:=λj=>match d[j]?,xs[j]?,ys[j]? with|_,JH x,JH y=>eqV x y|_,_,_=>JK) (show s.heap.IsTuple a d.toArray from p) (show s.heap.IsTuple b c.toArray from D) (by lia) (λj f L=>by
    have J:j<d.length:=by simpa using f
    have G:j<c.length:=by simpa using L
    have o:xs[j]?=JH xs[j]:=Gz (by lia);have n:ys[j]?=JH ys[j]:=Gz (by lia);obtain⟨w,h,C⟩:=r.get o;obtain⟨t,g,B⟩:=q.get n;have Q:d.toArray[j]=w:=by
     have:=Gz J;rw[this]at h;simpa using Option.some.inj h
    have P:c.toArray[j]=t:=by
     have:=Gz G;rw[this]at g;simpa using Option.some.inj g
    rw[Q,P];rw[o,n];have O:dR xs[j]=true:=ik.mp i _ (nq _);have N:dR ys[j]=true:=ik.mp m _ (nq _);exact se C B O N)
   have f:=SeqAt.EqAt.of_refs z M;have T:((List.range (min d.toArray.size c.toArray.size)).all λj=>match d[j]?,xs[j]?,ys[j]? with|_,JH x,JH y=>eqV x y|_,_,_=>JK)=(List.zipWith eqV xs ys).all id:=by
    have R:min d.toArray.size c.toArray.size=min xs.length ys.length:=by simp only[dn];lia
    rw[R];exact jf λj x y h g=>by rw[h,g]
   rw[T]at f;have S:(d.toArray.size == c.toArray.size)=JL (xs.length=ys.length):=by
    simp only[dn,←F,←E];exact Bool.beq_eq_decide_eq _ _
   rw[S,Bool.and_comm]at f;exact f
end
inductive uO(K:W.Frag)(neg:Bool)(x:V)(y:V)(H:Hp)(Q:VK):Prop
 |mk (a b xs ys:_)(_:x=.ref a)(_:y=.ref b)(_:SqL K H a xs)(_:SqL K H b ys)(_:((xs.length≠ys.length/\Q (.bl neg) H)\/(xs.length=ys.length/\∃f:Nat->Bool,(∀j x y,xs[j]?=JH x->ys[j]?=JH y->EqI K H x y (f j))/\Q (.bl (if neg then !(List.range xs.length).all f else(List.range xs.length).all f)) H)))
theorem sf{b:List (DF×Obj)}{l:St}{H:Hp}{s:F7}{A:D7}{xs ys:List V}{a its':List Ct}{f:Nat->Bool}(I:Inv X b l H s)(u:A.units+1<Hn)(r:Vals xs a)(e:Vals ys its')
  (hf:∀j x y,xs[j]?=JH x->ys[j]?=JH y->EqI X.K H x y (f j)):∀j (k:j<a.toArray.size)(i:j<its'.toArray.size),SeqAt.EqAt A s a.toArray[j] its'.toArray[j] (f j):=λj k i=>by
 have t:j<a.length:=by simpa using k
 have q:j<its'.length:=by simpa using i
 have B:=r.length;have z:=e.length;have d:xs[j]?=JH xs[j]:=Gz (by lia);have c:ys[j]?=JH ys[j]:=Gz (by lia);obtain⟨n,h,p⟩:=r.get d;obtain⟨m,g,o⟩:=e.get c;have w:a.toArray[j]=n:=by
  have:=Gz t;rw[this]at h;simpa using Option.some.inj h
 have v:its'.toArray[j]=m:=by
  have:=Gz q;rw[this]at g;simpa using Option.some.inj g
 rw[w,v];exact(hf j _ _ d c).at I u p o
theorem sh{k:Nat}(o:bN k X.A):OpR X (He .Eq) (uO X.K JK):=by
 intro i s B H x y v u Q I n m h;obtain⟨a,b,l,C,rfl,rfl,z,w,h⟩:=h;cases (show v=Ct.ref a from n);cases (show u=Ct.ref b from m);obtain⟨c,r,p,_⟩:=I.list z;obtain⟨j,d,g,_⟩:=I.list w;have E:=r.length;have D:=d.length;have F:=o.units;rcases h with⟨G,q⟩|⟨J,f,t,q⟩
 .refine SeqAt.eq_list_lengthsAt p.isList g.isList (by simp only[dn,bne_iff_ne,ne_eq];lia) (by lia) ⟨.bl JK,H,I,U,q⟩
 .refine SeqAt.eq_listAt (e:=f) p.isList g.isList (by simp only[dn];lia) (by lia) (sf I (by show X.A.units+1+1<Hn;lia) r d t) ⟨.bl _,H,I,U,?_⟩;rw[show c.toArray.size=l.length by simp only[dn];lia];exact q
theorem AF{k:Nat}(o:bN k X.A):OpR X (He .NotEq) (uO X.K JJ):=by
 intro i s C H x y v u Q I n m h;obtain⟨a,b,l,D,rfl,rfl,B,z,h⟩:=h;cases (show v=Ct.ref a from n);cases (show u=Ct.ref b from m);obtain⟨c,r,p,_⟩:=I.list B;obtain⟨j,d,g,_⟩:=I.list z;have F:=r.length;have E:=d.length;have G:=o.units;rcases h with⟨J,q⟩|⟨L,f,t,q⟩
 .refine SeqAt.RcNeAt.lists_lengths p.isList g.isList (by simp only[dn,bne_iff_ne,ne_eq];lia) (by lia) X.prog X.w X.xe _ ⟨.bl JJ,H,I,U,q⟩
 .refine SeqAt.RcNeAt.lists (e:=f) p.isList g.isList (by simp only[dn];lia) (by lia) (sf I (by show X.A.units+1+1<Hn;lia) r d t) X.prog X.w X.xe _ ⟨.bl _,H,I,U,?_⟩;rw[show c.toArray.size=l.length by simp only[dn];lia];exact q
theorem uP{K:W.Frag}{H:Hp}{Q:VK}{a b:DF}{xs:List V}(f:SqL K H a xs)(e:SqL K H b xs)(fl:∀x∈xs,dR x=JJ\/∃r,x=.ref r)(q:Q (.bl JK) H):uO K JJ (.ref a) (.ref b) H Q:=by
 refine⟨a,b,xs,xs,U,U,f,e,.inr ⟨U,λ_=>JJ,λj x y d c=>?_,?_⟩⟩
 .rw[d]at c;cases c;rcases fl x (GB d)with z|⟨r,rfl⟩
  .have:=EqI.flat (K:=K) (H:=H) z z;rw[jY z]at this;exact this
  .exact .same r
 .have:(List.range xs.length).all (λ_=>JJ)=true:=by simp
  rw[this];exact q
def cg(H H':Hp):Prop:=∀b a,H b=JH (.tup a)->H' b=JH (.tup a)
theorem ar.tups{H H':Hp}(h:ar H H'):cg H H':=λb a e=>h b _ e
theorem cg.trans{H g f:Hp}(a:cg H g)(b:cg g f):cg H f:=λc d e=>b c d (a c d e)
theorem iN{H:Hp}{p:DF}{o:HO}(h:H p=JI):cg H (upd H p o):=λb a e=>by rw[ay (bc e h)];exact e
theorem aY{H:Hp}{p:DF}{o:HO}{ys:List V}(h:H p=JH (.lst ys)):cg H (upd H p o):=λb a e=>by rw[ay (fT e h (by intro z;cases z))];exact e
theorem ai{H:Hp}{p:DF}(h:H p=JI)(o:HO):ar H (upd H p o):=λb u q=>by rw[ay (bc q h)];exact q
theorem ar.upd{H H':Hp}{p:DF}{o:HO}(s:ar H H')(h:H p=JI):ar H (upd H' p o):=λb u q=>by rw[ay (bc q h)];exact s b u q
def PL(H:Hp):List V->List (Int×Int)->Prop:=Paired λx p=>∃r,x=.ref r/\H r=JH (.tup [.int p.1,.int p.2])
theorem PL.mono{H H':Hp}{xs:List V}{ps:List (Int×Int)}(h:PL H xs ps)(s:cg H H'):PL H' xs ps:=Paired.mapP h λ_ _ ⟨r,e,z⟩=>⟨r,e,s r _ z⟩
theorem PL.get{H:Hp}:∀{xs:List V}{ps:List (Int×Int)}{i:Nat}{x:V},PL H xs ps->xs[i]?=JH x->∃p r,ps[i]?=JH p/\x=.ref r/\H r=JH (.tup [.int p.1,.int p.2])
 |_,_,_,_,.nil,e=>by simp at e
 |_,_,0,_,.cons (b:=b) ⟨r,e1,z⟩ _,e=>by simp at e;subst e;exact⟨b,r,U,e1,z⟩
 |_,_,i+1,x,.cons _ t,e=>by
  obtain⟨p,r,q⟩:=PL.get (i:=i) (x:=x) t (by simpa using e);exact⟨p,r,by simpa using q.1,q.2⟩
theorem PL.length{H:Hp}{xs:List V}{ps:List (Int×Int)}(h:PL H xs ps):xs.length=ps.length:=Paired.length h
theorem PL.snoc{H:Hp}{xs:List V}{ps:List (Int×Int)}{r:DF}{a b:Int}(h:PL H xs ps)(e:H r=JH (.tup [.int a,.int b])):PL H (xs++[.ref r]) (ps++[(a,b)]):=Paired.snoc h ⟨r,U,e⟩
theorem PL.last{H:Hp}{xs:List V}{ps:List (Int×Int)}(h:PL H xs ps)(f:xs≠[]):∃c r d p,xs=c++[.ref r]/\ps=d++[p]/\PL H c d/\H r=JH (.tup [.int p.1,.int p.2]):=by
 induction h with
 |nil=>exact JP U f
 | @cons a b l1 l2 hd tl ih =>
  cases tl with
  |nil =>
   obtain⟨r,e,z⟩:=hd;exact⟨[],r,[],b,by rw[e];rfl,U,.nil,z⟩
  | @cons a2 b2 l3 l4 hd2 tl2 =>
   obtain⟨c,r,d,p,k,j,i,g⟩:=ih (by simp);exact⟨a :: c,r,b :: d,p,by rw[k];rfl,by rw[j];rfl,.cons hd i,g⟩
theorem PL.app{H:Hp}{xs ys:List V}{ps a:List (Int×Int)}(h:PL H xs ps)(h':PL H ys a):PL H (xs++ys) (ps++a):=by
 induction h with
 |nil=>exact h'
 |cons r t b=>exact .cons r b
theorem jg{ps:List (Int×Int)}{i:Nat}{p:Int×Int}{f:Int×Int->Bool}(e:ps[i]?=JH p)(h:(ps.take i).any f=JK)(a:f p=JK):(ps.take (i+1)).any f=false:=by
 rw[nu,e,vl,h];simp[a]
theorem si{ps:List (Int×Int)}{i:Nat}{p:Int×Int}{f:Int×Int->Bool}(e:ps[i]?=JH p)(a:f p=JJ):ps.any f=true:=pk.mpr ⟨p,GB e,a⟩
theorem lU{p:Prop} [Decidable p] (h:decide p=JJ):p:=JS h
theorem tV{p:Prop} [Decidable p] (h:¬ decide p=JJ):¬ p:=λe=>h (JQ e)
theorem fV{X:Cx}{K:W.Frag}(h:X.K=K):IxR X (Ax K):=h ▸ aQ
theorem gq{X:Cx}{K:W.Frag}(h:X.K=K):IxR X (Ay K):=h ▸ bj
def bA(X:Cx)(N:List Str)(scope:Ge)(cl:List (Str×DF))(a:List DF)(C:DF)(s2:F7)(b:Hp):Cx :=
 { prog:=X.prog,w:=X.w,K:=X.K,mg:=X.mg,base:=X.base,A:=X.A,N:=N,s₀:=s2,H₀:=b,env:=HQ scope cl C X.env,outer:=X.stack,stack:=X.stack,ex:=a,fn:=λ_=>JK,calm:=X.calm,pn:=[],xe:=λ_ _=>False }
def PIf(X:Cx)(d:List GG)(t:TT):Prop :=
 ∀(a:List (DF×Obj))(s:F7)(b:St)(H:Hp)(Q:Bool->Hp->Prop),Inv X a b H s->t b H Q ->
  GC (model X.prog X.w) X.A (forIn d JJ λc r=>if r=JJ then do let ok ←GH c X.env (eval c X.env);pure (ForInStep.yield ok)else pure (ForInStep.yield r)) (TP X a b Q) X.xe s
def DI:TT:=λ_ H Q=>Q JJ H
theorem bQ{X:Cx}:PIf X [] DI:=λ_ _ _ H _ I h=>wpAny_tests_nil ⟨H,I,h⟩
theorem iO{X:Cx}{c:GG}{t:TT}(h:PT X c t):PIf X [c] t:=λa s b H Q I q=>wpAny_tests_one (h a s b H Q I q)
structure qw(X:Cx)(N:List Str)(fr:List Nat)(scope:Ge)(cl:List (Str×DF))(x:Str):Prop where
 clos:HR scope X.env=pure cl
 kind:scope.kind=.function
 nocell:∀y∈scope.names,y.2≠.cell
 names:∀y∈scope.names,y.2=.local->scope.names.lookup y.1=JH .local
 hx:scope.names.lookup x=JH .local
 nd:N.Nodup
 n0:N[0]?=JH x
 len:N.length=fr.length+1
 sub:∀(i:Nat)(y:Str),N[i+1]?=JH y->∃j,fr[i]?=JH j/\X.N[j]?=JH y/\(X.env.kindOf y=JH .cell\/X.env.kindOf y=JH .free)/\((relabel scope X.env).names.lookup y=JH .cell\/(relabel scope X.env).names.lookup y=JH .free)
 cells:∀y c,cl.lookup y=JH c->X.env.cells.lookup y=JH c
 has:∀y,((relabel scope X.env).names.lookup y=JH .cell\/(relabel scope X.env).names.lookup y=JH .free)->∃c,cl.lookup y=JH c
theorem fk{X:Cx}{scope:Ge}{x:Str}(kind:scope.kind=.function)(a:∀y∈scope.names,y.2≠.free)(b:∀y∈scope.names,y.2≠.cell)
  (names:∀y∈scope.names,y.2=.local->scope.names.lookup y.1=JH .local)(f:scope.names.lookup x=JH .local):qw X [x] [] scope [] x:=by
 have g:(relabel scope X.env).names=scope.names:=map_eq_self λy d=>by
  have z:(y.2 == Hv.free)=false:=by simpa using a y d
  simp[z]
 have no:∀y,¬ ((relabel scope X.env).names.lookup y=JH .cell\/(relabel scope X.env).names.lookup y=JH .free):=λy h=>by
  rw[g]at h;rcases h with h|h
  .exact b _ (mem_of_lookup h) U
  .exact a _ (mem_of_lookup h) U
 exact⟨HS a,kind,b,names,f,by simp,U,U,λi y e=>by simp at e,(λy c e=>by cases e),λy h=>JP h (no y)⟩
theorem cj{X:Cx}{N:List Str}{fr:List Nat}{scope:Ge}{cl:List (Str×DF)}{x:Str}(clos:HR scope X.env=pure cl)(kind:scope.kind=.function)(a:∀y∈scope.names,y.2≠.cell)
  (names:∀y∈scope.names,y.2=.local->scope.names.lookup y.1=JH .local)(l:scope.names.lookup x=JH .local)(f:N.Nodup)(g:N[0]?=JH x)(b:N.length=fr.length+1)
  (sub:((List.range fr.length).all λi=>match N[i+1]?,fr[i]? with|some y,JH j=>(X.N[j]? == JH y) && ((X.env.kindOf y == JH .cell) && ((relabel scope X.env).names.lookup y == JH .cell))|_,_=>JK)=JJ)
  (cells:∀p∈cl,X.env.cells.lookup p.1=JH p.2)(d:((relabel scope X.env).names.all λp=>(p.2 != .cell && p.2 != .free) || (cl.lookup p.1).isSome)=JJ):qw X N fr scope cl x:=by
 refine⟨clos,kind,a,names,l,f,g,b,λi y e=>?_,λy c e=>cells _ (mem_of_lookup e),λy h=>?_⟩
 .have hi:i<fr.length:=by have:=(GA.mp e).1;lia
  have z:=ik.mp sub i (iv.mpr hi);rw[e,Gz hi]at z;simp only[zC,beq_iff_eq]at z;exact⟨_,Gz hi,z.1,.inl z.2.1,.inl z.2.2⟩
 .have look:∀k,(relabel scope X.env).names.lookup y=JH k->(k=.cell\/k=.free)->∃c,cl.lookup y=JH c:=λk e m=>by
   have z:=ik.mp d _ (mem_of_lookup e);rcases m with rfl|rfl
   .exact AU.mp (by simpa using z)
   .exact AU.mp (by simpa using z)
  rcases h with h|h
  .exact look _ h (.inl U)
  .exact look _ h (.inr U)
def fW(a:St)(fr:List Nat)(x:Option V):St:=x :: fr.map λj=>(a[j]?).join
def pH(J:It)(fr:List Nat)(tt:TT)(j:TE)(d:St)(Q:VK)(g:Hp):Prop:=∀D,g D=JI->∃W:Nat->Nat->Hp->Prop,(∃m,W 0 m (upd g D (.lst [])))/\∀i m H,W i m H ->
 (J.stop i H/\Q (.ref D) H)\/(J.go i H/\∀x h,J.yld i H x h->tt (fW d fr (JH x)) h λb f=>if b=JJ then j (fW d fr (JH x)) f λy e=>∃c,e D=JH (.lst c)/\c.length<DO/\∃a,a<m/\W (i+1) a (upd e D (.lst (c++[y])))
  else ∃a,a<m/\W (i+1) a f)
def zy(b:TI)(fr:List Nat)(tt:TT)(c:TE):TE:=λa H Q=>b a H λJ d=>pH J fr tt c a Q d
section
variable{prog:Dn}{w:Cu}{A:D7}{R:Hj->F7->Prop}{s:F7}
theorem lV{f a d:GG}{e:List GG}{scope:Ge}{pos:Pos}{it g:Ct}{b:Env}(J:Nat->F7->Prop)
  (turn:∀n s,J n s->GC (model prog w) A (G3 it) (λr j=>match r with
   |none=>R (.ok .next) j
   |some v=>GC (model prog w) A (G4 a it v) (λ_ s2=>GC (model prog w) A (assign a b v) (λ_ o =>
     GC (model prog w) A (forIn e JJ λc r=>if r=JJ then do let ok ←GH c b (eval c b);pure (ForInStep.yield ok)else pure (ForInStep.yield r)) (λok i =>
      if ok=JJ then GC (model prog w) A (eval f b) (λy l=>GC (model prog w) A (call (.builtin "list.append") [g,y]) (λ_ k=>∃m,m<n/\J m k) (λ_ _=>False) l) (λ_ _=>False) i
      else ∃m,m<n/\J m i) (λ_ _=>False) o) (λ_ _=>False) s2) (λ_ _=>False) j) (λ_ _=>False) s)
  (n:Nat)(h:J n s):Hk (model prog w) A (.compLoop (.ListComp f [⟨a,d,e,0⟩] scope pos) 0 it g b) R s:=by
 refine codeAny_loop U J (λn s t=>?_) n h;show GC _ A ((compTurn (.ListComp f [⟨a,d,e,0⟩] scope pos) 0 it g b).onRaise (λx=>do HU x b;theTreesLotGoes x)) _ _ s;refine wpAny_noted ?_;rw[compTurn_list];refine BX (GZ (BX (GL (turn n s t) (λr j q=>?_) λ_ _ z=>z.elim)));cases r with
 |none=>exact BY q
 |some v =>
  refine BX (GL q (λ_ s2 D=>?_) λ_ _ z=>z.elim);refine BX (GL D (λ_ o C=>BX (GL C (λok i p=>?_) λ_ _ z=>z.elim)) λ_ _ z=>z.elim);cases ok with
  |false=>exact BY ⟨U,p⟩
  |true=>exact BX (BX (GL p (λy l B=>BX (GL B (λ_ k u=>BY (BY ⟨U,u⟩)) λ_ _ z=>z.elim)) λ_ _ z=>z.elim))
end
section
variable{elt iter:GG}{ifs:List GG}{x:Str}{px:Pos}{scope:Ge}{cl:List (Str×DF)}{N:List Str}{fr:List Nat}{tt:TT}{te:TE}
theorem ox{F:List (DF×Obj)}{q:St}{s2:F7}{h:Hp}{it:DF}{f:List DF}{tn:Nat->DG->Prop}{J:It}{Q:VK}{E:Ct->F7->Prop}{RR:Ct->DF->Hj->F7->Prop}
  (O:qw X N fr scope cl x)(hc:X.calm=JJ)(g:Inv X F q h s2)(T:Turn X.prog X.w X.K (.Name x px) J f it tn)(a1:tn 0 s2.heap)(I:∀b∈f,ky X F h b)
  (ht:∀f C s H,PIf (bA X N scope cl f C s H) ifs tt)(he:∀f C s H,PE (bA X N scope cl f C s H) elt te)
  (hW:pH J fr tt te q Q h)
  (fin:∀D C s' H',s2.heap.objs.size<=C->H' C=JI->(∃m,s'.heap.Ns C m)->Inv X F q H' s'->Q (.ref D) H'->RR (.ref D) C (.ok .next) s') :
  GC (model X.prog X.w) X.A (HV []) (λa7 s3=>GC (model X.prog X.w) X.A (HW scope X.env.globals cl [] X.env.qual JI .none (JH X.env)) (λwe s4 =>
   Hk (model X.prog X.w) X.A (.compStart (.ListComp elt [⟨.Name x px,iter,ifs,0⟩] scope pos) 0 (.ref it) a7 { we with scope:=relabel scope X.env }) (RR a7 we.locals) s4) E s3) E s2:=by
 refine HX (HY O.nocell (by intro y hy;simp at hy) (λh1 a2 M=>?_) O.kind);dsimp only at a2 M⊢;generalize hG:s2.heap.push { cls:=.type "list",dict:=JI,data:=.seq ([]:List Ct).toArray }=G at a2 M⊢;have Y:G.objs.size=s2.heap.objs.size+1:=by rw[←hG,DG.size_push]
 have B:∀b o,s2.heap.get? b=JH o->h1.get? b=JH o:=λb o e=>M.extBut b o (vE (by rw[Y];exact vJ (DG.lt_size e))) (DG.get?_push_of_some _ (hG ▸ DG.get?_push_of_some _ e))
 have wg:h1.get? s2.heap.objs.size=JH { cls:=.type "list",data:=.seq ([]:List Ct).toArray 0 }:=M.extBut _ _ (vE (by rw[Y];exact wj _)) (DG.get?_push_of_some _ (hG ▸ DG.get?_push_size _ U));have hD:h s2.heap.objs.size=none:=g.fresh;have L:(bA X N scope cl f G.objs.size s2 h).Ok:=by
  refine⟨g.ok.mod,O.kind,g.ok.glob,g.ok.blt,by show s2.heap.objs.size<=G.objs.size;rw[Y];exact w5 _,λy z c e1 e2=>g.ok.inj y z c (O.cells y c e1) (O.cells z c e2),λy hy=>O.has y hy,λy c z=>JP (show JK=JJ from z) Bool.false_ne_true,g.ok.hd,g.ok.frames,.inl U,
   λb a=>⟨?_,λy c e=>(I b a).2.2.2.2.1 y c (O.cells y c e)⟩,g.bs,vG g.ok.bsz g.sz,λb o e a=>?_,λb a z=>?_,g.stack,g.stkFree⟩
  .obtain⟨o,e,_⟩:=T.obj _ _ a1 b a;show b≠G.objs.size;exact vE (by rw[Y];exact vJ (DG.lt_size e))
  .rcases(I b a).2.2.2.1 with z|z
   .exact g.ok.noex b o e z
   .exact JP (vF (DG.lt_size e) (vG g.ok.bsz z)) (wh _)
  .rcases cf.mp (g.stkSub b z)with z|z
   .exact(I b a).2.1 z
   .exact(I b a).2.2.1 z
 have lW:∀{H':Hp},(∀b∈f,H' b=JI)->∀b∈f,ky (bA X N scope cl f G.objs.size s2 h) [] H' b:=λhn b a =>
  ⟨hn b a,(L.exf b a).1,L.exfs b a,.inl a,(L.exf b a).2,λp hp=>JP (show p∈([]:List (DF×Obj))from hp) (by simp)⟩
 have I':Inv (bA X N scope cl f G.objs.size s2 h) [] (fW q fr JI) (upd h s2.heap.objs.size (.lst [])) { s2 with heap:=h1,toks:=s2.toks+([]:List (Str×Ct)).length }:=by
  refine⟨L,U,g.bare,Un.laid B (vD _) hD,⟨_,a2,λi y v e1 e2 e3=>?_⟩,λy c e=>?_,?_,λy c e=>?_,λp hp=>JP (show p∈([]:List (DF×Obj))from hp) (by simp),g.hok.laid B (vD _) ⟨vI _,[],0,.nil,wg⟩,?_⟩
  .cases i with
   |zero=>cases e2
   |succ i =>
    obtain⟨j,q1,q2,q3,q4⟩:=O.sub i y e1;have P:(q[j]?).join=JH v:=by
     have:(fr.map λj=>(q[j]?).join)[i]?=JH (JH v):=e2;rw[eR,q1]at this;exact Option.some.inj this
    have e4:q[j]?=JH (JH v):=by
     cases z:q[j]? with
     |none=>rw[z]at P;cases P
     |some t=>rw[z]at P;exact JT JH P
    obtain⟨m,_,hl⟩:=g.loc;have b3:Vis X.env.scope y:=.inr q3;obtain⟨u,r,l⟩:=hl j y v q2 e4 b3;refine⟨u,r,.inr ⟨q4,?_⟩⟩;obtain⟨c',a5⟩:=O.has y q4;rcases l with⟨k,_⟩|⟨_,c,ec,ic⟩
    .rcases q3 with z|z
     .rw[z]at k;cases k
     .rw[z]at k;cases k
    .have:=O.cells y c' a5;have e':c=c':=Option.some.inj (ec.symm.trans this);obtain⟨o,ho,hd⟩:=ic;rw[e']at ho;exact⟨c',a5,o,B c' o ho,hd⟩
  .obtain⟨v,o,ho,hd⟩:=g.cell y c (O.cells y c e);exact⟨v,o,B c o ho,hd⟩
  .show upd h s2.heap.objs.size (.lst []) G.objs.size=JI;rw[ay (vH (by rw[Y];exact wj _))];exact g.hok.fresh (by rw[Y];exact w5 _)
  .obtain⟨v,o,ho,hd⟩:=g.cell y c (O.cells y c e);rw[ay (vE (DG.lt_size ho))];exact g.freeC y c (O.cells y c e)
  .show(fW q fr JI).length=N.length;rw[O.len];simp[fW]
 have a4:tn 0 h1:=T.keep _ _ _ a1 λb a o e=>B b o e
 have R:∀s3:F7,s3={ s2 with heap:=h1,toks:=s2.toks+([]:List (Str×Ct)).length } ->
   Hk (model X.prog X.w) X.A (.compLoop (.ListComp elt [⟨.Name x px,iter,ifs,0⟩] scope pos) 0 (.ref it) (.ref s2.heap.objs.size) (HQ scope cl G.objs.size X.env)) (RR (.ref s2.heap.objs.size) G.objs.size) s3:=by
  rintro s3 rfl;obtain⟨W,⟨m0,w0⟩,a8⟩:=hW _ hD
  refine lV (λn s'=>∃i t H',Inv (bA X N scope cl f G.objs.size s2 h) [] (fW q fr t) H' s'/\tn i s'.heap/\(∀b∈f,H' b=JI)/\W i n H') ?_ m0
   ⟨0,JI,_,I',a4,λb a=>by
    rw[ay (by obtain⟨o,e,_⟩:=T.obj _ _ a1 b a;exact vE (DG.lt_size e))];exact(I b a).1,w0⟩
  rintro n s' ⟨i,t,H',I3,a3,a6,w3⟩;rcases a8 i n H' w3 with⟨a9,qn⟩|⟨go,step⟩
  .refine thn (T.done (bA X N scope cl f G.objs.size s2 h) U U U hc i [] s' _ H' _ I3 (lW a6) a3 a9) λr s4 ⟨hr,I4⟩=>?_
   subst hr;obtain⟨m,V,_⟩:=I4.loc;refine fin _ _ s4 H' (by rw[Y];exact w5 _) I4.free ⟨m,V⟩ (g.call' (ch:=f) I4.os I4.base I4.hok I4.bare λb a=>?_) qn;exact⟨(I b a).2.2.2.1,(I b a).2.1,(I b a).2.2.2.2.1,(I b a).2.2.2.2.2⟩
  .refine thn (T.item (bA X N scope cl f G.objs.size s2 h) U U U hc i [] s' _ H' _ I3 (lW a6) a3 go) λr s4 ⟨u,hr,h4⟩=>?_
   subst hr;refine thn h4 λ_ s5 ⟨y,H5,I5,r5,y5,a0,b5⟩=>?_
   have c1:=I5.pinned (lW b5) (T.obj _ _ a0);have lx:(bA X N scope cl f G.objs.size s2 h).env.scope.names.lookup x=JH .local:=lookup_relabel_local O.hx;refine thn (ax (X:=bA X N scope cl f G.objs.size s2 h) (i:=0) O.nd O.n0 (.inl lx) (.inr lx) _ s5 _ H5 y u (λb1 H'=>b1=fW q fr (JH y)/\H'=H5) c1 r5 ⟨U,U⟩) λ_ s6 ⟨c2,H6,I6,e6,b6⟩=>?_
   subst e6;subst b6
   have again:∀{Z:St}{H7:Hp}{s7:F7}{S:Nat},Z=fW q fr (JH y)->Inv (bA X N scope cl f G.objs.size s2 h) ([]++kz f s5.heap) Z H7 s7->S<n->W (i+1) S H7 ->
     ∃m,m<n/\∃i t H',Inv (bA X N scope cl f G.objs.size s2 h) [] (fW q fr t) H' s7/\tn i s7.heap/\(∀b∈f,H' b=JI)/\W i m H':=λ{Z H7 s7 S} e7 I7 V w7=>by
    subst e7;refine⟨S,V,i+1,JH y,H7,I7.unpinned,T.keep _ _ _ a0 λb a o e=>(I7.pin (b,o) (jE _ (jE _ (dq a e)))).1,λb a=>?_,w7⟩;obtain⟨o,e,d⟩:=T.obj _ _ a0 b a;exact(I7.pin (b,o) (jE _ (jE _ (dq a e)))).2.1
   refine thn (ht f G.objs.size s2 h _ s6 _ H6 _ I6 (step y H6 y5)) λok s7 ⟨H7,I7,q7⟩=>?_
   cases ok with
   |false =>
    rw[JN Bool.false_ne_true]at q7⊢;obtain⟨S,V,w7⟩:=q7;exact again U I7 V w7
   |true =>
    rw[JO U]at q7⊢;refine thn (he f G.objs.size s2 h _ s7 _ H7 _ I7 q7) λu8 s8 ⟨v8,H8,I8,r8,ys,b4,b0,S,V,w8⟩=>?_
    refine thn (bL (X:=bA X N scope cl f G.objs.size s2 h) _ s8 _ H8 (.ref s2.heap.objs.size) [v8] _ [u8] (λ_ H9=>W (i+1) S H9) I8 U (.cons r8 .nil) ⟨_,ys,v8,U,U,b4,b0,w8⟩) λ_ s9 ⟨_,H9,I9,_,w9⟩=>?_
    exact again U I9 V w9
 exact HZ (R _ U) (T.self _ 0 _ _ _ a4 (R _ U))
theorem Inv.left{a:List (DF×Obj)}{h g:St}{s2 s':F7}{q H':Hp}{C:DF}{h':DG}(f:Inv X a g q s2)(n:Inv X a h H' s')(d:s2.heap.objs.size<=C)(l:H' C=JI)(i:DG.SameBut C s'.heap h'):Inv X a h H' { s' with heap:=h' }:=by
 refine n.turned (t':=s'.toks) (it:=C) (λb o m e=>(i.2 b m).trans e) l (vH (vF f.lt d)) (.inr (vG f.sz d)) (λy c e=>?_) λp j=>?_
 .obtain⟨v,o,k,_⟩:=f.cell y c e;exact vE (vF (DG.lt_size k) d)
 .exact vE (vF (DG.lt_size (f.pin p j).1) d)
theorem fm{i:TI}(hi:PI X (.Name x px) iter i)(O:qw X N fr scope cl x)(r:X.calm=JJ)(k:∀b C s H,PIf (bA X N scope cl b C s H) ifs tt)(p:∀b C s H,PE (bA X N scope cl b C s H) elt te)
  (l:∀v,Ha iter X.env v=pure v:=by intro _;rfl):PE X (.ListComp elt [⟨.Name x px,iter,ifs,0⟩] scope pos) (zy i fr tt te):=by
 intro a s g H Q I h;rw[Ia];refine Ib (use:=JI) U l O.clos O.kind O.names (thn (hi a s g H _ I h) λv L z=>thn z λG s2 y=>?_);obtain⟨it,b,K,J,R,e,j,T,c,B,t⟩:=y;subst e;refine ox (RR:=λf C=>Ic (model X.prog X.w) X.A X.xe JI (EP X a g Q) f C) O r j T c B k p t λD C M F u n ⟨m,o⟩ E q=>?_
 exact⟨m,o,λP d=>⟨.ref D,F,j.left E u n d,U,q⟩⟩
theorem jZ{F:TI}{i:Nat}{y:Str}{d E:Pos}(hN:X.N.Nodup)(G:X.N[i]?=JH y)(V:Loc X.env.scope y)(hi:PI X (.Name x px) iter F)(O:qw X N fr scope cl x)(Z:X.calm=JJ)
  (K:∀f C s H,PIf (bA X N scope cl f C s H) ifs tt)(Y:∀f C s H,PE (bA X N scope cl f C s H) elt te)(L:∀v,Ha iter X.env v=pure v:=by intro _;rfl)
  (n:GV (.ListComp elt [⟨.Name x px,iter,ifs,0⟩] scope pos) (JH (.Name y d)) E.line X.env=pure true:=by rfl)(W:X.fn y=JJ\/X.env.scope.names.lookup y=JH .local:=by first|exact .inl U|exact .inr U|assumption) :
  PS X (.Assign [.Name y d] (.ListComp elt [⟨.Name x px,iter,ifs,0⟩] scope pos) E) (xY (zy F fr tt te) (og i)):=by
 intro b s B H k I h;rw[Ie _ _ _ _ n];refine BX (GZ (BX ?_));show GC _ X.A (do let _ ←comprehension (.ListComp elt [⟨.Name x px,iter,ifs,0⟩] scope pos) scope X.env _ (HV []) JK (eval iter X.env) (JH (assign (.Name y d) X.env))) _ _ s;refine BX (GL (Ib (use:=JH (assign (.Name y d) X.env)) (Q:=λ_ c=>SP X b k .next c) U L O.clos O.kind O.names (thn (hi b s B H _ I h) λv s1 h1=>thn h1 λa0 s2 h2=>?_)) (λ_ c M=>BY (BY M)) λ_ _ z=>z);obtain⟨it,f,tn,J,H2,e,g,T,l,f2,hW⟩:=h2;subst e;refine ox (Q:=λv H1=>og i v B H1 k.nx) (RR:=λu C=>Ic (model X.prog X.w) X.A X.xe (JH (assign (.Name y d) X.env)) (λ_ c=>SP X b k .next c) u C) O Z g T l f2 K Y hW λD C c H' j R ⟨m,S⟩ I' q=>?_
 show GC _ X.A (assign (.Name y d) X.env (.ref D)) _ _ c;refine GY (kv I' hN G V (v:=.ref D) U (λs3 I3 ⟨a,p,ha⟩=>?_) W);have t:C≠a:=by
  rcases ha with z|z
  .rw[z];exact vH (vF g.lt j)
  .obtain⟨v,o,P,_⟩:=g.cell y a z;exact vH (vF (DG.lt_size P) j)
 exact⟨m,S.sameBut p t,λh' r=>⟨_,H',g.left I3 j R r,q⟩⟩
def dC(c:DF->Nat->List V->Hp->Prop)(D:DF)(i n:Nat)(d:Hp):Prop:=∃a,a<n-i/\a=n-(i+1)/\i+1<=n/\∃b,c D (i+1) b d
def cQ(c:DF->Nat->List V->Hp->Prop)(D:DF)(i n:Nat):VK:=λy b=>∃a,b D=JH (.lst a)/\a.length<DO/\dC c D i n (upd b D (.lst (a++[y])))
theorem dC.mk{a:DF->Nat->List V->Hp->Prop}{D:DF}{i n:Nat}{b:Hp}{zs:List V}(hi:i<n)(h:a D (i+1) zs b):dC a D i n b:=⟨n-(i+1),by lia,U,hi,zs,h⟩
theorem cQ.mk{b:DF->Nat->List V->Hp->Prop}{D:DF}{i n:Nat}{a:Hp}{ys:List V}{y:V}(hi:i<n)(e:a D=JH (.lst ys))(c:ys.length<DO)(h:b D (i+1) (ys++[y]) (upd a D (.lst (ys++[y])))):cQ b D i n y a:=⟨ys,e,c,.mk hi h⟩
theorem cY{K:W.Frag}{a:DF}{xs:List V}{g:St}{d:Hp}{Q:VK}(c:DF->Nat->List V->Hp->Prop)(n:∀D,d D=JI->c D 0 [] (upd d D (.lst [])))
  (l:∀D i ys H,d D=JI->i<=xs.length->c D i ys H->SqL K H a xs)
  (k:∀D i x ys H,d D=JI->xs[i]?=JH x->c D i ys H->tt (fW g fr (JH x)) H λb j=>if b=JJ then te (fW g fr (JH x)) j (cQ c D i xs.length)else dC c D i xs.length j)
  (hd:∀D ys H,d D=JI->c D xs.length ys H->Q (.ref D) H):pH (Itl K a) fr tt te g Q d:=by
 intro D f;refine⟨λi m H=>m=xs.length-i/\i<=xs.length/\∃ys,c D i ys H,⟨_,U,vI _,[],n D f⟩,?_⟩;rintro i m H ⟨rfl,hi,ys,p⟩;have q:=l D i ys H f hi p;by_cases h:i<xs.length
 .refine .inr ⟨⟨xs,xs[i],q,by simp[h]⟩,λx o y=>?_⟩;obtain⟨e,y⟩:=y;subst e;exact k D i x ys _ f (y xs q) p
 .have e:i=xs.length:=by lia
  subst e;exact .inl ⟨⟨xs,q,vD _⟩,hd D ys H f p⟩
theorem eB{lo:Int}{n:Nat}{f:St}{c:Hp}{Q:VK}(a:DF->Nat->List V->Hp->Prop)(k:∀D,c D=JI->a D 0 [] (upd c D (.lst [])))
  (j:∀D i ys H,c D=JI->i<n->a D i ys H->tt (fW f fr (JH (.int (lo+i)))) H λb h=>if b=JJ then te (fW f fr (JH (.int (lo+i)))) h (cQ a D i n)else dC a D i n h)
  (hd:∀D ys H,c D=JI->a D n ys H->Q (.ref D) H):pH (Itr lo n) fr tt te f Q c:=by
 intro D g;refine⟨λi m H=>m=n-i/\i<=n/\∃ys,a D i ys H,⟨_,U,vI _,[],k D g⟩,?_⟩;rintro i m H ⟨rfl,hi,ys,p⟩;by_cases d:i<n
 .refine .inr ⟨d,λx l y=>?_⟩;obtain⟨e,y⟩:=y;subst e;subst y;exact j D i ys _ g d p
 .have e:i=n:=by lia
  subst e;exact .inl ⟨vD _,hd D ys H g p⟩
end
structure lX(X:Cx)(N:List Str)(k:Nat)(fr:List Nat)(scope:Ge)(cl:List (Str×DF)):Prop where
 clos:HR scope X.env=pure cl
 kind:scope.kind=.function
 nocell:∀y∈scope.names,y.2≠.cell
 names:∀y∈scope.names,y.2=.local->scope.names.lookup y.1=JH .local
 len:N.length=k+fr.length
 sub:∀(i:Nat)(y:Str),N[k+i]?=JH y->∃j,fr[i]?=JH j/\X.N[j]?=JH y/\(X.env.kindOf y=JH .cell\/X.env.kindOf y=JH .free)/\((relabel scope X.env).names.lookup y=JH .cell\/(relabel scope X.env).names.lookup y=JH .free)
 cells:∀y c,cl.lookup y=JH c->X.env.cells.lookup y=JH c
 has:∀y,((relabel scope X.env).names.lookup y=JH .cell\/(relabel scope X.env).names.lookup y=JH .free)->∃c,cl.lookup y=JH c
theorem cE{X:Cx}{N:List Str}{k:Nat}{scope:Ge}(d:N.length=k)(kind:scope.kind=.function)(a:∀y∈scope.names,y.2≠.free)(b:∀y∈scope.names,y.2≠.cell)
  (names:∀y∈scope.names,y.2=.local->scope.names.lookup y.1=JH .local):lX X N k [] scope []:=by
 have g:(relabel scope X.env).names=scope.names:=map_eq_self λy f=>by
  have z:(y.2 == Hv.free)=false:=by simpa using a y f
  simp[z]
 have no:∀y,¬ ((relabel scope X.env).names.lookup y=JH .cell\/(relabel scope X.env).names.lookup y=JH .free):=λy h=>by
  rw[g]at h;rcases h with h|h
  .exact b _ (mem_of_lookup h) U
  .exact a _ (mem_of_lookup h) U
 refine⟨HS a,kind,b,names,by rw[d];rfl,λi y e=>?_,(λy c e=>by cases e),λy h=>JP h (no y)⟩;have:=(GA.mp e).1;lia
def cK(a:St)(fr:List Nat)(ts:St):St:=ts++fr.map λj=>(a[j]?).join
def iP(J:It)(p:TG)(k:Nat)(fr:List Nat)(tt:TT)(o:TE)(f:St)(Q:VK)(l:Hp):Prop:=∀D,l D=JI->∃W:Nat->Nat->Hp->Prop,(∃m,W 0 m (upd l D (.lst [])))/\∀i m H,W i m H ->
 (J.stop i H/\Q (.ref D) H)\/(J.go i H/\∀x n,J.yld i H x n->∀g:St,g.length=k->p x (cK f fr g) n λa q=>(∃d:St,d.length=k/\a=cK f fr d)/\tt a q λb j=>if b=JJ then o a j λy h=>∃e,h D=JH (.lst e)/\e.length<DO/\∃c,c<m/\W (i+1) c (upd h D (.lst (e++[y])))
  else ∃c,c<m/\W (i+1) c j)
def wm(b:TI)(d:TG)(k:Nat)(fr:List Nat)(tt:TT)(c:TE):TE:=λa H Q=>b a H λJ e=>iP J d k fr tt c a Q e
section
variable{elt iter tg:GG}{ifs:List GG}{scope:Ge}{cl:List (Str×DF)}{N:List Str}{k:Nat}{fr:List Nat}{gt:TG}{tt:TT}{te:TE}
theorem lY{F:List (DF×Obj)}{x:St}{s2:F7}{h:Hp}{it:DF}{f:List DF}{tn:Nat->DG->Prop}{J:It}{Q:VK}{E:Ct->F7->Prop}{RR:Ct->DF->Hj->F7->Prop}
  (O:lX X N k fr scope cl)(hc:X.calm=JJ)(g:Inv X F x h s2)(T:Turn X.prog X.w X.K tg J f it tn)(a1:tn 0 s2.heap)(I:∀b∈f,ky X F h b)
  (ht:∀f C s H,PIf (bA X N scope cl f C s H) ifs tt)(he:∀f C s H,PE (bA X N scope cl f C s H) elt te)
  (hg:∀f C s H,PG (bA X N scope cl f C s H) tg gt)(hW:iP J gt k fr tt te x Q h)
  (fin:∀D C s' H',s2.heap.objs.size<=C->H' C=JI->(∃m,s'.heap.Ns C m)->Inv X F x H' s'->Q (.ref D) H'->RR (.ref D) C (.ok .next) s') :
  GC (model X.prog X.w) X.A (HV []) (λa9 s3=>GC (model X.prog X.w) X.A (HW scope X.env.globals cl [] X.env.qual JI .none (JH X.env)) (λwe s4 =>
   Hk (model X.prog X.w) X.A (.compStart (.ListComp elt [⟨tg,iter,ifs,0⟩] scope pos) 0 (.ref it) a9 { we with scope:=relabel scope X.env }) (RR a9 we.locals) s4) E s3) E s2:=by
 refine HX (HY O.nocell (by intro y hy;simp at hy) (λh1 a2 M=>?_) O.kind);dsimp only at a2 M⊢;generalize hG:s2.heap.push { cls:=.type "list",dict:=JI,data:=.seq ([]:List Ct).toArray }=G at a2 M⊢;have Y:G.objs.size=s2.heap.objs.size+1:=by rw[←hG,DG.size_push]
 have B:∀b o,s2.heap.get? b=JH o->h1.get? b=JH o:=λb o e=>M.extBut b o (vE (by rw[Y];exact vJ (DG.lt_size e))) (DG.get?_push_of_some _ (hG ▸ DG.get?_push_of_some _ e))
 have wg:h1.get? s2.heap.objs.size=JH { cls:=.type "list",data:=.seq ([]:List Ct).toArray 0 }:=M.extBut _ _ (vE (by rw[Y];exact wj _)) (DG.get?_push_of_some _ (hG ▸ DG.get?_push_size _ U));have hD:h s2.heap.objs.size=none:=g.fresh;have L:(bA X N scope cl f G.objs.size s2 h).Ok:=by
  refine⟨g.ok.mod,O.kind,g.ok.glob,g.ok.blt,by show s2.heap.objs.size<=G.objs.size;rw[Y];exact w5 _,λy z c e1 e2=>g.ok.inj y z c (O.cells y c e1) (O.cells z c e2),λy hy=>O.has y hy,λy c z=>JP (show JK=JJ from z) Bool.false_ne_true,g.ok.hd,g.ok.frames,.inl U,
   λb a=>⟨?_,λy c e=>(I b a).2.2.2.2.1 y c (O.cells y c e)⟩,g.bs,vG g.ok.bsz g.sz,λb o e a=>?_,λb a z=>?_,g.stack,g.stkFree⟩
  .obtain⟨o,e,_⟩:=T.obj _ _ a1 b a;show b≠G.objs.size;exact vE (by rw[Y];exact vJ (DG.lt_size e))
  .rcases(I b a).2.2.2.1 with z|z
   .exact g.ok.noex b o e z
   .exact JP (vF (DG.lt_size e) (vG g.ok.bsz z)) (wh _)
  .rcases cf.mp (g.stkSub b z)with z|z
   .exact(I b a).2.1 z
   .exact(I b a).2.2.1 z
 have lW:∀{H':Hp},(∀b∈f,H' b=JI)->∀b∈f,ky (bA X N scope cl f G.objs.size s2 h) [] H' b:=λhn b a =>
  ⟨hn b a,(L.exf b a).1,L.exfs b a,.inl a,(L.exf b a).2,λp hp=>JP (show p∈([]:List (DF×Obj))from hp) (by simp)⟩
 have I':Inv (bA X N scope cl f G.objs.size s2 h) [] (cK x fr (List.replicate k JI)) (upd h s2.heap.objs.size (.lst [])) { s2 with heap:=h1,toks:=s2.toks+([]:List (Str×Ct)).length }:=by
  refine⟨L,U,g.bare,Un.laid B (vD _) hD,⟨_,a2,λi y v e1 e2 e3=>?_⟩,λy c e=>?_,?_,λy c e=>?_,λp hp=>JP (show p∈([]:List (DF×Obj))from hp) (by simp),g.hok.laid B (vD _) ⟨vI _,[],0,.nil,wg⟩,?_⟩
  .by_cases a6:i<k
   .have q:(List.replicate k JI++fr.map λj=>(x[j]?).join)[i]?=JH (JH v):=e2;rw[fc (by rw[oD];exact a6),List.getElem?_replicate,JO a6]at q;cases q
   .obtain⟨j,q1,q2,q3,q4⟩:=O.sub (i-k) y (by rw[show k+(i-k)=i by lia];exact e1);have q:(x[j]?).join=JH v:=by
     have:(List.replicate k JI++fr.map λj=>(x[j]?).join)[i]?=JH (JH v):=e2;rw[mu (by rw[oD];lia),oD,eR,q1]at this;exact Option.some.inj this
    have e4:x[j]?=JH (JH v):=by
     cases z:x[j]? with
     |none=>rw[z]at q;cases q
     |some t=>rw[z]at q;exact JT JH q
    obtain⟨m,_,hl⟩:=g.loc;have b4:Vis X.env.scope y:=.inr q3;obtain⟨u,r,l⟩:=hl j y v q2 e4 b4;refine⟨u,r,.inr ⟨q4,?_⟩⟩;obtain⟨c',a7⟩:=O.has y q4;rcases l with⟨k,_⟩|⟨_,c,ec,ic⟩
    .rcases q3 with z|z
     .rw[z]at k;cases k
     .rw[z]at k;cases k
    .have:=O.cells y c' a7;have e':c=c':=Option.some.inj (ec.symm.trans this);obtain⟨o,ho,hd⟩:=ic;rw[e']at ho;exact⟨c',a7,o,B c' o ho,hd⟩
  .obtain⟨v,o,ho,hd⟩:=g.cell y c (O.cells y c e);exact⟨v,o,B c o ho,hd⟩
  .show upd h s2.heap.objs.size (.lst []) G.objs.size=JI;rw[ay (vH (by rw[Y];exact wj _))];exact g.hok.fresh (by rw[Y];exact w5 _)
  .obtain⟨v,o,ho,hd⟩:=g.cell y c (O.cells y c e);rw[ay (vE (DG.lt_size ho))];exact g.freeC y c (O.cells y c e)
  .show(cK x fr (List.replicate k JI)).length=N.length;rw[O.len];simp[cK]
 have a5:tn 0 h1:=T.keep _ _ _ a1 λb a o e=>B b o e
 have P:∀s3:F7,s3={ s2 with heap:=h1,toks:=s2.toks+([]:List (Str×Ct)).length } ->
   Hk (model X.prog X.w) X.A (.compLoop (.ListComp elt [⟨tg,iter,ifs,0⟩] scope pos) 0 (.ref it) (.ref s2.heap.objs.size) (HQ scope cl G.objs.size X.env)) (RR (.ref s2.heap.objs.size) G.objs.size) s3:=by
  rintro s3 rfl;obtain⟨W,⟨m0,w0⟩,b0⟩:=hW _ hD
  refine lV (λn s'=>∃i R H',R.length=k/\Inv (bA X N scope cl f G.objs.size s2 h) [] (cK x fr R) H' s'/\tn i s'.heap/\(∀b∈f,H' b=JI)/\W i n H') ?_ m0
   ⟨0,List.replicate k JI,_,oD,I',a5,λb a=>by
    rw[ay (by obtain⟨o,e,_⟩:=T.obj _ _ a1 b a;exact vE (DG.lt_size e))];exact(I b a).1,w0⟩
  rintro n s' ⟨i,R,H',b6,I3,a4,a8,w3⟩;rcases b0 i n H' w3 with⟨b1,qn⟩|⟨go,step⟩
  .refine thn (T.done (bA X N scope cl f G.objs.size s2 h) U U U hc i [] s' _ H' _ I3 (lW a8) a4 b1) λr s4 ⟨hr,I4⟩=>?_
   subst hr;obtain⟨m,V,_⟩:=I4.loc;refine fin _ _ s4 H' (by rw[Y];exact w5 _) I4.free ⟨m,V⟩ (g.call' (ch:=f) I4.os I4.base I4.hok I4.bare λb a=>?_) qn;exact⟨(I b a).2.2.2.1,(I b a).2.1,(I b a).2.2.2.2.1,(I b a).2.2.2.2.2⟩
  .refine thn (T.item (bA X N scope cl f G.objs.size s2 h) U U U hc i [] s' _ H' _ I3 (lW a8) a4 go) λr s4 ⟨u,hr,h4⟩=>?_
   subst hr;refine thn h4 λ_ s5 ⟨y,H5,I5,r5,y5,a0,c1⟩=>?_
   have c2:=I5.pinned (lW c1) (T.obj _ _ a0);refine thn (hg f G.objs.size s2 h _ s5 _ H5 y u _ c2 r5 (step y H5 y5 R b6)) λ_ s6 ⟨c3,H6,I6,⟨a3,DJ,e6⟩,q6⟩=>?_
   subst e6
   have again:∀{Z:St}{H7:Hp}{s7:F7}{S:Nat},Z=cK x fr a3->Inv (bA X N scope cl f G.objs.size s2 h) ([]++kz f s5.heap) Z H7 s7->S<n->W (i+1) S H7 ->
     ∃m,m<n/\∃i R H',R.length=k/\Inv (bA X N scope cl f G.objs.size s2 h) [] (cK x fr R) H' s7/\tn i s7.heap/\(∀b∈f,H' b=JI)/\W i m H':=λ{Z H7 s7 S} e7 I7 V w7=>by
    subst e7;refine⟨S,V,i+1,a3,H7,DJ,I7.unpinned,T.keep _ _ _ a0 λb a o e=>(I7.pin (b,o) (jE _ (jE _ (dq a e)))).1,λb a=>?_,w7⟩;obtain⟨o,e,d⟩:=T.obj _ _ a0 b a;exact(I7.pin (b,o) (jE _ (jE _ (dq a e)))).2.1
   refine thn (ht f G.objs.size s2 h _ s6 _ H6 _ I6 q6) λok s7 ⟨H7,I7,q7⟩=>?_
   cases ok with
   |false =>
    rw[JN Bool.false_ne_true]at q7⊢;obtain⟨S,V,w7⟩:=q7;exact again U I7 V w7
   |true =>
    rw[JO U]at q7⊢;refine thn (he f G.objs.size s2 h _ s7 _ H7 _ I7 q7) λu8 s8 ⟨v8,H8,I8,r8,ys,b5,b3,S,V,w8⟩=>?_
    refine thn (bL (X:=bA X N scope cl f G.objs.size s2 h) _ s8 _ H8 (.ref s2.heap.objs.size) [v8] _ [u8] (λ_ H9=>W (i+1) S H9) I8 U (.cons r8 .nil) ⟨_,ys,v8,U,U,b5,b3,w8⟩) λ_ s9 ⟨_,H9,I9,_,w9⟩=>?_
    exact again U I9 V w9
 exact HZ (P _ U) (T.self _ 0 _ _ _ a5 (P _ U))
theorem cR{i:TI}(hi:PI X tg iter i)(O:lX X N k fr scope cl)(u:X.calm=JJ)(r:∀b C s H,PG (bA X N scope cl b C s H) tg gt)(l:∀b C s H,PIf (bA X N scope cl b C s H) ifs tt)(t:∀b C s H,PE (bA X N scope cl b C s H) elt te)
  (n:∀v,Ha iter X.env v=pure v:=by intro _;rfl):PE X (.ListComp elt [⟨tg,iter,ifs,0⟩] scope pos) (wm i gt k fr tt te):=by
 intro a s g H Q I h;rw[Ia];refine Ib (use:=JI) U n O.clos O.kind O.names (thn (hi a s g H _ I h) λv M B=>thn B λK s2 z=>?_);obtain⟨it,b,L,J,S,e,j,T,c,E,x⟩:=z;subst e;refine lY (RR:=λf C=>Ic (model X.prog X.w) X.A X.xe JI (EP X a g Q) f C) O u j T c E l t r x λD C P G y o ⟨m,p⟩ F q=>?_
 exact⟨m,p,λR d=>⟨.ref D,G,j.left F y o d,U,q⟩⟩
theorem gs{K:W.Frag}{a:DF}{xs:List V}{j:St}{f:Hp}{Q:VK}(c:DF->Nat->List V->Hp->Prop)(s:∀D,f D=JI->c D 0 [] (upd f D (.lst [])))
  (r:∀D i ys H,f D=JI->i<=xs.length->c D i ys H->SqL K H a xs)
  (o:∀D i x ys H,f D=JI->xs[i]?=JH x->c D i ys H->∀ts:St,ts.length=k->gt x (cK j fr ts) H λd t=>(∃g:St,g.length=k/\d=cK j fr g)/\tt d t λb n=>if b=JJ then te d n (cQ c D i xs.length)else dC c D i xs.length n)
  (hd:∀D ys H,f D=JI->c D xs.length ys H->Q (.ref D) H):iP (Itl K a) gt k fr tt te j Q f:=by
 intro D h;refine⟨λi m H=>m=xs.length-i/\i<=xs.length/\∃ys,c D i ys H,⟨_,U,vI _,[],s D h⟩,?_⟩;rintro i m H ⟨rfl,hi,ys,p⟩;have q:=r D i ys H h hi p;by_cases l:i<xs.length
 .refine .inr ⟨⟨xs,xs[i],q,by simp[l]⟩,λx u y=>?_⟩;obtain⟨e,y⟩:=y;subst e;exact o D i x ys _ h (y xs q) p
 .have e:i=xs.length:=by lia
  subst e;exact .inl ⟨⟨xs,q,vD _⟩,hd D ys H h p⟩
end
theorem jh{X:Cx}{K:W.Frag}{a:List GG}{k:Nat}{t:TGs}{n:Nat}{pos:Pos}(e:X.K=K)(d:X.calm=JJ)(h:PGs X a t)(c:(GW a X.env).length=n:=by rfl)(b:(GW a X.env).findIdx? (·.1)=none:=by rfl):PG X (.Tuple a k pos) (BH K n t):=e ▸ cm d h c b
end L2
namespace Srt
open PySem PySem.W PyProof.Rows
def Ok(n:Nat)(lt:Nat->Nat->Bool){b:Type}:KasT b->(b->Prop)->Prop
 | .ret a,Q=>Q a
 | .ask i j k,Q=>i<n/\j<n/\Ok n lt (k (lt i j)) Q
section
variable{n:Nat}{lt:Nat->Nat->Bool}
abbrev g(p:Array Nat)(i:Nat):Nat:=p.getD i 0
structure Ord(lt:Nat->Nat->Bool):Prop where
 tr:∀a b c,lt b a=JK->lt c b=JK->lt c a=JK
 as:∀a b,lt a b=JJ->lt b a=JK
end
end Srt
namespace L2
open PySem PySem.Spec PySem.W PyProof.Rows
variable{prog:Dn}{w:Cu}{A:D7}{E:Ct->F7->Prop}{s:F7}
variable{X:Cx}
theorem tW{n:Int}{p:Pr}:inR n p=JJ↔p.1<=n/\n<=p.2:=by
 unfold inR;simp only[zC,decide_eq_true_eq]
theorem tX{n:Int}{R:List Pr}:inP R n=JJ↔∃p∈R,p.1<=n/\n<=p.2:=by
 unfold inP;rw[pk];exact⟨λ⟨p,h,e⟩=>⟨p,h,tW.mp e⟩,λ⟨p,h,e⟩=>⟨p,h,tW.mpr e⟩⟩
structure F5(S A B A0 B0:List Pr):Prop where
 ap:Apart S
 aA:Apart A
 aB:Apart B
 mem:∀n,(inP A0 n && inP B0 n)=(inP S n || (inP A n && inP B n))
 gap:∀s∈S,(∀p∈A,s.2+2<=p.1)\/(∀p∈B,s.2+2<=p.1)
structure Gh(F T:List Pr)(lo hi st:Int):Prop where
 ap:Apart F
 lt:∀s∈F,s.2+2<=st
 rng:∀s∈F,lo<=s.1/\s.2<=hi
 tk:∀p∈T,p.2<st
 fr:st=lo\/∃p∈T,st=p.2+1
 ge:lo<=st
 mem:∀n,lo<=n->n<=hi->n<st->inP F n = !inP T n
structure Walk(ts:List (Int×Int×Int)):Prop where
 le:∀t∈ts,t.1<=t.2.1
 nx:∀(i:Nat) a b,ts[i]?=JH a->ts[i+1]?=JH b->b.1=a.2.1+1
def pcs(msk:Int->Bool)(ts:List (Int×Int×Int))(n:Int):Bool:=ts.any λt=>inR n (t.1,t.2.1) && msk t.2.2
structure Gi(R:List Pr)(ts:List (Int×Int×Int))(msk:Int->Bool)(i:Nat)(at_:Int):Prop where
 ap:Apart R
 mem:∀n,inP R n=pcs msk (ts.take i) n
 lt:∀r∈R,r.2<at_
 few:2*R.length<=i\/(2*R.length<=i+1/\∃R' l,R=R'++[l]/\l.2=at_-1)
variable{i:Nat}
section
variable{R:List Pr}{ts:List (Int×Int×Int)}{msk:Int->Bool}{at_:Int}{t:Int×Int×Int}
end
def ends(R:List Pr):List Int:=R.flatMap λp=>[p.1,p.2+1]
theorem oy(R:List Pr)(p:Pr):ends (R++[p])=ends R++[p.1,p.2+1]:=by
 unfold ends;rw[List.flatMap_append];simp
theorem uQ(R:List Pr)(p:Pr):ends (p :: R)=p.1 :: (p.2+1) :: ends R:=rfl
theorem lZ{R:List Pr}{e:Int}:e∈ends R↔∃p∈R,e=p.1\/e=p.2+1:=by
 unfold ends;rw[qk];simp
def cnt:List Pr->Int
 | []=>0
 |p :: R=>(p.2-p.1+1)+cnt R
def b2(b:Bool):Int:=if b=JJ then 1 else 0
theorem lj(ns:List Int):∀k,k<=ns.length->preSum (λi=>ns.getD i 0) k=(ns.take k).sum
 |0,_=>rfl
 |k+1,h=>by
  have a:=lj ns k (by lia);show preSum (λi=>ns.getD i 0) k+ns.getD k 0=_;have e:ns[k]?=JH ns[k]:=Gz (by lia);rw[a,nu,e,List.sum_append,fo,e];simp
theorem fH(C:X.calm=JJ):cP X (.builtin "sum") (λus H Q=>∃(a:DF)(ns:List Int),us=[.ref a]/\SqL X.K H a (ns.map V.int)/\Q (.int ns.sum) H):=by
 intro n s G H us J Q I r h;obtain⟨a,ns,rfl,y,q⟩:=h;obtain⟨u,rfl,w⟩:=r.one;cases (show u=Ct.ref a from w);obtain⟨c,k,g,M⟩:=I.list y;have j:=k.length;rw[bo]at j;obtain⟨L,F,_⟩:=id g.isList;have d:a<s.heap.objs.size:=DG.lt_size F;refine call_sum_walkG (G8 g.isList ?_);refine⟨s.heap.objs.size,[s.heap.objs.size,a],[s.heap.objs.size],_,_,_,λi=>ns.getD i 0,U,G7.list (A:=X.A.in1) (I.ok.hd C) _ a (vE d) c.toArray,⟨⟨_,DG.get?_push_size _ U,U,U⟩,g.isList.at λo e=>DG.get?_push_of_some _ e⟩,λb D=>?_,λi v e=>?_,λN p t' B=>?_⟩
 .show b<(s.heap.push _).objs.size;rw[DG.size_push];rcases cf.mp D with z|z
  .rw[z];exact wj _
  .have f:b=a:=by simpa using z
   rw[f];exact vJ d
 .have m:c[i]?=JH v:=by simpa using e
  have hi:i<ns.length:=by rw[j];exact(GA.mp m).1
  have E:(ns.map V.int)[i]?=JH (.int ns[i]):=by rw[eR,Gz hi];rfl
  obtain⟨u,l,x⟩:=k.get E;rw[m]at l;cases l;obtain⟨t,rfl⟩:=x;exact⟨t,by show Ct.int ns[i] t=Ct.int (ns.getD i 0) t;rw[fo,Gz hi];rfl⟩
 .refine⟨.int ns.sum,H,I.kept (t':=p) λb o e=>B b o (λz=>?_) (DG.get?_push_of_some _ e),⟨t',?_⟩,q⟩
  .have f:b=s.heap.objs.size:=by simpa using z
   exact JP (DG.lt_size e) (by rw[f];exact wh _)
  .rw[dn,←j,lj ns _ (vD _),eU]
def NeS(W:List (Int×Int×Int)):Prop:=∀(j:Nat) a b,W[j]?=JH a->W[j+1]?=JH b->a.2.2≠b.2.2
structure F6(G ts:List (Int×Int×Int))(i:Nat):Prop where
 walk:Walk G
 ne:NeS G
 pcs:∀msk n,pcs msk G n=L2.pcs msk (ts.take i) n
 hd:∀t,ts[0]?=JH t->0<i->∃g,G[0]?=JH g/\g.1=t.1
 lst:∀t,ts[i-1]?=JH t->0<i->∃G' g,G=G'++[g]/\g.2.1=t.2.1/\g.2.2=t.2.2
 len:G.length<=i
 stt:∀g∈G,∃t∈ts,g.2.2=t.2.2
section
variable{G ts:List (Int×Int×Int)}{t:Int×Int×Int}
end
def Its(z:Str):It:=⟨λi _=>i<z.cps.size,λi H x a=>a=H/\∃c,z.cps[i]?=JH c/\x=.str ⟨#[c]⟩,λi _=>z.cps.size<=i⟩
theorem sj{P:Dn}{w:Cu}{K:W.Frag}{L:GG}(z:Str)(t:Tok)(it:DF):Turn P w K L (Its z) [it] it (λi h=>h.IsStrIter it "str_ascii_iterator" z t i) where
 mem:=by simp
 obj:=λi h f b g=>by
  obtain⟨o,e,c,d⟩:=f;rw[show b=it by simpa using g];exact⟨o,e,λv q=>by rw[d]at q;cases q⟩
 keep:=λi h m ⟨o,e,r⟩ k=>⟨o,k it (by simp) o e,r⟩
 item:=by
  intro X u n x J i a s G H E I l f p;subst u n x;have F:i<z.cps.size:=p;have hi:z.cps[i]?=JH z.cps[i]:=zo F;obtain⟨D,C,N,B,A,y⟩:=l it (by simp);refine wpAny_pyNext_ascii_item f hi λm j M=>?_
  have Q:Inv X a G H { s with heap:=m,toks:=s.toks+1 }:=I.turned (t':=s.toks+1) (λb o g e=>(M.2 b g).trans e) D C B A y;obtain⟨o,e,c,d⟩:=id j;exact⟨_,U,qp (s:={ s with heap:=m,toks:=s.toks+1 }) e c d (by decide) ⟨.str ⟨#[z.cps[i]]⟩,H,Q,⟨_,U⟩,⟨U,_,hi,U⟩,j,λb g=>(l b g).1⟩⟩
 done:=by
  intro X u n x J i a s G H E I l f p;subst u n x;obtain⟨D,C,N,B,A,y⟩:=l it (by simp);exact wpAny_pyNext_ascii_end (I.ok.hd J) f (by simpa using(show z.cps.size<=i from p)) λm O=>⟨U,I.turned (t':=s.toks) (λb o g e=>O b o g e) D C B A y⟩
 self:=λ_ _ _ _ _ f h=>wpAny_pyIter_striter_ascii f h
theorem uR{P:Dn}{w:Cu}{K:W.Frag}{L:GG}(z:Str)(t:Tok)(it:DF):Turn P w K L (Its z) [it] it (λi h=>h.IsStrIter it "str_iterator" z t i) where
 mem:=by simp
 obj:=λi h f b g=>by
  obtain⟨o,e,c,d⟩:=f;rw[show b=it by simpa using g];exact⟨o,e,λv q=>by rw[d]at q;cases q⟩
 keep:=λi h m ⟨o,e,r⟩ k=>⟨o,k it (by simp) o e,r⟩
 item:=by
  intro X u n x J i a s G H E I l f p;subst u n x;have F:i<z.cps.size:=p;have hi:z.cps[i]?=JH z.cps[i]:=zo F;obtain⟨D,C,N,B,A,y⟩:=l it (by simp);refine wpAny_pyNext_wide_item f hi λm j M=>?_
  have Q:Inv X a G H { s with heap:=m,toks:=s.toks+1 }:=I.turned (t':=s.toks+1) (λb o g e=>(M.2 b g).trans e) D C B A y;obtain⟨o,e,c,d⟩:=id j;exact⟨_,U,qp (s:={ s with heap:=m,toks:=s.toks+1 }) e c d (by decide) ⟨.str ⟨#[z.cps[i]]⟩,H,Q,⟨_,U⟩,⟨U,_,hi,U⟩,j,λb g=>(l b g).1⟩⟩
 done:=by
  intro X u n x J i a s G H E I l f p;subst u n x;obtain⟨D,C,N,B,A,y⟩:=l it (by simp);exact wpAny_pyNext_wide_end (I.ok.hd J) f (by simpa using(show z.cps.size<=i from p)) λm O=>⟨U,I.turned (t':=s.toks) (λb o g e=>O b o g e) D C B A y⟩
 self:=λ_ _ _ _ _ f h=>wpAny_pyIter_striter_wide f h
section
variable{tg:GG}
inductive zA  (R:(It->Hp->Prop))(x:V)(H1:Hp):Prop
 |mk (z:_)(_:x=.str z)(_:R (Its z) H1):zA R x H1
def DK(b:TE):W.Frag->St->Hp->(It->Hp->Prop)->Prop:=λ_ a H R=>b a H λx c=>zA R x c
theorem AG{l:GG}{i:TE}(n:PE X l i):PI X tg l (DK i X.K):=by
 intro c s j H R I h;refine thn (n c s j H _ I h) λv a ⟨x,g,f,k,m⟩=>?_
 obtain⟨z,e,q⟩:=m;subst e;obtain⟨t,rfl⟩:=k;have d:∀b∈[a.heap.objs.size],ky X c g b:=λb p=>by
  rw[show b=a.heap.objs.size by simpa using p];exact f.fpOk (vD _) (f.hok.fresh (vD _))
 cases ha:z.cps.all (· < 128) with
 |true=>exact wpAny_pyIter_ascii ha ⟨a.heap.objs.size,[a.heap.objs.size],_,_,g,U,f.kept (t':=a.toks) λb o e=>DG.get?_push_of_some _ e,sj z t _,⟨_,DG.get?_push_size _ U,U,U⟩,d,q⟩
 |false=>exact wpAny_pyIter_wide ha ⟨a.heap.objs.size,[a.heap.objs.size],_,_,g,U,f.kept (t':=a.toks) λb o e=>DG.get?_push_of_some _ e,uR z t _,⟨_,DG.get?_push_size _ U,U,U⟩,d,q⟩
end
theorem yj{z:Str}{g:TG}{k:TS}{D:Ends}{a:St}{H:Hp}(b:Nat->St->Hp->Prop)(t:b 0 a H)
  (r:∀i c a H,z.cps.toList[i]?=JH c->b i a H->g (.str ⟨#[c]⟩) a H λd j=>k { D with nx:=b (i+1),ct:=b (i+1),bk:=D.nx } d j)(s:∀a H,b z.cps.size a H->D.nx a H) :
  ∃W:Nat->Nat->St->Hp->Prop,(∃m,W 0 m a H)/\∀i m a H,W i m a H ->
   ((Its z).stop i H/\D.nx a H)\/((Its z).go i H/\∃N:St->Hp->Prop,(∀f H',N f H'->∃l,l<m/\W (i+1) l f H')/\∀x H',(Its z).yld i H x H'->g x a H' λd j=>k { D with nx:=N,ct:=N,bk:=D.nx } d j):=by
 refine⟨λi m a H=>m=z.cps.size-i/\i<=z.cps.size/\b i a H,⟨_,U,vI _,t⟩,?_⟩;rintro i m a H ⟨rfl,hi,p⟩;by_cases h:i<z.cps.size
 .refine .inr ⟨h,b (i+1),λf H' q=>⟨z.cps.size-(i+1),by lia,U,h,q⟩,λx H' y=>?_⟩;obtain⟨e,c,o,n⟩:=y;subst e;subst n;exact r i c a _ (by simpa using o) p
 .have e:i=z.cps.size:=by lia
  subst e;exact .inl ⟨vD _,s a H p⟩
theorem oz{x:Str}{v:V}{pos:Pos}(a:Gl X x)(h:∃u,X.mg x=JH u/\RelV v u)(b:(x == ("__debug__" : Str))=false:=by decide):PE X (.Name x pos) (tC v):=by
 obtain⟨_,m,r⟩:=h;exact bz a m r b
def sg(g:Str)(c:Nat):Bool:=!(G9.Str.occurrences g ⟨#[c]⟩ 0 g.length 1).isEmpty
def l7(z g:Str):Bool:=z.cps.toList.all (sg g)
open PySem.NumText
structure Gj(cs:List Nat):Prop where
 all:AllDigits cs
 one:cs.length=1\/∃c r,cs=c :: r/\49<=c
theorem tY{X:Cx}:OpR X (Hb .Mult) (rI Hc λi j=>.int (i*j)):=opI λ_ _ _ _ _ _ _ a q=>mul_int q a
def uS(h:DG)(e T:DF)(cls f:Ct):Prop :=
 ∃b a d c,h.get? e=JH b/\(b.cls=cls/\a[0]?=JH f)/\b.data=.fields a/\a[1]?=JH (.ref T)/\T≠e/\h.get? T=JH d/\d.data=.fields c/\c[3]?=JH .none
structure Stp(F X:List DF)(h h':DG):Prop where
 keep:∀b o,b ∉ F->b ∉ X->h.get? b=JH o->h'.get? b=JH o
 slot:∀b o,b∈F->h.get? b=JH o->∃sl,h'.get? b=JH { o with slots:=sl }
variable{base:DG}{e:DF}{oe:Obj}
section
variable{M:Gn}{env:Env}{outer:List Env}{L T:DF}{vs:Array Ct}{a0 cls:Ct}{Q:Unit->F7->Prop}
theorem gu{base h:DG}{l:List Env}(xs:List DF)(d:h.FunFrames base l):h.FunFrames (W.hideAll h (xs++frs l)) l :=
 W.funFrames_hide d λv b a c=>jE _ (List.mem_filterMap.mpr ⟨v,b,c⟩)
theorem j3{base h h':DG}{l:List Env}{xs:List DF}(r:h.FunFrames base l)(n:(W.hideAll h (xs++frs l)).get? T=JI)(a:∀b o,b∈frs l->h.get? b=JH o->∃a,h'.get? b=JH { o with slots:=a })
  {e:Obj}{ts:Array Ct}(p:h'.get? T=JH e)(g:e.data=.fields ts):h.get? T=JI\/T∈xs:=by
 cases q:h.get? T with
 |none=>exact .inl U
 |some o =>
  by_cases f:T∈xs
  .exact .inr f
  .by_cases c:T∈frs l
   .obtain⟨_,k,j,m⟩:=r.mem c;obtain⟨s,d⟩:=a T k c j;rw[p]at d;have i:=Option.some.inj d;exact JP (by rw[i]at g;exact g) (m ts)
   .have z:=W.hideAll_get (xs++frs l) q (by simp[f,c]);rw[n]at z;cases z
theorem land{E2:Ct->F7->Prop}(hf:A.frames=JH (env :: outer))(f:s.heap.FunFrames base (env :: outer))(hL:env.frame=JH L)(x:uS s.heap e T cls a0)
  (h:∀h' a,Stp (frs (env :: outer)) [e,T] s.heap h'->uS h' e a cls a0->(s.heap.get? a=JI\/a=T)->Q () { s with heap:=h' }):GC M A (HU (.ref e) env) (λ_ s2=>GC M A (Ig (.ref e) JI) Q E s2) E2 s:=by
 obtain⟨oe,vs,oT,K,J,I,H,G,F,D,C,B⟩:=x;refine Ih (base:=W.hideAll s.heap ([e,T]++frs (env :: outer))) hf (gu _ f) hL ⟨oe,vs,T,oT,K,J,I,H,G,W.hideAll_none _ (by simp),F,D,C,B⟩ (λb o q=>W.of_hideAll _ q) (W.hideAll_none _ (by simp)) λh1 lw=>?_
 obtain⟨l,p,k,i⟩:=lw;refine Ii (s:={ s with heap:=h1 }) l p k λh' Y a1 N up=>?_
 obtain⟨m,g,a,n,j,X,V,S,R,P,u,t,r,O⟩:=N;have y:∀b o,b∈frs (env :: outer)->s.heap.get? b=JH o->∃c,h'.get? b=JH { o with slots:=c }:=λb o d q=>by
  obtain⟨_,o2,v,w⟩:=f.mem d;rw[q]at v;cases v;obtain⟨c,Z⟩:=i b o q w;exact⟨c,up b _ Z w⟩
 refine h h' a ⟨λb o d hx q=>Y b o (W.hideAll_get _ q (by simp only[ia];exact λz=>z.elim hx d)),y⟩ ⟨m,g,n,j,X,V,S,R,u,t,r,O⟩ ?_;rcases j3 f P y t r with z|z
 .exact .inl z
 .rcases cf.mp z with z|z
  .exact JP z u
  .exact .inr (by simpa using z)
theorem AH{l:List Env}(d:s.heap.FunFrames base l)(x:uS s.heap e T cls a0)
  (h:∀h' a,Stp (frs l) [e,T] s.heap h'->uS h' e a cls a0->(s.heap.get? a=JI\/a=T)->Q () { s with heap:=h' }):GC M A (Ig (.ref e) JI) Q E s:=by
 obtain⟨oe,vs,R,F,D,C,B,y,w,v,u,t⟩:=x;refine Ii (base:=W.hideAll s.heap ([e,T]++frs l)) (λb o q=>W.of_hideAll _ q) (gu _ d) ⟨oe,vs,T,R,F,D,C,B,y,W.hideAll_none _ (by simp),w,v,u,t⟩ λh' O X G up=>?_
 obtain⟨i,f,a,j,g,N,L,K,J,I,n,m,k,H⟩:=G;have r:∀b o,b∈frs l->s.heap.get? b=JH o->∃P,h'.get? b=JH { o with slots:=P }:=λb o c q=>by
  obtain⟨_,Y,p,S⟩:=d.mem c;rw[q]at p;cases p;exact⟨o.slots,up b _ q S⟩
 refine h h' a ⟨λb o c V q=>O b o (W.hideAll_get _ q (by simp only[ia];exact λz=>z.elim V c)),r⟩ ⟨i,f,j,g,N,L,K,J,n,m,k,H⟩ ?_;rcases j3 d I r m k with z|z
 .exact .inl z
 .rcases cf.mp z with z|z
  .exact JP z n
  .exact .inr (by simpa using z)
end
variable{P:Dn}{H:Hp}
section
variable{H':Hp}{h h':DG}{a:DF}{o:HO}{F Y fs:List DF}
theorem cq.there(x:cq P w H h a o):∃b,h.get? a=JH b:=by
 cases o with
 |lst d=>obtain⟨_,_,_,_,e⟩:=x;exact⟨_,e⟩
 |tup d=>obtain⟨_,_,_,b,e,_⟩:=x;exact⟨_,e⟩
 |dK c=>obtain⟨_,_,_,_,o,_,_,e,_⟩:=x;exact⟨_,e⟩
 |dT c=>obtain⟨_,_,_,_,o,_,_,e,_⟩:=x;exact⟨_,e⟩
 |set S n=>obtain⟨o,_,_,_,e,_⟩:=x;exact⟨_,e⟩
 |ins C j fs=>obtain⟨_,_,_,e,_⟩:=x;exact⟨_,e⟩
 |own y=>obtain⟨_,e⟩:=x;exact⟨_,e⟩
 |xd fs=>obtain⟨_,⟨_,_,_,e,_⟩,_⟩:=x;exact⟨_,e⟩
 |rng lo hi=>obtain⟨_,_,_,e⟩:=x;exact⟨_,e⟩
 |frz b u=>obtain⟨e,_⟩:=x;exact⟨_,e⟩
 |tbl i=>exact⟨_,(show h.get? a=JH _ from x)⟩
 |met f y=>exact⟨_,(show h.get? a=JH _ from x)⟩
 |ext g=>obtain⟨_,⟨_,e⟩,_⟩:=x;exact⟨_,e⟩
theorem HOk.none_of(x:HOk P w H h)(e:h.get? a=JI):H a=none:=by
 cases q:H a with
 |none=>rfl
 |some u =>
  obtain⟨b,z⟩:=(x a u q).there;rw[e]at z;cases z
theorem HOk.stp(x:HOk P w H h)(st:Stp F Y h h')(g:∀b∈F,H b=JI)(f:∀b∈Y,H b=JI):HOk P w H h':=λa o e =>
 (x a o e).stay (λb u c q=>by
  have d:H b≠none:=by
   rcases c with rfl|c
   .rw[e];simp
   .rw[c];simp
  exact st.keep b u (λz=>d (g b z)) (λz=>d (f b z)) q) (λ_ q=>q) λ_ _ q=>q
theorem Un.stp{k:Hp}{d:DG}(u:Un fs [] k H d h)(st:Stp F Y h h')(r:∀b o,d.get? b=JH o->b∈F->b∈fs)(p:∀b∈fs,b∈F)(m:∀b∈Y,d.get? b=JI):Un fs [] k H d h':=by
 have i:∀b o,d.get? b=JH o->b ∉ Y:=λb o q z=>by rw[m b z]at q;cases q
 refine⟨λb o q n c a=>st.keep b o (λz=>c (r b o q z)) (i b o q) (u.keep b o q n c a),λb o q n c a=>?_,u.free,λb o q a=>?_,u.tups,u.frzs,u.tbls⟩
 .obtain⟨s,f⟩:=u.slot b o q n c a;obtain⟨e,g⟩:=st.slot b _ (p b c) f;exact⟨e,g⟩
 .obtain⟨l,f⟩:=u.there b o q a;by_cases j:b∈F
  .obtain⟨e,g⟩:=st.slot b _ j f;exact⟨_,g⟩
  .exact⟨_,st.keep b l j (i b o q) f⟩
end
def CX1(P:Dn)(w:Cu):CXT:=λa H s E d b=>∃(e T C:DF)(f:Ct)(c:Hp),d=.ref e/\b.os=s.os/\AllBare b.gens/\Un (frs a) [] H c s.heap b.heap/\HOk P w c b.heap /\
 uS b.heap e T (.ref C) f/\s.heap.get? e=JI/\s.heap.get? T=JI/\c e=JI/\c T=JI/\E (.ref C) JI c
structure fq(X:Cx)(JM:List (DF×Obj))(H:Hp)(b:DF):Prop where
 ent:X.s₀.heap.get? b=JI
 unt:H b=JI
 loc:b≠X.env.locals
 cel:∀x c,X.env.cells.lookup x=JH c->c≠b
 pin:∀p∈X.pn++JM,p.1≠b
variable{JM:List (DF×Obj)}{σ:St}
section
variable{h':DG}{T:DF}
theorem Inv.newAt(I:Inv X JM σ H s)(e:X.ex=[]){b:DF}(a:s.heap.get? b=JI):fq X JM H b:=by
 refine⟨?_,I.hok.none_of a,?_,?_,?_⟩
 .cases q:X.s₀.heap.get? b with
  |none=>rfl
  |some o =>
   obtain⟨h,d⟩:=I.base.there b o q (by rw[e];simp);rw[a]at d;cases d
 .rintro rfl;obtain⟨m,⟨o,_,_,q,_⟩,_⟩:=I.loc;rw[a]at q;cases q
 .rintro x c g rfl;obtain⟨v,o,q,_⟩:=I.cell x c g;rw[a]at q;cases q
 .rintro p f rfl;obtain⟨q,_⟩:=I.pin p f;rw[a]at q;cases q
theorem Inv.excStep(I:Inv X JM σ H s)(hx:X.ex=[])(st:Stp (frs X.stack) [e,T] s.heap h')(N:fq X JM H e)(O:fq X JM H T):Inv X JM σ H { s with heap:=h' }:=by
 have j:∀b∈[e,T],fq X JM H b:=λb g=>by
  rcases cf.mp g with rfl|g
  .exact N
  .rw[show b=T by simpa using g];exact O
 have G:∀b,b≠X.env.locals->b ∉ X.fs->b ∉ frs X.stack:=λb W V z=>(cf.mp (I.stkSub b z)).elim W V
 have y:∀b o,X.s₀.heap.get? b=JH o->b ∉ [e,T]:=λb o q z=>by rw[(j b z).ent]at q;cases q
 have C:∀b o,X.s₀.heap.get? b=JH o->b≠X.env.locals:=λb o q=>vE (vF (DG.lt_size q) I.ok.above)
 have any:∀b o,b ∉ [e,T]->s.heap.get? b=JH o->∃w,h'.get? b=JH { o with slots:=w }:=λb o P q=>by
  by_cases K:b∈frs X.stack
  .exact st.slot b o K q
  .exact⟨o.slots,st.keep b o K P q⟩
 have f:∀x c,X.env.cells.lookup x=JH c->∀v,s.heap.IsCell c v->h'.IsCell c v:=λx c h v ⟨o,Q,S⟩=>by
  obtain⟨w,q⟩:=any c o (λz=>(j c z).cel x c h U) Q;exact⟨_,q,S⟩
 refine⟨I.ok,I.os,I.bare,⟨λb o q n g a=>?_,λb o q n g a=>?_,I.base.free,λb o q a=>?_,I.base.tups,I.base.frzs,I.base.tbls⟩,?_,λx c h=>?_,I.free,I.freeC,λp J=>?_,I.hok.stp st I.stkFree (λb g=>(j b g).unt),I.len⟩
 .exact st.keep b o (G b (C b o q) g) (y b o q) (I.base.keep b o q n g a)
 .obtain⟨w,B⟩:=I.base.slot b o q n g a;obtain⟨t,A⟩:=any b _ (y b o q) B;exact⟨t,A⟩
 .obtain⟨o1,B⟩:=I.base.there b o q a;obtain⟨t,A⟩:=any b _ (y b o q) B;exact⟨_,A⟩
 .obtain⟨m,⟨M,Y,Z,D,r⟩,R⟩:=I.loc;obtain⟨w,q⟩:=any X.env.locals M (λz=>(j _ z).loc U) D;refine⟨m,⟨_,Y,Z,q,r⟩,λi x v e1 e2 e3=>?_⟩;obtain⟨u,L,l⟩:=R i x v e1 e2 e3;refine⟨u,L,?_⟩;rcases l with l|⟨k,c,h,z⟩
  .exact .inl l
  .exact .inr ⟨k,c,h,f x c h _ z⟩
 .obtain⟨v,z⟩:=I.cell x c h;exact⟨v,f x c h v z⟩
 .obtain⟨q,n,F,E,d⟩:=I.pin p J;exact⟨st.keep p.1 p.2 (G p.1 F E) (λz=>(j _ z).pin p J U) q,n,F,E,d⟩
end
structure ExcCls(K:W.Frag)(C:DF):Prop where
 ex:∃(bmB bmN:List Ct)(newId B Bn nid wo inN:String),W.excIn K C bmB newId=JJ/\ExcBaseFacts Bn newId inN bmN/\bmB.contains (Ct.type Bn)=JJ/\ExcBaseFacts B nid wo bmB
theorem ExcCls.value{K:W.Frag}{C:DF}(h:W.excIn K C [.type "ValueError",.type "Exception",.type "BaseException",.type "object"] "ValueError.__new__" = JJ):ExcCls K C :=
 ⟨_,_,_,_,_,_,_,_,h,PySem.F.excBase_ValueError,by decide,PySem.F.excBase_ValueError⟩
theorem ExcCls.obj{K:W.Frag}{C:DF}{h:DG}{b:List Ct}{a:String}(c:K.In h)(e:W.excIn K C b a=JJ):∃bm N nm q bs hdct sn sub ab col dd k0 k1 k2 k3 k5 mN,
   h.get? C=JH (excClassObj nm q C N bs bm hdct sn sub ab col dd k0 k1 k2 k3 k5 a)/\h.Ns N mN/\mN "__init__" = JI/\OwnTail h b bm:=by
 unfold W.excIn at e;split at e
 .rename_i dd cd sl lk
  split at e
  .rename_i C' bm k0 k1 k2 k3 n k5 em es
   simp only[zC,beq_iff_eq,Bool.not_eq_true']at e;obtain⟨⟨⟨⟨⟨rfl,rfl⟩,i⟩,g⟩,d⟩,hi⟩:=e;obtain⟨nm,bs,k,j,q,hdct,sn,sub,ab,col,l⟩:=cd;dsimp only at em i g d hi;subst em i;have f:sl = #[k0,k1,k2,k3,JH (Ct.builtin n),k5]:=by
    apply Array.toList_inj.mp
    rw[es]
   subst f;exact⟨bm,j,nm,q,bs,hdct,sn,sub,ab,col,dd,k0,k1,k2,k3,k5,_,c _ _ lk,DG.Ns.of_isNs (W.isNs_of_in c d),W.nsMap_none_of_in c d hi,W.tail_of_in c g⟩
  .cases e
 .cases e
variable{K:W.Frag}
section
variable{mg:Str->Option Ct}{N:List Str}{qual:Str}{scope:Ge}{f:DF}{cd:Ct}{outer:List Env}{s0:F7}{H0:Hp}{E:XK}
def AI(C:DF)(E:XK)(t:TA):TS:=λ_ σ H=>t σ H λa b=>a.length<=DO/\E (.ref C) JI b
end
def XP(X:Cx)(JM:List (DF×Obj))(σ:St)(EX:DF->Hp->Prop)(b:Ct)(s':F7):Prop :=
 ∃(e T C:DF)(c:Ct)(a:Hp),b=.ref e/\Inv X JM σ a s'/\uS s'.heap e T (.ref C) c/\fq X JM a e/\fq X JM a T/\EX C a
abbrev TX:=St->Hp->VK->(DF->Hp->Prop)->Prop
def PEX(X:Cx)(e:GG)(t:TX):Prop :=
 ∀(JM:List (DF×Obj))(s:F7)(σ:St)(H:Hp)(Q:VK)(a:DF->Hp->Prop),Inv X JM σ H s->t σ H Q a->GC (model X.prog X.w) X.A (eval e X.env) (EP X JM σ Q) (XP X JM σ a) s
def cS(P:Dn)(w:Cu)(K:W.Frag)(mg:Str->Option Ct)(base:DG)(k:Nat)(x:Str)(ps:List Str)(sp:Sp):Prop :=
 ∃f a,aJ P w K mg base (CX1 P w) k f a ps sp/\Binds K a ps []/\W.keepIn K (.ref f)=JJ/\mg x=JH (.ref f)
theorem cS.mono{P:Dn}{w:Cu}{K:W.Frag}{mg:Str->Option Ct}{base:DG}{j k:Nat}{x:Str}{ps:List Str}{sp:Sp}(C:cS P w K mg base j x ps sp)(h:j<=k):cS P w K mg base k x ps sp:=by
 obtain⟨f,a,F,r⟩:=C;exact⟨f,a,F.mono h,r⟩
section
variable{s':F7}
theorem Inv.afterX{E:XK}{EX:DF->Hp->Prop}{f:Ct}(I:Inv X JM σ H s)(d:X.ex=[])(m:∀C H',E (.ref C) JI H'->EX C H')(h:CX1 X.prog X.w X.stack H s E f s'):XP X JM σ EX f s':=by
 obtain⟨e,T,C,n,H',rfl,g,c,un,hok,x,i,j,k,l,q⟩:=h;have o:Inv X JM σ H' s':=I.call' (ch:=[]) g un hok c λb z=>JP z (by simp)
 have a:=I.newAt d i;have b:=I.newAt d j;exact⟨e,T,C,n,H',U,o,x,⟨a.ent,k,a.loc,a.cel,a.pin⟩,⟨b.ent,l,b.loc,b.cel,b.pin⟩,m _ _ q⟩
end
variable{k:Nat}{x:Str}{ps:List Str}{sp:Sp}{pos:Pos}
section
variable{e:GG}{es:List GG}{t:TA}{p:Pos}
def DL(sp:Sp)(t:TA):TX:=λσ H Q e=>t σ H λa d=>sp a d Q λb _ c=>∃C,b=.ref C/\e C c
theorem AJ(C:cS X.prog X.w X.K X.mg X.base k x ps sp)(y:bN k X.A)(v:X.ex=[])(D:Gl X x)(G:PA X.nox (e :: es) t)(i:(x == ("__debug__" : Str))=false:=by decide)
  (he:GJ (e :: es) X.env=(JK,eval e X.env) :: GJ es X.env:=by rfl)(g:(GI pos (GJ es X.env)).any (·.1)=false:=by rfl):PEX X (.Call (.Name x p) (e :: es) [] pos) (DL sp t):=by
 obtain⟨f,L,F,b,o,m⟩:=C;intro JM s σ H Q R I h;refine B7 (dB I D m ?_ i);refine W.callWith_K (h₀:=X.base) I.ok.mod.kin o (GL (G pos JM s σ H _ (I.wish _) h) (λa d ⟨n,l,j,r,q⟩=>⟨j.kIn,?_⟩) λ_ _ z=>False.elim z) he g;have J:Inv X JM σ l d:=j.unwish;have B:a.length=ps.length:=by rw[←r.length];exact F.len _ _ _ _ q
 have O:Hr d L ⟨a,[]⟩ (ps.zip a):=by
  have z:=b d a J.kIn (by rw[jH];exact B);rw[jH]at z;exact z
 refine Ht (Hu (F.run X.A X.stack d l ⟨a,[]⟩ a n Q _ y J.env0 O r q) λr S c=>?_);cases r with
 |error T=>exact J.afterX (E:=λN _ P=>∃C,N=.ref C/\R C P) v (λC V z=>by obtain⟨Y,M,z⟩:=z;cases M;exact z) c
 |ok fl =>
  cases fl with
  |ret u=>exact J.after c
  |next=>exact False.elim c
  |brk=>exact False.elim c
  |cont=>exact False.elim c
abbrev TSX:=Ends->St->Hp->(DF->Hp->Prop)->Prop
def PSX(X:Cx)(st:GK)(t:TSX):Prop :=
 ∀(JM:List (DF×Obj))(s:F7)(σ:St)(H:Hp)(D:Ends)(a:DF->Hp->Prop),Inv X JM σ H s->t D σ H a->GC (model X.prog X.w) X.A (exec st X.env) (SP X JM D) (XP X JM σ a) s
def B1(i:Nat)(a:TX):TSX:=λD σ H c=>a σ H (λv b=>D.nx (σ.set i (JH v)) b) c
theorem yk{i:Nat}{y:Str}{e:GG}{b:TX}{a:Pos}(l:X.N.Nodup)(hi:X.N[i]?=JH y)(f:Loc X.env.scope y)(k:PEX X e b)(g:GV e (JH (.Name y a)) pos.line X.env=pure false:=by rfl)(j:X.fn y=JJ\/X.env.scope.names.lookup y=JH .local:=by first|exact .inl U|exact .inr U|assumption) :
  PSX X (.Assign [.Name y a] e pos) (B1 i b):=by
 intro JM s σ H D p I h;refine G0 (thn (k JM s σ H _ p I h) λv q ⟨y,o,n,c,d⟩=>?_) g;exact fU n l hi f c (λs2 m=>⟨_,o,m,d⟩) j
end
def sfx(X:Cx)(e:DF)(oe:Obj):Cx:={ X with A:=X.A.mark (JH (.ref e)),calm:=JK,pn:=(e,oe) :: X.pn,xe:=λ_ _=>False }
section
variable{s':F7}
theorem Inv.suite(I:Inv X JM σ H s)(d:s.heap.get? e=JH oe)(b:fq X JM H e)(f:∀v,oe.data≠.cell v)(c:e ∉ X.fs):Inv (sfx X e oe) JM σ H s:=by
 refine⟨⟨I.ok.mod,I.ok.kind,I.ok.glob,I.ok.blt,I.ok.above,I.ok.inj,I.ok.has,I.ok.cab,λz=>JP z Bool.false_ne_true,I.ok.frames,I.ok.stk,I.ok.exf,I.ok.bs,I.ok.bsz,I.ok.noex,I.ok.exfs,I.ok.funs,I.ok.frf⟩,I.os,I.bare,I.base,I.loc,I.cell,I.free,I.freeC,λp a=>?_,I.hok,I.len⟩;rcases cf.mp (show p∈(e,oe) :: (X.pn++JM)from a)with rfl|a
 .exact⟨d,b.unt,b.loc,c,f⟩
 .exact I.pin p a
theorem Inv.unsuite(ok:X.Ok)(I:Inv (sfx X e oe) JM σ H s):Inv X JM σ H s :=
 ⟨ok,I.os,I.bare,I.base,I.loc,I.cell,I.free,I.freeC,λp a=>I.pin p (fG (e,oe) a),I.hok,I.len⟩
theorem Inv.excObj(I:Inv (sfx X e oe) JM σ H s):s.heap.get? e=JH oe:=(I.pin (e,oe) (kN _ dt)).1
theorem Inv.unbound{i:Nat}{x:Str}{m:Str->Option Ct}{u:Option Ct}{h':DG}(I:Inv X JM σ H s)(hi:X.N[i]?=JH x)(Q:X.N.Nodup)(C:s.heap.Ns X.env.locals m)(ns:h'.Ns X.env.locals λy=>if y=x then u else m y)(a:DG.SameBut X.env.locals s.heap h') :
  Inv X JM (σ.set i JI) H { s with heap:=h' }:=by
 have cne:=I.cne;obtain⟨V,_,_,T,_⟩:=id C;refine⟨I.ok,I.os,I.bare,⟨λb o e n v h=>?_,λb o e n v h=>?_,I.base.free,λb o e h=>?_,I.base.tups,I.base.frzs,I.base.tbls⟩,⟨_,ns,λj y D g f S=>?_⟩,λy c e=>?_,I.free,I.freeC,λp O=>?_,?_,by simpa using I.len⟩
 .exact(a.2 b (vE (vF (DG.lt_size e) I.ok.above))).trans (I.base.keep b o e n v h)
 .obtain⟨F,g⟩:=I.base.slot b o e n v h;exact⟨F,(a.2 b (vE (vF (DG.lt_size e) I.ok.above))).trans g⟩
 .obtain⟨K,g⟩:=I.base.there b o e h;exact⟨K,(a.2 b (vE (vF (DG.lt_size e) I.ok.above))).trans g⟩
 .by_cases t:j=i
  .subst t;by_cases l:j<σ.length
   .rw[List.getElem?_set_self l]at f;cases f
   .rw[jI (by simpa using l)]at f;cases f
  .rw[List.getElem?_set_ne (Ne.symm t)]at f;obtain⟨M,w,P⟩:=I.loc;obtain⟨E,G,q⟩:=P j y D g f S;have R:M=m:=by rw[w.eq_nsMap,C.eq_nsMap]
   subst R;refine⟨E,G,?_⟩;rcases q with⟨k,e⟩|⟨k,c,e,z⟩
   .refine .inl ⟨k,?_⟩;have:y≠x:=λe=>t (gX Q g (e ▸ hi))
    simp[this,e]
   .exact .inr ⟨k,c,e,z.sameBut a (cne y c e)⟩
 .obtain⟨A,z⟩:=I.cell y c e;exact⟨A,z.sameBut a (cne y c e)⟩
 .obtain⟨e,n,B,L,d⟩:=I.pin p O;exact⟨(a.2 p.1 B).trans e,n,B,L,d⟩
 .intro b J e;refine(I.hok b J e).stay (λc A r q=>(a.2 c ?_).trans q) (λ_ q=>q) λ_ _ q=>q
  rintro rfl;rcases r with rfl|r
  .rw[I.free]at e;cases e
  .rw[I.free]at r;cases r
end
theorem iQ{M:Gn}{A:D7}{E:Ct->F7->Prop}{i:Nat}{x:Str}{pos:Pos}{Q:Unit->F7->Prop}(I:Inv X JM σ H s)(e:X.N.Nodup)(hi:X.N[i]?=JH x)(a:X.env.scope.names.lookup x=JH .local)
  (h:∀s',Inv X JM (σ.set i JI) H s'->Q () s'):GC M A (do bindName X.env x Ct.none;unbindBehindTheSuite X.env x pos) Q E s:=by
 refine BX (wpAny_bindName (fU I e hi (.inl a) (v:=.non) (u:=Ct.none) U (λq f=>?_) (.inr a)));refine wpAny_onRaise ?_;obtain⟨m,d,n⟩:=f.loc;have c:i<σ.length:=by rw[I.len];exact(GA.mp hi).1
 obtain⟨u,r,l⟩:=n i x .non hi (by rw[List.getElem?_set_self c]) (.inl a);have p:(X.env.scope.kind == .class || (X.env.scope.kind == .module && X.env.locals != X.env.globals))=false:=by rw[I.ok.kind];rfl
 rcases l with⟨k,o⟩|⟨k,_⟩
 .refine wpAny_unbindName_local a d o p λt v j g=>?_
  have J:=f.unbound hi e d j g;rw[List.set_set]at J;exact h _ J
 .exfalso;have b:X.env.kindOf x=JH .local:=a;rcases k with k|k
  .rw[b]at k;cases k
  .rw[b]at k;cases k
def DM(i:Nat)(B:DF)(K:W.Frag)(G:DF->Prop)(c:TSX)(ts:DF->DF->TS):TS:=λD σ H=>c D σ H λC d=>W.exmOne K (.ref C) (.ref B)=JH JJ/\G C /\
 ∀e,ts C e { nx:=λa b=>D.nx (a.set i JI) b,rt:=D.rt,bk:=λa b=>D.bk (a.set i JI) b,ct:=λa b=>D.ct (a.set i JI) b } (σ.set i (JH (.ref e))) d
section
variable{st b₀:GK}{su:List GK}{tb:TSX}{ts:DF->DF->TS}{Tn n:Str}{B:DF}{np B2:Pos}
theorem AK{G:DF->Prop}(hb:PSX X st tb)(hx:X.ex=[])(c:X.stack=X.env :: X.outer)(R:X.env.frame=JH X.env.locals)(hg:Gl X Tn)(hm:X.mg Tn=JH (.ref B))(L:X.N.Nodup)(hi:X.N[i]?=JH n)(F:X.env.scope.names.lookup n=JH .local)
  (hs:∀(C e:DF)(oe:Obj),G C->oe.cls=.ref C->PSs (sfx X e oe) (b₀ :: su) (ts C e))(a4:(Tn == ("__debug__" : Str))=false:=by decide) :
  PS X (.Try [st] [.ExceptHandler (JH (.Name Tn np)) (JH n) (b₀ :: su) B2] [] [] pos) (DM i B X.K G tb ts):=by
 intro JM s σ H D I h;refine wpAny_Try_except ?_;refine GU (GL (hb JM s σ H D _ I h) (λf J q=>?_) λev J q=>?_)
 .cases f with
  |next=>exact GS (GS q)
  |ret v=>exact q
  |brk=>exact q
  |cont=>exact q
 obtain⟨e,T,C,a0,Z,rfl,Y,x,V,nT,a3,hG,q⟩:=q;have a6:X.A.frames=JH (X.env :: X.outer):=by rw[←c];exact Y.ok.frames
 have a7:J.heap.FunFrames X.base (X.env :: X.outer):=by rw[←c];exact Y.stack
 refine land a6 a7 R x λh2 T2 P x2 a5=>?_
 rw[←c]at P;have O:=Y.excStep hx P V nT;have a2:fq X JM Z T2:=by
  rcases a5 with z|z
  .exact Y.newAt hx z
  .rw[z];exact nT
 have zB:∀{b:DF}{o:Obj}{S:Array Ct}{hh:DG},hh.FunFrames X.base X.stack->hh.get? b=JH o->o.data=.fields S->b ∉ X.fs:=λ{b o S hh} ff g d z=>by
  have z':b∈frs X.stack:=by rw[c];unfold frs;rw[nS,R];exact fG _ z
  obtain⟨_,o2,g2,nf⟩:=ff.mem z';rw[g]at g2;cases g2;exact nf S d
 have b6:=O;obtain⟨oe,S,oT,b3,y1,⟨y2,a9⟩,y3,y4,y5,y6,y7,y8⟩:=id x2;have S2:Inv (sfx X e oe) JM σ Z { J with heap:=h2 }:=O.suite y1 V (λv z=>by rw[y3]at z;cases z) (zB O.stack y1 y3);refine wpAny_handleBy_cons ?_ (by intro z;cases z);refine codeAny_handlers_test (dB (X:=sfx X e oe) S2 hg hm ?_ a4);refine W.exm_one (h:=h2) S2.kIn (λA' Q' E' s' k r=>by
  have z:=Ij (M:=model X.prog X.w) (A:=A') (E:=E') (Q:=Q') (k _ _ y1);rw[y2]at z;exact z r) a3 _ _ _ _ (λb o g=>g) ?_
 rw[JO U];refine codeAny_handlers_suite_as ?_;refine AH (s:={ J with heap:=h2 }) (l:=X.stack) O.stack x2 λh3 T3 a1 x3 b5=>?_
 have I3:=O.excStep hx a1 V a2;obtain⟨y,b0,b4,b1,z1,⟨z2,a8⟩,z3,z4,z5,z6,z7,z8⟩:=id x3;have S3:Inv (sfx X e y) JM σ Z { J with heap:=h3 }:=I3.suite z1 V (λv z=>by rw[z3]at z;cases z) (zB I3.stack z1 z3);refine fU (X:=sfx X e y) S3 L hi (.inl F) (v:=.ref e) (u:=.ref e) U (λs4 S4=>?_) (.inr F);refine GL (hs C e y hG z2 JM s4 _ Z _ S4 (q e)) (λfl s5 a=>?_) λ_ _ z=>False.elim z
 cases fl with
 |next =>
  obtain⟨t,p,j,a⟩:=a;exact iQ (j.unsuite I.ok) L hi F λs6 m=>⟨_,p,m,a⟩
 |brk =>
  obtain⟨t,p,j,a⟩:=a;exact iQ (j.unsuite I.ok) L hi F λs6 m=>⟨_,p,m,a⟩
 |cont =>
  obtain⟨t,p,j,a⟩:=a;exact iQ (j.unsuite I.ok) L hi F λs6 m=>⟨_,p,m,a⟩
 |ret u =>
  obtain⟨v,t,p,j,r5,a⟩:=a;exact iQ (j.unsuite I.ok) L hi F λs6 m=>⟨v,_,p,m,r5,a⟩
end
structure j5(K:W.Frag)(C:DF):Prop where
 ga:W.findIn K (.ref C) "__getattribute__" = JH (JH (.builtin "BaseException.__getattribute__"))
 hk:W.findIn K (.ref C) "__getattr__" = JH JI
 cl:W.findIn K (.ref C) "__class__" = JH (JH (.builtin "object.__class__"))
 gt:W.specialIn K (.builtin "object.__class__") "__get__" = JH (JH (.builtin "getset_descriptor.__get__"))
 tk:W.takesIn K (.builtin "object.__class__")=JH JJ
 ob:W.mroIn K C (.type "object")=JH JJ
 be:W.mroIn K C (.type "BaseException")=JH JJ
 me:W.kitCls K (.ref C) (.ref C)=JH JJ
variable{C:DF}
theorem gv{a:DG}(g:a.get? e=JH oe)(c:oe.cls=.ref C){M:Gn}:W.Looks M a (HK (.ref e)) (.ref C):=λf b d h k r=>by
 have z:=Ij (M:=M) (A:=f) (E:=d) (Q:=b) (k _ _ g);rw[c]at z;exact z r
theorem nF{R:Hj->F7->Prop}{tp:Ct}(j:K.In s.heap)(g:s.heap.get? e=JH oe)(c:oe.cls=.ref C)(b:W.mroIn K C (.type "object")=JH JJ) (h:R (.ok (.ret (.ref C))) s) :
  Hk (model prog w) A (.call (.builtin "getset_descriptor.__get__") ⟨[.builtin "object.__class__",.ref e,tp],[]⟩) R s:=by
 have a:∀{M:Gn},W.Looks M s.heap (HK (.ref e)) (.ref C):=gv g c;have i:∀{M:Gn},W.Looks M s.heap (isSubtype (.ref C) (.type "object")) true:=W.looks_mroIn j b;refine Ik W.KF.slot_gs.plain W.KF.entry_gs (W.KF.slot_gs.check _ _ _ _ _ _ _ _ W.KF.type_class (W.KF.args_gs _ _ tp) ?_);show GC _ _ (do let __x ←G9.Getset_descriptor.descrGetArgs ⟨[.builtin "object.__class__",.ref e,tp],[]⟩;match __x with|(d,obj,snd)=>G9.Getset_descriptor.descrGetter d obj) _ _ s;rw[W.dga_obj];refine BX (BY ?_);show GC _ _ (do G9.Getset_descriptor.descrCheckInstance (.builtin "object.__class__") (.ref e);again (Ho.builtin "object.__class__" ⟨[.ref e],[]⟩)) _ _ s;have f:G9.Getset_descriptor.descrNameAndClass (.builtin "object.__class__")=pure (s!"__class__",Ct.type "object"):=by
  show pure (Str.ofString (G9.Getset_descriptor.descrOwnerAndName "object.__class__").2,Ct.type (G9.Getset_descriptor.descrOwnerAndName "object.__class__").1)=_;rw[W.KF.owner_class]
 unfold G9.Getset_descriptor.descrCheckInstance;rw[f];refine BX (BX (BY ?_));refine BX (BX (a _ _ _ _ (λ_ _ q=>q) (i _ _ _ _ (λ_ _ q=>q) ?_)));refine Il U (BY ?_);refine BY ⟨Ho.quiet_builtin _ (by decide+kernel),Im W.KF.entry_class ?_⟩;refine BX (BX (a _ _ _ _ (λ_ _ q=>q) ?_));refine Il U (BY (BY h))
theorem uT{M:Gn}{d:Ct}{Q:Unit->F7->Prop}(j:K.In s.heap)(g:s.heap.get? e=JH oe)(c:oe.cls=.ref C)(f:W.mroIn K C (.type "BaseException")=JH JJ) (h:Q () s) :
  GC M A (Io "BaseException.__getattribute__" ⟨[.ref e,d],[]⟩) Q E s:=by
 have i:builtinKind "BaseException.__getattribute__" = JH .slot:=by decide+kernel
 have b:splitId "BaseException.__getattribute__" = JH ("BaseException","__getattribute__"):=by decide+kernel
 have a:=PySem.F.args_bexc_ga (.ref e) d;unfold Io;rw[i,b];refine BX (BX (gv g c _ _ _ _ (λ_ _ q=>q) (W.looks_mroIn j f _ _ _ _ (λ_ _ q=>q) ?_)));refine Il U ?_;unfold Ip at a;generalize Manifest.signature? "BaseException.__getattribute__" = sg at a⊢;cases sg with
 |none=>exact BY h
 |some k=>exact Iq a h
theorem uU{Q:Option Ct->F7->Prop}(a:K.In s.heap)(X:j5 K C)(g:s.heap.get? e=JH oe)(c:oe.cls=.ref C)(h:Q (JH (.ref C)) { s with toks:=s.toks+1 }):GC (model prog w) A (getAttr? (.ref e) "__class__") Q E s:=by
 have b:∀{M:Gn},W.Looks M s.heap (HK (.ref e)) (.ref C):=gv g c;refine BX (wpAny_mkText (BX (Ir (B6 (BX (b _ _ _ _ (λ_ _ q=>q) (BX (W.looks_findIn a X.ga _ _ _ _ (λ_ _ q=>q) ?_))))))));refine Il U ?_;refine BX ?_;show GC _ _ (if onTheHeap (.ref C)=JJ then HF (.ref C) "__getattr__" else pure JI) _ _ _;refine Iu U (W.looks_findIn a X.hk _ _ _ _ (λ_ _ q=>q) ?_);refine BX (Ir (B6 ?_));show GC _ _ (if (JK && onTheHeap (.builtin "BaseException.__getattribute__"))=JJ then _ else boundAndCalled (.builtin "BaseException.__getattribute__") (.ref e) (Ct.str s!"__class__" s.toks)) _ _ _;refine Il U (BX (Iq (PySem.F.attr_ValueError.ga.bind (.ref e)) (Ht ?_)));refine Ik PySem.F.attr_ValueError.ga.plain PySem.F.entry_bexc_ga (uT (s:={ s with toks:=s.toks+1 }) a g c X.be ?_);refine BX (Iq (show Iv "__getattribute__" 1 ⟨[.ref e,Ct.str s!"__class__" s.toks],[]⟩=pure (Ct.ref e,[Ct.str s!"__class__" s.toks])from U) ?_);refine BX (Iq (show G9.ObjectAttr.attrName (Ct.str s!"__class__" s.toks)=pure s!"__class__"from U) ?_);refine BX (b _ _ _ _ (λ_ _ q=>q) ?_);refine BX ?_;unfold G9.ObjectAttr.find;refine BX (W.looks_findIn a X.cl _ _ _ _ (λ_ _ q=>q) ?_);refine BX (W.looks_specialIn a X.gt _ _ _ _ (λ_ _ q=>q) ?_);refine BX (BX (W.looks_takesIn a X.tk _ _ _ _ (λ_ _ q=>q) (Iu U (BY ?_))));refine BX (Iw (BY ?_));refine BX (B6 (Ht (nF (s:={ s with toks:=s.toks+1 }) a g c X.ob ?_)));exact BY (W.handed_on U (BY h))
theorem l8(X:j5 K C)(c:oe.cls=.ref C):W.KitX K (.ref e) (.ref C) λh=>h.get? e=JH oe where
 ty:=λM h a g=>gv g c
 it:=λM h a g=>(W.kit_cls a X.me).2.1
 ne:=λh tp dd f n i a g=>by
  refine zD.mpr λz=>?_
  have b:=Ct.ref.inj (beq_iff_eq.mp z);subst b;have m:=X.be;unfold W.mroIn W.clsIn at m;cases q:List.lookup C K with
  |none=>rw[q]at m;cases m
  |some o =>
   have k:=a C o q;rw[g]at k;have d:=Option.some.inj k;rw[q,←d]at m;cases m
 ca:=λ{prog w A E Q s} a g h=>uU a X g c h
theorem oA:∀{a:List DF}{us:List Ct},Vals (a.map V.ref) us->us=a.map Ct.ref
 | [],_,.nil=>rfl
 |c :: a,_,.cons r t=>by rw[oA t];exact JT (· :: a.map Ct.ref) r
theorem d6(c:oe.cls=.ref C)(L:j5 X.K C):cP (sfx X e oe) (.builtin "isinstance") (λxs H Q=>∃y b,xs=[.ref e,y]/\((∃B,y=.ref B/\W.kitOne X.K (.ref C) (.ref B)=JH b)\/(∃T,y=.ty T/\W.kitOne X.K (.ref C) (.type T)=JH b) \/
  (∃(tp:DF)(i:List DF),y=.ref tp/\H tp=JH (.tup (i.map V.ref))/\W.kitAny X.K (.ref C) (i.map Ct.ref)=JH b))/\Q (.bl b) H):=by
 intro JM s σ H xs E Q I r h;obtain⟨y,b,rfl,v,q⟩:=h;have g:=I.excObj;have j:X.K.In s.heap:=I.kIn;cases r with
 |cons o u =>
  cases u with
  |cons f t =>
   cases t;cases (show _=Ct.ref e from o);have a:∀d,EP (sfx X e oe) JM σ Q (Ct.bool b) { s with toks:=d }:=λd=>⟨.bl b,H,I.tok d,U,q⟩
   rcases v with⟨B,rfl,k⟩|⟨T,rfl,k⟩|⟨tp,i,rfl,w,k⟩
   .cases (show _=Ct.ref B from f);exact W.kia_one (l8 L c) j g k (λz=>nomatch z) a
   .cases (show _=Ct.type T from f);exact W.kia_one (l8 L c) j g k (λz=>nomatch z) a
   .cases (show _=Ct.ref tp from f);obtain⟨_,D,p,⟨J,dd,G,F⟩,x,m,n,l⟩:=I.hok tp _ w;have A:=oA p;subst A;dsimp only at m l;subst m l;exact W.kia_tup (l8 L c) j g x k (λz=>nomatch z) a
theorem len_app(x y:Str):(x++y).length=x.length+y.length:=by
 show(Str.append x y).cps.size=x.cps.size+y.cps.size;unfold Str.append;simp
theorem l9:OpR X (Hb .Mult) (λx y H Q=>∃z n,x=.str z/\y=.int n/\MulOk z n/\Q (.str (Txt.mul z n)) H):=by
 intro JM s σ H x y v u Q I c b h;obtain⟨z,n,rfl,rfl,d,q⟩:=h;obtain⟨t,rfl⟩:=c;obtain⟨a,rfl⟩:=b;exact PySem.SB.mul d λa k=>⟨.str _,H,I.tok _,⟨_,U⟩,q⟩
def bg(CX:CXT)(P:Dn)(w:Cu)(K:W.Frag)(mg:Str->Option Ct)(base:DG)(k:Nat)(C:DF)(m:Str)(ps:List Str)(sp:Sp):Prop :=
 ∃f a,Meth K C m f/\aJ P w K mg base CX k f a ps sp/\Binds K a ps []
def bq(CX:CXT)(P:Dn)(w:Cu)(K:W.Frag)(mg:Str->Option Ct)(base:DG)(k:Nat)(x:Str)(C:DF)(ps:List Str)(sp:Sp):Prop :=
 ∃f a,Mk K C f/\aJ P w K mg base CX k f a ps sp/\Binds K a ps []/\mg x=JH (.ref C)
structure B3(K:W.Frag)(B:DF)(m:Str)(f:DF):Prop where
 sp:W.specialIn K (.ref B) "__getattribute__" = JH (JH (.builtin "type.__getattribute__"))
 rd:W.readsIn K B (.type "type")=JJ
 at_:W.findCls K (.ref B) (.type "type") m=JH (.val (.ref f))
 kp:W.keepIn K (.ref f)=JJ
def b7(CX:CXT)(P:Dn)(w:Cu)(K:W.Frag)(mg:Str->Option Ct)(base:DG)(k:Nat)(x:Str)(m:Str)(ps:List Str)(sp:Sp):Prop :=
 ∃f a B,B3 K B m f/\aJ P w K mg base CX k f a ps sp/\Binds K a ps []/\mg x=JH (.ref B)
section
variable{CX:CXT}{mg:Str->Option Ct}{j:Nat}{m:Str}
theorem bg.mono(c:bg CX P w K mg base j C m ps sp)(h:j<=k):bg CX P w K mg base k C m ps sp:=by
 obtain⟨f,a,M,F,b⟩:=c;exact⟨f,a,M,F.mono h,b⟩
theorem bq.mono(c:bq CX P w K mg base j x C ps sp)(h:j<=k):bq CX P w K mg base k x C ps sp:=by
 obtain⟨f,a,M,F,b⟩:=c;exact⟨f,a,M,F.mono h,b⟩
theorem b7.mono(c:b7 CX P w K mg base j x m ps sp)(h:j<=k):b7 CX P w K mg base k x m ps sp:=by
 obtain⟨f,a,B,M,F,b⟩:=c;exact⟨f,a,B,M,F.mono h,b⟩
end
inductive B4(C:DF)(m:Str)(sp:Sp)(t:TA)(σ:St)(Q:VK)(x:V)(H1:Hp):Prop
 |mk (a dx fs:_)(_:x=.ref a)(_:H1 a=JH (.ins C dx fs))(_:fs.lookup m=JI)(_:t σ H1 λvs H2=>sp (x :: vs) H2 Q E0)
def tMt(C:DF)(m:Str)(sp:Sp)(a:TE)(t:TA):TE:=λσ H Q=>a σ H λx b=>B4 C m sp t σ Q x b
def tMk(C:DF)(sp:Sp)(t:TA):TE:=λσ H Q=>t σ H λc b=>∀x a,b x=JI->b a=JI->a≠x ->
 sp (.ref x :: c) (upd (upd b a (.own x)) x (.ins C a [])) (λv d=>v=.non/\Q (.ref x) d) E0
section
variable{CX:CXT}{f:DF}{fd:Hq}{m:Str}{p np apos:Pos}{e o:GG}{es:List GG}{ta:TE}{t:TA}
theorem ym{JM:List (DF×Obj)}{σ:St}{H:Hp}{s:F7}{Q:VK}{us:List Ct}{vs:List V}{E:XK}(F:aJ X.prog X.w X.K X.mg X.base CX k f fd ps sp)(b:bN k X.A)(c:Binds X.K fd ps [])(a:Passes CX X E)
  (I:Inv X JM σ H s)(r:Vals vs us)(h:sp vs H Q E):GC (model X.prog X.w) X.A (call (.ref f) us) (EP X JM σ Q) X.xe s :=
 rY (dvs:=[]) (ds:=[]) F b c .nil a I r (by rw[jH];exact h)
theorem oB{pl:Sem Bool}(M:bg CX X.prog X.w X.K X.mg X.base k C m ps sp)(z:Passes CX X E0)(c:Cls X.K C)(D:bN k X.A)(E:PE X o ta)(J:PA X (e :: es) t)
  (b:GJ (e :: es) X.env=(JK,eval e X.env) :: GJ es X.env:=by rfl)(d:(GI pos (GJ es X.env)).any (·.1)=false:=by rfl)
  (B:eval (.Call (.Attribute o m apos) (e :: es) [] pos) X.env=(do
   let g ←eval o X.env
   GQ apos.atName
   let (f,first) ←holding [g] (Hi g m pl)
   Iy pos f first (GI pos (GJ (e :: es) X.env)) (HL pos (HM [] X.env))):=by rfl) :
  PE X (.Call (.Attribute o m apos) (e :: es) [] pos) (tMt C m sp ta t):=by
 obtain⟨f,fd,i,F,G⟩:=M;intro JM s σ H Q I h;refine W.methodCall_KW (pl:=pl) (thn (E JM s σ H _ I h) λu p ⟨x,O,n,v,a,P,fs,L,N,l,q⟩=>?_) B;subst L;obtain rfl:u=Ct.ref a:=v;refine lS n N c i l ?_;refine W.callWith_K (first:=[.ref a]) (h₀:=X.base) I.ok.mod.kin i.kp (thn (J pos JM p σ O _ n q) λus s2 ⟨vs,R,j,r,y⟩=>⟨j.kIn,?_⟩) b d;exact ym (us:=.ref a :: us) (vs:=.ref a :: vs) F D G z j (.cons U r) y
theorem ft{pl:Sem Bool}(M:b7 CX X.prog X.w X.K X.mg X.base k x m ps sp)(l:Passes CX X E0)(o:bN k X.A)(q:Gl X x)(y:PA X (e :: es) t)(d:(x == ("__debug__" : Str))=false:=by decide)
  (b:GJ (e :: es) X.env=(JK,eval e X.env) :: GJ es X.env:=by rfl)(c:(GI pos (GJ es X.env)).any (·.1)=false:=by rfl)
  (n:eval (.Call (.Attribute (.Name x np) m apos) (e :: es) [] pos) X.env=(do
   let g ←eval (.Name x np) X.env
   GQ apos.atName
   let (f,first) ←holding [g] (Hi g m pl)
   Iy pos f first (GI pos (GJ (e :: es) X.env)) (HL pos (HM [] X.env))):=by rfl) :
  PE X (.Call (.Attribute (.Name x np) m apos) (e :: es) [] pos) (tFn sp t):=by
 obtain⟨f,fd,B,a,F,u,p⟩:=M;intro JM s σ H Q I h;refine W.methodCall_KW (pl:=pl) (dB I q p ?_ d) n;refine W.method_cls I.kIn a.sp (W.cls_value (mc:=.type "type") I.kIn a.rd a.at_ (oj (v:=.ref f) U) ?_);refine W.callWith_K (first:=[]) (h₀:=X.base) I.ok.mod.kin a.kp (thn (y pos JM _ σ H _ (I.tok _) h) λus s2 ⟨vs,z,i,r,j⟩=>⟨i.kIn,?_⟩) b c;exact ym (us:=us) (vs:=vs) F o u l i r j
theorem ua(M:bq CX X.prog X.w X.K X.mg X.base k x C ps sp)(l:Passes CX X E0)(m:bN (k+1) X.A)(o:Gl X x)(u:PA X (e :: es) t)(i:(x == ("__debug__" : Str))=false:=by decide)
  (he:GJ (e :: es) X.env=(JK,eval e X.env) :: GJ es X.env:=by rfl)(g:(GI pos (GJ es X.env)).any (·.1)=false:=by rfl) :
  PE X (.Call (.Name x p) (e :: es) [] pos) (tMk C sp t):=by
 obtain⟨f,fd,M,F,r,n⟩:=M;have h:=ye (E:=E0) (dvs:=[]) (ds:=[]) (p:=p) M F m o n r .nil l u i he g;intro JM s σ H Q I q;refine h JM s σ H Q I ?_;have j:t σ H λc b=>∀x a,b x=JI->b a=JI->a≠x->sp (.ref x :: c) (upd (upd b a (.own x)) x (.ins C a [])) (λv d=>v=.non/\Q (.ref x) d) E0:=q
 show t σ H λc b=>∀x a,b x=JI->b a=JI->a≠x->sp (.ref x :: (c++[])) (upd (upd b a (.own x)) x (.ins C a [])) (λv d=>v=.non/\Q (.ref x) d) E0
 have y:(λ(c:List V)(b:Hp)=>∀x a,b x=JI->b a=JI->a≠x->sp (.ref x :: (c++[])) (upd (upd b a (.own x)) x (.ins C a [])) (λv d=>v=.non/\Q (.ref x) d) E0)=λc b=>∀x a,b x=JI->b a=JI->a≠x->sp (.ref x :: c) (upd (upd b a (.own x)) x (.ins C a [])) (λv d=>v=.non/\Q (.ref x) d) E0:=by
  funext c b
  rw[jH]
 rw[y];exact j
end
inductive yn(K:W.Frag)(neg:Bool)(x:V)(y:V)(H:Hp)(Q:VK):Prop
 |mk (a b xs ys:_)(_:x=.ref a)(_:y=.ref b)(_:SqT K H a xs)(_:SqT K H b ys)(f:Nat->Bool)(_:(∀j x y,xs[j]?=JH x->ys[j]?=JH y->EqI K H x y (f j)))(_:Q (.bl (if neg then !((List.range (min xs.length ys.length)).all f && xs.length == ys.length) else(List.range (min xs.length ys.length)).all f && xs.length == ys.length)) H)
theorem wq{k:Nat}(o:bN k X.A):OpR X (He .Eq) (yn X.K JK):=by
 intro JM s σ H x y v u Q I j i h;obtain⟨a,b,C,B,rfl,rfl,z,w,f,t,q⟩:=h;cases (show v=Ct.ref a from j);cases (show u=Ct.ref b from i);obtain⟨d,r,p,_⟩:=I.tuple z;obtain⟨c,g,l,_⟩:=I.tuple w;have n:=r.length;have m:=g.length;have D:=o.units;refine SeqAt.eq_tupleAt (e:=f) (show s.heap.IsTuple a d.toArray from p) (show s.heap.IsTuple b c.toArray from l) (by lia) (sf I (by show X.A.units+1+1<Hn;lia) r g t) ⟨.bl _,H,I,U,?_⟩;simp only[dn];rw[←n,←m];exact q
theorem uV{K:W.Frag}{H:Hp}{Q:VK}{a b:DF}{xs:List V}(f:SqT K H a xs)(e:SqT K H b xs)(fl:∀x∈xs,dR x=JJ)(q:Q (.bl JJ) H):yn K JK (.ref a) (.ref b) H Q:=by
 refine⟨a,b,xs,xs,U,U,f,e,λ_=>JJ,λj x y d c=>?_,?_⟩
 .rw[d]at c;cases c;have z:=fl x (GB d);have:=EqI.flat (K:=K) (H:=H) z z;rw[jY z]at this;exact this
 .have:(List.range (min xs.length xs.length)).all (λ_=>JJ)=true:=by simp
  show Q (.bl ((List.range (min xs.length xs.length)).all (λ_=>JJ) && xs.length == xs.length)) H;rw[this,beq_self_eq_true,Bool.and_true];exact q
theorem aJ.no{P:Dn}{w:Cu}{K:W.Frag}{mg:Str->Option Ct}{base:DG}{CX:CXT}{k:Nat}{f:DF}{a:Hq}{ps:List Str}{sp:Sp}(h:∀vs H Q E,¬ sp vs H Q E):aJ P w K mg base CX k f a ps sp :=
 ⟨λvs H Q E q=>(h vs H Q E q).elim,λ_ _ _ H _ _ vs Q E _ _ _ _ q=>(h vs H Q E q).elim⟩
theorem lI{X:Cx}{K:W.Frag}{e:GG}{f:Str}{pos:Pos}{a:TE}(h:X.K=K)(b:PE X e a)(c:Hl e f X.env (eval e X.env)=eval e X.env):PE X (.Attribute e f pos) (BO K a f):=h ▸ aN b c
set_option maxRecDepth 100000
inductive DEq(K:W.Frag)(H:Hp):Nat->V->V->Bool->Prop where
 |flat {n:Nat}{x y:V}(fx:dR x=JJ)(fy:dR y=JJ):DEq K H n x y (eqV x y)
 |same {n:Nat}(a:DF):DEq K H n (.ref a) (.ref a) JJ
 |lst {n:Nat}{a b:DF}{xs ys:List V}{f:Nat->Bool}(ne:a≠b)(ha:SqL K H a xs)(hb:SqL K H b ys)(hl:xs.length=ys.length)(h:∀(j:Nat)(x y:V),xs[j]?=JH x->ys[j]?=JH y->DEq K H n x y (f j)):DEq K H (n+1) (.ref a) (.ref b) ((List.range xs.length).all f)
 |lst_ne {n:Nat}{a b:DF}{xs ys:List V}(ne:a≠b)(ha:SqL K H a xs)(hb:SqL K H b ys)(hl:xs.length≠ys.length):DEq K H (n+1) (.ref a) (.ref b) JK
 |tup {n:Nat}{a b:DF}{xs ys:List V}{f:Nat->Bool}(ne:a≠b)(ha:SqT K H a xs)(hb:SqT K H b ys)(h:∀(j:Nat)(x y:V),xs[j]?=JH x->ys[j]?=JH y->DEq K H n x y (f j)):DEq K H (n+1) (.ref a) (.ref b) ((List.range (min xs.length ys.length)).all f && xs.length == ys.length)
theorem DEq.mono{K:W.Frag}{H:Hp}{n m:Nat}{x y:V}{b:Bool}(e:DEq K H n x y b)(h:n<=m):DEq K H m x y b:=by
 induction e generalizing m with
 |flat q p=>exact .flat q p
 |same a=>exact .same a
 |lst c f d i _ g =>
  obtain⟨m,rfl⟩:∃k,m=k+1:=⟨m-1,by lia⟩;exact .lst c f d i λj x y o l=>g j x y o l (by lia)
 |lst_ne c f d i =>
  obtain⟨m,rfl⟩:∃k,m=k+1:=⟨m-1,by lia⟩;exact .lst_ne c f d i
 |tup c f d _ g =>
  obtain⟨m,rfl⟩:∃k,m=k+1:=⟨m-1,by lia⟩;exact .tup c f d λj x y o l=>g j x y o l (by lia)
theorem fI{xs:List V}{a:List Ct}(r:Vals xs a){j:Nat}(h:j<a.toArray.size):∃x,xs[j]?=JH x/\RelV x a.toArray[j]:=by
 have f:j<a.length:=by simpa using h
 have i:=r.length;have b:xs[j]?=JH xs[j]:=Gz (by lia);obtain⟨d,c,e⟩:=r.get b;have g:a.toArray[j]=d:=by
  have:=Gz f;rw[this]at c;simpa using Option.some.inj c
 exact⟨xs[j],b,g ▸ e⟩
theorem DEq.at{n:Nat}{x y:V}{b:Bool}(e:DEq X.K H n x y b)(I:Inv X JM σ H s):∀{A:D7}{u v:Ct},A.units+n<Hn->RelV x u->RelV y v->SeqAt.EqAt A s u v b:=by
 induction e with
 |flat G F=>intro A u v o i g;exact se i g G F
 |same a =>
  intro A u v o i g;cases (show u=Ct.ref a from i);cases (show v=Ct.ref a from g);exact SeqAt.EqAt.same _
 | @lst n a b xs ys f ne ha hb hl h ih =>
  intro A u v o i g;cases (show u=Ct.ref a from i);cases (show v=Ct.ref b from g);obtain⟨d,r,p,_⟩:=I.list ha;obtain⟨c,k,l,_⟩:=I.list hb;have E:=r.length;have D:=k.length;have m:=SeqAt.RcAt.lists (A:=A) (e:=f) p.isList l.isList (by simp only[dn];lia) (by lia) (λj z w=>by
   obtain⟨x,C,t⟩:=fI r z;obtain⟨y,B,q⟩:=fI k w;exact ih j x y C B (by show A.units+1+n<Hn;lia) t q)
  rw[show d.toArray.size=xs.length by simp only[dn];lia]at m;exact SeqAt.EqAt.of_refs ne m
 | @lst_ne n a b xs ys ne ha hb hl =>
  intro A u v o i g;cases (show u=Ct.ref a from i);cases (show v=Ct.ref b from g);obtain⟨d,r,p,_⟩:=I.list ha;obtain⟨c,k,l,_⟩:=I.list hb;have E:=r.length;have D:=k.length;exact SeqAt.EqAt.of_refs ne (SeqAt.RcAt.lists_lengths p.isList l.isList (by simp only[dn,bne_iff_ne,ne_eq];lia) (by lia))
 | @tup n a b xs ys f ne ha hb h ih =>
  intro A u v o i g;cases (show u=Ct.ref a from i);cases (show v=Ct.ref b from g);obtain⟨d,r,p,_⟩:=I.tuple ha;obtain⟨c,k,l,_⟩:=I.tuple hb;have E:=r.length;have D:=k.length;have m:=SeqAt.RcAt.tuples (A:=A) (e:=f) (show s.heap.IsTuple a d.toArray from p) (show s.heap.IsTuple b c.toArray from l) (by lia) (λj z w=>by
   obtain⟨x,C,t⟩:=fI r z;obtain⟨y,B,q⟩:=fI k w;exact ih j x y C B (by show A.units+1+n<Hn;lia) t q)
  rw[show d.toArray.size=xs.length by simp only[dn];lia,show c.toArray.size=ys.length by simp only[dn];lia]at m;exact SeqAt.EqAt.of_refs ne m
inductive wt(K:W.Frag)(neg:Bool)(x:V)(y:V)(H:Hp)(Q:VK):Prop
 |mk (a b xs ys:_)(_:x=.ref a)(_:y=.ref b)(_:SqL K H a xs)(_:SqL K H b ys)(_:((xs.length≠ys.length/\Q (.bl neg) H)\/(xs.length=ys.length/\∃f:Nat->Bool,(∀(j:Nat)(x y:V),xs[j]?=JH x->ys[j]?=JH y->DEq K H 60 x y (f j))/\Q (.bl (if neg then !(List.range xs.length).all f else(List.range xs.length).all f)) H)))
theorem yp{JM:List (DF×Obj)}{σ:St}{H:Hp}{s:F7}{A:D7}{xs ys:List V}{a its':List Ct}{f:Nat->Bool}(I:Inv X JM σ H s)(h:A.units+60<Hn)(r:Vals xs a)(d:Vals ys its')
  (hf:∀(j:Nat)(x y:V),xs[j]?=JH x->ys[j]?=JH y->DEq X.K H 60 x y (f j)):∀j (c:j<a.toArray.size)(b:j<its'.toArray.size),SeqAt.EqAt A s a.toArray[j] its'.toArray[j] (f j):=λj c b=>by
 obtain⟨x,k,g⟩:=fI r c;obtain⟨y,i,e⟩:=fI d b;exact(hf j x y k i).at I h g e
theorem yq{k:Nat}(n:bN k X.A):OpR X (He .NotEq) (wt X.K JJ):=by
 intro JM s σ H x y v u Q I m l h;obtain⟨a,b,j,B,rfl,rfl,z,t,h⟩:=h;cases (show v=Ct.ref a from m);cases (show u=Ct.ref b from l);obtain⟨c,r,p,_⟩:=I.list z;obtain⟨i,d,g,_⟩:=I.list t;have D:=r.length;have C:=d.length;have E:=n.units;rcases h with⟨F,q⟩|⟨G,f,o,q⟩
 .refine SeqAt.RcNeAt.lists_lengths p.isList g.isList (by simp only[dn,bne_iff_ne,ne_eq];lia) (by lia) X.prog X.w X.xe _ ⟨.bl JJ,H,I,U,q⟩
 .refine SeqAt.RcNeAt.lists (e:=f) p.isList g.isList (by simp only[dn];lia) (by lia) (yp I (by show X.A.units+1+60<Hn;lia) r d o) X.prog X.w X.xe _ ⟨.bl _,H,I,U,?_⟩;rw[show c.toArray.size=j.length by simp only[dn];lia];exact q
inductive B5(K:W.Frag)(x:V)(y:V)(H:Hp)(Q:VK):Prop
 |mk (p:DF)(xs:List V)(f:V->Bool)(_:y=.ref p)(_:SqL K H p xs)(_:∀z∈xs,(∃a,z=.ref a)/\DEq K H 60 z x (f z))(_:Q (.bl (xs.any f)) H)
def qx(f:V->Bool):Ct->Bool
 | .ref a=>f (.ref a)
 |_=>JK
theorem oC{f:V->Bool}:∀{xs:List V}{b:List Ct},Vals xs b->(∀z∈xs,∃a,z=.ref a)->b.any (qx f)=xs.any f
 | [],_,r,_=>by cases r;rfl
 |z :: xs,_,r,h=>by
  cases r with
  |cons q r =>
   obtain⟨a,rfl⟩:=h z dt;cases (show _=Ct.ref a from q);rw[List.any_cons,List.any_cons,oC r λz c=>h z (fG _ c)];rfl
theorem oE{X:Cx}{JM:List (DF×Obj)}{σ:St}{H:Hp}{s:F7}{A:D7}{x:V}{u:Ct}{f:V->Bool}(I:Inv X JM σ H s)(g:A.units+60<Hn)(e:RelV x u):∀{xs:List V}{c:List Ct},Vals xs c->(∀z∈xs,(∃a,z=.ref a)/\DEq X.K H 60 z x (f z))->∀w∈c,SeqAt.EqAt A s w u (qx f w)
 | [],_,r,_,w,b=>by cases r;cases b
 |z :: xs,_,r,h,w,b=>by
  cases r with
  |cons q r =>
   rcases cf.mp b with rfl|b
   .obtain⟨⟨a,rfl⟩,d⟩:=h z dt;cases (show _=Ct.ref a from q);exact d.at I g U e
   .exact oE I g e r (λz i=>h z (fG _ i)) w b
theorem AL{X:Cx}{k:Nat}(j:bN k X.A):OpR X (He .In) (B5 X.K):=by
 intro JM s σ H x y v u Q I e d h;obtain⟨p,m,f,rfl,l,c,q⟩:=h;have n:=j.units;cases d;obtain⟨a,r,g,b⟩:=I.list l;refine SeqAt.in_listAt (qx f) g.isList (λw i=>oE I (by show X.A.units+1+60<Hn;lia) e r c w (by simpa using i)) ⟨.bl _,H,I,U,?_⟩;rw[show a.toArray.any (qx f)=a.any (qx f) by simp,oC r λz b=>(c z b).1];exact q
set_option maxRecDepth 100000
section
variable{tg:GG}
inductive sr(K:W.Frag)(x:V)(y:V)(H:Hp)(Q:VK):Prop
 |mk (a b xs ys:_)(_:x=.ref a)(_:y=.ref b)(_:SqT K H a xs)(_:SqT K H b ys)(_:xs.length+ys.length<=DO)(_:(xs=[]->Q (.ref b) H))(_:(xs≠[]->ys=[]->Q (.ref a) H))(_:(xs≠[]->ys≠[]->∀p,H p=JI->Q (.ref p) (upd H p (.tup (xs++ys)))))
theorem wu:OpR X (Hb .Add) (sr X.K):=by
 intro JM s σ H x y v u Q I o m h;obtain⟨a,b,l,A,rfl,rfl,w,t,O,G,E,D⟩:=h;by_cases c:l=[]
 .cases o;cases m;obtain⟨d,C,L,_⟩:=I.tuple w;obtain⟨M,S,J,_⟩:=I.tuple t;have P:d=[]:=C.nil_iff.mpr c;obtain⟨⟨R,dd,z,B⟩,p,r,n,q⟩:=id L;obtain⟨⟨T,j,k,i⟩,e,g,N,f⟩:=id J;simp only at r q g f;subst r q g f
  exact HB ⟨_,p,U⟩ ⟨_,e,U⟩ HC HD PySem.F.slot_tuple_add PySem.F.entry_tuple_add (PySem.F.args_tuple_add_2 _ _)
   (tuple_addW0 a b d.toArray M.toArray n N dd j B i (by simp[P])) ⟨p,e,⟨.ref b,H,I,U,G c⟩⟩
 .exact yg JM s σ H (.ref a) (.ref b) v u Q I o m ⟨a,b,l,A,U,U,w,t,c,O,E c,D c⟩
end
end L2
namespace HT
open PySem PyProof.Rows
section
open PySem.SeqAt
open PySem.AutoSeq1 (wpAny_loadPart')
open PySem.MeetsSeq PySem.MeetsSeq2 PySem.MeetsSeq3
end
end HT
namespace L2
open PySem PySem.Spec PyProof.Rows
section
variable{X:Cx}
end
end L2
namespace HT
open PySem PyProof.Rows
section
open PySem.SeqAt
open PySem.AutoSeq1 (wpAny_loadPart')
open PySem.MeetsSeq PySem.MeetsSeq2 PySem.MeetsSeq3
end
end HT
namespace L2
open PySem PySem.Spec PyProof.Rows
variable{X:Cx}
variable{prog:Dn}{w:Cu}{A:D7}{E:Ct->F7->Prop}{s:F7}
section
variable{κ:Type} [DecidableEq κ]
def cntK(ks:List κ):Nat->Nat
 |0=>0
 |i+1=>match ks[i]? with
  |some k=>if k∈ks.take i then cntK ks i else cntK ks i+1
  |none=>cntK ks i
theorem j6(ks:List κ):∀i,cntK ks i<=i
 |0=>vD _
 |i+1=>by
  have a:=j6 ks i;unfold cntK;split
  .split <;> lia
  .lia
theorem kE(ks:List κ):∀i,i<=ks.length->(cntK ks i=i↔(ks.take i).Nodup)
 |0,_=>by simp[cntK]
 |i+1,h=>by
  have c:=kE ks i (by lia);have le:=j6 ks i;have e:ks[i]?=JH ks[i]:=Gz (by lia);have g:ks.take (i+1)=ks.take i++[ks[i]]:=by rw[nu,e];rfl
  unfold cntK;rw[e,g,rH];dsimp only;by_cases m:ks[i]∈ks.take i
  .rw[JO m];exact⟨λz=>JP z (by lia),λz=>JP U (z.2.2 _ m _ (by simp))⟩
  .rw[JN m];refine⟨λz=>⟨c.mp (by lia),by simp,λa f b d=>?_⟩,λz=>by rw[c.mpr z.1]⟩;rw[show b=ks[i] by simpa using d];exact λq=>m (q ▸ f)
variable{knd:KeyKind prog w κ}
theorem gw{h h':DG}{a:DF}{S:κ->Bool}{n:Nat}(x:h.SetOf knd a S n)(k:∀o,h.get? a=JH o->h'.get? a=JH o):h'.SetOf knd a S n:=by
 obtain⟨o,c,d,t,b,r⟩:=x;exact⟨o,c,d,t,k o b,r⟩
theorem ma{h:DG}{a:DF}{S c:κ->Bool}{n b:Nat}(x:h.SetOf knd a S n)(e:S=c)(d:n=b):h.SetOf knd a c b:=e ▸ d ▸ x
theorem uW{R:Hj->F7->Prop}{I:DF}{H h:List DF}{G:Array Gk->Array Gk->Prop}{n:Nat}{P:Nat->Ct->Prop}{St:Nat->F7->Prop}(W:Iz prog w A.in1 I H h G n P St){a:DF}(E:a ∉ H){ks:List κ}
  (T:∀i v,P i v->∃k,ks[i]?=JH k/\knd.is k v=JJ/\v.scannable=JJ)(g:n+1<IA):∀(d i:Nat)(s:F7),n=i+d->St i s->s.heap.SetOf knd a (λk=>decide (k∈ks.take i)) (cntK ks i) ->
   (∀s',IB (a :: h) G s s'->s'.heap.SetOf knd a (λk=>decide (k∈ks.take n)) (cntK ks n)->R (.ok (.ret .none)) s')->Hk (model prog w) A (.builtin "set.update.loop" ⟨[.ref a,.ref I],[]⟩) R s:=by
 have D:a ∉ h:=λz=>E (W.sub a z)
 intro d;induction d with
 |zero =>
  intro i s e j x c;rw[show n=i by lia]at W c;refine Im (R:=R) (A:=A) F.entry_set_update_loop ?_;rw[D7.under_plainId (A:=A) F.plain_set_update_loop _];show GC (model prog w) A.in1 (G3 (.ref I) >>= _) _ _ s;exact BX (W.done s _ _ j λs' m=>BY (c s' (m.mono λb g=>fG a g) (gw x λo q=>m.heap a o D q)))
 |succ d S =>
  intro i s e j x c;refine Im (R:=R) (A:=A) F.entry_set_update_loop ?_;rw[D7.under_plainId (A:=A) F.plain_set_update_loop _];show GC (model prog w) A.in1 (G3 (.ref I) >>= _) _ _ s;refine BX (W.item i s _ _ (by lia) j λv f p r m=>?_);obtain⟨k,J,C,O⟩:=T i v p;have N:=gw x λo q=>m.heap a o D q
  show GC (model prog w) A.in1 (holding [v] (IC a v) >>= _) _ _ f;refine BX (B6 (show GC (model prog w) A.in1 (IC a v) _ _ f from ?_));unfold IC;refine B6 (BX (knd.pyHash C ?_));have le:=j6 ks i;refine wpAny_setAddHashed_of (knd:=knd) (s:={ f with toks:=f.toks+1 }) C O N (by lia) λl B M=>?_
  have V:ks.take (i+1)=ks.take i++[k]:=by rw[nu,J];rfl
  have L:l.SetOf knd a (λq=>decide (q∈ks.take (i+1))) (cntK ks (i+1)):=by
   refine ma M (funext λq=>?_) ?_
   .rw[V];by_cases z:q∈ks.take i <;> by_cases y:q=k <;> simp[z,y]
   .show(if decide (k∈ks.take i)=JJ then cntK ks i else cntK ks i+1)=match ks[i]? with|some k=>if k∈ks.take i then cntK ks i else cntK ks i+1|none=>cntK ks i
    rw[J];by_cases z:k∈ks.take i <;> simp[z]
  refine BY ⟨ID F.plain_set_update_loop _,S (i+1) { f with heap:=l,toks:=f.toks+1 } (by lia) (W.frame (i+1) f l (f.toks+1) r (w5 _) λb u o q=>(B.2 b λz=>E (z ▸ u)).trans q) L λs2 Q K=>?_⟩;refine c s2 (IB.trans W.gtrans ((m.mono λb g=>fG a g).then_heap (w5 _) λb o t q=>?_) Q) K;exact(B.2 b λz=>t (z ▸ dt)).trans q
abbrev cV(led:Bool):Obj:={ cls:=.type "set",dict:=JI,data:=.set #[] 0 (.fresh 0 0 led) }
def Filled(knd:KeyKind prog w κ)(s:F7)(ks:List κ)(h':DG):Prop :=
 h'.SetOf knd s.heap.objs.size (λk=>decide (k∈ks)) (cntK ks ks.length)/\∀b o,b<s.heap.objs.size->s.heap.get? b=JH o->h'.get? b=JH o
theorem wx{l:DF}{a:Array Ct}{ks:List κ}{led:Bool}(I:A.handled=JI)(G:s.heap.IsList l a)(H:∀(i:Nat)(v:Ct),a[i]?=JH v->∃k,ks[i]?=JH k/\knd.is k v=JJ/\v.scannable=JJ)(D:ks.length=a.size)(J:a.size+1<IA) :
  Hk (model prog w) A (.call (.builtin "set.__init__") ⟨[.ref s.heap.objs.size,.ref l],[]⟩) (wants (λr s2=>r=.none/\∃h' p,s2={ s with heap:=h',toks:=p }/\Filled knd s ks h') E) { s with heap:=s.heap.push (cV led) }:=by
 have n:(s.heap.push (cV led)).get? s.heap.objs.size=JH (cV led):=DG.get?_push_size s.heap U;have ty:F7.TypeIs { s with heap:=s.heap.push (cV led) } (.ref s.heap.objs.size) "set" := ⟨cV led,n,U⟩;refine Ik F.called_set.init.plain F.entry_set_init (IE ty ?_);obtain⟨⟨V,P,T,O⟩,g,j,m,h⟩:=G;dsimp only at j h;subst j h;have L:(s.heap.push (cV led)).get? l=JH { cls:=.type "list",dict:=P,data:=.seq a m,slots:=O }:=DG.get?_push_of_some _ g;have S:=F.sub_list_set;have R:=F.sub_list_frozenset;have Q:(Ct.type "list" == Ct.type "dict")=false:=by decide
 have f:(s.heap.push (cV led)).IsList l a:=⟨_,L,U,m,U⟩;have lt:l<s.heap.objs.size:=DG.lt_size g;unfold G9.«set.__init__» G9.Frozenset.updateFrom noKeywords;generalize K:G5=it
 wp_walk
 subst K;refine G8 f (BX (IF ?_));have B:l≠(s.heap.push (cV led)).objs.size:=by rw[DG.size_push];exact vE (vJ lt)
 have C:s.heap.objs.size ∉ [(s.heap.push (cV led)).objs.size,l]:=by
  rw[DG.size_push];intro z;rcases cf.mp z with z|z
  .exact JP z (vE (wj _))
  .exact JP (by simpa using z) (vH lt)
 refine uW (knd:=knd) ((G7.list (by simp[I]) _ l B a).toS) C (ks:=ks) H J a.size 0 _ (xT _).symm ⟨⟨_,DG.get?_push_size _ U,U,U⟩,f.push _⟩ (ma ((setObjOf_fresh (knd:=knd) led).setOf (DG.get?_push_of_some _ n) (by unfold IA;lia)) (funext λk=>by simp) U) λu d x=>?_
 obtain⟨h',M,N,t,y⟩:=u;obtain rfl:M=s.gens:=d.gens;obtain rfl:N=s.drawn:=d.drawn;obtain rfl:y=s.os:=d.os;refine BY (show GC (model prog w) _ (ret Ct.none) _ _ _ from BY ⟨U,h',t,U,?_,λb o c q=>?_⟩)
 .rw[←D]at x;exact ma x (funext λk=>by rw[eU]) U
 .refine d.heap b o (λz=>?_) (DG.get?_push_of_some _ (DG.get?_push_of_some _ q));rcases cf.mp z with z|z
  .exact JP z (vE c)
  .have e:b=(s.heap.push (cV led)).objs.size:=by simpa using z
   rw[DG.size_push]at e;exact JP e (vE (vJ c))
set_option maxRecDepth 100000 in
theorem oF{l:DF}{a:Array Ct}{ks:List κ}{Q:Ct->F7->Prop}(t:A.handled=JI)(p:s.heap.IsList l a)(q:∀(i:Nat)(v:Ct),a[i]?=JH v->∃k,ks[i]?=JH k/\knd.is k v=JJ/\v.scannable=JJ)(o:ks.length=a.size)(u:a.size+1<IA)
  (h:∀h' f,Filled knd s ks h'->Q (.ref s.heap.objs.size) { s with heap:=h',toks:=f }):GC (model prog w) A (call (.type "set") [.ref l]) Q E s:=by
 obtain⟨c,B,mro⟩:=F.called_set.mro;have J:=F.called_set.made;have I:=F.called_set.sub;have H:=F.called_set.notType;have G:=F.called_set.canCreate;have D:=F.typeCall_set_1 (.ref l);refine Ht (IG (show GC (model prog w) _ (callAny (.type "set") _) _ _ _ from BY ⟨Ho.quiet_builtin _ (by decide+kernel),Im F.entry_type_call ?_⟩));rw[D7.under_plain (A:=A) (IH "set" [.ref l] []) U]
 repeat (any_goals (first|assumption|wp_step))
 refine Hu (code_set_new_1 (.ref l) (E:=E) (Q₁:=λm j=>∃b,m=.ref s.heap.objs.size/\j={ s with heap:=s.heap.push (cV b) }) λb=>⟨b,U,U⟩) λr j g=>?_
 cases r with
 |error e=>exact g
 |ok fl =>
  cases fl with
  |ret m =>
   obtain⟨b,rfl,rfl⟩:=g;have y:(s.heap.push (cV b)).get? s.heap.objs.size=JH (cV b):=DG.get?_push_size s.heap U;have ty:F7.TypeIs { s with heap:=s.heap.push (cV b) } (.ref s.heap.objs.size) "set" := ⟨cV b,y,U⟩;have C:=F.called_set.init.lookup;have b2:=F.called_set.init.bind (.ref s.heap.objs.size)
   repeat (any_goals (first|assumption|wp_step))
   refine Hu (wx (E:=E) (knd:=knd) (by simp[t]) p q o u) λn s2 d=>?_
   cases n with
   |error e=>exact d
   |ok z =>
    cases z with
    |ret r =>
     obtain⟨rfl,h',f,rfl,x⟩:=d
     repeat (any_goals (first|assumption|wp_step))
     exact h h' f x
    |_=>exact d.elim
  |_=>exact g.elim
end
def nG(P:Dn)(w:Cu)(a:DF)(zs:List Str):HO:=.ext λh=>h.SetOf (strKind P w) a (λz=>decide (z∈zs)) (cntK zs zs.length)
theorem oG:∀{zs:List Str}{us:List Ct},Vals (zs.map V.str) us->∀(i:Nat)(v:Ct),us[i]?=JH v->∃z t,zs[i]?=JH z/\v=.str z t
 | [],_,.nil,i,v,h=>by simp at h
 |z :: zs,_,.cons ⟨t,e⟩ r,0,v,h=>by simp at h;exact⟨z,t,U,by rw[←h,e]⟩
 |z :: zs,_,.cons _ r,i+1,v,h=>by
  obtain⟨a,t,c,b⟩:=oG r i v (by simpa using h);exact⟨a,t,by simpa using c,b⟩
theorem ji(C:X.calm=JJ):cP X (.type "set") (λxs H Q=>∃(p:DF)(zs:List Str),xs=[.ref p]/\SqL X.K H p (zs.map V.str)/\zs.length<=1000/\∀l,H l=JI->Q (.ref l) (upd H l (nG X.prog X.w l zs))):=by
 intro j s G H xs J Q I r h;obtain⟨p,zs,rfl,D,L,q⟩:=h;obtain⟨u,rfl,A⟩:=r.one;obtain rfl:u=Ct.ref p:=A;obtain⟨F,d,B,_⟩:=I.list D;have f:=d.length;rw[bo]at f;refine oF (knd:=strKind X.prog X.w) (ks:=zs) (I.ok.hd C) B.isList (λi v e=>?_) (by simpa using f) (by unfold IA;simp;lia) λh' n x=>?_
 .obtain⟨z,t,E,rfl⟩:=oG d i v (by simpa using e);exact⟨z,E,by show Ct.isStrOf z (.str z t)=JJ;simp[Ct.isStrOf],U⟩
 .obtain⟨c,m⟩:=x;refine⟨.ref s.heap.objs.size,_,I.laid (a:=s.heap.objs.size) (o:=nG X.prog X.w s.heap.objs.size zs) (h':=h') (t':=n) (λb o q=>m b o (DG.lt_size q) q) (vD _) ?_,U,q _ I.fresh⟩;refine⟨c,?_,λN M y k=>gw y k⟩;obtain⟨o,_,_,_,g,_⟩:=c;exact⟨o,g⟩
def Asc(xs:Array Nat):Prop:=xs.toList.Pairwise (· < ·)
theorem Asc.lt{xs:Array Nat}(h:Asc xs){i j:Nat}(a:i<j)(b:j<xs.size):xs[i]<xs[j]:=by
 have:=List.pairwise_iff_getElem.mp h i j (by simp;lia) (by simpa using b) a;simpa using this
theorem wz{xs:Array Nat}(h:Asc xs)(j:Nat):∀(a lo hi:Nat),lo<=hi->hi<=xs.size->hi-lo<=a ->
  (∀(i:Nat)(hi':i<xs.size),i<lo->xs[i]<j)->(∀(i:Nat)(hi':i<xs.size),hi<=i->j<=xs[i]) ->
  II.below.go xs j a lo hi<=xs.size/\(∀(i:Nat)(hi':i<xs.size),i<II.below.go xs j a lo hi->xs[i]<j)/\(∀(i:Nat)(hi':i<xs.size),II.below.go xs j a lo hi<=i->j<=xs[i]):=by
 intro a;induction a with
 |zero =>
  intro lo hi n g m f d;have e:lo=hi:=by lia
  subst e;exact⟨by unfold II.below.go;exact g,by unfold II.below.go;exact f,by unfold II.below.go;exact d⟩
 |succ a k =>
  intro lo hi n g m f d;unfold II.below.go;by_cases c:lo<hi
  .rw[JO c];have l:(lo+hi) / 2<xs.size:=by lia
   have o:xs.getD ((lo+hi) / 2) j=xs[(lo+hi) / 2]:=by simp[Array.getD,l]
   dsimp only;rw[o];by_cases b:xs[(lo+hi) / 2]<j
   .rw[JO b];refine k _ _ (by lia) g (by lia) (λi hi' p=>?_) d;by_cases e:i=(lo+hi) / 2
    .subst e;exact b
    .exact Nat.lt_trans (h.lt (by lia) l) b
   .rw[JN b];refine k _ _ (by lia) (by lia) (by lia) f λi hi' q=>?_
    by_cases e:i=(lo+hi) / 2
    .subst e;lia
    .exact vG (Nat.le_of_not_lt b) (v5 (h.lt (by lia) hi'))
  .rw[JN c];have e:lo=hi:=by lia
   subst e;exact⟨g,f,d⟩
theorem ju{xs:Array Nat}(h:Asc xs)(j:Nat):II.below xs j<=xs.size/\(∀(i:Nat)(hi:i<xs.size),i<II.below xs j->xs[i]<j)/\(∀(i:Nat)(hi:i<xs.size),II.below xs j<=i->j<=xs[i]) :=
 wz h j xs.size 0 xs.size (vI _) (vD _) (by lia) (λ_ _ z=>JP z (by lia)) (λi hi z=>JP z (by lia))
theorem sv{xs:Array Nat}(h:Asc xs){i:Nat}(hi:i<xs.size):II.below xs (xs[i]+1)=i+1:=by
 obtain⟨d,b2,a⟩:=ju h (xs[i]+1);have c:¬ II.below xs (xs[i]+1)<=i:=λz=>JP (a i hi z) (by lia)
 have b:¬ i+1<II.below xs (xs[i]+1):=λz=>by
  have:=b2 (i+1) (by lia) z;have:=h.lt (show i<i+1 by lia) (show i+1<xs.size by lia);lia
 lia
theorem qy{xs:Array Nat}(h:Asc xs):II.below xs 0=0:=by
 obtain⟨b,b2,a⟩:=ju h 0;by_cases z:II.below xs 0=0
 .exact z
 .exact JP (b2 0 (by lia) (by lia)) (by lia)
theorem sx{xs:Array Nat}(h:Asc xs){j:Nat}(m:xs[II.below xs j]?≠JH j):Asc (II.insertAt xs (II.below xs j) j):=by
 obtain⟨r,b2,g⟩:=ju h j;unfold Asc;rw[II.toList_insertAt,List.pairwise_append];refine⟨h.sublist (List.take_sublist _ _),qD.mpr ⟨λb f=>?_,h.sublist (List.drop_sublist _ _)⟩,λa n b f=>?_⟩
 .obtain⟨k,d,rfl⟩:=List.mem_iff_getElem.mp f;have c:II.below xs j+k<xs.size:=by simp at d;lia
  have z:=g _ c (by lia);have e:(xs.toList.drop (II.below xs j))[k]=xs[II.below xs j+k]:=by simp
  rw[e];by_cases q:j=xs[II.below xs j+k]
  .exfalso;by_cases l:k=0
   .subst l;refine m ?_;rw[zo (by lia)];simpa using q.symm
   .have p:=g _ (show II.below xs j<xs.size by lia) (vD _);have o:=h.lt (show II.below xs j<II.below xs j+k by lia) c;lia
  .lia
 .have i:a<j:=by
   obtain⟨k,d,rfl⟩:=List.mem_iff_getElem.mp n;have c:k<II.below xs j/\k<xs.size:=by simp at d;lia
   have:=b2 k c.2 c.1;simpa using this
  rcases cf.mp f with rfl|f
  .exact i
  .obtain⟨k,d,rfl⟩:=List.mem_iff_getElem.mp f;have c:II.below xs j+k<xs.size:=by simp at d;lia
   have z:=g _ c (by lia);have e:(xs.toList.drop (II.below xs j))[k]=xs[II.below xs j+k]:=by simp
   rw[e];lia
def qz(t:II)(j:Nat):Prop:=t.place[II.below t.place j]?≠JH j
theorem md{t:II}{j:Nat}(h:t.slot j=.empty\/t.slot j=.dummy):qz t j:=by
 intro e;have:t.slot j=.live (II.below t.place j):=by
  unfold II.slot;simp[e]
 rw[this]at h;rcases h with h|h <;> cases h
theorem sy(t:II)(f:Nat->Int)(h:Int):∀(a:Nat)(p:II.Probe),(∀d,p.dummy=JH d->qz t d)->∀j c,II.probe.go t f h a p=JH (.empty j c)->qz t j/\∀d,c=JH d->qz t d:=by
 intro a;induction a with
 |zero=>intro p _ j c e;unfold II.probe.go at e;cases e
 |succ a i =>
  intro p k j c e;unfold II.probe.go at e;have g:∀q:II.Probe,(t.advance q).dummy=q.dummy:=λq=>by
   unfold II.advance;split <;> rfl
  split at e
  .rename_i he
   injection e with e;injection e with m l;subst m l;exact⟨md (.inl he),k⟩
  .rename_i he
   refine i _ (λd b=>?_) j c e;rw[g]at b;injection b with b;subst b;exact md (.inr he)
  .split at e
   .injection e with e;cases e
   .refine i _ (λd b=>k d ?_) j c e;rw[g]at b;exact b
theorem nH{t:II}{h:Int}{j:Nat}{b:Bool}(e:t.freeSlot h=JH (j,b)):qz t j:=by
 unfold II.freeSlot at e;split at e
 .rename_i j' dm he
  obtain⟨g,f⟩:=sy t _ h _ _ (λd a=>by simp[II.probeStart]at a) _ _ he;injection e with e;injection e with c i;subst c;cases dm with
  |none=>exact g
  |some d=>exact f d U
 .cases e
theorem uX(n:Nat):Asc (Array.range n):=by
 unfold Asc;rw[Array.toList_range];exact List.pairwise_lt_range
theorem fu(t:II)(n:Nat):Asc (t.standIn n).place:=uX n
theorem sC{t:II}(c:Asc t.place)(a:Array (Int×Ct))(h:Int)(x:Ct):Asc (IJ t a h x).2.1.place/\(IJ t a h x).2.1.led=t.led:=by
 unfold IJ;split
 .rename_i slot wd e
  have b:Asc (t.put slot).1.place:=sx c (nH e);dsimp only;unfold II.orStandIn;split
  .exact⟨b,U⟩
  .exact⟨fu _ _,U⟩
 .exact⟨fu _ _,U⟩
theorem qA(f:Nat->Option Nat):∀l:List Nat,((l.filterMap λj=>(f j).map (j,·)).map (·.1)).Sublist l
 | []=>by simp
 |j :: l=>by
  have a:=qA f l;rw[nS];cases e:f j with
  |none=>exact a.trans (List.sublist_cons_self _ _)
  |some v=>exact a.cons_cons j
theorem sD{t t':II}{b:Array Int}{n:Nat}{o:Array Nat}(e:t.relaid b n=JH (t',o)):Asc t'.place/\t'.led=t.led:=by
 unfold II.relaid II.laid at e;cases hc:II.layClean (II.sizeAbove n-1) b with
 |none=>rw[hc]at e;cases e
 |some a =>
  rw[hc]at e;injection e with e;injection e with c d;subst c;exact⟨List.pairwise_lt_range.sublist (qA _ _),U⟩
theorem pI{t:II}(b:Asc t.place)(a:Array (Int×Ct))(n:Nat):Asc (IK t a n).2.1.place/\(IK t a n).2.1.led=t.led:=by
 unfold IK;split
 .rename_i t' o e
  dsimp only;split
  .exact sD e
  .exact⟨fu _ _,U⟩
 .exact⟨fu _ _,U⟩
theorem fJ{b:Type}:∀{l:List b}{i:Nat}{x:b},l[i]?=JH x->(x :: l.eraseIdx i).Perm l
 | [],i,x,h=>by simp at h
 |a :: l,0,x,h=>by simp at h;subst h;exact .refl _
 |a :: l,i+1,x,h=>by
  have c:=fJ (l:=l) (i:=i) (x:=x) (by simpa using h);rw[List.eraseIdx_cons_succ];exact(List.Perm.swap _ _ _).trans (c.cons a)
theorem yr{c:Type}(next:Nat->Nat):∀(a k:Nat)(left:List c)(out:Array c),a=left.length->∃l:List c,l.Perm left/\(IL.go next a k left out).toList=out.toList++l:=by
 intro a;induction a with
 |zero =>
  intro k left out e;exact⟨left,.refl _,by unfold IL.go;rw[List.length_eq_zero_iff.mp e.symm];simp⟩
 |succ a f =>
  intro k left out e;have b:next k%left.length<left.length:=yY _ (by lia);have d:left[next k%left.length]?=JH left[next k%left.length]:=Gz b;unfold IL.go;rw[d];dsimp only;obtain⟨l,p,g⟩:=f (k+1) (left.eraseIdx (next k%left.length)) (out.push left[next k%left.length]) (by rw[List.length_eraseIdx_of_lt b];lia);exact⟨left[next k%left.length] :: l,(p.cons _).trans (fJ d),by rw[g];simp⟩
theorem uY{a:Type}(next:Nat->Nat)(xs:Array a):(IL next xs).toList.Perm xs.toList:=by
 obtain⟨l,p,e⟩:=yr next xs.size 0 xs.toList #[] (by simp);have:(IL next xs).toList=l:=by unfold IL;rw[e];simp
 rw[this];exact p
def dr(w:Cu):Bool:=w.params.followText "set-order"
def kF:Ct->Int
 | .int k _=>k
 |_=>0
structure ib(es:Array (Int×Ct))(ks:List Int):Prop where
 ent:∀e∈es.toList,e.1=hashInt (kF e.2)/\∃u,e.2=.int (kF e.2) u
 nd:(es.toList.map λe=>kF e.2).Nodup
 mem:∀k,k∈ks↔k∈es.toList.map λe=>kF e.2
theorem ib.perm{b a:Array (Int×Ct)}{ks:List Int}(h:ib b ks)(p:a.toList.Perm b.toList):ib a ks :=
 ⟨λe c=>h.ent e (p.mem_iff.mp c),(p.map _).nodup_iff.mpr h.nd,λk=>(h.mem k).trans (p.map _).mem_iff.symm⟩
theorem ib.push{d:Array (Int×Ct)}{ks:List Int}{k:Int}{u:Tok}(h:ib d ks)(f:k ∉ ks):ib (d.push (hashInt k,.int k u)) (ks++[k]):=by
 refine⟨λe c=>?_,?_,λq=>?_⟩
 .rw[zz]at c;rcases ia.mp c with c|c
  .exact h.ent e c
  .rw[iE]at c;subst c;exact⟨U,u,U⟩
 .rw[zz,fF,rH];refine⟨h.nd,by simp,λa i b g=>?_⟩;have j:b=k:=by simpa[kF]using g
  subst j;exact λe=>f ((h.mem b).mpr (e ▸ i))
 .rw[zz,fF,ia,ia,h.mem q];simp[kF]
theorem ib.again{a:Array (Int×Ct)}{ks:List Int}{k:Int}(h:ib a ks)(b:k∈ks):ib a (ks++[k]) :=
 ⟨h.ent,h.nd,λq=>by
  rw[←h.mem q,ia,iE];exact⟨λz=>z.elim id λz=>z ▸ b,.inl⟩⟩
theorem ib.elems{b:Array (Int×Ct)}{ks:List Int}(h:ib b ks):ElemsOf (DU prog w) b.toList:=λe c=>by
 obtain⟨d,u,a⟩:=h.ent e c;refine⟨⟨kF e.2,?_,d⟩,?_⟩
 .rw[a];exact IM _ _ _ _
 .rw[a];rfl
theorem ib.found{b:Array (Int×Ct)}{ks:List Int}(h:ib b ks){k:Int}{e:Int×Ct}(a:e∈b.toList)(c:(DU prog w).is k e.2=JJ):k∈ks:=by
 obtain⟨_,u,d⟩:=h.ent e a;refine(h.mem k).mpr (dy.mpr ⟨e,a,?_⟩);exact(DU prog w).inj e.2 _ _ (by rw[d];exact IM _ _ _ _) c
def di(h:DG)(a:DF)(led:Bool)(ks:List Int)(n:Nat):Prop :=
 ∃o b c t,h.get? a=JH o/\o.ExactSet/\o.data=.set b c t/\ib b ks/\b.size<IA/\t.fits b.size=JJ/\Asc t.place/\t.led=led/\b.size=n
theorem di.stay{h h':DG}{a:DF}{led:Bool}{ks:List Int}{n:Nat}(x:di h a led ks n)(k:∀o,h.get? a=JH o->h'.get? a=JH o):di h' a led ks n:=by
 obtain⟨o,c,d,t,b,r⟩:=x;exact⟨o,c,d,t,k o b,r⟩
theorem di.store{h:DG}{a:DF}{o:Obj}{m:Array (Int×Ct)}{c:Nat}{t:II}(g:h.get? a=JH o)(d:o.ExactSet)(f:o.data=.set m c t)
  {b:Array (Int×Ct)}{t':II}{ks:List Int}(j:ib b ks)(k:b.size<IA)(i:t'.fits b.size=JJ)(l:Asc t'.place) :
  (h.update a (Obj.putSet b t')).get? a=JH { o with data:=.set b (c+1) t' }/\di (h.update a (Obj.putSet b t')) a t'.led ks b.size:=by
 have e:(h.update a (Obj.putSet b t')).get? a=JH { o with data:=.set b (c+1) t' }:=by
  have:=DG.get?_update_self (Obj.putSet b t') g (by rw[putSet_of b t' f];rfl);rw[putSet_of b t' f]at this;exact this
 exact⟨e,_,b,c+1,t',e,d,U,j,k,i,l,U,U⟩
theorem qB{g:Bool->Sem Unit}(I:∀(b:Bool)(e:F7)(F:Unit->F7->Prop),F () e->GC (model prog w) A (g b) F E e)
  {a:DF}{o:Obj}{J:Array (Int×Ct)}{K:Nat}{t:II}(C:s.heap.get? a=JH o)(p:o.ExactSet)(D:o.data=.set J K t)
  {c:Array (Int×Ct)}{d:II}{ks:List Int}{led:Bool}(q:ib c ks)
  (j:c.size<IA)(B:d.fits c.size=JJ)(u:Asc d.place)(n:d.led=led){H:Bool}{R:Option Bool->F7->Prop}
  (h:∀h',DG.SameBut a s.heap h'->di h' a led ks c.size->R (JH JJ) { s with heap:=h' }) :
  GC (model prog w) A (do
    storeSet a c d
    if (!H && d.tooFull)=JJ then do
      g (IK d c (II.grown c.size)).2.2
      storeSet a (IK d c (II.grown c.size)).1 (IK d c (II.grown c.size)).2.1
      pure (JH JJ)
     else pure (JH JJ)) R E s:=by
 refine BX (IP C D ?_ (IQ j));obtain⟨m,x⟩:=di.store C p D q j B u;rw[n]at x;have G:=DG.SameBut.update s.heap a (Obj.putSet c d);split
 .have z:=relayAll_perm d c (II.grown c.size);have i:=relayAll_fits d c (II.grown c.size);obtain⟨k,f⟩:=pI u c (II.grown c.size);generalize L:IK d c (II.grown c.size)=Rl at z i k f⊢;obtain⟨y,M,N⟩:=Rl;dsimp only at z i k f⊢;have l:y.size=c.size:=by rw[←zl,z.length_eq,zl]
  have r:y.size<IA:=by rw[l];exact j
  refine BX (I _ _ _ ?_);refine BX (IP m U ?_ (IQ r));obtain⟨_,v⟩:=di.store m p U (q.perm z) r i k;rw[l,f,n]at v;exact BY (h _ (G.trans (DG.SameBut.update _ a _)) v)
 .exact BY (h _ G x)
theorem addW{a:DF}{led:Bool}{ks:List Int}{n:Nat}{k:Int}{u:Tok}{Q:Bool->F7->Prop}(hS:di s.heap a led ks n)(R:n+1<IA)
  (h:∀h' T b,DG.SameBut a s.heap h'->T<=n+1->di h' a led (ks++[k]) T->Q b { s with heap:=h' }) :
  GC (model prog w) A (setAddHashed a (.int k u) ((DU prog w).hash k)) Q E s:=by
 obtain⟨o,p,ep,t,B,r,C,x,W,N,X,I,K⟩:=hS;have Av:(DU prog w).is k (.int k u)=true:=IM _ _ _ _;have F:(Ct.int k u).scannable=true:=rfl;have G:=x.elems (prog:=prog) (w:=w);have a0:p.size+1<IA:=by rw[K];exact R
 unfold setAddHashed setAddHashedIn;refine B6 (BX (IS B C N ?_));dsimp only;rw[byScan_of F W G];simp only[↓reduceIte];unfold setAddByScan;refine BX ?_;refine BX (Iw ?_);refine BX (wpAny_setScan_of Av B C N G ?_);cases hr:List.findIdx? (λe=>(DU prog w).is k e.2) p.toList with
 |some j =>
  dsimp only;obtain⟨Z,O,_⟩:=List.findIdx?_eq_some_iff_getElem.mp hr;have M:k∈ks:=x.found (nq Z) O;refine BY (BY ?_);have e:s={ s with heap:=s.heap }:=by cases s;rfl
  rw[e];exact h s.heap n JK (DG.SameBut.refl a s.heap) (w5 _) ⟨o,p,ep,t,B,r,C,x.again M,W,N,X,I,K⟩
 |none =>
  dsimp only;have M:k ∉ ks:=λz=>by
   obtain⟨e,V,q⟩:=dy.mp ((x.mem k).mp z);have:=List.findIdx?_eq_none_iff.mp hr e V;obtain⟨_,v,h2⟩:=x.ent e V;rw[h2]at this;rw[←q]at this;rw[IM]at this;exact Bool.noConfusion this
  have P:∀(b:Bool){c:F7}{D:Unit->F7->Prop},D () c->GC (model prog w) A (match b with|true=>rule "set.scan.the-table-gave-way" | false=>pure ()) D E c :=
   λb c D m=>by cases b <;> first|exact BY m|exact Iw m
  have J:=layNew_perm t p ((DU prog w).hash k) (.int k u);have y:=layNew_fits t p ((DU prog w).hash k) (.int k u);obtain⟨i,f⟩:=sC X p ((DU prog w).hash k) (.int k u);generalize hL:IJ t p ((DU prog w).hash k) (.int k u)=L at J y i f⊢;obtain⟨l,t1,qC,Gm⟩:=L;dsimp only at J y i f⊢;have H:ib l (ks++[k]):=(x.push (u:=u) M).perm J;have DN:l.size=n+1:=by rw[←zl,J.length_eq,zl,Array.size_push,K]
  have Y:l.size<IA:=by rw[DN];exact R
  refine BX (P _ ?_);have S:∀h',DG.SameBut a s.heap h'->di h' a led (ks++[k]) l.size->Q JJ { s with heap:=h' }:=λh' d g=>h h' _ JJ d (by lia) g
  split
  .refine BX ?_;rw[hashByValue_scannable 8 F];refine BY ?_;refine qB ?_ B r C H Y ?_ ?_ (led:=led) ?_ ?_
   .intro b c D m;cases b <;> first|exact BY m|exact Iw m
   .split
    .exact y
    .exact II.fits_plain_off y
   .split
    .exact i
    .exact i
   .split
    .exact f.trans I
    .exact f.trans I
   .intro h' d g;dsimp only;exact BY (S h' d g)
  .refine BX (BY ?_);simp only[↓reduceIte];refine qB ?_ B r C H Y y i (f.trans I) ?_
   .intro b c D m;cases b <;> first|exact BY m|exact Iw m
   .intro h' d g;dsimp only;exact BY (S h' d g)
theorem sF(a:Ct){Q₁:Ct->F7->Prop}
  (h:Q₁ (.ref s.heap.objs.size) { s with heap:=s.heap.push { cls:=.type "set",dict:=JI,data:=.set #[] 0 (.fresh 0 0 (!dr w)) } }) :
  Hk (model prog w) A (.call (.builtin "set.__new__") ⟨[.type "set",a],[]⟩) (wants Q₁ E) s:=by
 refine IG ?_;show GC _ A.in1 (do Io "set.__new__" ⟨[.type "set",a],[]⟩;again (.builtin "set.__new__" ⟨[.type "set",a],[]⟩)) _ _ s;refine BX (Iq (F.newCall_set_1 a) (BY ⟨ID F.plain_set_new _,Im F.entry_set_new ?_⟩));rw[D7.under_plainId F.plain_set_new _];unfold G9.«set.__new__» G9.Frozenset.newClass;have e:=sub_set_self;obtain⟨f,g,d,b,c⟩:=s;dsimp only
 wp_walk
 refine IT (BY ?_);dsimp only;simp only[newObj];refine BX (wpAny_alloc (BY ?_));exact BY h
theorem AM{R:Hj->F7->Prop}{I:DF}{N j:List DF}{G:Array Gk->Array Gk->Prop}{n:Nat}{P:Nat->Ct->Prop}{St:Nat->F7->Prop}(W:Iz prog w A.in1 I N j G n P St){a:DF}(L:a ∉ N){ks:List Int}{led:Bool}
  (X:∀i v,P i v->∃k u,ks[i]?=JH k/\v=.int k u)(h:n+1<IA):∀(d i:Nat)(s:F7)(m:Nat),n=i+d->m<=i->St i s->di s.heap a led (ks.take i) m ->
   (∀s' H,IB (a :: j) G s s'->di s'.heap a led (ks.take n) H->H<=n->R (.ok (.ret .none)) s')->Hk (model prog w) A (.builtin "set.update.loop" ⟨[.ref a,.ref I],[]⟩) R s:=by
 have J:a ∉ j:=λz=>L (W.sub a z)
 intro d;induction d with
 |zero =>
  intro i s m e K l x c;rw[show n=i by lia]at W c;refine Im (R:=R) (A:=A) F.entry_set_update_loop ?_;rw[D7.under_plainId (A:=A) F.plain_set_update_loop _];show GC (model prog w) A.in1 (G3 (.ref I) >>= _) _ _ s;exact BX (W.done s _ _ l λs' g=>BY (c s' m (g.mono λb h=>fG a h) (x.stay λo q=>g.heap a o J q) K))
 |succ d V =>
  intro i s m e K l x c;refine Im (R:=R) (A:=A) F.entry_set_update_loop ?_;rw[D7.under_plainId (A:=A) F.plain_set_update_loop _];show GC (model prog w) A.in1 (G3 (.ref I) >>= _) _ _ s;refine BX (W.item i s _ _ (by lia) l λv f p r g=>?_);obtain⟨k,u,Z,rfl⟩:=X i v p;have Q:=x.stay λo q=>g.heap a o J q
  show GC (model prog w) A.in1 (holding [.int k u] (IC a (.int k u)) >>= _) _ _ f;refine BX (B6 (show GC (model prog w) A.in1 (IC a (.int k u)) _ _ f from ?_));unfold IC;refine B6 (BX ((DU prog w).pyHash (k:=k) (IM _ _ _ _) ?_));refine addW (s:={ f with toks:=f.toks+1 }) Q (by lia) λM S _ E a0 D=>?_
  have Y:ks.take (i+1)=ks.take i++[k]:=by rw[nu,Z];rfl
  rw[←Y]at D;refine BY ⟨ID F.plain_set_update_loop _,V (i+1) { f with heap:=M,toks:=f.toks+1 } S (by lia) (by lia) (W.frame (i+1) f M (f.toks+1) r (w5 _) λb C o q=>(E.2 b λz=>L (z ▸ C)).trans q) D λs2 T t O y=>?_⟩;refine c s2 T (IB.trans W.gtrans ((g.mono λb h=>fG a h).then_heap (w5 _) λb o B q=>?_) t) O y;exact(E.2 b λz=>B (z ▸ dt)).trans q
theorem AN{l:DF}{a:Array Ct}{ks:List Int}(L:A.handled=JI)(J:s.heap.IsList l a)(K:∀(i:Nat)(v:Ct),a[i]?=JH v->∃k u,ks[i]?=JH k/\v=.int k u)(I:ks.length=a.size)(M:a.size+1<IA) :
  Hk (model prog w) A (.call (.builtin "set.__init__") ⟨[.ref s.heap.objs.size,.ref l],[]⟩) (wants (λr s2=>r=.none/\∃h' p m,s2={ s with heap:=h',toks:=p }/\di h' s.heap.objs.size (!dr w) ks m/\m<=ks.length/\∀b o,b<s.heap.objs.size->s.heap.get? b=JH o->h'.get? b=JH o) E) { s with heap:=s.heap.push (cV (!dr w)) }:=by
 have n:(s.heap.push (cV (!dr w))).get? s.heap.objs.size=JH (cV (!dr w)):=DG.get?_push_size s.heap U;have ty:F7.TypeIs { s with heap:=s.heap.push (cV (!dr w)) } (.ref s.heap.objs.size) "set" := ⟨cV (!dr w),n,U⟩;refine Ik F.called_set.init.plain F.entry_set_init (IE ty ?_);obtain⟨⟨c1,S,Z,R⟩,g,j,m,h⟩:=J;dsimp only at j h;subst j h;have O:(s.heap.push (cV (!dr w))).get? l=JH { cls:=.type "list",dict:=S,data:=.seq a m,slots:=R }:=DG.get?_push_of_some _ g;have X:=F.sub_list_set;have W:=F.sub_list_frozenset;have V:(Ct.type "list" == Ct.type "dict")=false:=by decide
 have f:(s.heap.push (cV (!dr w))).IsList l a:=⟨_,O,U,m,U⟩;have lt:l<s.heap.objs.size:=DG.lt_size g;have y:di (s.heap.push (cV (!dr w))) s.heap.objs.size (!dr w) [] 0:=⟨_,#[],0,_,n,⟨U,U,U⟩,U,⟨by simp,by simp,by simp⟩,by unfold IA;decide,U,List.Pairwise.nil,U,U⟩;unfold G9.«set.__init__» G9.Frozenset.updateFrom noKeywords;generalize N:G5=it;generalize Y:dr w=bt at *
 wp_walk
 subst N;refine G8 f (BX (IF ?_));have D:l≠(s.heap.push (cV (!bt))).objs.size:=by rw[DG.size_push];exact vE (vJ lt)
 have G:s.heap.objs.size ∉ [(s.heap.push (cV (!bt))).objs.size,l]:=by
  rw[DG.size_push];intro z;rcases cf.mp z with z|z
  .exact JP z (vE (wj _))
  .exact JP (by simpa using z) (vH lt)
 refine AM ((G7.list (by simp[L]) _ l D a).toS) G (ks:=ks) (led:=!bt) K M a.size 0 _ 0 (xT _).symm (vD _) ⟨⟨_,DG.get?_push_size _ U,U,U⟩,f.push _⟩ (y.stay λo q=>DG.get?_push_of_some _ q) λB H d x T=>?_
 obtain⟨h',P,Q,t,C⟩:=B;obtain rfl:P=s.gens:=d.gens;obtain rfl:Q=s.drawn:=d.drawn;obtain rfl:C=s.os:=d.os;refine BY (show GC (model prog w) _ (ret Ct.none) _ _ _ from BY ⟨U,h',t,H,U,?_,by lia,λb o c q=>?_⟩)
 .rw[←I,eU]at x;exact x
 .refine d.heap b o (λz=>?_) (DG.get?_push_of_some _ (DG.get?_push_of_some _ q));rcases cf.mp z with z|z
  .exact JP z (vE c)
  .have e:b=(s.heap.push (cV (!bt))).objs.size:=by simpa using z
   rw[DG.size_push]at e;exact JP e (vE (vJ c))
set_option maxRecDepth 100000 in
theorem uZ{l:DF}{a:Array Ct}{ks:List Int}{Q:Ct->F7->Prop}(C:A.handled=JI)(z:s.heap.IsList l a)(B:∀(i:Nat)(v:Ct),a[i]?=JH v->∃k u,ks[i]?=JH k/\v=.int k u)(t:ks.length=a.size)(D:a.size+1<IA)
  (h:∀h' f m,di h' s.heap.objs.size (!dr w) ks m->m<=ks.length->(∀b o,b<s.heap.objs.size->s.heap.get? b=JH o->h'.get? b=JH o)->Q (.ref s.heap.objs.size) { s with heap:=h',toks:=f }):GC (model prog w) A (call (.type "set") [.ref l]) Q E s:=by
 obtain⟨c,I,mro⟩:=F.called_set.mro;have O:=F.called_set.made;have N:=F.called_set.sub;have M:=F.called_set.notType;have L:=F.called_set.canCreate;have K:=F.typeCall_set_1 (.ref l);refine Ht (IG (show GC (model prog w) _ (callAny (.type "set") _) _ _ _ from BY ⟨Ho.quiet_builtin _ (by decide+kernel),Im F.entry_type_call ?_⟩));rw[D7.under_plain (A:=A) (IH "set" [.ref l] []) U]
 repeat (any_goals (first|assumption|wp_step))
 refine Hu (sF (.ref l) (E:=E) (Q₁:=λn j=>n=.ref s.heap.objs.size/\j={ s with heap:=s.heap.push (cV (!dr w)) }) ⟨U,U⟩) λr j g=>?_
 cases r with
 |error e=>exact g
 |ok fl =>
  cases fl with
  |ret n =>
   obtain⟨rfl,rfl⟩:=g;have G:(s.heap.push (cV (!dr w))).get? s.heap.objs.size=JH (cV (!dr w)):=DG.get?_push_size s.heap U;have ty:F7.TypeIs { s with heap:=s.heap.push (cV (!dr w)) } (.ref s.heap.objs.size) "set" := ⟨cV (!dr w),G,U⟩;have J:=F.called_set.init.lookup;have b2:=F.called_set.init.bind (.ref s.heap.objs.size)
   repeat (any_goals (first|assumption|wp_step))
   refine Hu (AN (E:=E) (by simp[C]) z B t D) λp s2 d=>?_
   cases p with
   |error e=>exact d
   |ok H =>
    cases H with
    |ret r =>
     obtain⟨rfl,h',f,m,rfl,x,y,q⟩:=d
     repeat (any_goals (first|assumption|wp_step))
     exact h h' f m x y q
    |_=>exact d.elim
  |_=>exact g.elim
set_option maxRecDepth 100000
theorem aS:Slot "set_iterator" "__next__" "set_iterator.__next__" :=
 .of (owner := "set_iterator") (n := "__next__") (by rw[IU,IV];kernel_rfl) (by decide+kernel) (by decide+kernel) (by decide+kernel)
  (by first|exact .inl (by decide+kernel)|exact .inr (by decide+kernel)) (by rw[IW];kernel_rfl)
theorem gO:Slot "set_iterator" "__iter__" "set_iterator.__iter__" :=
 .of (owner := "set_iterator") (n := "__iter__") (by rw[IU,IV];kernel_rfl) (by decide+kernel) (by decide+kernel) (by decide+kernel)
  (by first|exact .inl (by decide+kernel)|exact .inr (by decide+kernel)) (by rw[IW];kernel_rfl)
theorem cF:IX table "set_iterator.__next__" = JH G9.«set_iterator.__next__»:=entryFor_of_fast (by kernel_rfl)
theorem kG:IX table "set_iterator.__iter__" = JH G9.«dict_keyiterator.__iter__» :=
 IY (id' := "dict_keyiterator.__iter__") (by kernel_rfl) U (by decide+kernel) (by kernel_rfl)
theorem mf:IX table "set.__iter__" = JH G9.«frozenset.__iter__» :=
 IY (id' := "frozenset.__iter__") (by kernel_rfl) U (by decide+kernel) (by kernel_rfl)
theorem cU(a:Ct):Ip "set_iterator.__next__" ⟨[a],[]⟩:=by unfold Ip;kernel_rfl
theorem ly(a:Ct):Ip "set_iterator.__iter__" ⟨[a],[]⟩:=by unfold Ip;kernel_rfl
abbrev eF(first:Ct)(i:Int)(s:Ct)(n a:Nat):Obj:={ cls:=.type "set_iterator",data:=.fields #[first,.int i 0,s,.int n 0,.int a 0] }
theorem pJ{a:Source}{n:Nat}{Q:Nat->F7->Prop}(b:n≠0)(h:Q (w.draws a (s.drawn.get a)%n) { s with drawn:=s.drawn.bump a }) :
  GC (model prog w) A (choose a n) Q E s:=λ_ _ _=>⟨b,h⟩
theorem mh{b:Type}:∀(n:Nat)(xs:List b)(s:F7){Q:List b->F7->Prop},n=xs.length->(∀ys d,ys.Perm xs->Q ys { s with drawn:=d })->GC (model prog w) A (IZ n xs) Q E s:=by
 intro n;induction n with
 |zero =>
  intro xs s Q e h;have:xs=[]:=List.length_eq_zero_iff.mp e.symm;subst this;unfold IZ;exact BY (h [] s.drawn (.refl _))
 |succ n f =>
  intro xs s Q e h;cases xs with
  |nil=>simp at e
  |cons x r =>
   unfold IZ;refine BX (pJ (by simp) ?_);generalize hi:w.draws Source.order (s.drawn.get Source.order)%(x :: r).length=i;have a:i<(x :: r).length:=by rw[←hi];exact yY _ (by simp)
   have c:(x :: r)[i]?=JH (x :: r)[i]:=Gz a;rw[c]
   try dsimp only
   refine BX (f _ _ (by rw[List.length_eraseIdx_of_lt a];lia) λys d p=>BY ?_);exact h _ d ((p.cons _).trans (fJ c))
theorem u5{I a:DF}{b i:Nat}{o:Obj}{c:Array (Int×Ct)}{d:Nat}{t:II}{Q:Option Ct->F7->Prop}
  (e:s.heap.get? I=JH (eF (.int b 0) i (.ref a) c.size d))(k:s.heap.get? a=JH o)(n:o.data=.set c d t)(l:t.fits c.size=JJ)
  {x:Ct}{nx:Nat}(q:∀(j:Option (Ct×Nat)->F7->Prop) E',j (JH (x,nx)) s->GC (model prog w) A.in1 (I0 a b i d) j E' s)
  (p:∀h',h'.get? I=JH (eF (.int nx 0) ((i+1:Nat):Int) (.ref a) c.size d)->DG.SameBut I s.heap h'->Q (JH x) { s with heap:=h' }) :
  GC (model prog w) A (G3 (.ref I)) Q E s:=by
 have h:s.TypeIs (.ref I) "set_iterator" := ⟨_,e,U⟩;unfold G3;refine BX (Ir (I1 (name:=s!"__next__") h aS (Ja aS h cF ?_ (cU _))));unfold G9.«set_iterator.__next__»;refine BX (m:=Iv "__next__" 0 _) (BY ?_);refine BX (Jb e U ?_)
 try dsimp only
 refine BX (Jc k n l ?_);rw[JN (by simp)]
 try dsimp only
 simp only[zj];refine BX (q _ _ ?_)
 try dsimp only
 refine BX (Jd e (by simp) λu y g=>?_);refine BX (Jd (s:={ s with heap:=u }) y (by simp) λr v f=>?_);refine BY ⟨x,U,BY (p r ?_ (g.trans f))⟩;rw[v];simp[eF,G6]
theorem u6{I a:DF}{c i:Nat}{o:Obj}{e:Array (Int×Ct)}{f:Nat}{t:II}{Q:Option Ct->F7->Prop}(k:A.handled=JI)
  (d:s.heap.get? I=JH (eF (.int c 0) i (.ref a) e.size f))(j:s.heap.get? a=JH o)(n:o.data=.set e f t)(l:t.fits e.size=JJ)
  (q:∀(h:Option (Ct×Nat)->F7->Prop) E',h JI s->GC (model prog w) A.in1 (I0 a c i f) h E' s)
  (p:∀h',DG.ExtBut I s.heap h'->Q JI { s with heap:=h' }) :
  GC (model prog w) A (G3 (.ref I)) Q E s:=by
 have g:s.TypeIs (.ref I) "set_iterator" := ⟨_,d,U⟩;unfold G3;refine BX (Ir (I1 (name:=s!"__next__") g aS (Ja aS g cF ?_ (cU _))));unfold G9.«set_iterator.__next__»;refine BX (m:=Iv "__next__" 0 _) (BY ?_);refine BX (Jb d U ?_)
 try dsimp only
 refine BX (Jc j n l ?_);rw[JN (by simp)]
 try dsimp only
 simp only[zj];refine BX (q _ _ ?_)
 try dsimp only
 refine BX (Je d U (by simp) ?_);show GC _ _ (Jf (.type "StopIteration") [] >>= _) _ _ _;refine BX ?_;simp only[Jf,newTuple];refine BX (HX ?_ (by size_fits));refine BX (m:=Jg _ _) (Iq (a:=Ct.none) (by first|rfl|(simp only[Jg];rfl)) ?_);refine HX ?_ (by size_fits);simp only[raiseNew];refine BX (Jh ?_);rw[show A.in1.handled=JI from k];refine BX (BY (wpAny_throw ?_));refine BX (Ji (T := "StopIteration") (b:=JJ) ⟨_,DG.get?_push_size _ U,U⟩ Jj ?_);exact BY (p _ (((DG.SameBut.update ..).extBut.push _).push _))
theorem sG{I a tp:DF}{i:Nat}{o:Obj}{b:Array (Int×Ct)}{d:Nat}{t:II}{places:List Nat}{m:Nat}{to:Obj}{Q:Option Ct->F7->Prop}
  (c:s.heap.get? I=JH (eF (.ref tp) i (.ref a) b.size d))(n:s.heap.get? tp=JH to)(g:to.data=.seq (places.map λ(p:Nat)=>G6 p).toArray m)(h:s.heap.get? a=JH o)(k:o.data=.set b d t)(j:t.fits b.size=JJ)
  {p:Nat}(q:places[i]?=JH p){e:Int×Ct}(r:b[p]?=JH e)
  (u:∀h',h'.get? I=JH (eF (.ref tp) ((i+1:Nat):Int) (.ref a) b.size d)->DG.SameBut I s.heap h'->Q (JH e.2) { s with heap:=h' }) :
  GC (model prog w) A (G3 (.ref I)) Q E s:=by
 have l:s.TypeIs (.ref I) "set_iterator" := ⟨_,c,U⟩;unfold G3;refine BX (Ir (I1 (name:=s!"__next__") l aS (Ja aS l cF ?_ (cU _))));unfold G9.«set_iterator.__next__»;refine BX (m:=Iv "__next__" 0 _) (BY ?_);refine BX (Jb c U ?_)
 try dsimp only
 refine BX (Jc h k j ?_);rw[JN (by simp)]
 try dsimp only
 refine BX (Jk n g ?_)
 try dsimp only
 have y:(places.map λ(p:Nat)=>G6 p).toArray[(i:Int).toNat]?=JH (.int p 0):=by simp[q,G6]
 rw[y]
 try dsimp only
 unfold setNextDrawn;refine BX (BX (IS h k j ?_))
 try dsimp only
 rw[JN (by simp)];refine BX (BY ?_);simp only[zj,r];refine BY ?_;refine BX (Jd c (by simp) λv x f=>?_);refine BY ⟨e.2,U,BY (u v ?_ f)⟩;rw[x];simp[eF,G6]
theorem mi{I a tp:DF}{i:Nat}{o:Obj}{d:Array (Int×Ct)}{j:Nat}{t:II}{places:List Nat}{m:Nat}{to:Obj}{Q:Option Ct->F7->Prop}(n:A.handled=JI)
  (c:s.heap.get? I=JH (eF (.ref tp) i (.ref a) d.size j))(k:s.heap.get? tp=JH to)(f:to.data=.seq (places.map λ(p:Nat)=>G6 p).toArray m)(l:s.heap.get? a=JH o)(r:o.data=.set d j t)(q:t.fits d.size=JJ)
  (g:places[i]?=JI)(u:∀h',DG.ExtBut I s.heap h'->Q JI { s with heap:=h' }) :
  GC (model prog w) A (G3 (.ref I)) Q E s:=by
 have h:s.TypeIs (.ref I) "set_iterator" := ⟨_,c,U⟩;unfold G3;refine BX (Ir (I1 (name:=s!"__next__") h aS (Ja aS h cF ?_ (cU _))));unfold G9.«set_iterator.__next__»;refine BX (m:=Iv "__next__" 0 _) (BY ?_);refine BX (Jb c U ?_)
 try dsimp only
 refine BX (Jc l r q ?_);rw[JN (by simp)]
 try dsimp only
 refine BX (Jk k f ?_)
 try dsimp only
 have y:(places.map λ(p:Nat)=>G6 p).toArray[(i:Int).toNat]?=none:=by simp at g⊢;exact g
 rw[y]
 try dsimp only
 refine BX (Jd c (by simp) λv x e=>?_);refine BX (Je (s:={ s with heap:=v }) x U (by simp) ?_);show GC _ _ (Jf (.type "StopIteration") [] >>= _) _ _ _;refine BX ?_;simp only[Jf,newTuple];refine BX (HX ?_ (by size_fits));refine BX (m:=Jg _ _) (Iq (a:=Ct.none) (by first|rfl|(simp only[Jg];rfl)) ?_);refine HX ?_ (by size_fits);simp only[raiseNew];refine BX (Jh ?_);rw[show A.in1.handled=JI from n];refine BX (BY (wpAny_throw ?_));refine BX (Ji (T := "StopIteration") (b:=JJ) ⟨_,DG.get?_push_size _ U,U⟩ Jj ?_);exact BY (u _ (((e.trans (DG.SameBut.update ..)).extBut.push _).push _))
theorem mj{I:DF}{first:Ct}{i:Int}{v:Ct}{n c:Nat}{Q:Ct->F7->Prop}(b:s.heap.get? I=JH (eF first i v n c))(h:Q (.ref I) s):GC (model prog w) A (G5 (.ref I)) Q E s:=by
 have a:s.TypeIs (.ref I) "set_iterator" := ⟨_,b,U⟩;refine Jl a gO (Ja gO a kG ?_ (ly _));show GC _ _ (ret (.ref I)) _ _ s;exact BY ⟨_,U,"set_iterator",_,a,aS.lookup,h⟩
theorem ka{a:DF}{o:Obj}{d:Array (Int×Ct)}{f:Nat}{t:II}{b i:Nat}(l:dr w=JJ)(g:s.heap.get? a=JH o)(k:o.data=.set d f t)(j:t.fits d.size=JJ)
  {Q:Option (Ct×Nat)->F7->Prop}(h:Q (((IL (w.params.setOrder a f) d)[i]?).map λe=>(e.2,b)) s):GC (model prog w) A (I0 a b i f) Q E s:=by
 have c:((Jm.mk prog w.params).params.followText "set-order")=true:=l;unfold I0;refine BX (IS g k j ?_)
 try dsimp only
 unfold Jn;refine BX (BX (IT (BY ?_)));show GC _ _ (if (Jm.mk prog w.params).params.followText "set-order" = JJ then _ else _) _ _ _;rw[JO c,JN (by simp)];unfold setWalk;refine BX (BX (IS g k j ?_))
 try dsimp only
 unfold Jn;refine BX (BX (IT (BY ?_)));show GC _ _ (if (Jm.mk prog w.params).params.followText "set-order" = JJ then _ else _) _ _ _;rw[JO c];refine BX (IT (BY (BY h)))
theorem jj{a:DF}{o:Obj}{c:Array (Int×Ct)}{e:Nat}{t:II}{b i:Nat}(n:dr w=JK)(g:s.heap.get? a=JH o)(m:o.data=.set c e t)(l:t.fits c.size=JJ)(k:t.led=JJ)(f:(!t.plain && decide (c.size>1))=JK)
  {Q:Option (Ct×Nat)->F7->Prop}(h:Q (match c[II.below t.place b]?,t.place[II.below t.place b]? with|some (_,x),JH j=>JH (x,j+1)|_,_=>JI) s):GC (model prog w) A (I0 a b i e) Q E s:=by
 have d:((Jm.mk prog w.params).params.followText "set-order")=false:=n;unfold I0;refine BX (IS g m l ?_)
 try dsimp only
 unfold Jn;refine BX (BX (IT (BY ?_)));show GC _ _ (if (Jm.mk prog w.params).params.followText "set-order" = JJ then _ else _) _ _ _;rw[JN (by rw[d];exact Bool.false_ne_true)];show GC _ _ (if (!t.plain && decide (c.size>1))=JJ then _ else _) _ _ _;rw[JN (by rw[f];exact Bool.false_ne_true)];show GC _ _ ((if (!t.led && !c.isEmpty)=JJ then unsupported "set:maker-not-led" else pure ()) >>= _) _ _ _;rw[k,JN (by simp)];exact BX (BY (BY h))
set_option maxRecDepth 100000
abbrev qF:Array Gk->Array Gk->Prop:=λg a=>a=g
theorem oI{I:DF}{h':DG}(a:DG.SameBut I s.heap h'):IB [I] qF s { s with heap:=h' } :=
 ⟨λb o c e=>(a.2 b λz=>c (z ▸ dt)).trans e,U,U,U,vD _⟩
theorem oJ{I:DF}{h':DG}(a:DG.ExtBut I s.heap h'):IB [I] qF s { s with heap:=h' } :=
 ⟨λb o c e=>a b o (λz=>c (z ▸ dt)) e,U,U,U,vD _⟩
theorem ml(D:A.handled=JI){I a:DF}(n:a≠I){o:Obj}{f:Array (Int×Ct)}{m:Nat}{t:II}(u:o.data=.set f m t)(r:t.fits f.size=JJ){d:List Ct}(C:d.length=f.size)(j:Nat->Nat)
  (F:∀(i:Nat)(x:Ct)(s:F7)(e:Option (Ct×Nat)->F7->Prop) h,s.heap.get? a=JH o->d[i]?=JH x->e (JH (x,j (i+1))) s->GC (model prog w) A.in1 (I0 a (j i) i m) e h s)
  (G:∀(s:F7)(e:Option (Ct×Nat)->F7->Prop) h,s.heap.get? a=JH o->e JI s->GC (model prog w) A.in1 (I0 a (j f.size) f.size m) e h s) :
  Iz prog w A I [I,a] [I] qF f.size (λi v=>d[i]?=JH v) (λi s=>s.heap.get? I=JH (eF (.int (j i) 0) i (.ref a) f.size m)/\s.heap.get? a=JH o) where
 sub:=λb y=>by simp at y;simp[y]
 grefl:=λ_=>U
 gtrans:=λ_ _ _ J H=>H.trans J
 frame:=λi s z L c _ k=>⟨k I (by simp) _ c.1,k a (by simp) _ c.2⟩
 item:=λi s Q E hi c l=>by
  have B:d[i]?=JH d[i]:=Gz (by lia);refine u5 c.1 c.2 u r (x:=d[i]) (nx:=j (i+1)) (λe h q=>F i _ s e h c.2 B q) λz g p=>?_
  exact l _ _ B ⟨g,(p.2 a n).trans c.2⟩ (oI p)
 done:=λs Q E c l=>u6 D c.1 c.2 u r (λe h q=>G s e h c.2 q) λz K=>l _ (oJ K)
 self:=λi s Q E c l=>mj c.1 l
theorem qG(D:A.handled=JI){I a tp:DF}(u:a≠I)(r:tp≠I){o to:Obj}{d:Array (Int×Ct)}{C m:Nat}{t:II}(y:o.data=.set d C t)(x:t.fits d.size=JJ){places:List Nat}(j:to.data=.seq (places.map λ(p:Nat)=>G6 p).toArray m)
  (J:places.length=d.size){h:List Ct}(H:∀(i:Nat),i<d.size->∃p e,places[i]?=JH p/\d[p]?=JH e/\h[i]?=JH e.2) :
  Iz prog w A I [I,a,tp] [I] qF d.size (λi v=>h[i]?=JH v) (λi s=>s.heap.get? I=JH (eF (.ref tp) i (.ref a) d.size C)/\s.heap.get? a=JH o/\s.heap.get? tp=JH to) where
 sub:=λb z=>by simp at z;simp[z]
 grefl:=λ_=>U
 gtrans:=λ_ _ _ q n=>n.trans q
 frame:=λi s B K c _ k=>⟨k I (by simp) _ c.1,k a (by simp) _ c.2.1,k tp (by simp) _ c.2.2⟩
 item:=λi s Q E hi c f=>by
  obtain⟨p,e,q,n,F⟩:=H i hi;refine sG c.1 c.2.2 j c.2.1 y x q n λB g l=>?_
  exact f _ _ F ⟨g,(l.2 a u).trans c.2.1,(l.2 tp r).trans c.2.2⟩ (oI l)
 done:=λs Q E c f=>mi D c.1 c.2.2 j c.2.1 y x (jI (by lia)) λB G=>f _ (oJ G)
 self:=λi s Q E c f=>mj c.1 f
theorem wA{a:DF}{o:Obj}{f:Array (Int×Ct)}{B:Nat}{t:II}{Q:Ct->F7->Prop}(C:s.heap.get? a=JH o)(Z:o.ExactSet)(r:o.data=.set f B t)(y:f.size<IA)(n:t.fits f.size=JJ)(ha:Asc t.place)(hl:t.led = !dr w)
  (h:∀(I:DF)(h':DG)(d:Drawn)(M:List Ct)(fp:List DF)(St:Nat->F7->Prop),(∀b u,s.heap.get? b=JH u->h'.get? b=JH u)->M.Perm (f.toList.map (·.2)) ->
   (∀L:D7,L.handled=JI->Iz prog w L I fp [I] qF f.size (λi v=>M[i]?=JH v) St)->St 0 { s with heap:=h',drawn:=d }->s.heap.objs.size<=I->(∀b∈fp,b=a\/s.heap.objs.size<=b)->Q (.ref I) { s with heap:=h',drawn:=d }) :
  GC (model prog w) A (G5 (.ref a)) Q E s:=by
 have hT:s.TypeIs (.ref a) "set" := ⟨o,C,Z.1⟩;have la:a<s.heap.objs.size:=DG.lt_size C;refine Jl hT F.slot_set_iter (Ja F.slot_set_iter hT mf ?_ (F.args_set_iter_1 _));unfold G9.«frozenset.__iter__» G9.Frozenset.slot0;refine BX (BX (m:=Iv "__iter__" 0 _) (BY ?_));unfold G9.Frozenset.addrOf;refine BY ?_;unfold G9.Frozenset.sizeOf;refine BX (BX (Jc C r n (BY ?_)));unfold setDrawn;refine BX (BX (IS C r n ?_))
 try dsimp only
 unfold Jn;refine BX (BX (IT (BY ?_)));refine BY ?_;show GC _ _ (if (!dr w && (!t.plain && decide (f.size>1)))=JJ then _ else _) _ _ _;have H:f.toList.length=f.size:=zl;by_cases c:(!dr w && (!t.plain && decide (f.size>1)))=JJ
 .rw[JO c];refine BX (mh f.size (List.range f.size) s (by simp) λj d p=>?_);refine BX (Jo ?_ ?_)
  rotate_left
  .rw[bo,p.length_eq,jJ];unfold IA at y;unfold DO;lia
  generalize N:({ cls:=.type "tuple",data:=.seq (j.map λ(i:Nat)=>G6 i).toArray }:Obj)=to;have gt:(s.heap.push to).get? s.heap.objs.size=JH to:=by rw[←N];exact DG.get?_push_size _ U
  have ga:(s.heap.push to).get? a=JH o:=DG.get?_push_of_some _ C;refine BX (m:=setEpoch a) (Jp (s:={ s with heap:=s.heap.push to,drawn:=d }) ga r n ?_);refine BX (HX ?_ (by size_fits));have J:((s.heap.push to).push (eF (.ref s.heap.objs.size) (0:Nat) (.ref a) f.size B)).get? (s.heap.push to).objs.size=JH (eF (.ref s.heap.objs.size) (0:Nat) (.ref a) f.size B):=DG.get?_push_size _ U;refine BY ⟨_,U,"set_iterator",_,⟨_,J,U⟩,aS.lookup,?_⟩;have V:∀i,i<f.size->∃p e,j[i]?=JH p/\f[p]?=JH e/\(j.map λp=>(f[p]?.map (·.2)).getD .none)[i]?=JH e.2:=λi hi=>by
   have P:i<j.length:=by rw[p.length_eq,jJ];exact hi
   have G:j[i]?=JH j[i]:=Gz P;have lt:j[i]<f.size:=iv.mp (p.mem_iff.mp (nq P));have W:f[j[i]]?=JH f[j[i]]:=zo lt;exact⟨j[i],f[j[i]],G,W,by rw[eR,G];simp[W]⟩
  have oH:(j.map λp=>(f[p]?.map (·.2)).getD Ct.none).Perm (f.toList.map (·.2)):=by
   refine(p.map _).trans (List.Perm.of_eq ?_);apply List.ext_getElem
   .simp
   .intro i h1 h2;simp at h1;simp[h1]
  refine h _ _ d _ [(s.heap.push to).objs.size,a,s.heap.objs.size] _ (λb u e=>DG.get?_push_of_some _ (DG.get?_push_of_some _ e)) oH
   (λL K=>qG K (places:=j) (to:=to) (m:=0) (by rw[DG.size_push];exact vE (vJ la)) (by rw[DG.size_push];exact vE (wj _)) r n (by rw[←N]) (by rw[p.length_eq,jJ]) V)
   ⟨J,DG.get?_push_of_some _ ga,DG.get?_push_of_some _ gt⟩ (by rw[DG.size_push];exact w5 _) λb y=>?_
  rcases cf.mp y with rfl|y
  .exact .inr (by rw[DG.size_push];exact w5 _)
  .rcases cf.mp y with rfl|y
   .exact .inl U
   .have:b=s.heap.objs.size:=by simpa using y
    exact .inr (by rw[this];exact vD _)
 .rw[JN c];refine BX (BY ?_);refine BX (m:=setEpoch a) (Jp C r n ?_);refine BX (HX ?_ (by size_fits));have J:(s.heap.push (eF (.int (0:Nat) 0) (0:Nat) (.ref a) f.size B)).get? s.heap.objs.size=JH (eF (.int (0:Nat) 0) (0:Nat) (.ref a) f.size B):=DG.get?_push_size _ U;refine BY ⟨_,U,"set_iterator",_,⟨_,J,U⟩,aS.lookup,?_⟩;have ne:a≠s.heap.objs.size:=vE la;have R:∀b∈[s.heap.objs.size,a],b=a\/s.heap.objs.size<=b:=λb y=>by
   rcases cf.mp y with rfl|y
   .exact .inr (vD _)
   .exact .inl (by simpa using y)
  cases hbt:dr w with
  |true =>
   have pp:=uY (w.params.setOrder a B) f;have D:((IL (w.params.setOrder a B) f).toList.map (·.2)).length=f.size:=by rw[bo,pp.length_eq,H]
   refine h _ _ s.drawn ((IL (w.params.setOrder a B) f).toList.map (·.2)) [s.heap.objs.size,a] _ (λb u e=>DG.get?_push_of_some _ e) (pp.map _)
    (λL K=>ml K ne r n D (λ_=>0) (λi x T X Y g l q=>ka hbt g r n ?_) λT X Y g q=>ka hbt g r n ?_) ⟨J,DG.get?_push_of_some _ C⟩ (vD _) R
   .rw[eR,Array.getElem?_toList]at l;cases e:(IL (w.params.setOrder a B) f)[i]? with
    |none=>rw[e]at l;cases l
    |some z=>rw[e]at l;injection l with l;subst l;exact q
   .have e:(IL (w.params.setOrder a B) f)[f.size]?=none:=by
     rw[←Array.getElem?_toList];exact jI (by rw[bo]at D;lia)
    rw[e];exact q
  |false =>
   have O:t.led=true:=by rw[hl,hbt];rfl
   have V:(!t.plain && decide (f.size>1))=false:=by
    rw[hbt]at c;simpa using c
   have a0:t.place.size=f.size:=by
    have:=n;simp only[II.fits,zC,beq_iff_eq]at this;exact this.1
   have S:∀i,i<=f.size->II.below t.place (match i with|0=>0|k+1=>t.place.getD k 0+1)=i:=λi hi=>by
    cases i with
    |zero=>exact qy ha
    |succ k =>
     have hk:k<t.place.size:=by lia
     have eg:t.place.getD k 0=t.place[k]:=by simp[Array.getD,hk]
     show II.below t.place (t.place.getD k 0+1)=k+1;rw[eg];exact sv ha hk
   refine h _ _ s.drawn (f.toList.map (·.2)) [s.heap.objs.size,a] _ (λb u e=>DG.get?_push_of_some _ e) (.refl _)
    (λL K=>ml K ne r n (by rw[bo,H]) (λi=>match i with|0=>0|k+1=>t.place.getD k 0+1) (λi x T X Y g l q=>jj hbt g r n O V ?_) λT X Y g q=>jj hbt g r n O V ?_) ⟨J,DG.get?_push_of_some _ C⟩ (vD _) R
   .have hi:i<f.size:=by
     obtain⟨z,_⟩:=GA.mp l;rw[bo,H]at z;exact z
    rw[S i (v5 hi)];have G:f[i]?=JH f[i]:=zo hi;have W:t.place[i]?=JH t.place[i]:=zo (by lia);have e3:x=f[i].2:=by
     rw[eR,Array.getElem?_toList,G]at l;injection l with l;exact l.symm
    rw[G,W];have e4:t.place.getD i 0=t.place[i]:=by simp[Array.getD,show i<t.place.size by lia]
    subst e3;have q2:X (JH (f[i].2,t.place.getD i 0+1)) T:=q;rw[e4]at q2;exact q2
   .rw[S f.size (vD _)];have G:f[f.size]?=none:=Array.getElem?_eq_none (vD _);rw[G];exact q
set_option maxRecDepth 100000
theorem u7{a:List Ct}{b:Array Ct}{n:Nat}(h:ItemsOf (λi v=>a[i]?=JH v) b n)(c:a.length=n):b.toList=a:=by
 apply List.ext_getElem
 .rw[zl,h.1,c]
 .intro i f d;have e:a[i]?=JH b[i]:=h.2 i b[i] (zo (by simpa using f));rw[Gz d]at e;injection e with e;simpa using e.symm
theorem qH{a:DF}{o:Obj}{q:Array (Int×Ct)}{ep:Nat}{t:II}{Q:List Ct->F7->Prop}(hh:A.handled=JI)(S:s.heap.get? a=JH o)(m:o.ExactSet)(hd:o.data=.set q ep t)(v:q.size<IA)(hf:t.fits q.size=JJ)(ha:Asc t.place)(hl:t.led = !dr w)
  (h:∀(f:List Ct)(s':F7),f.Perm (q.toList.map (·.2))->(∀b u,s.heap.get? b=JH u->s'.heap.get? b=JH u)->s'.gens=s.gens->s'.os=s.os->s.heap.objs.size<s'.heap.objs.size->Q f s') :
  GC (model prog w) A (collect (.ref a)) Q E s:=by
 have R:a<s.heap.objs.size:=DG.lt_size S;unfold collect;refine BX (IF (Im F.entry_proto_collect ?_));rw[D7.under_plainId F.plain_proto_collect _];show GC _ A.in1 (HV [] >>= λl=>again (.builtin "list.__iadd__" ⟨[l,.ref a],[]⟩)) _ _ s;refine BX (HX ?_);refine BY ⟨ID F.plain_list_iadd _,Im F.entry_list_iadd ?_⟩;rw[D7.under_plainId F.plain_list_iadd _];generalize B:({ cls:=.type "list",data:=.seq ([]:List Ct).toArray }:Obj)=lo;have J:(s.heap.push lo).get? a=JH o:=DG.get?_push_of_some _ S;have gS:(s.heap.push lo).get? s.heap.objs.size=JH lo:=by rw[←B];exact DG.get?_push_size _ U
 have M:F7.TypeIs { s with heap:=s.heap.push lo } (.ref a) "set" := ⟨o,J,m.1⟩;show GC _ A.in1 (G9.List.listExtendWith (.ref s.heap.objs.size) (.ref a) (.ref s.heap.objs.size)) _ _ _;unfold G9.List.listExtendWith;refine BX (Jq M ?_);have h1:G9.List.listSameRef (.ref s.heap.objs.size) (.ref a)=false:=by simp[G9.List.listSameRef];exact vH R
 have h2:(Ct.type "set" == Ct.type "list")=false:=by decide
 have h3:(Ct.type "set" == Ct.type "tuple")=false:=by decide
 simp only[h1,h2,h3,Bool.or_false,An,if_false];refine BX (wA (s:={ s with heap:=s.heap.push lo }) J m hd v hf ha hl λI j d f fp St H P W Y hI L=>?_);have g2:j.get? a=JH o:=H a o J;have n:F7.TypeIs { s with heap:=j,drawn:=d } (.ref a) "set" := ⟨o,g2,m.1⟩;refine BX (B6 ?_);unfold G9.List.listLengthHint;refine BX (Jr n F.slot_set_len.lookup ?_)
 (generalize k:("set.__len__" : String)=id0;(fail_if_success (clear k id0));wp_delta;rw[show splitId id0=JH ("set","__len__")from by subst k;decide+kernel];subst k)
 refine BX (Ji (b:=JJ) n sub_set_self ?_);refine BX (Jq n ?_);refine BY ?_;show GC _ A.in1 (rule "list.extend.makes-room" >>= λ_=>G9.List.listTouch (.ref s.heap.objs.size) >>= λ_ =>
  again (.builtin "list.extend.loop" ⟨[.ref s.heap.objs.size,.ref I,.ref s.heap.objs.size],[]⟩)) _ _ _
 refine BX (Iw ?_);have c:j.get? s.heap.objs.size=JH lo:=H _ _ gS;rw[←B]at c;refine BX ?_;show GC _ A.in1 (Js s.heap.objs.size (·.push .none) >>= λ_=>Js s.heap.objs.size (·.pop)) _ _ _;refine BX (Jt c U ?_);have i:=DG.get?_update_self (Obj.mapSeq (·.push Ct.none)) c U;refine Jt i U ?_;have p:=DG.get?_update_self (Obj.mapSeq (·.pop)) i U
 have y:∀b u,b≠s.heap.objs.size->j.get? b=JH u ->
   ((j.update s.heap.objs.size (Obj.mapSeq (·.push Ct.none))).update s.heap.objs.size (Obj.mapSeq (·.pop))).get? b=JH u :=
  λb u v e=>(DG.get?_update_other _ _ (Ne.symm v)).trans ((DG.get?_update_other _ _ (Ne.symm v)).trans e)
 have x:(s.heap.push lo).objs.size=s.heap.objs.size+1:=DG.size_push ..;have C:s.heap.objs.size ∉ fp:=λr=>by
  rcases L _ r with z|z
  .exact vH R z
  .have O:(s.heap.push lo).objs.size<=s.heap.objs.size:=z;rw[x]at O;exact Nat.not_succ_le_self _ O
 have T:=W A.in1 (by simp[hh]);have G:f.length=q.size:=by rw[P.length_eq,bo,zl]
 have K:=T.frame 0 ({ s with heap:=j,drawn:=d }:F7) ((j.update s.heap.objs.size (Obj.mapSeq (·.push Ct.none))).update s.heap.objs.size (Obj.mapSeq (·.pop))) s.toks Y (vD _) λb g Z e=>y b Z (λz=>C (z ▸ g)) e
 refine BY ⟨ID F.plain_extend_loop _,codeAny_extend_loopS T (by unfold IA at v;unfold DO;lia) _ C _ q.size 0 _ _ _ U (vI _)
  K p (ItemsOf.nil _) λs' wB c' r D X=>?_⟩
 show GC _ A (load s.heap.objs.size >>= _) _ _ s';refine BX (wpAny_load D ?_);refine BY ?_;rw[u7 X G];refine h f s' P (λb u e=>?_) r.gens r.os (DG.lt_size D);have g:b<s.heap.objs.size:=DG.lt_size e;refine r.heap b u (λz=>?_) (y b u (vE g) (H b u (DG.get?_push_of_some _ e)));rcases cf.mp z with z|z
 .exact vE g z
 .have V:b=I:=by simpa using z
  have N:(s.heap.push lo).objs.size<=I:=hI;rw[x,←V]at N;exact wh _ (vF g (Nat.le_of_succ_le N))
def wC(h:DG)(e T:DF)(cls f fl:Ct):Prop :=
 ∃b a d c,h.get? e=JH b/\(b.cls=cls/\a[0]?=JH f)/\b.data=.fields a/\a[1]?=JH (.ref T)/\T≠e/\h.get? T=JH d/\d.data=.fields c/\c[3]?=JH fl
inductive wD(h:DG)(L e:DF)(cls a0:Ct):List DF->Prop where
 |fresh {oe:Obj}{vs:Array Ct}(he:h.get? e=JH oe)(hc:oe.cls=cls)(hd:oe.data=.fields vs)(h1:vs[1]?=JH Ct.none)(h0:vs[0]?=JH a0):wD h L e cls a0 []
 |fly {T:DF}(x:wC h e T cls a0 .none):wD h L e cls a0 [T]
 |held {T:DF}(x:wC h e T cls a0 (G6 L)):wD h L e cls a0 [T]
variable{base:DG}
section
variable{M:Gn}{env:Env}{outer:List Env}{L e T:DF}{a0 cls fl:Ct}{Q:Unit->F7->Prop}{Ts:List DF}
theorem Stp.refl(F Y:List DF)(h:DG):Stp F Y h h:=⟨λ_ _ _ _ q=>q,λ_ o _ q=>⟨o.slots,q⟩⟩
theorem note(hf:A.frames=JH (env :: outer))(f:s.heap.FunFrames base (env :: outer))(v:env.frame=JH L)(x:wD s.heap L e cls a0 Ts)
  (h:∀h' p,Stp (frs (env :: outer)) (e :: Ts) s.heap h'->wC h' e p cls a0 (G6 L)->(s.heap.get? p=JI\/p∈Ts)->Q () { s with heap:=h' }):GC M A (HU (.ref e) env) Q E s:=by
 cases x with
 | @fresh u r he hc hd h1 h0 =>
  unfold HU;simp only[v];refine BX (Ju he hd h1 ?_);rw[JN (by decide)];refine wpAny_entryW (base:=W.hideAll s.heap ([e]++frs (env :: outer))) hf (gu _ f) v he (λb o q=>W.of_hideAll _ q) (W.hideAll_none _ (by simp)) hd (Array.getElem?_eq_some_iff.mp h1).1 h0 λh' V=>?_
  obtain⟨P,_,⟨d,c,T,m,g,O,t,N,K,J,k,j,i,I⟩,up⟩:=V;have n:∀b o,b∈frs (env :: outer)->s.heap.get? b=JH o->∃R,h'.get? b=JH { o with slots:=R }:=λb o a q=>by
   obtain⟨_,o2,l,S⟩:=f.mem a;rw[q]at l;cases l;exact up b o q S
  refine h h' T ⟨λb o a X q=>P b o (W.hideAll_get _ q (by simp only[ia];exact λz=>z.elim X a)),n⟩ ⟨d,c,m,g,O,⟨t.1.trans hc,t.2⟩,N,K,k,j,i,I⟩ ?_;rcases j3 f J n j i with z|z
  .exact .inl z
  .exact JP (by simpa using z) k
 | @fly T x =>
  obtain⟨u,r,m,g,H,G,F,D,C,B,y,w⟩:=x;refine Ih (base:=W.hideAll s.heap ([e,T]++frs (env :: outer))) hf (gu _ f) v ⟨u,r,T,m,g,H,G,F,D,W.hideAll_none _ (by simp),C,B,y,w⟩ (λb o q=>W.of_hideAll _ q) (W.hideAll_none _ (by simp)) λh' V=>?_
  obtain⟨P,_,⟨d,c,p,Z,Y,O,t,N,K,J,k,j,i,I⟩,up⟩:=V;have n:∀b o,b∈frs (env :: outer)->s.heap.get? b=JH o->∃R,h'.get? b=JH { o with slots:=R }:=λb o a q=>by
   obtain⟨_,o2,l,S⟩:=f.mem a;rw[q]at l;cases l;exact up b o q S
  refine h h' p ⟨λb o a X q=>P b o (W.hideAll_get _ q (by simp only[ia];exact λz=>z.elim X a)),n⟩ ⟨d,c,Z,Y,O,t,N,K,k,j,i,I⟩ ?_;rcases j3 f J n j i with z|z
  .exact .inl z
  .rcases cf.mp z with z|z
   .exact JP z k
   .exact .inr z
 | @held T x =>
  obtain⟨u,r,m,g,H,G,F,D,C,B,y,w⟩:=id x;exact wpAny_noteFrame_againW (base:=W.hideAll s.heap [T]) v ⟨u,r,T,m,g,H,G,F,D,W.hideAll_none _ (by simp),C,B,y,w⟩ (h s.heap T (Stp.refl _ _ _) x (.inr (by simp)))
theorem zE{fr:Option DF}{l:List Env}(B:s.heap.FunFrames base l)(x:wC s.heap e T cls a0 fl)(h:∀h',Stp (frs l) [e,T] s.heap h'->wC h' e T cls a0 (fr.elim Ct.none λf=>G6 f)->Q () { s with heap:=h' }):GC M A (Ig (.ref e) fr) Q E s:=by
 obtain⟨v,u,C,n,m,t,k,j,i,g,c,r⟩:=x;have sz:3<n.size:=(Array.getElem?_eq_some_iff.mp r).1;have a:∀b,b≠T->(s.heap.update T (Obj.mapFields (·.setIfInBounds 3 (fr.elim Ct.none λf=>G6 f)))).get? b=s.heap.get? b:=λb d=>DG.get?_update_other _ _ (Ne.symm d)
 unfold Ig;refine BX (Ju m k j ?_);rw[JO (show(Ct.ref T != Ct.none)=JJ by simp)];refine Je g c sz (h _ ⟨λb o d y q=>(a b λz=>y (by simp[z])).trans q,λb o d q=>?_⟩ ⟨v,u,_,_,(a e (Ne.symm i)).trans m,t,k,j,i,DG.get?_update_self _ g (Obj.isFreed_of_fields (Obj.data_mapFields c _)),Obj.data_mapFields c _,by simp[sz]⟩);obtain⟨_,D,p,w⟩:=B.mem d;rw[q]at p;cases p;exact⟨o.slots,(a b λz=>w n (by rw[z,g]at q;cases q;exact c)).trans q⟩
end
variable{JM:List (DF×Obj)}{σ:St}{H:Hp}{h':DG}
section
variable{Y:List DF}
theorem Inv.excStepY(I:Inv X JM σ H s)(st:Stp (frs X.stack) Y s.heap h')(h:∀b∈Y,fq X JM H b):Inv X JM σ H { s with heap:=h' }:=by
 have F:∀b,b≠X.env.locals->b ∉ X.fs->b ∉ frs X.stack:=λb R Q z=>(cf.mp (I.stkSub b z)).elim R Q
 have w:∀b o,X.s₀.heap.get? b=JH o->b ∉ Y:=λb o q z=>by rw[(h b z).ent]at q;cases q
 have B:∀b o,X.s₀.heap.get? b=JH o->b≠X.env.locals:=λb o q=>vE (vF (DG.lt_size q) I.ok.above)
 have any:∀b o,b ∉ Y->s.heap.get? b=JH o->∃t,h'.get? b=JH { o with slots:=t }:=λb o M q=>by
  by_cases J:b∈frs X.stack
  .exact st.slot b o J q
  .exact⟨o.slots,st.keep b o J M q⟩
 have e:∀x c,X.env.cells.lookup x=JH c->∀v,s.heap.IsCell c v->h'.IsCell c v:=λx c f v ⟨o,N,P⟩=>by
  obtain⟨t,q⟩:=any c o (λz=>(h c z).cel x c f U) N;exact⟨_,q,P⟩
 refine⟨I.ok,I.os,I.bare,⟨λb o q n g a=>?_,λb o q n g a=>?_,I.base.free,λb o q a=>?_,I.base.tups,I.base.frzs,I.base.tbls⟩,?_,λx c f=>?_,I.free,I.freeC,λp G=>?_,I.hok.stp st I.stkFree (λb g=>(h b g).unt),I.len⟩
 .exact st.keep b o (F b (B b o q) g) (w b o q) (I.base.keep b o q n g a)
 .obtain⟨t,A⟩:=I.base.slot b o q n g a;obtain⟨j,y⟩:=any b _ (w b o q) A;exact⟨j,y⟩
 .obtain⟨o1,A⟩:=I.base.there b o q a;obtain⟨j,y⟩:=any b _ (w b o q) A;exact⟨_,y⟩
 .obtain⟨m,⟨L,S,T,C,r⟩,O⟩:=I.loc;obtain⟨t,q⟩:=any X.env.locals L (λz=>(h _ z).loc U) C;refine⟨m,⟨_,S,T,q,r⟩,λi x v Z W V=>?_⟩;obtain⟨u,K,l⟩:=O i x v Z W V;refine⟨u,K,?_⟩;rcases l with l|⟨k,c,f,z⟩
  .exact .inl l
  .exact .inr ⟨k,c,f,e x c f _ z⟩
 .obtain⟨v,z⟩:=I.cell x c f;exact⟨v,e x c f v z⟩
 .obtain⟨q,n,E,D,d⟩:=I.pin p G;exact⟨st.keep p.1 p.2 (F p.1 E D) (λz=>(h _ z).pin p G U) q,n,E,D,d⟩
end
def AO(X:Cx)(L:DF)(E:XK):Ct->F7->Prop:=λf c=>∃(e C:DF)(g:Ct)(d:List DF)(JM:List (DF×Obj))(σ:St)(a:Hp),f=.ref e/\Inv X JM σ a c/\wD c.heap L e (.ref C) g d/\(∀b∈e :: d,fq X JM a b)/\E (.ref C) JI a
theorem vb{X:Cx}{L:DF}{E:XK}(a:X.stack=X.env :: X.outer)(c:X.env.frame=JH L)(y:X.ex=[]):G1 (model X.prog X.w) X.A X.env (AO X L E):=by
 rintro V d ⟨e,C,F,W,JM,σ,H,rfl,I,x,f,q⟩;have i:X.A.frames=JH (X.env :: X.outer):=by rw[←a];exact I.ok.frames
 have j:d.heap.FunFrames X.base (X.env :: X.outer):=by rw[←a];exact I.stack
 refine note i j c x λg T m k D=>?_
 rw[←a]at m;have o:=I.excStepY m f;have v:fq X JM H T:=by
  rcases D with z|z
  .exact I.newAt y z
  .exact f T (fG e z)
 have n:∀b∈[e,T],fq X JM H b:=λb B=>by
  rcases cf.mp B with z|z
  .rw[z];exact f e dt
  .rw[show b=T by simpa using z];exact v
 show GC (model X.prog X.w) X.A (do
  if (←field (.ref e) 1) == .none then unsupported "frame.own-activation:exception-without-traceback"
  Ig (.ref e) X.env.frame) _ _ { d with heap:=g }
 obtain⟨Q,O,R,P,t,N,r,p,M,K,J,G⟩:=id k;refine BX (Ju (s:={ d with heap:=g }) t r p ?_);rw[JN (show ¬ (Ct.ref T == Ct.none)=JJ by simp)];show GC (model X.prog X.w) X.A (Ig (.ref e) X.env.frame) _ _ _;rw[c];refine zE (s:={ d with heap:=g }) (l:=X.stack) o.stack k λS h u=>?_
 exact⟨e,C,F,[T],JM,σ,H,U,o.excStepY h n,.held u,n,q⟩
variable{P:Dn}{K:W.Frag}{N:List Str}{scope:Ge}{f:DF}
section
variable{mg:Str->Option Ct}{qual:Str}{cd:Ct}{outer:List Env}{s0:F7}{H0:Hp}{E:XK}
abbrev cxE(P:Dn)(w:Cu)(K:W.Frag)(mg:Str->Option Ct)(base:DG)(N:List Str)(qual:Str)(scope:Ge)(f:DF)(cd:Ct)(A:D7)(outer:List Env)(s0:F7)(H0:Hp)(E:XK):Cx :=
 (iY (CX1 P w) P w K mg base N qual scope f cd A outer s0 H0 E).wish (AO (iY (CX1 P w) P w K mg base N qual scope f cd A outer s0 H0 E) s0.heap.objs.size E)
theorem vc{n:Ct}{s:F7}(h:AO (iY (CX1 P w) P w K mg base N qual scope f cd A outer s0 H0 E) s0.heap.objs.size E n s):(iY (CX1 P w) P w K mg base N qual scope f cd A outer s0 H0 E).xe n s:=by
 obtain⟨e,C,B,F,JM,σ,H,rfl,I,x,g,q⟩:=h;have k:(iY (CX1 P w) P w K mg base N qual scope f cd A outer s0 H0 E).A.frames=JH (envOfC qual scope s0.heap.objs.size f cd :: outer):=I.ok.frames;have v:(envOfC qual scope s0.heap.objs.size f cd).frame=JH s0.heap.objs.size:=rfl;show GC (model P w) _ (leaving (envOfC qual scope s0.heap.objs.size f cd) (.ref e)) _ _ s;unfold leaving;refine BX (note k I.stack v x λy T t r u=>?_);have c:=I.excStepY t g;have j:fq (iY (CX1 P w) P w K mg base N qual scope f cd A outer s0 H0 E) JM H T:=by
  rcases u with z|z
  .exact I.newAt U z
  .exact g T (fG e z)
 have i:=g e dt;have m:∀b∈[e,T],fq (iY (CX1 P w) P w K mg base N qual scope f cd A outer s0 H0 E) JM H b:=λb a=>by
  rcases cf.mp a with z|z
  .rw[z];exact i
  .rw[show b=T by simpa using z];exact j
 refine zE (s:={ s with heap:=y }) (l:=envOfC qual scope s0.heap.objs.size f cd :: outer) c.stack r λD d p=>?_
 refine⟨e,T,C,B,H,U,c.os,c.bare,c.base.stp d (λb o q a=>?_) (λb a=>?_) (λb a=>(m b a).ent),c.hok.stp d c.stkFree (λb a=>(m b a).unt),p,i.ent,j.ent,i.unt,j.unt,q⟩
 .rcases cf.mp (c.stkSub b a)with z|z
  .exact JP (vF (DG.lt_size q) c.ok.above) (by rw[z];exact wh _)
  .exact z
 .show b∈frs (envOfC qual scope s0.heap.objs.size f cd :: outer);unfold frs;rw[nS];exact fG _ a
theorem PSs.leaves{st:List GK}{t:TS}(h:PSs (cxE P w K mg base N qual scope f cd A outer s0 H0 E) st t):PSs (iY (CX1 P w) P w K mg base N qual scope f cd A outer s0 H0 E) st t:=λJM s σ H D I a =>
 GL (h JM s σ H D (I.wish _) a) (λ_ _ q=>q.unwish) λ_ _ z=>vc z
theorem Fun.okE{x:Str}{st:GK}{e:Hq}{ps:List Str}{k:Nat}{sp:Sp}(F:Fun K x qual st f e)(S:aq N ps (ak st))(b:∀vs H Q E,sp vs H Q E->vs.length=ps.length)
  (j:∀(a:Ct)(A:D7)(outer:List Env)(s:F7)(H:Hp)(vs:List V)(Q:VK)(E:XK),bN k (A.deeper (envOfC qual (ak st) s.heap.objs.size f a))->sp vs H Q E ->
   ∃t,PSs (cxE P w K mg base N qual (ak st) f a A outer s H E) (cD st) t/\t { nx:=λ_ H'=>Q .non H',rt:=Q } (start N vs) H):aJ P w K mg base (CX1 P w) (k+1) f e ps sp:=by
 obtain⟨p,o,kV,m,n,u,a,r,l,rfl,g,d⟩:=F.ex;refine wa g d S b λA outer s H vs Q E i c=>?_
 obtain⟨t,h,q⟩:=j a A outer s H vs Q E i c;exact⟨t,h.leaves,q⟩
theorem vd{x:Str}{C:DF}{L d pos:Pos}{a:GG}{c:List GG}{t:TA}(X:ExcCls K C)(S:A.handled=JI)(R:Gl (cxE P w K mg base N qual scope f cd A outer s0 H0 E) x)(O:mg x=JH (.ref C))
  (V:PA (cxE P w K mg base N qual scope f cd A outer s0 H0 E) (a :: c) t)(k:(x == ("__debug__" : Str))=false:=by decide)
  (he:GJ (a :: c) (envOfC qual scope s0.heap.objs.size f cd)=(JK,eval a (envOfC qual scope s0.heap.objs.size f cd)) :: GJ c (envOfC qual scope s0.heap.objs.size f cd):=by rfl)
  (i:(GI d (GJ c (envOfC qual scope s0.heap.objs.size f cd))).any (·.1)=false:=by rfl) :
  PS (cxE P w K mg base N qual scope f cd A outer s0 H0 E) (.Raise (JH (.Call (.Name x L) (a :: c) [] d)) JI pos) (AI C E t):=by
 intro JM s σ H D I h;obtain⟨a3,a2,n,B,Bn,a0,wo,a1,M,F1,F2,u⟩:=X.ex;obtain⟨bm,N',nm,q,bs,hdct,sn,sub,ab,col,dd,k0,k1,k2,k3,k5,mN,G,F,y,p⟩:=ExcCls.obj I.ok.mod.kin M;refine wpAny_Raise_call_subU (C:=C) (nm:=nm) (q:=q) (N:=N') (bs:=bs) (bm:=bm) (hdct:=hdct) (sn:=sn) (sub:=sub) (ab:=ab) (col:=col) (dd:=dd) (k0:=k0) (k1:=k1) (k2:=k2) (k3:=k3) (k5:=k5) F1 F2 u (OwnTail.hasType p u.hasBase) S (by
  show(GI d (GJ (a :: c) (envOfC qual scope s0.heap.objs.size f cd))).any (·.1)=JK;rw[he];show(JK || (GI d (GJ c (envOfC qual scope s0.heap.objs.size f cd))).any (·.1))=JK;rw[i];rfl) (mN:=mN) y (dB I R O ⟨U,?_⟩ k)
 show GC _ _ (evalArgs (.ref C) JJ (GI d (GJ (a :: c) (envOfC qual scope s0.heap.objs.size f cd))) []) _ _ s;rw[he];refine Calls.evalArgs_plain ?_;have z:GC (model P w) (cxE P w K mg base N qual scope f cd A outer s0 H0 E).A (spliced (GI d (GJ (a :: c) (envOfC qual scope s0.heap.objs.size f cd)))) _ _ s:=V d JM s σ H _ I h;rw[he]at z;refine thn z λus s2 ⟨vs,H2,g,r,Q,v⟩=>⟨U,by rw[←r.length];exact Q,?_⟩
 refine⟨g.bk C _ G,?_,p.keeps g.bk,λh' e m=>?_⟩
 .obtain⟨o,l,Z,Y,W⟩:=F;exact⟨o,l,Z,g.bk _ _ Y,W⟩
 .have J:=g.unwish;obtain⟨t',j,_,_⟩:=m.there;refine⟨e,C,.ref t',[],JM,σ,H2,U,J.kept (t':=s2.toks) m.keeps,.fresh j U U U U,λb T=>?_,v⟩;rw[show b=e by simpa using T];exact J.newAt U m.new
theorem zF:Passes (CX1 P w) (cxE P w K mg base N qual scope f cd A outer s0 H0 E) E:=λJM σ H s k j I h=>by
 obtain⟨e,T,C,i,a,rfl,J,x,c,d,q⟩:=(I.unwish).afterX (EX:=λC a=>E (.ref C) JI a) U (λ_ _ z=>z) h;refine⟨e,C,i,[T],JM,σ,a,U,J,.fly x,λb g=>?_,q⟩;rcases cf.mp g with z|z
 .rw[z];exact c
 .rw[show b=T by simpa using z];exact d
end
theorem jk:cP X (.builtin "len") (λxs H Q=>∃(l:DF)(zs:List Str),xs=[.ref l]/\H l=JH (nG X.prog X.w l zs)/\zs.length<=1000/\Q (.int ((cntK zs zs.length:Nat):Int)) H):=by
 intro JM s σ H xs i Q I r h;obtain⟨l,zs,rfl,e,j,q⟩:=h;obtain⟨u,rfl,b⟩:=r.one;obtain rfl:u=Ct.ref l:=b;obtain⟨⟨o,k,m,t,g,f,d,_,_,_,c,a⟩,_,_⟩:=I.hok l _ e;have le:=j6 zs zs.length;refine call_len_set g f d c (by rw[a];lia) ⟨.int _,H,I.tok _,⟨_,U⟩,?_⟩;rw[a];exact q
def DP(sp:Sp)(E:XK)(t:TA):TE:=λσ H Q=>t σ H λa b=>sp a b Q E
variable{k:Nat}{C:DF}{fd:Hq}{ps:List Str}{sp:Sp}{x m:Str}{p np pos:Pos}{e:GG}{es:List GG}{t:TA}
section
variable{apos:Pos}{o:GG}{ta:TE}{E:XK}
theorem wF(M:cS X.prog X.w X.K X.mg X.base k x ps sp)(i:Passes (CX1 X.prog X.w) X E)(j:bN k X.A)(m:Gl X x)(n:PA X (e :: es) t)(c:(x == ("__debug__" : Str))=false:=by decide)
  (he:GJ (e :: es) X.env=(JK,eval e X.env) :: GJ es X.env:=by rfl)(a:(GI pos (GJ es X.env)).any (·.1)=false:=by rfl):PE X (.Call (.Name x p) (e :: es) [] pos) (DP sp E t):=by
 obtain⟨f,fd,F,b,g,l⟩:=M;intro JM s σ H Q I h;refine B7 (dB I m l ?_ c);refine W.callWith_K (h₀:=X.base) I.ok.mod.kin g (thn (n pos JM s σ H _ I h) λu v ⟨o,y,d,r,q⟩=>⟨d.kIn,ym F j b i d r q⟩) he a
end
theorem jv:∀{ns:List Int}{us:List Ct},Vals (ns.map V.int) us->∃xs:List (Int×Tok),us.toArray=Jv xs.toArray/\ns=xs.map (·.1)
 | [],_,.nil=>⟨[],by simp[Jv],U⟩
 |n :: ns,_,.cons ⟨t,e⟩ r=>by
  obtain⟨xs,c,b⟩:=jv r;refine⟨(n,t) :: xs,?_,by rw[b];rfl⟩;subst e;have a:=JT Array.toList c;simp[Jv]at a⊢;exact a
theorem oK{xs:Array (Int×Tok)}{i:Nat}(h:i<xs.size):numAt xs i∈xs.toList.map (·.1):=by
 rw[Jw];exact getD_mem (by rw[bo,zl];lia)
theorem fK(B:X.calm=JJ):cP X (.builtin "min") (λus H Q=>∃(a:DF)(ns:List Int),us=[.ref a]/\SqL X.K H a (ns.map V.int)/\0<ns.length/\∀m,m∈ns->(∀b∈ns,m<=b)->Q (.int m) H):=by
 intro JM s σ H us F Q I r h;obtain⟨a,ns,rfl,x,c,q⟩:=h;obtain⟨u,rfl,l⟩:=r.one;cases (show u=Ct.ref a from l);obtain⟨E,n,p,G⟩:=I.list x;obtain⟨xs,D,d⟩:=jv n;have g:=p.isList;rw[D]at g;have f:0<xs.toArray.size:=by
  rw[d,bo]at c;simpa using c
 refine min_intList (I.ok.hd B) g f λv h' k w y=>?_
 obtain⟨t,rfl⟩:=intItems_at w;obtain⟨J,C⟩:=argBest_lt (numAt xs.toArray) (xs.toArray.size-1);refine⟨.int _,H,I.kept (t':=k) λb o e=>y b o e,⟨t,U⟩,q _ ?_ λb i=>?_⟩
 .rw[d];exact oK (xs:=xs.toArray) (by lia)
 .rw[d]at i;obtain⟨j,A,rfl⟩:=mem_getD i;rw[bo]at A;have z:=C j (by simp;lia);rw[Jw]at z⊢;rw[Jw]at z;simpa using z
theorem fL(B:X.calm=JJ):cP X (.builtin "max") (λus H Q=>∃(a:DF)(ns:List Int),us=[.ref a]/\SqL X.K H a (ns.map V.int)/\0<ns.length/\∀m,m∈ns->(∀b∈ns,b<=m)->Q (.int m) H):=by
 intro JM s σ H us F Q I r h;obtain⟨a,ns,rfl,x,c,q⟩:=h;obtain⟨u,rfl,l⟩:=r.one;cases (show u=Ct.ref a from l);obtain⟨E,n,p,G⟩:=I.list x;obtain⟨xs,D,d⟩:=jv n;have g:=p.isList;rw[D]at g;have f:0<xs.toArray.size:=by
  rw[d,bo]at c;simpa using c
 refine max_intList (I.ok.hd B) g f λv h' k w y=>?_
 obtain⟨t,rfl⟩:=intItems_at w;obtain⟨J,C⟩:=argBest_gt (numAt xs.toArray) (xs.toArray.size-1);refine⟨.int _,H,I.kept (t':=k) λb o e=>y b o e,⟨t,U⟩,q _ ?_ λb i=>?_⟩
 .rw[d];exact oK (xs:=xs.toArray) (by lia)
 .rw[d]at i;obtain⟨j,A,rfl⟩:=mem_getD i;rw[bo]at A;have z:=C j (by simp;lia);rw[Jw]at z⊢;rw[Jw]at z;simpa using z
def yu(P:Dn)(w:Cu)(a:DF)(ns:List Int):HO:=.ext λh=>h.SetOf (DU P w) a (λz=>decide (z∈ns)) (cntK ns ns.length)
theorem mm:∀{zs:List Int}{us:List Ct},Vals (zs.map V.int) us->∀(i:Nat)(v:Ct),us[i]?=JH v->∃z t,zs[i]?=JH z/\v=.int z t
 | [],_,.nil,i,v,h=>by simp at h
 |z :: zs,_,.cons ⟨t,e⟩ r,0,v,h=>by simp at h;exact⟨z,t,U,by rw[←h,e]⟩
 |z :: zs,_,.cons _ r,i+1,v,h=>by
  obtain⟨a,t,c,b⟩:=mm r i v (by simpa using h);exact⟨a,t,by simpa using c,b⟩
theorem nI(B:X.calm=JJ):cP X (.type "set") (λxs H Q=>∃(p:DF)(zs:List Int),xs=[.ref p]/\SqL X.K H p (zs.map V.int)/\zs.length<=1000/\∀l,H l=JI->Q (.ref l) (upd H l (yu X.prog X.w l zs))):=by
 intro JM s σ H xs F Q I r h;obtain⟨p,zs,rfl,C,G,q⟩:=h;obtain⟨u,rfl,n⟩:=r.one;obtain rfl:u=Ct.ref p:=n;obtain⟨E,d,A,_⟩:=I.list C;have f:=d.length;rw[bo]at f;refine oF (knd:=DU X.prog X.w) (ks:=zs) (I.ok.hd B) A.isList (λi v e=>?_) (by simpa using f) (by unfold IA;simp;lia) λh' m x=>?_
 .obtain⟨z,t,D,rfl⟩:=mm d i v (by simpa using e);exact⟨z,D,by show Ct.isInt z (.int z t)=JJ;simp[Ct.isInt],U⟩
 .obtain⟨c,j⟩:=x;refine⟨.ref s.heap.objs.size,_,I.laid (a:=s.heap.objs.size) (o:=yu X.prog X.w s.heap.objs.size zs) (h':=h') (t':=m) (λb o q=>j b o (DG.lt_size q) q) (vD _) ?_,U,q _ I.fresh⟩;refine⟨c,?_,λL J y k=>gw y k⟩;obtain⟨o,_,_,_,g,_⟩:=c;exact⟨o,g⟩
theorem nJ:cP X (.builtin "len") (λxs H Q=>∃(l:DF)(zs:List Int),xs=[.ref l]/\H l=JH (yu X.prog X.w l zs)/\zs.length<=1000/\Q (.int ((cntK zs zs.length:Nat):Int)) H):=by
 intro JM s σ H xs i Q I r h;obtain⟨l,zs,rfl,e,j,q⟩:=h;obtain⟨u,rfl,b⟩:=r.one;obtain rfl:u=Ct.ref l:=b;obtain⟨⟨o,es,k,t,g,f,d,_,_,_,c,a⟩,_,_⟩:=I.hok l _ e;have le:=j6 zs zs.length;refine call_len_set g f d c (by rw[a];lia) ⟨.int _,H,I.tok _,⟨_,U⟩,?_⟩;rw[a];exact q
theorem qI{b:Type} [DecidableEq b] {k:b}{ks:List b}:∀i,i<=ks.length->1<=cntK (k :: ks) (i+1)/\(cntK (k :: ks) (i+1)=1↔∀x∈ks.take i,x=k)
 |0,_=>by simp[cntK]
 |i+1,h=>by
  obtain⟨d,c⟩:=qI (k:=k) (ks:=ks) i (by lia);have e:(k :: ks)[i+1]?=JH ks[i]:=by simp
  have j:ks[i]?=JH ks[i]:=Gz (by lia);have f:ks.take (i+1)=ks.take i++[ks[i]]:=by rw[nu,j];rfl
  have g:(k :: ks).take (i+1)=k :: ks.take i:=rfl;rw[show cntK (k :: ks) (i+1+1)=match (k :: ks)[i+1]? with
   |some x=>if x∈(k :: ks).take (i+1)then cntK (k :: ks) (i+1)else cntK (k :: ks) (i+1)+1
   |none=>cntK (k :: ks) (i+1)from U,e,f,g]
  dsimp only;by_cases m:ks[i]∈k :: ks.take i
  .rw[JO m];refine⟨d,c.trans ⟨λz x a=>?_,λz x a=>z x (kN _ a)⟩⟩;rcases ia.mp a with a|a
   .exact z x a
   .have:x=ks[i]:=by simpa using a
    rw[this];rcases cf.mp m with m|m
    .exact m
    .exact z _ m
  .rw[JN m];refine⟨by lia,⟨λz=>JP z (by lia),λz=>?_⟩⟩;exact JP (z ks[i] (jE _ (by simp))) λq=>m (by rw[q];exact dt)
theorem oM{a:Type} [DecidableEq a] {k:a}{ks:List a}:cntK (k :: ks) (k :: ks).length=1↔∀x∈ks,x=k:=by
 have:=(qI (k:=k) (ks:=ks) ks.length (vD _)).2;rw[eU]at this;exact this
def TyG(K:W.Frag)(H:Hp)(x:V)(t:Ct):Prop:=kD K H x t\/∃a b,x=.ref a/\SqT K H a b/\t=.type "tuple"
inductive ClV:V->Ct->Prop where
 |ty (T:String):ClV (.ty T) (.type T)
 |ref (C:DF):ClV (.ref C) (.ref C)
theorem bC:cP X (.builtin "isinstance") (λxs H Q=>∃x c d t b,xs=[x,c]/\ClV c d/\TyG X.K H x t/\W.kitOne X.K t d=JH b/\Q (.bl b) H):=by
 intro JM s σ H xs v Q I r h;obtain⟨x,c,d,t,b,rfl,i,ty,e,q⟩:=h;cases r with
 |cons g j =>
  cases j with
  | @cons _ cu _ _ ry r3 =>
   cases r3;have n:cu=d:=by cases i <;> exact ry
   subst n;rcases ty with ty|⟨a,u,rfl,k,rfl⟩
   .exact uJ I g ty e λf=>⟨.bl b,H,I.tok f,U,q⟩
   .cases (show _=Ct.ref a from g);obtain⟨p,r,⟨o,m,l,_⟩,_⟩:=I.tuple k;exact W.kia_one W.kitx_tuple I.kIn ⟨o,m,l⟩ e (λz=>nomatch z) λf=>⟨.bl b,H,I.tok f,U,q⟩
structure mn(K:W.Frag)(C:DF):Prop where
 cl:Cls K C
 ha:W.findIn K (.ref C) "__class__" = JH (JH (.builtin "object.__class__"))
 hn:W.specialIn K (.builtin "object.__class__") "__get__" = JH (JH (.builtin "getset_descriptor.__get__"))
 tk:W.takesIn K (.builtin "object.__class__")=JH JJ
 hm:W.mroIn K C (.type "object")=JH JJ
theorem mn.ty{K:W.Frag}{C:DF}(h:mn K C){H:Hp}{a b:DF}{fs:List (Str×V)}(e:H a=JH (.ins C b fs)):TyG K H (.ref a) (.ref C):=.inl (.ins e h.cl h.ha h.hn h.tk h.hm)
def yv(CX:CXT)(P:Dn)(w:Cu)(K:W.Frag)(mg:Str->Option Ct)(base:DG)(k:Nat)(m:Str)(ps:List Str)(a:List (DF×Sp)):Prop :=
 ∀p∈a,bg CX P w K mg base k p.1 m ps p.2/\Cls K p.1
variable{CX:CXT}
section
variable{mg:Str->Option Ct}{cs:List (DF×Sp)}
theorem B8:yv CX P w K mg base k m ps []:=λ_ h=>nomatch h
theorem qJ(M:bg CX P w K mg base k C m ps sp)(c:Cls K C)(r:yv CX P w K mg base k m ps cs):yv CX P w K mg base k m ps ((C,sp) :: cs):=λp h=>by
 rcases cf.mp h with rfl|h
 .exact⟨M,c⟩
 .exact r p h
end
inductive zG(cs:List (DF×Sp))(m:Str)(t:TA)(σ:St)(Q:VK)(x:V)(H1:Hp):Prop
 |mk (a p dx fs:_)(_:x=.ref a)(_:p∈cs)(_:H1 a=JH (.ins p.1 dx fs))(_:fs.lookup m=JI)(_:t σ H1 λvs H2=>p.2 (x :: vs) H2 Q E0):zG cs m t σ Q x H1
def DQ(b:List (DF×Sp))(m:Str)(a:TE)(t:TA):TE:=λσ H Q=>a σ H λx c=>zG b m t σ Q x c
section
variable{apos:Pos}{o:GG}{ta:TE}{cs:List (DF×Sp)}
theorem wG{pl:Sem Bool}(M:yv CX X.prog X.w X.K X.mg X.base k m ps cs)(B:Passes CX X E0)(D:bN k X.A)(G:PE X o ta)(L:PA X (e :: es) t)
  (b:GJ (e :: es) X.env=(JK,eval e X.env) :: GJ es X.env:=by rfl)(d:(GI pos (GJ es X.env)).any (·.1)=false:=by rfl)
  (C:eval (.Call (.Attribute o m apos) (e :: es) [] pos) X.env=(do
   let g ←eval o X.env
   GQ apos.atName
   let (f,first) ←holding [g] (Hi g m pl)
   Iy pos f first (GI pos (GJ (e :: es) X.env)) (HL pos (HM [] X.env))):=by rfl) :
  PE X (.Call (.Attribute o m apos) (e :: es) [] pos) (DQ cs m ta t):=by
 intro JM s σ H Q I h;refine W.methodCall_KW (pl:=pl) (thn (G JM s σ H _ I h) λu v ⟨x,P,n,y,a,p,R,fs,N,E,O,l,q⟩=>?_) C;obtain⟨⟨f,fd,i,F,J⟩,c⟩:=M p E;subst N;obtain rfl:u=Ct.ref a:=y;refine lS n O c i l ?_;refine W.callWith_K (first:=[.ref a]) (h₀:=X.base) I.ok.mod.kin i.kp (thn (L pos JM v σ P _ n q) λus s2 ⟨vs,S,j,r,z⟩=>⟨j.kIn,?_⟩) b d;exact ym (us:=.ref a :: us) (vs:=.ref a :: vs) F D J B j (.cons U r) z
theorem kH(M:bq CX X.prog X.w X.K X.mg X.base k x C ps sp)(b:Passes CX X E0)(c:bN (k+1) X.A)(e:Gl X x)(a:(x == ("__debug__" : Str))=false:=by decide) :
  PE X (.Call (.Name x p) [] [] pos) (tMk C sp Aw):=by
 obtain⟨f,fd,M,F,g,d⟩:=M;have h:=v9 (E:=E0) (dvs:=[]) (ds:=[]) (p:=p) (pos:=pos) M F c e d g .nil b a;intro JM s σ H Q I q;exact h JM s σ H Q I q
end
def ModT(K:W.Frag)(a:DF)(xs:List V):Prop:=∃(o:Obj)(b:Array Ct)(n:Nat),K.lookup a=JH o/\o.cls=.type "tuple" /\ o.data=.seq b n/\b.size<=DO/\Vals xs b.toList
theorem ModT.sq{K:W.Frag}{a:DF}{xs:List V}(h:ModT K a xs)(H:Hp):SqT K H a xs:=.inr h
theorem ModT.mk{K:W.Frag}{a:DF}{xs:List V}{d:Option DF}{b:Array Ct}{n:Nat}{c:Array (Option Ct)}(h:K.lookup a=JH ⟨.type "tuple",d,.seq b n,c⟩) (f:b.size<=DO)(e:Vals xs b.toList):ModT K a xs :=
 ⟨_,b,n,h,U,U,f,e⟩
theorem ve{K:W.Frag}{H:Hp}{Q:VK}{a b:DF}{xs:List V}(f:SqL K H a xs)(e:SqL K H b xs)(fl:∀x∈xs,dR x=JJ\/∃r,x=.ref r)(q:Q (.bl JJ) H):uO K JK (.ref a) (.ref b) H Q:=by
 refine⟨a,b,xs,xs,U,U,f,e,.inr ⟨U,λ_=>JJ,λj x y d c=>?_,?_⟩⟩
 .rw[d]at c;cases c;rcases fl x (GB d)with z|⟨r,rfl⟩
  .have:=EqI.flat (K:=K) (H:=H) z z;rw[jY z]at this;exact this
  .exact .same r
 .have:(List.range xs.length).all (λ_=>JJ)=true:=by simp
  rw[this];exact q
theorem dD{c A B:Prop} [Decidable c] (a:c)(h:A):if decide c=JJ then A else B:=by rw[JO (JQ a)];exact h
theorem br{c A B:Prop} [Decidable c] (a:¬ c)(h:B):if decide c=JJ then A else B:=by rw[JN (by rw[JR a];decide)];exact h
theorem ls0{P:List Ct->Prop}(h:P []):∀us:List Ct,us.length=0->P us:=λus e=>by
 cases us
 .exact h
 .cases e
theorem lsS{P:List Ct->Prop}{n:Nat}(h:∀a us,us.length=n->P (a :: us)):∀us:List Ct,us.length=n+1->P us:=λus e=>by
 cases us
 .cases e
 .exact h _ _ (Nat.succ.inj e)
theorem ls1{P:List Ct->Prop}(h:∀a,P [a]):∀us:List Ct,us.length=1->P us:=lsS λa=>ls0 (P:=λv=>P (a :: v)) (h a)
theorem ls2{P:List Ct->Prop}(h:∀a b,P [a,b]):∀us:List Ct,us.length=2->P us:=lsS λa=>ls1 (P:=λv=>P (a :: v)) (h a)
theorem ls3{P:List Ct->Prop}(h:∀a b c,P [a,b,c]):∀us:List Ct,us.length=3->P us:=lsS λa=>ls2 (P:=λv=>P (a :: v)) (h a)
theorem ls4{P:List Ct->Prop}(h:∀a b c d,P [a,b,c,d]):∀us:List Ct,us.length=4->P us:=lsS λa=>ls3 (P:=λv=>P (a :: v)) (h a)
theorem ls5{P:List Ct->Prop}(h:∀a b c d e,P [a,b,c,d,e]):∀us:List Ct,us.length=5->P us:=lsS λa=>ls4 (P:=λv=>P (a :: v)) (h a)
theorem ls6{P:List Ct->Prop}(h:∀a b c d e f,P [a,b,c,d,e,f]):∀us:List Ct,us.length=6->P us:=lsS λa=>ls5 (P:=λv=>P (a :: v)) (h a)
theorem ls7{P:List Ct->Prop}(h:∀a b c d e f g,P [a,b,c,d,e,f,g]):∀us:List Ct,us.length=7->P us:=lsS λa=>ls6 (P:=λv=>P (a :: v)) (h a)
theorem lb1{fd:Hq}{ps:List Str}(h:∀a,Hs fd ⟨[a],[]⟩=pure (ps.zip [a])):∀us:List Ct,us.length=1->Hs fd ⟨us,[]⟩=pure (ps.zip us):=ls1 (P:=λus=>Hs fd ⟨us,[]⟩=pure (ps.zip us)) h
theorem lb2{fd:Hq}{ps:List Str}(h:∀a b,Hs fd ⟨[a,b],[]⟩=pure (ps.zip [a,b])):∀us:List Ct,us.length=2->Hs fd ⟨us,[]⟩=pure (ps.zip us):=ls2 (P:=λus=>Hs fd ⟨us,[]⟩=pure (ps.zip us)) h
theorem lb3{fd:Hq}{ps:List Str}(h:∀a b c,Hs fd ⟨[a,b,c],[]⟩=pure (ps.zip [a,b,c])):∀us:List Ct,us.length=3->Hs fd ⟨us,[]⟩=pure (ps.zip us):=ls3 (P:=λus=>Hs fd ⟨us,[]⟩=pure (ps.zip us)) h
theorem lb4{fd:Hq}{ps:List Str}(h:∀a b c d,Hs fd ⟨[a,b,c,d],[]⟩=pure (ps.zip [a,b,c,d])):∀us:List Ct,us.length=4->Hs fd ⟨us,[]⟩=pure (ps.zip us):=ls4 (P:=λus=>Hs fd ⟨us,[]⟩=pure (ps.zip us)) h
theorem lb5{fd:Hq}{ps:List Str}(h:∀a b c d e,Hs fd ⟨[a,b,c,d,e],[]⟩=pure (ps.zip [a,b,c,d,e])):∀us:List Ct,us.length=5->Hs fd ⟨us,[]⟩=pure (ps.zip us):=ls5 (P:=λus=>Hs fd ⟨us,[]⟩=pure (ps.zip us)) h
theorem lb7{fd:Hq}{ps:List Str}(h:∀a b c d e f g,Hs fd ⟨[a,b,c,d,e,f,g],[]⟩=pure (ps.zip [a,b,c,d,e,f,g])):∀us:List Ct,us.length=7->Hs fd ⟨us,[]⟩=pure (ps.zip us):=ls7 (P:=λus=>Hs fd ⟨us,[]⟩=pure (ps.zip us)) h
section
variable{mg:Str->Option Ct}{j:Nat}{q:Str}{st:GK}
theorem fsc{P:List Str}{f:Ge}(a:f.kind=.function:=by rfl)(b:f.isCoroutine=false:=by rfl)(c:f.isGenerator=false:=by rfl)(d:N.Nodup:=by decide+kernel)(e:N.take P.length=P:=by rfl)(g:∀x∈P,f.names.lookup x=JH .local\/f.names.lookup x=JH .cell:=by decide+kernel)(h:∀y∈f.names,y.2≠.free:=by decide+kernel):aq N P f:=⟨a,b,c,d,e,g,h⟩
theorem Fun.okA(F:Fun K x q st f fd)(S:aq N ps (ak st))(d:∀(b:Ct)(A:D7)(a:List Env)(s:F7)(H:Hp)(vs:List V)(Q:VK)(E:XK),bN k (A.deeper (envOfC q (ak st) s.heap.objs.size f b))->sp vs H Q E->∃t,PSs (iY CX0 P w K mg base N q (ak st) f b A a s H E).nox (cD st) t/\t { nx:=λ_ H'=>Q .non H',rt:=Q } (start N vs) H)(c:∀vs H Q E,sp vs H Q E->vs.length=ps.length:=by intro vs H Q E h;cases h;subst_vars;rfl):aJ P w K mg base CX0 (k+1) f fd ps sp:=F.ok S c d
theorem Fun.okEA(F:Fun K x q st f fd)(S:aq N ps (ak st))(d:∀(b:Ct)(A:D7)(a:List Env)(s:F7)(H:Hp)(vs:List V)(Q:VK)(E:XK),bN k (A.deeper (envOfC q (ak st) s.heap.objs.size f b))->sp vs H Q E->∃t,PSs (cxE P w K mg base N q (ak st) f b A a s H E) (cD st) t/\t { nx:=λ_ H'=>Q .non H',rt:=Q } (start N vs) H)(c:∀vs H Q E,sp vs H Q E->vs.length=ps.length:=by intro vs H Q E h;cases h;subst_vars;rfl):aJ P w K mg base (CX1 P w) (k+1) f fd ps sp:=F.okE S c d
theorem Callee.up(c:Callee P w K mg base j x ps sp)(h:j<=k:=by decide):Callee P w K mg base k x ps sp:=c.mono h
theorem cS.up(c:cS P w K mg base j x ps sp)(h:j<=k:=by decide):cS P w K mg base k x ps sp:=c.mono h
theorem bg.up(c:bg CX P w K mg base j C m ps sp)(h:j<=k:=by decide):bg CX P w K mg base k C m ps sp:=c.mono h
theorem bq.up(c:bq CX P w K mg base j x C ps sp)(h:j<=k:=by decide):bq CX P w K mg base k x C ps sp:=c.mono h
theorem b7.up(c:b7 CX P w K mg base j x m ps sp)(h:j<=k:=by decide):b7 CX P w K mg base k x m ps sp:=c.mono h
inductive GF(K:W.Frag)(x q:Str)(st:GK):Prop
 |mk {f:DF}{fd:Hq}(a:W.nsIn K D0 x=JH (JH (.ref f)))(F:Fun K q q st f fd)
inductive MF(K:W.Frag)(C:DF)(x q:Str)(st:GK):Prop
 |mk {f:DF}{fd:Hq}(a:W.findIn K (.ref C) x=JH (JH (.ref f)))(i:W.isFn K (.ref f)=JJ)(F:Fun K x q st f fd)
inductive KF(K:W.Frag)(C:DF)(x q:Str)(st:GK):Prop
 |mk {f:DF}{fd:Hq}(a:W.findIn K (.ref C) "__init__" = JH (JH (.ref f))) (i:W.isFn K (.ref f)=JJ)(m:W.makesIn K C=JJ)(k:W.keepIn K (.ref C)=JJ)(n:W.nsIn K D0 x=JH (JH (.ref C)))(F:Fun K "__init__" q st f fd)
inductive BF(K:W.Frag)(C:DF)(x m q:Str)(st:GK):Prop
 |mk {f:DF}{fd:Hq}(s:W.specialIn K (.ref C) "__getattribute__" = JH (JH (.builtin "type.__getattribute__"))) (r:W.readsIn K C (.type "type")=JJ) (a:W.findCls K (.ref C) (.type "type") m=JH (.val (.ref f))) (n:W.nsIn K D0 x=JH (JH (.ref C)))(F:Fun K m q st f fd)
inductive Zb(P:Dn)(w:Cu)(K:W.Frag)(mg:Str->Option Ct)(base:DG):Prop
 |mk {h:DG}(X:K.In h)(G:h.Ns D0 mg)
theorem Zb.g(Z:Zb P w K mg base){v:Ct}(e:W.nsIn K D0 x=JH (JH v)):mg x=JH v:=by cases Z with|mk X G=>exact W.mg_of X G e
theorem mkC(Z:Zb P w K mg base)(h:GF K x q st)(O:∀{f:DF}{fd:Hq},Fun K q q st f fd->aJ P w K mg base CX0 k f fd ps sp)(b:∀{f:DF}{fd:Hq},Fun K q q st f fd->Binds K fd ps []:=by trivial):Callee P w K mg base k x ps sp:=by
 cases h with|mk a F=>exact⟨_,_,O F,b F,F.kp,Z.g a⟩
theorem mkX(Z:Zb P w K mg base)(h:GF K x q st)(O:∀{f:DF}{fd:Hq},Fun K q q st f fd->aJ P w K mg base (CX1 P w) k f fd ps sp)(b:∀{f:DF}{fd:Hq},Fun K q q st f fd->Binds K fd ps []:=by trivial):cS P w K mg base k x ps sp:=by
 cases h with|mk a F=>exact⟨_,_,O F,b F,F.kp,Z.g a⟩
theorem mkM(_:Zb P w K mg base)(h:MF K C m q st)(O:∀{f:DF}{fd:Hq},Fun K m q st f fd->aJ P w K mg base CX k f fd ps sp)(b:∀{f:DF}{fd:Hq},Fun K m q st f fd->Binds K fd ps []:=by trivial):bg CX P w K mg base k C m ps sp:=by
 cases h with|mk a i F=>exact⟨_,_,⟨a,i,F.kp⟩,O F,b F⟩
theorem mkK(Z:Zb P w K mg base)(h:KF K C x q st)(O:∀{f:DF}{fd:Hq},Fun K "__init__" q st f fd->aJ P w K mg base CX k f fd ps sp) (b:∀{f:DF}{fd:Hq},Fun K "__init__" q st f fd->Binds K fd ps []:=by trivial):bq CX P w K mg base k x C ps sp:=by
 cases h with|mk a i m k n F=>exact⟨_,_,⟨m,a,i,k⟩,O F,b F,Z.g n⟩
theorem mkB(Z:Zb P w K mg base)(h:BF K C x m q st)(O:∀{f:DF}{fd:Hq},Fun K m q st f fd->aJ P w K mg base CX k f fd ps sp)(b:∀{f:DF}{fd:Hq},Fun K m q st f fd->Binds K fd ps []:=by trivial):b7 CX P w K mg base k x m ps sp:=by
 cases h with|mk s r a n F=>exact⟨_,_,_,⟨s,r,a,F.kp⟩,O F,b F,Z.g n⟩
theorem mkR{sp:Nat->Sp}(Z:Zb P w K mg base)(h:GF K x q st)(k n:Nat)(z:∀{vs:List V}{H:Hp}{Q:VK}{E:XK},¬ sp 0 vs H Q E)(O:∀{f:DF}{fd:Hq}(n:Nat),Fun K q q st f fd->Callee P w K mg base (k+n) x ps (sp n)->aJ P w K mg base CX0 (k+n+1) f fd ps (sp (n+1)))(b:∀{f:DF}{fd:Hq},Fun K q q st f fd->Binds K fd ps []:=by trivial):Callee P w K mg base (k+n) x ps (sp n):=by
 cases h with|mk a F =>
 refine⟨_,_,?_,b F,F.kp,Z.g a⟩;induction n with
 |zero=>exact aJ.no λ_ _ _ _ h=>z h
 |succ n c=>exact O n F ⟨_,_,c,b F,F.kp,Z.g a⟩
theorem gv_mk{v:V}{u:Ct}(a:W.nsIn K D0 x=JH (JH u))(r:RelV v u):∃u,W.nsIn K D0 x=JH (JH u)/\RelV v u:=⟨u,a,r⟩
end
theorem Inv.turnedPair{ch:List DF}{T:DF}{x y:V}{u v:Ct}(I:Inv X JM σ H s)(h:∀b∈ch,ky X JM H b)(k:∀b o,b ∉ ch->s.heap.get? b=JH o->h'.get? b=JH o)
  (A:s.heap.get? T=JI)(D:H T=JI)(E:Jx h' T u v)(t:RelV x u)(p:RelV y v):Inv X JM σ (upd H T (.tup [x,y])) { s with heap:=h' }:=by
 have out:∀b u,H b=JH u->b ∉ ch:=λb u e z=>by
  have f:=(h b z).1;rw[f]at e;cases e
 have j:∀{b o},s.heap.get? b=JH o->b≠T:=λe z=>by rw[z,A]at e;cases e
 have a:∀{b u},H b=JH u->b≠T:=λe z=>by rw[z,D]at e;cases e
 have J:=Inv.step (H':=upd H T (.tup [x,y])) (h':=h') (g':=s.gens) (d':=s.drawn) (t':=s.toks) (ch:=ch) I
  (λb g=>by obtain⟨_,i,_,K,G,F⟩:=h b g;exact⟨K,i,G,F⟩)
  (λb o _ _ d e _=>k b o d e)
  (λb o _ _ d e _=>⟨o.slots,k b o d e⟩)
  (λb o _ e n=>by rw[ay (j e)];exact n)
  (λb o d e=>⟨o,k b o d e⟩)
  (λb l e=>by rw[ay (a e)];exact e)
  (λb o w e=>by rw[ay (a e)];exact e)
  (λb ps e=>⟨#[],by rw[ay (a e),e];simp⟩)
  (λm C=>by
   obtain⟨o,es,L,B,r⟩:=C;refine⟨o,es,L,k _ o (λz=>?_) B,r⟩;obtain⟨_,i,_⟩:=h _ z;exact i U)
  (λb w e=>by
   by_cases g:b=T
   .subst g;rw[ae]at e;cases e;exact⟨by show 2<=DO;decide,[u,v],.cons t (.cons p .nil),_,E,U,_,U⟩
   .rw[ay g]at e;refine(I.hok b w e).stay (λc z d q=>k c z ?_ q) (λc q=>?_) λc l q=>?_
    .rcases d with z|z
     .rw[z];exact out b w e
     .exact out c _ z
    .rw[ay (a q)];exact q
    .rw[ay (a q)];exact q)
  I.bare
 exact J
theorem Inv.turnedL{ch:List DF}(I:Inv X JM σ H s)(d:∀b∈ch,ky X JM H b)(k:∀b o,b ∉ ch->s.heap.get? b=JH o->h'.get? b=JH o):Inv X JM σ H { s with heap:=h' }:=by
 have out:∀b u,H b=JH u->b ∉ ch:=λb u e z=>by
  have f:=(d b z).1;rw[f]at e;cases e
 have J:=Inv.step (H':=H) (h':=h') (g':=s.gens) (d':=s.drawn) (t':=s.toks) (ch:=ch) I
  (λb l=>by obtain⟨_,g,_,v,t,p⟩:=d b l;exact⟨v,g,t,p⟩)
  (λb o _ _ a e _=>k b o a e)
  (λb o _ _ a e _=>⟨o.slots,k b o a e⟩)
  (λb o _ _ n=>n)
  (λb o a e=>⟨o,k b o a e⟩)
  (λb h e=>e) (λb o w e=>e) (λb ps e=>⟨#[],by rw[e];simp⟩)
  (λm j=>by
   obtain⟨o,es,x,i,r⟩:=j;refine⟨o,es,x,k _ o (λz=>?_) i,r⟩;obtain⟨_,g,_⟩:=d _ z;exact g U)
  (λb w e=>by
   refine(I.hok b w e).stay (λc z a q=>k c z ?_ q) (λc q=>q) λc h q=>q
   rcases a with z|z
   .rw[z];exact out b w e
   .exact out c _ z)
  I.bare
 exact J
def Itz(K:W.Frag)(a b:DF):It :=
 ⟨λi H=>∃d c x y,SqL K H a d/\SqL K H b c/\d[i]?=JH x/\c[i]?=JH y,
 λi H v e=>∃T,H T=JI/\v=.ref T/\∀d c x y,SqL K H a d->SqL K H b c->d[i]?=JH x->c[i]?=JH y->e=upd H T (.tup [x,y]),
 λi H=>∃d c,SqL K H a d/\SqL K H b c/\(d.length<=i\/c.length<=i)⟩
def zH(z TI TO d c a b:DF)(i:Nat)(h:DG):Prop:=IsZip h z TI TO .none/\Jx h TI (.ref d) (.ref c)/\(∃p q,Jx h TO p q)/\h.IsListIter d a i/\h.IsListIter c b i
theorem wH{P:Dn}{w:Cu}{K:W.Frag}{A:List GG} {x1} {tp:Pos}{z TI TO t r a b:DF}(D:Jy z TI TO t r a b) :
  Turn P w K (.Tuple A x1 tp) (Itz K a b) [z,TI,TO,t,r] z (zH z TI TO t r a b) where
 mem:=by simp
 obj:=λi h f c d=>by
  obtain⟨n,g,⟨p,q,m⟩,⟨o4,l,_,d4⟩,⟨o5,j,_,d5⟩⟩:=f;simp only[cf,jG,or_false]at d;rcases d with rfl|rfl|rfl|rfl|rfl
  .exact⟨_,n,λv q=>nomatch q⟩
  .exact⟨_,g,λv q=>nomatch q⟩
  .exact⟨_,m,λv q=>nomatch q⟩
  .exact⟨_,l,λv q=>by rw[d4]at q;cases q⟩
  .exact⟨_,j,λv q=>by rw[d5]at q;cases q⟩
 keep:=λi h h' f k=>by
  obtain⟨n,g,⟨p,q,m⟩,l,j⟩:=f;exact⟨k z (by simp) _ n,k TI (by simp) _ g,⟨p,q,k TO (by simp) _ m⟩,l.at λo e=>k t (by simp) o e,j.at λo e=>k r (by simp) o e⟩
 item:=by
  intro X R N S d i JM s σ H E I F f Q;subst R N S;obtain⟨xs,ys,x,y,C,B,ex,ey⟩:=Q;obtain⟨n,g,⟨p,q,m⟩,l,j⟩:=f;obtain⟨us,L,M,_⟩:=I.list C;obtain⟨vs,G,pv,_⟩:=I.list B;obtain⟨u,eu,r1⟩:=L.get ex;obtain⟨v,ev,r2⟩:=G.get ey;refine Jz D n g m l j M.isList pv.isList (x:=u) (y:=v) (by simpa using eu) (by simpa using ev) λh1 a1 a2 a3 a4 a5 a6 a7=>?_
  refine⟨_,U,wpAny_letOwnedTupleGo_zip (s:={ s with heap:=h1 }) a1 λV b1 b2=>?_⟩;have nT:s.heap.get? s.heap.objs.size=none:=by
   cases q:s.heap.get? s.heap.objs.size with
   |none=>rfl
   |some o=>exact JP (DG.lt_size q) (wh _)
  have hT:H s.heap.objs.size=none:=I.hok.fresh (vD _);have nz:s.heap.objs.size≠z:=vH (DG.lt_size n);have kk:∀c o,c ∉ [z,TO,t,r]->s.heap.get? c=JH o->V.get? c=JH o:=λc o d e=>by
   simp only[cf,jG,or_false,not_or]at d;exact b2.extBut _ _ d.1 (a7 c o d.1 d.2.1 d.2.2.1 d.2.2.2 e)
  have J:=I.turnedPair (h':=V) (ch:=[z,TO,t,r]) (T:=s.heap.objs.size) (x:=x) (y:=y) (u:=u) (v:=v) (λc d=>F c (by simp at d⊢;rcases d with e|e|e|e <;> simp[e])) kk nT hT (b2.extBut _ _ nz a5) r1 r2;refine⟨.ref s.heap.objs.size,upd H s.heap.objs.size (.tup [x,y]),J,U,⟨_,hT,U,λb0 a9 x' y' q1 q2 Z Y=>?_⟩,⟨b1,b2.extBut _ _ D.TIz (a7 TI _ D.TIz D.TITO D.TIi1 D.TIi2 g),⟨_,_,b2.extBut _ _ D.TOz a2⟩,a3.extBut b2.extBut D.i1z,a4.extBut b2.extBut D.i2z⟩,λc d=>?_⟩
  .rw[I.list_inj q1 C]at Z;rw[I.list_inj q2 B]at Y;rw[ex]at Z;rw[ey]at Y;cases Z;cases Y;rfl
  .have h0:=(F c d).1;have:c≠s.heap.objs.size:=by
    obtain⟨o4,a8,_⟩:=l;obtain⟨o5,a0,_⟩:=j;simp only[cf,jG,or_false]at d;rcases d with rfl|rfl|rfl|rfl|rfl
    .exact nz.symm
    .exact vE (DG.lt_size g)
    .exact vE (DG.lt_size m)
    .exact vE (DG.lt_size a8)
    .exact vE (DG.lt_size a0)
   rw[ay this];exact h0
 done:=by
  intro X R N S d i JM s σ H E I F f Q;subst R N S;obtain⟨xs,ys,C,B,O⟩:=Q;obtain⟨n,g,⟨p,q,m⟩,l,j⟩:=f;obtain⟨us,L,M,_⟩:=I.list C;obtain⟨vs,G,pv,_⟩:=I.list B;have l1:=L.length;have l2:=G.length;refine JA (I.ok.hd d) D n g m l j M.isList pv.isList ?_ λV k=>⟨U,I.turnedL (ch:=[z,TO,t,r]) (λc d=>F c (by simp at d⊢;rcases d with e|e|e|e <;> simp[e])) λc o d e=>?_⟩
  .rcases O with O|O
   .exact .inl (by simp;lia)
   .exact .inr (by simp;lia)
  .simp only[cf,jG,or_false,not_or]at d;exact k c o d.1 d.2.1 d.2.2.1 d.2.2.2 e
 self:=λ_ _ _ _ _ f h=>JB f.1 h
inductive zI(K:W.Frag)(R:It->Hp->Prop)(vs:List V)(H1:Hp):Prop
 |mk (a b:_)(_:vs=[.ref a,.ref b])(_:(∃xs,SqL K H1 a xs))(_:(∃ys,SqL K H1 b ys))(_:R (Itz K a b) H1)
def DR(K:W.Frag)(b:TA):TI:=λσ H R=>b σ H λa c=>zI K R a c
theorem ie{k e:GG}{l:TA}{p pos:Pos}{j:List GG} {x1} {tp:Pos}(M:Gl X "zip") (hm:X.mg "zip" = JI) (N:PA X [k,e] l)
  (L:GJ [k,e] X.env=[(JK,eval k X.env),(JK,eval e X.env)]:=by rfl)(g:GJ [e] X.env=[(JK,eval e X.env)]:=by rfl) :
  PI X (.Tuple j x1 tp) (.Call (.Name "zip" p) [k,e] [] pos) (DR X.K l):=by
 intro JM s σ H R I h;refine Call_ (gY I M hm PyProof.Rows.boot_zip (PyProof.Rows.callWith_type1 (thn (N pos JM s σ H _ I h) λB d ⟨A,Q,f,E,J⟩=>?_) (by rw[L,g]) (by rw[g];rfl)));obtain⟨a,b,rfl,⟨V,G⟩,⟨T,F⟩,q⟩:=J;obtain⟨u,v,rfl,D,C⟩:=E.two;cases (show u=Ct.ref a from D);cases (show v=Ct.ref b from C);obtain⟨B,_,m,_⟩:=f.list G;obtain⟨A,_,pv,_⟩:=f.list F;obtain⟨Y,P,_⟩:=id m.isList;obtain⟨W,O,_⟩:=id pv.isList;have o:a<d.heap.objs.size:=DG.lt_size P;have n:b<d.heap.objs.size:=DG.lt_size O;refine call_zip_2 m.isList pv.isList λh' z1 z y x w S t=>?_
 refine JB (s:={ d with heap:=h' }) z1 ?_;refine⟨d.heap.objs.size+4,[d.heap.objs.size+4,d.heap.objs.size+2,d.heap.objs.size+3,d.heap.objs.size,d.heap.objs.size+1],zH (d.heap.objs.size+4) (d.heap.objs.size+2) (d.heap.objs.size+3) d.heap.objs.size (d.heap.objs.size+1) a b,Itz X.K a b,Q,U,f.kept (t':=d.toks) t,wH ?_,⟨z1,z,⟨_,_,y⟩,x,w⟩,λc r=>?_,q⟩
 .refine⟨?_,?_,?_,?_,?_,?_,?_,?_,?_,?_,?_,?_,?_,?_,?_,?_,?_,?_⟩ <;> first|exact vE (by lia)|exact vH (by lia)|exact vE o|exact vE n|exact vE (vF o (xK _ _))|exact vE (vF n (xK _ _))
 .have i:d.heap.objs.size<=c:=by
   simp only[cf,jG,or_false]at r;rcases r with rfl|rfl|rfl|rfl|rfl <;> lia
  exact f.fpOk i (f.hok.fresh i)
theorem lJ{K:W.Frag}{a b:DF}{xs ys:List V}{g:TG}{o:TS}{D:Ends}{σ:St}{H:Hp}(c:Nat->St->Hp->Prop)(z:c 0 σ H)(u:∀i σ H,c i σ H->SqL K H a xs/\SqL K H b ys)
  (t:∀i x y σ H T,xs[i]?=JH x->ys[i]?=JH y->c i σ H->H T=JI->g (.ref T) σ (upd H T (.tup [x,y])) λd n=>o { D with nx:=c (i+1),ct:=c (i+1),bk:=D.nx } d n)
  (hd:∀σ H,c (min xs.length ys.length) σ H->D.nx σ H) :
  ∃W:Nat->Nat->St->Hp->Prop,(∃m,W 0 m σ H)/\∀i m σ H,W i m σ H ->
   ((Itz K a b).stop i H/\D.nx σ H)\/((Itz K a b).go i H/\∃N:St->Hp->Prop,(∀f H',N f H'->∃q,q<m/\W (i+1) q f H')/\∀x H',(Itz K a b).yld i H x H'->g x σ H' λd n=>o { D with nx:=N,ct:=N,bk:=D.nx } d n):=by
 refine⟨λi m σ H=>m=min xs.length ys.length-i/\i<=min xs.length ys.length/\c i σ H,⟨min xs.length ys.length,by simp,vI _,z⟩,?_⟩;rintro i m σ H ⟨rfl,hi,p⟩;obtain⟨j,h⟩:=u i σ H p;by_cases lt:i<min xs.length ys.length
 .have l:xs[i]?=JH xs[i]:=Gz (by lia);have k:ys[i]?=JH ys[i]:=Gz (by lia);refine .inr ⟨⟨xs,ys,_,_,j,h,l,k⟩,c (i+1),λf H' s=>⟨_,?_,U,lt,s⟩,λv H' r=>?_⟩
  .lia
  .obtain⟨T,w,rfl,e⟩:=r;rw[e xs ys _ _ j h l k];exact t i _ _ σ H T l k p w
 .have e:i=min xs.length ys.length:=by lia
  subst e;exact .inl ⟨⟨xs,ys,j,h,by lia⟩,hd σ H p⟩
theorem qK{a b:Int}{m n:Nat}(f:a.natAbs<2^m)(e:b.natAbs<2^n)(d:m<=2^20)(c:n<=2^20):Hc a b :=
 .of_bits (vG (PyProof.Rows.intBits_le f) d) (vG (PyProof.Rows.intBits_le e) c)
theorem nK{X:Cx}{K:W.Frag}(h:X.K=K):cP X (.type "list") (λxs H Q=>∃p ys,xs=[.ref p]/\(SqL K H p ys\/SqT K H p ys)/\∀l,H l=JI->Q (.ref l) (upd H l (.lst ys))):=h ▸ dZ
set_option maxRecDepth 100000
abbrev jw(h:DG)(z TI TO a:DF)(b:Bool):Prop :=
 h.get? z=JH { cls:=.type "zip",dict:=JI,data:=.fields #[G6 a,.bool b,.bool JK,.ref TI,.ref TO],slots:=#[] }
theorem kb{a:DF}{Q:Option Obj->F7->Prop}(h:Q (s.heap.get? a) s):GC (model prog w) A (loadIfAlive a) Q E s:=λ_ _ _=>h
theorem oN{z TI TO a:DF}{b:Bool}{o:Obj}{Q:Bool->F7->Prop}(hz:jw s.heap z TI TO a b)(d:s.heap.get? a=JH o)
  (h:∀h',jw h' z TI TO a JJ->DG.SameBut z s.heap h'->Q JK { s with heap:=h' }):GC (model prog w) A (G9.SmallTypes.ownedTupleIsFree (.ref z)) Q E s:=by
 unfold G9.SmallTypes.ownedTupleIsFree;refine BX (Ju hz U (x:=G6 a) U ?_);show GC _ _ (loadIfAlive ((a:Int).toNat) >>= _) _ _ _;refine BX (kb ?_);rw[zj,d];simp only[Option.isNone_some,An,if_false];refine BX (Ju hz U (x:=.bool b) U ?_);cases b with
 |true =>
  rw[JN (by simp)];refine BY ?_;have e:s={ s with heap:=s.heap }:=by cases s;rfl
  rw[e];exact h s.heap hz (DG.SameBut.refl z s.heap)
 |false =>
  rw[JO (by decide)];refine BX (Jd hz (by simp) λf g c=>?_);exact BY (h f g c)
theorem vf{z TI TO u i p q t:DF}{W:Bool}{k1 k2:Nat}{xs ys:Array Ct}{x y a b:Ct}{o:Obj}{Q:Option Ct->F7->Prop}(D:Jy z TI TO i p q t)
  (hz:jw s.heap z TI TO u W)(G:s.heap.get? u=JH o)(C:Jx s.heap TI (.ref i) (.ref p))(X:Jx s.heap TO a b)
  (R:s.heap.IsListIter i q k1)(P:s.heap.IsListIter p t k2)(B:s.heap.IsList q xs)(v:s.heap.IsList t ys)(N:xs[k1]?=JH x)(M:ys[k2]?=JH y)
  (O:∀h',jw h' z TI TO u JJ->h'.IsListIter i q (k1+1)->h'.IsListIter p t (k2+1)->Jx h' s.heap.objs.size x y->h'.objs.size=s.heap.objs.size+1 ->
   (∀c o,c≠z->c≠i->c≠p->s.heap.get? c=JH o->h'.get? c=JH o)->Q (JH (.ref s.heap.objs.size)) { s with heap:=h' }) :
  GC (model prog w) A (G3 (.ref z)) Q E s:=by
 have H:s.TypeIs (.ref z) "zip" := ⟨_,hz,U⟩;unfold G3;refine BX (Ir (I1 (name:=s!"__next__") H F.slot_zip_next (Ja F.slot_zip_next H F.entry_zip_next ?_ (F.args_zip_next_1 _))));show GC _ _ (field (.ref z) 2 >>= _) _ _ _;refine BX (Ju hz U (x:=.bool JK) U ?_);show GC _ _ (field (.ref z) 3 >>= _) _ _ _;refine BX (Ju hz U (x:=.ref TI) U ?_);refine BX (Jk C U ?_);show GC _ _ (G9.SmallTypes.ownedTupleIsFree (.ref z) >>= _) _ _ _;refine BX (oN hz G λK k d=>?_);simp only[An,if_false];refine BX ?_;rw[←Array.forIn_toList];simp only[List.forIn_cons,List.forIn_nil];refine BX (BX (B6 ?_));show GC _ _ (G9.SmallTypes.nextOf (.ref i) >>= _) _ _ _;refine BX (JC (R.extBut d.extBut D.i1z) (B.extBut d.extBut D.l1z) N λJ n g=>BY ?_);refine BY ?_;dsimp only;refine BX (BX (B6 ?_));show GC _ _ (G9.SmallTypes.nextOf (.ref p) >>= _) _ _ _;refine BX (JC ((P.extBut d.extBut D.i2z).extBut g.extBut D.i12.symm) ((v.extBut d.extBut D.l2z).extBut g.extBut D.l2i1) M λf l h=>BY ?_);refine BY ?_;dsimp only;refine BY ?_;refine BX (Jo ?_ (by show 2<=DO;decide));have r:f.objs.size=s.heap.objs.size:=by rw[h.1,g.1,d.1]
 refine BY ⟨_,U,BY ?_⟩;show Q (JH (.ref f.objs.size)) _;have j:jw f z TI TO u true:=h.extBut _ _ D.i2z.symm (g.extBut _ _ D.i1z.symm k);have m:f.IsListIter i q (k1+1):=n.extBut h.extBut D.i12;have I:(f.push { cls:=.type "tuple",data:=.seq #[x,y] }).get? f.objs.size=JH { cls:=.type "tuple",data:=.seq #[x,y] }:=DG.get?_push_size _ U;have L:(f.push { cls:=.type "tuple",data:=.seq #[x,y] }).objs.size=s.heap.objs.size+1:=by rw[DG.size_push,r]
 rw[r]at I⊢;exact O _ (DG.get?_push_of_some _ j) (m.at λo e=>DG.get?_push_of_some _ e) (l.at λo e=>DG.get?_push_of_some _ e) I L λc o V T S e=>DG.get?_push_of_some _ (h.extBut _ _ S (g.extBut _ _ T (d.extBut _ _ V e)))
theorem wI{z TI TO O j i r p:DF}{Z:Bool}{k1 k2:Nat}{xs ys:Array Ct}{a b:Ct}{o:Obj}{Q:Option Ct->F7->Prop}(K:A.handled=JI)(D:Jy z TI TO j i r p)
  (hz:jw s.heap z TI TO O Z)(H:s.heap.get? O=JH o)(G:Jx s.heap TI (.ref j) (.ref i))(a0:Jx s.heap TO a b)
  (M:s.heap.IsListIter j r k1)(Y:s.heap.IsListIter i p k2)(l:s.heap.IsList r xs)(B:s.heap.IsList p ys)(S:xs[k1]?=JI\/ys[k2]?=JI)
  (X:∀h',(∀c o,c≠z->c≠j->c≠i->s.heap.get? c=JH o->h'.get? c=JH o)->Q JI { s with heap:=h' }) :
  GC (model prog w) A (G3 (.ref z)) Q E s:=by
 have L:s.TypeIs (.ref z) "zip" := ⟨_,hz,U⟩;unfold G3;refine BX (Ir (I1 (name:=s!"__next__") L F.slot_zip_next (Ja F.slot_zip_next L F.entry_zip_next ?_ (F.args_zip_next_1 _))));show GC _ _ (field (.ref z) 2 >>= _) _ _ _;refine BX (Ju hz U (x:=.bool JK) U ?_);show GC _ _ (field (.ref z) 3 >>= _) _ _ _;refine BX (Ju hz U (x:=.ref TI) U ?_);refine BX (Jk G U ?_);show GC _ _ (G9.SmallTypes.ownedTupleIsFree (.ref z) >>= _) _ _ _;refine BX (oN hz H λR I d=>?_);simp only[An,if_false];refine BX ?_;rw[←Array.forIn_toList];simp only[List.forIn_cons,List.forIn_nil];refine BX (BX (B6 ?_));show GC _ _ (G9.SmallTypes.nextOf (.ref j) >>= _) _ _ _
 have m:∀h' e,(∀c o,c≠z->c≠j->c≠i->s.heap.get? c=JH o->h'.get? c=JH o)->(∃o,h'.get? e=JH o/\o.cls=.type "StopIteration") ->
   GC (model prog w) A (do if ←isInstance (.ref e) (.type "StopIteration")then pure JI else throw (.ref e)) Q E { s with heap:=h' }:=λh' e k ⟨V,y,C⟩=>by
  refine BX (Ji (T := "StopIteration") (b:=JJ) ⟨V,y,C⟩ Jj ?_);exact BY (X _ k)
 cases hx:xs[k1]? with
 |none =>
  refine BX (JD K (M.extBut d.extBut D.i1z) (l.extBut d.extBut D.l1z) hx λn e f t=>?_);exact m _ _ (λc o v u N q=>f _ _ u (d.extBut _ _ v q)) t
 |some x =>
  have W:ys[k2]?=none:=by rcases S with h|h;rw[hx]at h;cases h;exact h
  refine BX (JC (M.extBut d.extBut D.i1z) (l.extBut d.extBut D.l1z) hx λn J f=>BY ?_);refine BY ?_;dsimp only;refine BX (BX (B6 ?_));show GC _ _ (G9.SmallTypes.nextOf (.ref i) >>= _) _ _ _;refine BX (JD K ((Y.extBut d.extBut D.i2z).extBut f.extBut D.i12.symm) ((B.extBut d.extBut D.l2z).extBut f.extBut D.l2i1) W λP e g t=>?_);exact m _ _ (λc o v u N q=>g _ _ N (f.extBut _ _ u (d.extBut _ _ v q))) t
section
variable{R:Hj->F7->Prop}
theorem neA{a T:DF}{N:Nat}(h:a<N)(h':N<=T):T≠a:=vH (vF h h')
def zJ(h:DG)(z TI TO:DF)(N:Nat)(i:Nat):Prop:=(i=0/\IsZip h z TI TO .none)\/∃a b o,N<=a/\a≠z/\jw h z TI TO a b/\h.get? a=JH o/\o.cls=.type "tuple"
theorem sH{z TI TO C B L K S:DF}{xs ys:Array Ct}{I:Ct}(hh:A.handled=JI)(D:Jy z TI TO C B L K)(N:Nat)(hz:z<N)(c2:TI<N)(a8:TO<N)(X:C<N)(W:B<N)(c1:L<N)(b6:K<N)(hS:S<N)
  (m:S≠z/\S≠TI/\S≠TO/\S≠C/\S≠B/\S≠L/\S≠K)(hn:min xs.size ys.size<=DO) :
  ∀(d i:Nat)(s:F7)(l:Array Ct)(c:Nat)(ts:List DF),min xs.size ys.size=i+d->N<=s.heap.objs.size->zJ s.heap z TI TO N i->Jx s.heap TI (.ref C) (.ref B)->(∃a b,Jx s.heap TO a b) ->
   s.heap.IsListIter C L i->s.heap.IsListIter B K i->s.heap.IsList L xs->s.heap.IsList K ys->s.heap.get? S=JH { cls:=.type "list",dict:=JI,data:=.seq l c,slots:=#[] } ->
   l.toList=ts.map Ct.ref->ts.length=i->ts.Nodup->(∀(j:Nat)(T:DF),ts[j]?=JH T->N<=T/\∃x y,xs[j]?=JH x/\ys[j]?=JH y/\Jx s.heap T x y) ->
   (∀(h':DG)(wB:Array Ct)(c':Nat)(n:List DF),(∀b o,b<N->b≠S->b≠z->b≠TO->b≠C->b≠B->s.heap.get? b=JH o->h'.get? b=JH o)->h'.get? S=JH { cls:=.type "list",dict:=JI,data:=.seq wB c',slots:=#[] } ->
    wB.toList=n.map Ct.ref->n.length=min xs.size ys.size->n.Nodup->(∀(j:Nat)(T:DF),n[j]?=JH T->N<=T/\∃x y,xs[j]?=JH x/\ys[j]?=JH y/\Jx h' T x y)->R (.ok (.ret I)) { s with heap:=h' }) ->
   Hk (model prog w) A (.builtin "list.extend.loop" ⟨[.ref S,.ref z,I],[]⟩) R s:=by
 intro d;induction d with
 |zero =>
  intro i s l c ts e hN r Y ⟨a,b,p2⟩ t1 t2 q1 q2 g ea el nd hts v;refine Im F.entry_extend_loop ?_;rw[D7.under_plainId F.plain_extend_loop _];show GC _ A.in1 (G3 (.ref z) >>= _) _ _ s;have sE:xs[i]?=JI\/ys[i]?=none:=by
   by_cases hx:xs.size<=i
   .exact .inl (Array.getElem?_eq_none hx)
   .exact .inr (Array.getElem?_eq_none (by lia))
  have Q:∀h',(∀b o,b≠z->b≠TO->b≠C->b≠B->s.heap.get? b=JH o->h'.get? b=JH o)->R (.ok (.ret I)) { s with heap:=h' }:=λh' k=>by
   refine v h' l c ts (λb o _ _ P b2 O M q=>k b o P b2 O M q) (k S _ m.1 m.2.2.1 m.2.2.2.1 m.2.2.2.2.1 g) ea (by lia) nd λj T E=>?_
   obtain⟨h,x,y,V,H,G⟩:=hts j T E;exact⟨h,x,y,V,H,k T _ (neA hz h) (neA a8 h) (neA X h) (neA W h) G⟩
  rcases r with⟨_,r⟩|⟨T0,bb,o,J,_,r,gT,_⟩
  .exact BX (JA (by simp[hh]) D r Y p2 t1 t2 q1 q2 sE λh' k=>BY (Q h' k))
  .exact BX (wI (by simp[hh]) D r gT Y p2 t1 t2 q1 q2 sE λh' k=>BY (Q h' λb o P _ O M q=>k b o P O M q))
 |succ d ih =>
  intro i s l c ts e hN r Y ⟨a,b,p2⟩ t1 t2 q1 q2 g ea el nd hts v;have ix:i<xs.size:=by lia
  have iy:i<ys.size:=by lia
  refine Im F.entry_extend_loop ?_;rw[D7.under_plainId F.plain_extend_loop _];show GC _ A.in1 (G3 (.ref z) >>= _) _ _ s;have a0:l.size=i:=by rw[←zl,ea,bo,el]
  have go:∀h',zJ h' z TI TO N (i+1)->(∃a b,Jx h' TO a b)->h'.IsListIter C L (i+1)->h'.IsListIter B K (i+1)->Jx h' s.heap.objs.size xs[i] ys[i]->h'.objs.size=s.heap.objs.size+1 ->
    (∀b o,b≠z->b≠TO->b≠C->b≠B->s.heap.get? b=JH o->h'.get? b=JH o) ->
    GC (model prog w) A.in1 (Js S (·.push (.ref s.heap.objs.size)) >>= λ_=>again (.builtin "list.extend.loop" ⟨[.ref S,.ref z,I],[]⟩))
     (λv s'=>match v with | .done f=>R (.ok f) s' | .again c'=>c'.quiet=JJ/\Hk (model prog w) A c' R s') (λe s'=>R (.error e) s') { s with heap:=h' }:=λh' z1 z2 z3 z4 z5 z6 k=>by
   have gS:h'.get? S=JH { cls:=.type "list",dict:=JI,data:=.seq l c,slots:=#[] }:=k S _ m.1 m.2.2.1 m.2.2.2.1 m.2.2.2.2.1 g;refine BX (Jt gS U ?_ (by rw[a0];lia) (by show(l.push _).size<=DO+1;rw[Array.size_push,a0];lia));have gU:=DG.get?_update_self (Obj.mapSeq (·.push (Ct.ref s.heap.objs.size))) gS U;generalize hH:h'.update S (Obj.mapSeq (·.push (Ct.ref s.heap.objs.size)))=h2 at gU⊢;have sb:DG.SameBut S h' h2:=hH ▸ DG.SameBut.update ..;have p:∀b o,b≠S->h'.get? b=JH o->h2.get? b=JH o:=λb o hb q=>(sb.2 b hb).trans q
   have a9:h2.objs.size=s.heap.objs.size+1:=by rw[sb.1,z6]
   refine BY ⟨ID F.plain_extend_loop _,ih (i+1) { s with heap:=h2 } (l.push (.ref s.heap.objs.size)) _ (ts++[s.heap.objs.size]) (by lia) (by rw[a9];lia) ?_ (p TI _ m.2.1.symm (k TI _ D.TIz D.TITO D.TIi1 D.TIi2 Y)) ?_ (z3.at λo q=>p C o m.2.2.2.1.symm q) (z4.at λo q=>p B o m.2.2.2.2.1.symm q)
    ((q1.at λo q=>k L o D.l1z D.l1TO D.l1i1 D.l1i2 q).at λo q=>p L o m.2.2.2.2.2.1.symm q) ((q2.at λo q=>k K o D.l2z D.l2TO D.l2i1 D.l2i2 q).at λo q=>p K o m.2.2.2.2.2.2.symm q) gU (by rw[zz,ea,fF];rfl) (by simp[el]) ?_ (λj T E=>?_) λh3 wB c' n k3 g3 e3 l3 n3 f3=>?_⟩
   .rcases z1 with⟨z',_⟩|⟨T0,bb,o,h,V,H,G,Z⟩
    .exact JP z' (by lia)
    .exact .inr ⟨T0,bb,o,h,V,p z _ m.1.symm H,p T0 _ (neA hS h) G,Z⟩
   .obtain⟨a',b',q⟩:=z2;exact⟨a',b',p TO _ m.2.2.1.symm q⟩
   .rw[rH];refine⟨nd,by simp,λt ht u hu=>?_⟩;have eu:u=s.heap.objs.size:=by simpa using hu
    obtain⟨j,E⟩:=List.mem_iff_getElem?.mp ht;obtain⟨_,x,y,_,_,gp⟩:=hts j t E;have:=DG.lt_size gp;exact λq=>wh _ (by rw[q,eu]at this;exact this)
   .rw[List.getElem?_append]at E;split at E
    .obtain⟨h,x,y,V,H,G⟩:=hts j T E;exact⟨h,x,y,V,H,p T _ (neA hS h) (k T _ (neA hz h) (neA a8 h) (neA X h) (neA W h) G)⟩
    .rename_i hlt
     have b5:j=i:=by
      obtain⟨q,_⟩:=GA.mp E;simp at q;lia
     subst b5;rw[el,Nat.sub_self]at E;have eT:s.heap.objs.size=T:=by simpa using E
     subst eT;exact⟨hN,xs[j],ys[j],zo ix,zo iy,p _ _ (neA hS hN) z5⟩
   .exact v h3 wB c' n (λb o b0 bS P b2 O M q=>k3 b o b0 bS P b2 O M (p b o bS (k b o P b2 O M q))) g3 e3 l3 n3 f3
  rcases r with⟨_,r⟩|⟨T0,bb,o,J,B9,r,gT,cT⟩
  .refine BX (Jz D r Y p2 t1 t2 q1 q2 (x:=xs[i]) (y:=ys[i]) (zo ix) (zo iy) λh' h V H G Z a6 a7=>?_);exact go h' (.inr ⟨s.heap.objs.size,JK,_,hN,vH (vF hz hN),h,Z,U⟩) ⟨_,_,V⟩ H G Z a6 a7
  .refine BX (vf D r gT Y p2 t1 t2 q1 q2 (x:=xs[i]) (y:=ys[i]) (zo ix) (zo iy) λh' h H G Z a6 a7=>?_);exact go h' (.inr ⟨T0,JJ,o,J,B9,h,a7 T0 o B9 (neA X J) (neA W J) gT,cT⟩) ⟨_,_,a7 TO _ D.TOz D.TOi1 D.TOi2 p2⟩ H G Z a6 λb o P _ O M q=>a7 b o P O M q
end
set_option maxRecDepth 100000
theorem sI:HF (.type "zip") "__len__" = pure none:=by rw[IU,IV];kernel_rfl
theorem qL:HF (.type "zip") "__length_hint__" = pure none:=by rw[IU,IV];kernel_rfl
theorem nM{z TI TO m l I H:DF}{xs ys:Array Ct}{Q:Ct->F7->Prop}(hh:A.handled=JI)(D:Jy z TI TO m l I H)(G:IsZip s.heap z TI TO .none)(V:Jx s.heap TI (.ref m) (.ref l))(S:Jx s.heap TO .none .none)
  (t1:s.heap.IsListIter m I 0)(O:s.heap.IsListIter l H 0)(R:s.heap.IsList I xs)(P:s.heap.IsList H ys)(Z:min xs.size ys.size<=DO)
  (h:∀(h':DG)(i:Array Ct)(c:Nat)(ts:List DF),(∀b o,b≠z->b≠TO->b≠m->b≠l->s.heap.get? b=JH o->h'.get? b=JH o)->h'.get? s.heap.objs.size=JH { cls:=.type "list",dict:=JI,data:=.seq i c,slots:=#[] } ->
   i.toList=ts.map Ct.ref->ts.length=min xs.size ys.size->ts.Nodup->(∀(j:Nat)(T:DF),ts[j]?=JH T->s.heap.objs.size+1<=T/\∃x y,xs[j]?=JH x/\ys[j]?=JH y/\Jx h' T x y)->Q (.ref s.heap.objs.size) { s with heap:=h' }) :
  GC (model prog w) A (call (.type "list") [.ref z]) Q E s:=by
 have L:z<s.heap.objs.size:=DG.lt_size G;have B:TI<s.heap.objs.size:=DG.lt_size V;have v:TO<s.heap.objs.size:=DG.lt_size S;have u:m<s.heap.objs.size:=let ⟨_,e,_⟩:=t1;DG.lt_size e;have t:l<s.heap.objs.size:=let ⟨_,e,_⟩:=O;DG.lt_size e;have r:I<s.heap.objs.size:=let ⟨_,e,_⟩:=R;DG.lt_size e;have q:H<s.heap.objs.size:=let ⟨_,e,_⟩:=P;DG.lt_size e
 refine callType_codes (Q₁:=λobj k=>obj=.ref s.heap.objs.size/\k={ s with heap:=s.heap.push { cls:=.type "list",data:=.seq #[] } }) F.called_list (F.typeCall_list_1 _) F.entry_list_init
  (code_list_new _ ⟨U,U⟩) λobj k C=>?_
 obtain⟨rfl,rfl⟩:=C;have K:(s.heap.push { cls:=.type "list",data:=.seq #[] }).get? s.heap.objs.size=JH { cls:=.type "list",data:=.seq #[] }:=DG.get?_push_size _ U;refine⟨⟨_,K,U⟩,F.args_list_init_2 _ _,?_⟩;show GC _ _ (do let N ←G9.List.listItems (.ref s.heap.objs.size);G9.List.listUpdate (.ref s.heap.objs.size) (λ_=>#[]);letGo N.toList.reverse;G9.List.listExtendWith (.ref s.heap.objs.size) (.ref z) .none) _ _ _;refine BX ?_;unfold G9.List.listItems;refine BX (Jk K U (BY ?_));show GC _ _ (Js s.heap.objs.size (λ_=>#[]) >>= λ_=>letGo (#[]:Array Ct).toList.reverse >>= λ_=>G9.List.listExtendWith (.ref s.heap.objs.size) (.ref z) .none) _ _ _;refine BX (Jt K U ?_);have a:=DG.get?_update_self (Obj.mapSeq (λ_=>(#[]:Array Ct))) K U;refine BX (wpAny_letGo ?_);have J:∀b o,s.heap.get? b=JH o->((s.heap.push { cls:=.type "list",data:=.seq #[] }).update s.heap.objs.size (Obj.mapSeq (λ_=>(#[]:Array Ct)))).get? b=JH o:=λb o e =>
  (DG.get?_update_other _ _ (vH (DG.lt_size e))).trans (DG.get?_push_of_some _ e)
 have p:((s.heap.push { cls:=.type "list",data:=.seq #[] }).update s.heap.objs.size (Obj.mapSeq (λ_=>(#[]:Array Ct)))).objs.size=s.heap.objs.size+1:=by rw[DG.size_update,DG.size_push]
 generalize (s.heap.push { cls:=.type "list",data:=.seq #[] }).update s.heap.objs.size (Obj.mapSeq (λ_=>(#[]:Array Ct)))=hA at a J p⊢;have M:F7.TypeIs { s with heap:=hA } (.ref z) "zip" := ⟨_,J _ _ G,U⟩;unfold G9.List.listExtendWith;refine BX (Jq M ?_);have h1:G9.List.listSameRef (.ref s.heap.objs.size) (.ref z)=false:=by simp[G9.List.listSameRef];exact vH L
 have h2:(Ct.type "zip" == Ct.type "list")=false:=by decide
 have h3:(Ct.type "zip" == Ct.type "tuple")=false:=by decide
 simp only[h1,h2,h3,Bool.or_false,An,if_false];refine BX (JB (s:={ s with heap:=hA }) (J _ _ G) ?_);refine BX (B6 ?_);unfold G9.List.listLengthHint;refine BX (Jr M sI ?_);show GC _ _ (specialOf (Ct.ref z) s!"__length_hint__" >>= _) _ _ _;refine BX (Jr M qL ?_);refine BY ?_;show GC _ _ (rule "list.extend.makes-room" >>= λ_=>G9.List.listTouch (.ref s.heap.objs.size) >>= λ_ =>
  again (.builtin "list.extend.loop" ⟨[.ref s.heap.objs.size,.ref z,.none],[]⟩)) _ _ _
 refine BX (Iw ?_);refine BX ?_;show GC _ _ (Js s.heap.objs.size (·.push .none) >>= λ_=>Js s.heap.objs.size (·.pop)) _ _ _;refine BX (Jt (s:={ s with heap:=hA }) a U ?_);have f:=DG.get?_update_self (Obj.mapSeq (·.push Ct.none)) a U;refine Jt (hz:=by seq_fits) f U ?_;have d:=DG.get?_update_self (Obj.mapSeq (·.pop)) f U;have g:∀b o,s.heap.get? b=JH o->((hA.update s.heap.objs.size (Obj.mapSeq (·.push Ct.none))).update s.heap.objs.size (Obj.mapSeq (·.pop))).get? b=JH o :=
  λb o e=>(DG.get?_update_other _ _ (vH (DG.lt_size e))).trans ((DG.get?_update_other _ _ (vH (DG.lt_size e))).trans (J b o e))
 have n:((hA.update s.heap.objs.size (Obj.mapSeq (·.push Ct.none))).update s.heap.objs.size (Obj.mapSeq (·.pop))).objs.size=s.heap.objs.size+1:=by rw[DG.size_update,DG.size_update,p]
 generalize (hA.update s.heap.objs.size (Obj.mapSeq (·.push Ct.none))).update s.heap.objs.size (Obj.mapSeq (·.pop))=hB at d g n⊢
 refine BY ⟨ID F.plain_extend_loop _,sH (by simp[hh]) D (s.heap.objs.size+1) (vJ L) (vJ B) (vJ v) (vJ u) (vJ t) (vJ r) (vJ q) (wj _)
  ⟨vH L,vH B,vH v,vH u,vH t,vH r,vH q⟩ Z (min xs.size ys.size) 0 { s with heap:=hB } #[] _ [] (xT _).symm (by rw[n];exact vD _)
  (.inl ⟨U,g _ _ G⟩) (g _ _ V) ⟨_,_,g _ _ S⟩ (t1.at λo e=>g _ _ e) (O.at λo e=>g _ _ e) (R.at λo e=>g _ _ e) (P.at λo e=>g _ _ e) d U U sk (λj T hj=>by simp at hj) λh' i c ts Y g3 e3 X W f3=>?_⟩
 exact⟨U,h h' i c ts (λb o b1 b2 b3 b4 e=>Y b o (vJ (DG.lt_size e)) (vE (DG.lt_size e)) b1 b2 b3 b4 (g b o e)) g3 e3 X W f3⟩
set_option maxRecDepth 100000
theorem bK:∀{l L:List Int},l.Nodup->(∀x∈l,x∈L)->l.length<=L.length
 | [],_,_,_=>vI _
 |x :: l,L,hn,hs=>by
  obtain⟨f,d⟩:=nY.mp hn;have b:=hs x dt;have c:=bK (L:=L.erase x) d λy a=>(List.mem_erase_of_ne (λ(e:y=x)=>f (e ▸ a))).mpr (hs y (fG _ a))
  rw[List.length_erase_of_mem b]at c;have:0<L.length:=List.length_pos_of_mem b;rw[gb];lia
theorem ub:∀{vs:List Ct},(∀v∈vs,∃u,v=.int (kF v) u)->IntsAre vs (vs.map kF)
 | [],_=>.nil
 |v :: vs,h=>by
  obtain⟨u,e⟩:=h v dt;rw[e];exact .cons _ u (ub λx a=>h x (fG _ a))
theorem oO:∀{vs:List Ct}{ns:List Int},IntsAre vs ns->Vals (ns.map V.int) vs
 |_,_,.nil=>.nil
 |_,_,.cons n t r=>.cons ⟨t,U⟩ (oO r)
theorem ig:∀{ns:List Int},ns.Pairwise (· <= ·)->ns.Nodup->ns.Pairwise (· < ·)
 | [],_,_=>.nil
 |n :: ns,h1,h2=>by
  obtain⟨d,c⟩:=qD.mp h1;obtain⟨b,b2⟩:=nY.mp h2;refine .cons (λm a=>?_) (ig c b2);have:=d m a;have:n≠m:=λe=>b (e ▸ a)
  lia
theorem sJ{a:DF}{ks:List Int}{m:Nat}{Q:Ct->F7->Prop}(P:A.handled=JI)(Y:di s.heap a (!dr w) ks m)(hm:m<64)
  (h:∀(ns:List Int)(vs:List Ct)(s':F7)(D:DF)(c:Nat),Vals (ns.map V.int) vs->ns.Pairwise (· < ·)->(∀k,k∈ns↔k∈ks)->s.heap.objs.size<=D->(∀b u,s.heap.get? b=JH u->s'.heap.get? b=JH u)->s'.heap.get? D=JH (seqObj "list" vs.toArray c)->s'.gens=s.gens->s'.os=s.os->ns.length=m->Q (.ref D) s') :
  GC (model prog w) A (call (.builtin "sorted") [.ref a]) Q E s:=by
 obtain⟨o,es,ep,t,M,H,W,y,r,S,X,O,N⟩:=Y;refine Calls.call_function_entry kind_sorted plain_sorted entry_sorted (args_sorted1 _) ?_;unfold G9.«sorted»;refine BX (m:=checkCount "sorted" 1 1 _) (BY ?_);refine BX (qH (by simp[P]) M H W r S X O λd f x J R F C=>?_);have n:d.length=m:=by rw[x.length_eq,bo,zl,N]
 have p:∀v∈d,∃u,v=.int (kF v) u:=λv L=>by
  obtain⟨e,T,rfl⟩:=dy.mp (x.mem_iff.mp L);exact(y.ent e T).2
 have Z:=ub p;have I:(d.map kF).Perm (es.toList.map λe=>kF e.2):=by
  have:=x.map kF;rw[vr]at this;exact this
 refine BX (wpAny_newList ?_ (by rw[Hh];lia));have g:(f.heap.push (seqObj "list" d.toArray 0)).get? f.heap.objs.size=JH (seqObj "list" d.toArray 0):=DG.get?_push_size _ U;have keep:∀b u,s.heap.get? b=JH u->(f.heap.push (seqObj "list" d.toArray 0)).get? b=JH u:=λb u q=>DG.get?_push_of_some _ (J b u q)
 show GC _ _ _ _ _ { f with heap:=f.heap.push (seqObj "list" d.toArray 0) };refine BX (B6 (Ja slot_list_sort ⟨_,g,U⟩ entry_list_sort ?body (args_list_sort _)))
 case body =>
  refine list_sort_tree (s:={ f with heap:=f.heap.push (seqObj "list" d.toArray 0) }) g Z (by lia) λout j a1 B a3=>⟨_,U,BY ⟨_,U,?_⟩⟩
  have nd:j.Nodup:=B.nodup_iff.mpr (I.nodup_iff.mpr y.nd);have l:f.heap.objs.size<(f.heap.push (seqObj "list" d.toArray 0)).objs.size:=DG.lt_size g;obtain⟨z,G⟩:∃z,((f.heap.push (seqObj "list" d.toArray 0)).update f.heap.objs.size (Obj.mapSeq λ_=>#[])).get? f.heap.objs.size=JH (seqObj "list" #[] z):=⟨_,get?_update_seq g (λ_=>#[])⟩;have K:∀b,b<(f.heap.push (seqObj "list" d.toArray 0)).objs.size->((((f.heap.push (seqObj "list" d.toArray 0)).update f.heap.objs.size (Obj.mapSeq λ_=>#[])).push (seqObj "tuple" d.toArray 0)).push (seqObj "list" #[] 0)).get? b=((f.heap.push (seqObj "list" d.toArray 0)).update f.heap.objs.size (Obj.mapSeq λ_=>#[])).get? b:=λb r=>by
   rw[DG.get?_push_ne _ _ _ (by rw[size_push',DG.size_update];exact vE (vJ r)),DG.get?_push_ne _ _ _ (by rw[DG.size_update];exact vE r)]
  have e6:((((f.heap.push (seqObj "list" d.toArray 0)).update f.heap.objs.size (Obj.mapSeq λ_=>#[])).push (seqObj "tuple" d.toArray 0)).push (seqObj "list" #[] 0)).get? f.heap.objs.size=JH (seqObj "list" #[] z):=by rw[K _ l];exact G
  have sz:s.heap.objs.size<=f.heap.objs.size:=v5 C;refine h j out.toList { f with heap:=sortedHeap (f.heap.push (seqObj "list" d.toArray 0)) f.heap.objs.size d out } f.heap.objs.size _ (oO a1) (ig a3 nd) (λk=>(B.mem_iff).trans ((I.mem_iff).trans (y.mem k).symm)) sz (λb u q=>?_) (get?_update_seq e6 (λ_=>out)) R F ?_
  .have i:b<f.heap.objs.size:=DG.lt_size (J b u q);show(DG.update _ _ _).get? b=JH u;rw[DG.get?_update_ne _ _ _ _ (vE i),K _ (Nat.lt_trans i l),DG.get?_update_ne _ _ _ _ (vE i)];exact keep b u q
  .rw[B.length_eq,bo,n]
variable{H':Hp}
theorem Inv.grow{s':F7}(I:Inv X JM σ H s)(k:∀b o,s.heap.get? b=JH o->s'.heap.get? b=JH o)(l:s'.gens=s.gens)(d:s'.os=s.os)(a:∀b,b<s.heap.objs.size->H' b=H b)
  (t:∀b u,s.heap.objs.size<=b->H' b=JH u->cq X.prog X.w H' s'.heap b u):Inv X JM σ H' s':=by
 obtain⟨h',g',d',t',h⟩:=s';obtain rfl:g'=s.gens:=l;obtain rfl:h=s.os:=d;have lt:∀{b u},H b=JH u->b<s.heap.objs.size:=λ{b u} e=>by
  rcases xM b s.heap.objs.size with z|z
  .exact z
  .rw[I.hok.fresh z]at e;cases e
 have same:∀{b u},H b=JH u->H' b=JH u:=λe=>by rw[a _ (lt e)];exact e
 exact I.step (h':=h') (g':=s.gens) (d':=d') (t':=t') (ch:=[]) (λ_ z=>nomatch z) (λb o _ _ _ e _=>k b o e) (λb o _ _ _ e _=>⟨o.slots,k b o e⟩)
  (λb o _ e n=>by rw[a _ (DG.lt_size e)];exact n) (λb o _ e=>⟨o,k b o e⟩) (λb f e=>same e) (λb o u e=>same e) (λb ps e=>⟨#[],by rw[same e];simp⟩)
  (λm j=>by
   obtain⟨o,es,p,i,r⟩:=j;exact⟨o,es,p,k _ o i,r⟩)
  (λb u e=>by
   rcases xM b s.heap.objs.size with z|z
   .rw[a _ z]at e;exact(I.hok b u e).stay (λc g _ q=>k c g q) (λc q=>same q) λc f q=>same q
   .exact t b u z e)
  I.bare
def sL(w:Cu)(a:DF)(zs:List Int):HO:=.ext λh=>∃m,di h a (!dr w) zs m
theorem mq:∀{zs:List Int}{us:List Ct},Vals (zs.map V.int) us->∀(i:Nat)(v:Ct),us[i]?=JH v->∃z t,zs[i]?=JH z/\v=.int z t
 | [],_,.nil,i,v,h=>by simp at h
 |z :: zs,_,.cons ⟨t,e⟩ r,0,v,h=>by simp at h;exact⟨z,t,U,by rw[←h,e]⟩
 |z :: zs,_,.cons _ r,i+1,v,h=>by
  obtain⟨a,t,c,b⟩:=mq r i v (by simpa using h);exact⟨a,t,by simpa using c,b⟩
theorem oP{w:Cu}(A:X.w=w)(B:X.calm=JJ):cP X (.type "set") (λxs H Q=>∃(p:DF)(zs:List Int),xs=[.ref p]/\SqL X.K H p (zs.map V.int)/\zs.length<=1000/\∀l,H l=JI->Q (.ref l) (upd H l (sL w l zs))):=by
 subst A;intro JM s σ H xs E Q I r h;obtain⟨p,zs,rfl,C,F,q⟩:=h;obtain⟨u,rfl,j⟩:=r.one;obtain rfl:u=Ct.ref p:=j;obtain⟨D,c,n,_⟩:=I.list C;have d:=c.length;rw[bo]at d;refine uZ (ks:=zs) (I.ok.hd B) n.isList (λi v e=>?_) (by simpa using d) (by unfold IA;simp;lia) λh' f m x G z=>?_
 .exact mq c i v (by simpa using e)
 .refine⟨.ref s.heap.objs.size,_,I.laid (a:=s.heap.objs.size) (o:=sL X.w s.heap.objs.size zs) (h':=h') (t':=f) (λb o q=>z b o (DG.lt_size q) q) (vD _) ?_,U,q _ I.fresh⟩;refine⟨⟨m,x⟩,?_,λL J ⟨t,y⟩ k=>⟨t,y.stay k⟩⟩;obtain⟨o,_,_,_,g,_⟩:=x;exact⟨o,g⟩
theorem fX{w:Cu}(l:X.w=w)(A:X.calm=JJ):cP X (.builtin "sorted") (λus H Q=>∃(a:DF)(zs L:List Int),us=[.ref a]/\H a=JH (sL w a zs)/\L.length<64/\(∀k∈zs,k∈L) /\
  ∀(D:DF)(ns:List Int),H D=JI->ns.Pairwise (· < ·)->(∀k,k∈ns↔k∈zs)->Q (.ref D) (upd H D (.lst (ns.map V.int)))):=by
 subst l;intro JM s σ H us N Q I r h;obtain⟨a,zs,L,rfl,e,P,n,q⟩:=h;obtain⟨u,rfl,j⟩:=r.one;obtain rfl:u=Ct.ref a:=j;obtain⟨⟨m,x⟩,_,_⟩:=I.hok a _ e;have v:m<64:=by
  obtain⟨o,es,R,t,_,_,_,g,_,_,_,_,p⟩:=id x;have:=bK (L:=L) g.nd λk y=>n k ((g.mem k).mpr y)
  rw[bo,zl,p]at this;lia
 refine sJ (I.ok.hd A) x v λns us O D c M K J i G F E C S=>?_
 have B:H D=none:=I.hok.fresh i;refine⟨.ref D,upd H D (.lst (ns.map V.int)),I.grow G E C (λb f=>by rw[ay (vE (vF f i))]) (λb u f d=>?_),U,q D ns B K J⟩;by_cases z:b=D
 .subst z;rw[ae]at d;cases d;exact⟨by rw[bo,Hh];lia,us,c,M,F⟩
 .rw[ay z,I.hok.fresh f]at d;cases d
inductive Ca(K:W.Frag)(Q:VK)(vs:List V)(H1:Hp):Prop
 |mk (a b xs ys:_)(_:vs=[.ref a,.ref b])(_:SqL K H1 a xs)(_:SqL K H1 b ys)(_:∀(D:DF)(ts:List DF)(H2:Hp),ts.length=min xs.length ys.length->(∀c o,H1 c=JH o->H2 c=JH o)->H1 D=JI->H2 D=JH (.lst (ts.map V.ref)) ->
  (∀(j:Nat)(x y:V),xs[j]?=JH x->ys[j]?=JH y->∃T,ts[j]?=JH T/\H1 T=JI/\H2 T=JH (.tup [x,y]))->Q (.ref D) H2):Ca K Q vs H1
def tLZ(K:W.Frag)(b:TA):TE:=λσ H Q=>b σ H λa c=>Ca K Q a c
theorem ltA{c n:Nat}(h:c<n)(k:Nat):c≠n+k:=vE (vF h (xK _ _))
def ij(xs ys:List V)(ts:List DF)(b:DF):Option HO :=
 match ts.idxOf? b with
 |some j=>match xs[j]?,ys[j]? with
  |some x,JH y=>JH (.tup [x,y])
  |_,_=>JI
 |none=>JI
theorem sM{J C:GG}{ta:TA}{p1 p2 Cb AQ:Pos}(a6:X.calm=JJ)(hg:Gl X "list") (hm:X.mg "list" = JI) (a5:Gl X "zip") (a4:X.mg "zip" = JI) (ha:PA X [J,C] ta)
  (hs:GJ [J,C] X.env=[(JK,eval J X.env),(JK,eval C X.env)]:=by rfl)(M:GJ [C] X.env=[(JK,eval C X.env)]:=by rfl) :
  PE X (.Call (.Name "list" p1) [.Call (.Name "zip" p2) [J,C] [] AQ] [] Cb) (tLZ X.K ta):=by
 intro JM s σ H Q I h;refine B7 (gY I hg hm PyProof.Rows.boot_list ?_);refine PyProof.Rows.callWith_type1 ?_ U U;show GC _ _ (spliced ((JK,eval (.Call (.Name "zip" p2) [J,C] [] AQ) X.env) :: GI Cb (GJ [] X.env))) _ _ s;refine Calls.spliced_cons ?_;refine B7 (gY I a5 a4 PyProof.Rows.boot_zip ?_);refine PyProof.Rows.callWith_type1 (thn (ha AQ JM s σ H _ I h) λus f ⟨vs,S,B,r1,q1⟩=>?_) (by rw[hs,M]) (by rw[M];rfl);obtain⟨a,b,p,n,rfl,qa,qb,q⟩:=q1;obtain⟨u,v,rfl,ru,Z⟩:=r1.two;cases (show u=Ct.ref a from ru);cases (show v=Ct.ref b from Z);obtain⟨us,vu,pu,zu⟩:=B.list qa;obtain⟨vs,vv,pv,zv⟩:=B.list qb;obtain⟨oa,ea,_⟩:=id pu.isList;obtain⟨ob,eb,_⟩:=id pv.isList;have la:a<f.heap.objs.size:=DG.lt_size ea;have lb:b<f.heap.objs.size:=DG.lt_size eb;have l1:=vu.length;have l2:=vv.length;refine call_zip_2 pu.isList pv.isList λh' z1 z2 z3 z4 z5 z6 Y=>?_
 refine Calls.spliced_nil ?_;have D:Jy (f.heap.objs.size+4) (f.heap.objs.size+2) (f.heap.objs.size+3) f.heap.objs.size (f.heap.objs.size+1) a b:=by
  refine⟨?_,?_,?_,?_,?_,?_,?_,?_,?_,?_,?_,?_,?_,?_,?_,?_,?_,?_⟩ <;> first|exact vE (by lia)|exact vH (by lia)|exact vE la|exact vE lb|exact vE (vF la (xK _ _))|exact vE (vF lb (xK _ _))
 refine nM (s:={ f with heap:=h' }) (B.ok.hd a6) D z1 z2 z3 z4 z5 (pu.isList.at λo e=>Y _ _ e) (pv.isList.at λo e=>Y _ _ e) (by simp;lia) λh2 b0 c d k3 g3 e3 n3 nd R=>?_
 have a3:F7.heap { f with heap:=h' }=h':=rfl;rw[a3]at g3 R k3;rw[z6]at g3 R;have kp:∀c o,f.heap.get? c=JH o->h2.get? c=JH o:=λc o e=>by
  have:=DG.lt_size e;exact k3 c o (ltA this _) (ltA this _) (vE this) (ltA this _) (Y c o e)
 have N:d.length=min p.length n.length:=by rw[n3];simp;lia
 have F:∀(j:Nat)(T:DF),d[j]?=JH T->d.idxOf? T=JH j:=λj T w=>by
  obtain⟨G,ej⟩:=GA.mp w;rw[List.idxOf?,List.findIdx?_eq_some_iff_getElem];refine⟨G,by simp[ej],λi hi=>?_⟩;have:d[i]≠d[j]:=λq=>by
   have:=(uE nd).mp q;lia
  simpa[←ej]using this
 have L:∀(T:DF)(j:Nat),d.idxOf? T=JH j->d[j]?=JH T:=λT j w=>by
  rw[List.idxOf?,List.findIdx?_eq_some_iff_getElem]at w;obtain⟨G,e,_⟩:=w;rw[Gz G];simpa using e
 have E:∀(T:DF)(j:Nat),d.idxOf? T=JH j->f.heap.objs.size+6<=T:=λT j w=>by
  obtain⟨a1,_⟩:=R j T (L T j w);lia
 show EP X JM σ Q _ _;rw[show(F7.heap { f with heap:=h' }).objs.size=f.heap.objs.size+5 from z6];generalize m:(λ(b:DF)=>if b=f.heap.objs.size+5 then JH (HO.lst (d.map V.ref))else match ij p n d b with|some o=>JH o|none=>S b)=H2;have hD:H2 (f.heap.objs.size+5)=JH (.lst (d.map V.ref)):=by rw[←m];exact JO U
 have hO:∀c,c<f.heap.objs.size->H2 c=S c:=λc hc=>by
  rw[←m];show(if c=f.heap.objs.size+5 then _ else _)=_;rw[JN (ltA hc 5)];have:ij p n d c=none:=by
   unfold ij;cases e:d.idxOf? c with
   |none=>rfl
   |some j=>exact JP (vF hc (vG (xK _ 6) (E c j e))) (wh _)
  rw[this]
 have hT:∀(j:Nat)(x y:V)(T:DF),p[j]?=JH x->n[j]?=JH y->d[j]?=JH T->H2 T=JH (.tup [x,y]):=λj x y T l A g=>by
  have:=E T j (F j T g);rw[←m];show(if T=f.heap.objs.size+5 then _ else _)=_;rw[JN (vH (vF (wj _) this))];have:ij p n d T=JH (.tup [x,y]):=by unfold ij;rw[F j T g];dsimp only;rw[l,A]
  rw[this]
 refine⟨.ref (f.heap.objs.size+5),H2,B.grow (s':={ f with heap:=h2 }) kp U U hO (λb u hb k=>?_),U,q _ d H2 N (λc o e=>?_) (B.hok.fresh (xK _ _)) hD λj x y l A=>?_⟩
 .rw[←m]at k;replace k:(if b=f.heap.objs.size+5 then JH (HO.lst (d.map V.ref))else match ij p n d b with|some o=>JH o|none=>S b)=JH u:=k
  by_cases W:b=f.heap.objs.size+5
  .rw[JO W]at k;cases k;subst W;have Z:∀d:List DF,Vals (d.map V.ref) (d.map Ct.ref):=λd=>by
    induction d with
    |nil=>exact .nil
    |cons t r ih=>exact .cons U ih
   refine⟨by rw[bo,N];lia,d.map Ct.ref,c,Z d,?_⟩;rw[←e3];exact g3
  .rw[JN W]at k;cases g:ij p n d b with
   |none=>rw[g]at k;replace k:S b=JH u:=k;rw[B.hok.fresh hb]at k;cases k
   |some o =>
    rw[g]at k;cases k;unfold ij at g;cases ei:d.idxOf? b with
    |none=>rw[ei]at g;cases g
    |some j =>
     rw[ei]at g;dsimp only at g;cases l:p[j]? with
     |none=>rw[l]at g;cases g
     |some x =>
      cases A:n[j]? with
      |none=>rw[l,A]at g;cases g
      |some y =>
       rw[l,A]at g;cases g;obtain⟨_,x',y',fx,fy,gp⟩:=R j b (L b j ei);obtain⟨u1,a8,a2⟩:=vu.get l;obtain⟨v1,a7,a0⟩:=vv.get A;have P:us[j]?=JH x':=by simpa using fx
       have O:vs[j]?=JH y':=by simpa using fy
       rw[a8]at P;rw[a7]at O;cases P;cases O;exact⟨by show 2<=DO;decide,[x',y'],.cons a2 (.cons a0 .nil),_,gp,U,_,U⟩
 .have:c<f.heap.objs.size:=by
   rcases xM c f.heap.objs.size with z|z
   .exact z
   .rw[B.hok.fresh z]at e;cases e
  rw[hO c this];exact e
 .have w:j<d.length:=by
   obtain⟨h1,_⟩:=GA.mp l;obtain⟨a9,_⟩:=GA.mp A;lia
  have g:d[j]?=JH d[j]:=Gz w;exact⟨d[j],g,B.hok.fresh (vG (xK _ 6) (E _ j (F j _ g))),hT j x y _ l A g⟩
def Ite(K:W.Frag)(a:DF):It :=
 ⟨λi H=>∃b x,SqL K H a b/\b[i]?=JH x,
 λi H v H'=>∃T,H T=JI/\v=.ref T/\∀b x,SqL K H a b->b[i]?=JH x->H'=upd H T (.tup [.int i,x]),
 λi H=>∃b,SqL K H a b/\b.length<=i⟩
def wJ(e it a:DF)(i:Nat)(h:DG):Prop:=(∃b,IsEnum h e it i b)/\h.IsListIter it a i
theorem vg{P:Dn}{w:Cu}{K:W.Frag}{n:List GG} {x1} {tp:Pos}{e it a:DF}(m:e≠it) :
  Turn P w K (.Tuple n x1 tp) (Ite K a) [e,it] e (wJ e it a) where
 mem:=by simp
 obj:=λi h d c b=>by
  obtain⟨⟨f,l⟩,⟨Y,j,_,d2⟩⟩:=d;simp only[cf,jG,or_false]at b;rcases b with rfl|rfl
  .exact⟨_,l,λv q=>nomatch q⟩
  .exact⟨_,j,λv q=>by rw[d2]at q;cases q⟩
 keep:=λi h h' d k=>by
  obtain⟨⟨f,l⟩,j⟩:=d;exact⟨⟨f,k e (by simp) _ l⟩,j.at λo q=>k it (by simp) o q⟩
 item:=by
  intro X C A D b i JM s σ H E I r d B;subst C A D;obtain⟨Q,x,p,N⟩:=B;obtain⟨⟨f,l⟩,j⟩:=d;obtain⟨R,t,z,_⟩:=I.list p;obtain⟨u,eu,S⟩:=t.get N;refine wpAny_pyNext_enum_item l j z.isList (x:=u) (by simpa using eu) m λh1 a1 a2 a3 a4 a5=>?_
  refine⟨_,U,wpAny_letOwnedTupleGo_enum (s:={ s with heap:=h1,toks:=s.toks+1 }) a1 λF b1 b2=>?_⟩;have Z:s.heap.get? s.heap.objs.size=none:=by
   cases q:s.heap.get? s.heap.objs.size with
   |none=>rfl
   |some o=>exact JP (DG.lt_size q) (wh _)
  have M:H s.heap.objs.size=none:=I.hok.fresh (vD _);have L:s.heap.objs.size≠e:=vH (DG.lt_size l);have kk:∀c o,c ∉ [e,it]->s.heap.get? c=JH o->F.get? c=JH o:=λc o b q=>by
   simp only[cf,jG,or_false,not_or]at b;exact b2.extBut _ _ b.1 (a5 c o b.1 b.2 q)
  have J:=I.turnedPair (h':=F) (ch:=[e,it]) (T:=s.heap.objs.size) (x:=.int i) (y:=x) (u:=.int i s.toks) (v:=u) (λc b=>r c (by simp at b⊢;rcases b with q|q <;> simp[q])) kk Z M (b2.extBut _ _ L a3) ⟨_,U⟩ S;refine⟨.ref s.heap.objs.size,upd H s.heap.objs.size (.tup [.int i,x]),J.tok _,U,⟨_,M,U,λa0 x' V O=>?_⟩,⟨⟨_,b1⟩,a2.extBut b2.extBut m.symm⟩,λc b=>?_⟩
  .rw[I.list_inj V p,N]at O;cases O;rfl
  .have h0:=(r c b).1;have:c≠s.heap.objs.size:=by
    obtain⟨Y,G,_⟩:=j;simp only[cf,jG,or_false]at b;rcases b with rfl|rfl
    .exact L.symm
    .exact vE (DG.lt_size G)
   rw[ay this];exact h0
 done:=by
  intro X C A D b i JM s σ H E I r d B;subst C A D;obtain⟨Q,p,hl⟩:=B;obtain⟨⟨f,l⟩,j⟩:=d;obtain⟨R,t,z,_⟩:=I.list p;have l1:=t.length;refine wpAny_pyNext_enum_end (I.ok.hd b) l j z.isList (by simp;lia) λF k=>⟨U,I.turnedL (ch:=[e,it]) (λc b=>r c (by simp at b⊢;rcases b with q|q <;> simp[q])) λc o b q=>?_⟩
  simp only[cf,jG,or_false,not_or]at b;exact k c o b.2 q
 self:=λ_ _ _ _ _ d h=>let ⟨⟨_,g⟩,_⟩:=d;JE g h
inductive wK(K:W.Frag)(R:It->Hp->Prop)(vs:List V)(H1:Hp):Prop
 |mk (a:_)(_:vs=[.ref a])(_:(∃xs,SqL K H1 a xs))(_:R (Ite K a) H1)
def Cc(K:W.Frag)(b:TA):TI:=λσ H R=>b σ H λa c=>wK K R a c
theorem lK{f:GG}{i:TA}{p pos:Pos}{e:List GG} {x1} {tp:Pos}(x:Gl X "enumerate") (hm:X.mg "enumerate" = JI) (y:PA X [f] i)
  (w:GJ [f] X.env=[(JK,eval f X.env)]:=by rfl) :
  PI X (.Tuple e x1 tp) (.Call (.Name "enumerate" p) [f] [] pos) (Cc X.K i):=by
 intro JM s σ H R I h;refine Call_ (gY I x hm PyProof.Rows.boot_enumerate (PyProof.Rows.callWith_type1 (thn (y pos JM s σ H _ I h) λm b ⟨C,z,g,o,t⟩=>?_) (by rw[w];rfl) U));obtain⟨a,rfl,⟨B,r⟩,q⟩:=t;obtain⟨u,rfl,n⟩:=o.one;cases (show u=Ct.ref a from n);obtain⟨m,_,v,_⟩:=g.list r;refine call_enumerate_list v.isList λh' z1 l A k=>?_
 refine JE (s:={ b with heap:=h' }) z1 ?_;refine⟨b.heap.objs.size+1,[b.heap.objs.size+1,b.heap.objs.size],wJ (b.heap.objs.size+1) b.heap.objs.size a,Ite X.K a,z,U,g.kept (t':=b.toks) k,vg (vH (wj _)),⟨⟨_,z1⟩,l⟩,λc j=>?_,q⟩;have d:b.heap.objs.size<=c:=by
  simp only[cf,jG,or_false]at j;rcases j with rfl|rfl
  .exact w5 _
  .exact vD _
 exact g.fpOk d (g.hok.fresh d)
variable{gt:TG}{fr:List Nat}{tt:TT}{te:TE}
theorem sN{K:W.Frag}{a:DF}{xs:List V}{σ:St}{f:Hp}{Q:VK}(c:DF->Nat->List V->Hp->Prop)(t:∀D,f D=JI->c D 0 [] (upd f D (.lst [])))
  (r:∀D i ys H,f D=JI->i<=xs.length->c D i ys H->SqL K H a xs)
  (o:∀D i x ys H T,f D=JI->xs[i]?=JH x->c D i ys H->H T=JI->∀ts:St,ts.length=k->gt (.ref T) (cK σ fr ts) (upd H T (.tup [.int i,x])) λd u=>(∃g:St,g.length=k/\d=cK σ fr g)/\tt d u λb n=>if b=JJ then te d n (cQ c D i xs.length)else dC c D i xs.length n)
  (hd:∀D ys H,f D=JI->c D xs.length ys H->Q (.ref D) H):iP (Ite K a) gt k fr tt te σ Q f:=by
 intro D h;refine⟨λi m H=>m=xs.length-i/\i<=xs.length/\∃ys,c D i ys H,⟨_,U,vI _,[],t D h⟩,?_⟩;rintro i m H ⟨rfl,hi,ys,p⟩;have q:=r D i ys H h hi p;by_cases l:i<xs.length
 .have j:xs[i]?=JH xs[i]:=Gz l;refine .inr ⟨⟨xs,xs[i],q,j⟩,λx H' y=>?_⟩;obtain⟨T,s,rfl,e⟩:=y;rw[e xs _ q j];exact o D i _ ys _ T h j p s
 .have e:i=xs.length:=by lia
  subst e;exact .inl ⟨⟨xs,q,vD _⟩,hd D ys H h p⟩
theorem iR{K:W.Frag}{a b:DF}{xs ys:List V}{σ:St}{f:Hp}{Q:VK}(c:DF->Nat->List V->Hp->Prop)(u:∀D,f D=JI->c D 0 [] (upd f D (.lst [])))
  (s:∀D i zs H,f D=JI->i<=min xs.length ys.length->c D i zs H->SqL K H a xs/\SqL K H b ys)
  (r:∀D i x y zs H T,f D=JI->xs[i]?=JH x->ys[i]?=JH y->c D i zs H->H T=JI->∀ts:St,ts.length=k->gt (.ref T) (cK σ fr ts) (upd H T (.tup [x,y])) λd v=>(∃g:St,g.length=k/\d=cK σ fr g)/\tt d v λb q=>if b=JJ then te d q (cQ c D i (min xs.length ys.length))else dC c D i (min xs.length ys.length) q)
  (hd:∀D zs H,f D=JI->c D (min xs.length ys.length) zs H->Q (.ref D) H):iP (Itz K a b) gt k fr tt te σ Q f:=by
 intro D h;refine⟨λi m H=>m=min xs.length ys.length-i/\i<=min xs.length ys.length/\∃zs,c D i zs H,⟨_,U,vI _,[],u D h⟩,?_⟩;rintro i m H ⟨rfl,hi,zs,p⟩;obtain⟨l,j⟩:=s D i zs H h hi p;by_cases w:i<min xs.length ys.length
 .have o:xs[i]?=JH xs[i]:=Gz (by lia);have n:ys[i]?=JH ys[i]:=Gz (by lia);refine .inr ⟨⟨xs,ys,xs[i],ys[i],l,j,o,n⟩,λx H' y=>?_⟩;obtain⟨T,t,rfl,e⟩:=y;rw[e xs ys _ _ l j o n];exact r D i _ _ zs _ T h o n p t
 .have e:i=min xs.length ys.length:=by lia
  subst e;exact .inl ⟨⟨xs,ys,l,j,by lia⟩,hd D zs H h p⟩
theorem dE{X:Cx}{N:List Str}{k:Nat}{fr:List Nat}{scope:Ge}{cl:List (Str×DF)}(clos:HR scope X.env=pure cl)(kind:scope.kind=.function)(a:∀y∈scope.names,y.2≠.cell)
  (names:∀y∈scope.names,y.2=.local->scope.names.lookup y.1=JH .local)(b:N.length=k+fr.length)
  (sub:((List.range fr.length).all λi=>match N[k+i]?,fr[i]? with|some y,JH j=>(X.N[j]? == JH y) && ((X.env.kindOf y == JH .cell) && ((relabel scope X.env).names.lookup y == JH .cell))|_,_=>JK)=JJ)
  (cells:∀p∈cl,X.env.cells.lookup p.1=JH p.2)(d:((relabel scope X.env).names.all λp=>(p.2 != .cell && p.2 != .free) || (cl.lookup p.1).isSome)=JJ):lX X N k fr scope cl:=by
 refine⟨clos,kind,a,names,b,λi y e=>?_,λy c e=>cells _ (mem_of_lookup e),λy h=>?_⟩
 .have hi:i<fr.length:=by have:=(GA.mp e).1;lia
  have z:=ik.mp sub i (iv.mpr hi);rw[e,Gz hi]at z;simp only[zC,beq_iff_eq]at z;exact⟨_,Gz hi,z.1,.inl z.2.1,.inl z.2.2⟩
 .have look:∀k,(relabel scope X.env).names.lookup y=JH k->(k=.cell\/k=.free)->∃c,cl.lookup y=JH c:=λk e f=>by
   have z:=ik.mp d _ (mem_of_lookup e);rcases f with rfl|rfl
   .exact AU.mp (by simpa using z)
   .exact AU.mp (by simpa using z)
  rcases h with h|h
  .exact look _ h (.inl U)
  .exact look _ h (.inr U)
theorem wL(bs:List Bool):(List.range bs.length).all (λi=>bs.getD i JJ)=bs.all id:=by
 rw[Bool.eq_iff_iff,ik,ik];constructor
 .intro h b c;obtain⟨i,hi,rfl⟩:=List.getElem_of_mem c;have:=h i (iv.mpr hi);simpa[fo,hi]using this
 .intro h i hi;have a:=iv.mp hi;have:=h bs[i] (nq a);simpa[fo,a]using this
theorem vh{K:W.Frag}(f:X.K=K){a:GG}{c:TE}(e:PE X a c)(d:∀b,GH a X.env b=(do let v ←b;GQ a.pos;holding [v] (truthy v)):=by intro _;rfl) :
  PT X a (λσ H Q=>c σ H λx H'=>∃k,Ar K x H' k/\Q k H'):=f ▸ c0 e d
theorem mr(A:X.calm=JJ):cP X (.builtin "all") (λus H Q=>∃(a:DF)(bs:List Bool),us=[.ref a]/\SqL X.K H a (bs.map V.bl)/\Q (.bl (bs.all id)) H):=by
 intro JM s σ H us D Q I r h;obtain⟨a,bs,rfl,w,q⟩:=h;obtain⟨u,rfl,n⟩:=r.one;cases (show u=Ct.ref a from n);obtain⟨c,g,f,E⟩:=I.list w;have y:=g.length;rw[bo]at y;obtain⟨o,B,_⟩:=id f.isList;have t:a<s.heap.objs.size:=DG.lt_size B;refine call_all_walk (G8 f.isList ⟨s.heap.objs.size,[s.heap.objs.size,a],[s.heap.objs.size],c.toArray.size,_,_,λi=>bs.getD i JJ,U,G7.list (by simp[I.ok.hd A]) _ a (vE t) c.toArray,⟨⟨_,DG.get?_push_size _ U,U,U⟩,f.isList.push _⟩,?_,λh' m k=>?_⟩)
 .intro i v s2 C F x d;have l:c[i]?=JH v:=by simpa using x
  have hi:i<bs.length:=by have:=(GA.mp l).1;lia
  obtain⟨u,j,p⟩:=g.get (show(bs.map V.bl)[i]?=JH (.bl bs[i]) by rw[eR,Gz hi];rfl);rw[l]at j;cases j;obtain rfl:v=.bool bs[i]:=p;refine GR ?_;have:bs.getD i JJ=bs[i]:=by simp[fo,hi]
  replace d:C (bs.getD i JJ) s2:=d
  rw[this]at d;exact d
 .refine⟨.bl (bs.all id),H,I.kept (t':=m) λb o e=>k b o (λz=>?_) (DG.get?_push_of_some _ e),?_,q⟩
  .have:b=s.heap.objs.size:=by simpa using z
   exact JP (DG.lt_size e) (by rw[this];exact wh _)
  .show Ct.bool ((List.range c.toArray.size).all λi=>bs.getD i JJ)=.bool (bs.all id);rw[show c.toArray.size=bs.length by simp;lia,wL]
section
variable{elt iter tg:GG}{ifs:List GG}{cl:List (Str×DF)}
theorem wM{B:TI}{i:Nat}{y:Str}{c x:Pos}(hN:X.N.Nodup)(E:X.N[i]?=JH y)(R:Loc X.env.scope y)(hi:PI X tg iter B)(O:lX X N k fr scope cl)(Y:X.calm=JJ)(S:∀d C s H,PG (bA X N scope cl d C s H) tg gt)
  (F:∀d C s H,PIf (bA X N scope cl d C s H) ifs tt)(W:∀d C s H,PE (bA X N scope cl d C s H) elt te)(G:∀v,Ha iter X.env v=pure v:=by intro _;rfl)
  (n:GV (.ListComp elt [⟨tg,iter,ifs,0⟩] scope pos) (JH (.Name y c)) x.line X.env=pure true:=by rfl)(V:X.fn y=JJ\/X.env.scope.names.lookup y=JH .local:=by first|exact .inl U|exact .inr U|assumption) :
  PS X (.Assign [.Name y c] (.ListComp elt [⟨tg,iter,ifs,0⟩] scope pos) x) (xY (wm B gt k fr tt te) (og i)):=by
 intro JM s σ H j I h;rw[Ie _ _ _ _ n];refine BX (GZ (BX ?_));show GC _ X.A (do let _ ←comprehension (.ListComp elt [⟨tg,iter,ifs,0⟩] scope pos) scope X.env _ (HV []) JK (eval iter X.env) (JH (assign (.Name y c) X.env))) _ _ s;refine BX (GL (Ib (use:=JH (assign (.Name y c) X.env)) (Q:=λ_ b=>SP X JM j .next b) U G O.clos O.kind O.names (thn (hi JM s σ H _ I h) λv s1 h1=>thn h1 λa0 s2 h2=>?_)) (λ_ b K=>BY (BY K)) λ_ _ z=>z);obtain⟨it,d,tn,J,H2,e,f,T,l,f2,hW⟩:=h2;subst e;refine lY (Q:=λv H1=>og i v σ H1 j.nx) (RR:=λu C=>Ic (model X.prog X.w) X.A X.xe (JH (assign (.Name y c) X.env)) (λ_ b=>SP X JM j .next b) u C) O Y f T l f2 F W S hW λD C b H' g M ⟨m,P⟩ I' q=>?_
 show GC _ X.A (assign (.Name y c) X.env (.ref D)) _ _ b;refine GY (kv I' hN E R (v:=.ref D) U (λs3 I3 ⟨a,p,Z⟩=>?_) V);have t:C≠a:=by
  rcases Z with z|z
  .rw[z];exact vH (vF f.lt g)
  .obtain⟨v,o,L,_⟩:=f.cell y a z;exact vH (vF (DG.lt_size L) g)
 exact⟨m,P.sameBut p t,λh' r=>⟨_,H',f.left I3 g M r,q⟩⟩
end
set_option maxRecDepth 100000
theorem AR:PIp X .Mult (λx y H Q=>∃i j,x=.int i/\y=.int j/\Hc i j/\Q (.int (i*j)) H):=by
 intro JM s σ H x y v u Q I b a h;obtain⟨i,j,e,d,c,q⟩:=h;subst e;subst d;obtain⟨t,rfl⟩:=b;obtain⟨f,rfl⟩:=a;exact PyProof.Rows.imul_int ⟨.int _,H,I.tok _,⟨_,U⟩,q⟩ c
set_option maxRecDepth 100000
theorem mw{K:W.Frag}{a:DF}{xs:List V}{g:TG}{k:TS}{D:Ends}{σ:St}{H:Hp}(b:Nat->St->Hp->Prop)(t:b 0 σ H)(r:∀i σ H,b i σ H->SqL K H a xs)
  (q:∀i x σ H T,xs[i]?=JH x->b i σ H->H T=JI->g (.ref T) σ (upd H T (.tup [.int i,x])) λc j=>k { D with nx:=b (i+1),ct:=b (i+1),bk:=D.nx } c j)
  (hd:∀σ H,b xs.length σ H->D.nx σ H) :
  ∃W:Nat->Nat->St->Hp->Prop,(∃m,W 0 m σ H)/\∀i m σ H,W i m σ H ->
   ((Ite K a).stop i H/\D.nx σ H)\/((Ite K a).go i H/\∃N:St->Hp->Prop,(∀d H',N d H'->∃l,l<m/\W (i+1) l d H')/\∀x H',(Ite K a).yld i H x H'->g x σ H' λc j=>k { D with nx:=N,ct:=N,bk:=D.nx } c j):=by
 refine⟨λi m σ H=>m=xs.length-i/\i<=xs.length/\b i σ H,⟨xs.length,by simp,vI _,t⟩,?_⟩;rintro i m σ H ⟨rfl,hi,p⟩;have f:=r i σ H p;by_cases lt:i<xs.length
 .have h:xs[i]?=JH xs[i]:=Gz lt;refine .inr ⟨⟨xs,_,f,h⟩,b (i+1),λd H' o=>⟨_,?_,U,lt,o⟩,λv H' n=>?_⟩
  .lia
  .obtain⟨T,s,rfl,e⟩:=n;rw[e xs _ f h];exact q i _ σ H T h p s
 .have e:i=xs.length:=by lia
  subst e;exact .inl ⟨⟨xs,f,vD _⟩,hd σ H p⟩
theorem wN{X:Cx}{K:W.Frag}(h:X.K=K):SlR X (Az K):=h ▸ lH
structure DT(X:Cx)(N:List Str)(k:Nat)(fr:List Nat)(scope:Ge)(cl:List (Str×DF)):Prop where
 clos:HR scope X.env=pure cl
 kind:scope.kind=.function
 names:∀y∈scope.names,y.2=.local->scope.names.lookup y.1=JH .local
 len:N.length=k+fr.length
 sub:∀(i:Nat)(y:Str),N[k+i]?=JH y->∃j,fr[i]?=JH j/\X.N[j]?=JH y/\(X.env.kindOf y=JH .cell\/X.env.kindOf y=JH .free)/\((relabel scope X.env).names.lookup y=JH .cell\/(relabel scope X.env).names.lookup y=JH .free)/\∃c,cl.lookup y=JH c/\∀C:DF,(Hz (C+1) scope.names cl).lookup y=JH c
 cells:∀y c,cl.lookup y=JH c->X.env.cells.lookup y=JH c
 has:∀(C:DF)(y:Str),((relabel scope X.env).names.lookup y=JH .cell\/(relabel scope X.env).names.lookup y=JH .free)->∃c,(Hz (C+1) scope.names cl).lookup y=JH c
section
variable{elt iter tg:GG}{ifs:List GG}{cl:List (Str×DF)}
end
section
variable{st b₀:GK}{su:List GK}{tb:TSX}{ts:DF->DF->TS}{Tn:Str}{B:DF}{B2:Pos}
end
theorem yw{K:W.Frag}{b l:GG}{a:TE}(h:X.K=K)(c:PE X l a):PI X b l (BK K a):=h ▸ rP c
theorem oQ{K:W.Frag}{a:DF}{xs:List V}{σ:St}{f:Hp}{Q:VK}(c:DF->Nat->List V->Hp->Prop)(r:∀D,f D=JI->c D 0 [] (upd f D (.lst [])))
  (o:∀D i ys H,f D=JI->i<=xs.length->c D i ys H->SqT K H a xs)
  (n:∀D i x ys H,f D=JI->xs[i]?=JH x->c D i ys H->∀ts:St,ts.length=k->gt x (cK σ fr ts) H λd s=>(∃g:St,g.length=k/\d=cK σ fr g)/\tt d s λb l=>if b=JJ then te d l (cQ c D i xs.length)else dC c D i xs.length l)
  (hd:∀D ys H,f D=JI->c D xs.length ys H->Q (.ref D) H):iP (Itt K a) gt k fr tt te σ Q f:=by
 intro D h;refine⟨λi m H=>m=xs.length-i/\i<=xs.length/\∃ys,c D i ys H,⟨_,U,vI _,[],r D h⟩,?_⟩;rintro i m H ⟨rfl,hi,ys,p⟩;have q:=o D i ys H h hi p;by_cases j:i<xs.length
 .refine .inr ⟨⟨xs,xs[i],q,by simp[j]⟩,λx H' y=>?_⟩;obtain⟨e,y⟩:=y;subst e;exact n D i x ys _ h (y xs q) p
 .have e:i=xs.length:=by lia
  subst e;exact .inl ⟨⟨xs,q,vD _⟩,hd D ys H h p⟩
abbrev TTh:HO:=.ext λ_=>True
theorem qM{P:Dn}{w:Cu}{H:Hp}{h:DG}{a:DF}{o:Obj}(e:h.get? a=JH o):cq P w H h a (.frz o TTh):=⟨e,trivial,⟨o,e⟩,λ_ _ _ _=>trivial⟩
def hideL(H:Hp)(a:List DF):Hp:=λb=>if b∈a then JI else H b
def ip(H:Hp)(fz:List (DF×Obj)):Hp:=λb=>match fz.lookup b with
 |some o=>JH (.frz o TTh)
 |none=>H b
def backL(H H':Hp)(a:List DF):Hp:=λb=>if b∈a then H b else H' b
theorem kc{H:Hp}{a:List DF}{b:DF}(h:b∈a):hideL H a b=none:=JO h
theorem bT{H:Hp}{a:List DF}{b:DF}(h:b ∉ a):hideL H a b=H b:=JN h
theorem mx{H H':Hp}{a:List DF}{b:DF}(h:b∈a):backL H H' a b=H b:=JO h
theorem cG{H H':Hp}{a:List DF}{b:DF}(h:b ∉ a):backL H H' a b=H' b:=JN h
theorem gx{H:Hp}{a:List DF}{b:DF}(h:H b=JI):hideL H a b=none:=by
 unfold hideL;split
 .rfl
 .exact h
theorem sO{H:Hp}{a:List DF}{b:DF}{o:HO}(h:hideL H a b=JH o):b ∉ a/\H b=JH o:=by
 unfold hideL at h;split at h
 .cases h
 .rename_i n
  exact⟨n,h⟩
def Fzs(H:Hp)(a:List DF):Prop:=∀c∈a,∃o,H c=JH (.frz o TTh)
theorem Fzs.out{H:Hp}{a:List DF}(h:Fzs H a){b:DF}{u:HO}(e:H b=JH u)(n:∀o,u≠.frz o TTh):b ∉ a:=λz=>by
 obtain⟨o,q⟩:=h b z;rw[e]at q;exact n o (Option.some.inj q)
section
variable{h:DG}{cs:List DF}
theorem HOk.hideL(x:HOk P w H h)(f:Fzs H cs):HOk P w (hideL H cs) h:=λb o e=>by
 obtain⟨n,e⟩:=sO e;refine(x b o e).stay (λ_ _ _ q=>q) (λc q=>?_) λc a q=>?_
 .rw[bT (f.out q λ_ z=>by cases z)];exact q
 .rw[bT (f.out q λ_ z=>by cases z)];exact q
theorem HOk.backL(x:HOk P w H' h')(f:Fzs H cs)(n:∀c∈cs,H' c=JI)(k:∀c∈cs,∀o,H c=JH (.frz o TTh)->h'.get? c=JH o):HOk P w (backL H H' cs) h':=λb o e=>by
 by_cases a:b∈cs
 .rw[mx a]at e;obtain⟨d,q⟩:=f b a;rw[q]at e;cases e;exact qM (k b a d q)
 .rw[cG a]at e;have out:∀{c:DF}{u:HO},H' c=JH u->c ∉ cs:=λ{c u} q z=>by rw[n c z]at q;cases q
  refine(x b o e).stay (λ_ _ _ q=>q) (λc q=>?_) λc g q=>?_
  .rw[cG (out q)];exact q
  .rw[cG (out q)];exact q
theorem my(s:ar (hideL H cs) H'):ar H (backL H H' cs):=λb o e=>by
 by_cases a:b∈cs
 .rw[mx a];exact e
 .rw[cG a];exact s b o (by rw[bT a];exact e)
end
section
variable{fs:List DF}{h:DG}{cs:List DF}
theorem Un.backL(u:Un fs [] (hideL H cs) H' h h')(f:Fzs H cs):Un fs [] H (backL H H' cs) h h' where
 keep:=λb o e n a c=>u.keep b o e (gx n) a c
 slot:=λb o e n a c=>u.slot b o e (gx n) a c
 free:=λb o e n c=>by
  have:b ∉ cs:=λz=>by obtain⟨g,q⟩:=f b z;rw[n]at q;cases q
  rw[cG this];exact u.free b o e (gx n) c
 there:=u.there
 tups:=λb d e=>by
  have a:=f.out e λ_ z=>by cases z
  rw[cG a];exact u.tups b d (by rw[bT a];exact e)
 frzs:=λb o v e=>by
  by_cases a:b∈cs
  .rw[mx a];exact e
  .rw[cG a];exact u.frzs b o v (by rw[bT a];exact e)
 tbls:=λb ps e=>by
  have a:=f.out e λ_ z=>by cases z
  rw[cG a];exact u.tbls b ps (by rw[bT a];exact e)
end
def qN(b:Obj)(qual:Str):Prop:=∃a t,b.data=.fields a/\a[1]?=JH (.str qual t)
structure pK(N ps:List Str)(sc:Ge)(cl:List (Str×DF)):Prop where
 kind:sc.kind=.function
 co:sc.isCoroutine=JK
 gen:sc.isGenerator=JK
 nd:N.Nodup
 pre:N.take ps.length=ps
 par:∀x∈ps,sc.names.lookup x=JH .local
 nocell:∀y∈sc.names,y.2≠.cell
 has:∀y∈sc.names,y.2=.free->∃c,cl.lookup y.1=JH c
def cxC(CX:CXT)(P:Dn)(w:Cu)(K:W.Frag)(mg:Str->Option Ct)(base:DG)(N:List Str)(qual:Str)(scope:Ge)(f:DF)(b:Ct)(cl:List (Str×DF))(A:D7)(outer:List Env)(s:F7)(H:Hp)(E:XK):Cx where
 prog:=P
 w:=w
 K:=K
 mg:=mg
 base:=base
 A:=A.deeper (W.envX qual scope s.heap.objs.size f b cl)
 N:=N
 s₀:=s
 H₀:=hideL H (cl.map (·.2))
 env:=W.envX qual scope s.heap.objs.size f b cl
 outer:=outer
 stack:=W.envX qual scope s.heap.objs.size f b cl :: outer
 ex:=[]
 calm:=JJ
 fn:=λ_=>JK
 pn:=[]
 xe:=λe c=>GC (model P w) (A.deeper (W.envX qual scope s.heap.objs.size f b cl)) (leaving (W.envX qual scope s.heap.objs.size f b cl) e) (λ_ a=>CX outer H s E e a) (λd a=>CX outer H s E d a) c
def fv(H:Hp)(cl:List (Str×DF))(ws:List (Str×V)):Prop :=
 (∀c∈cl.map (·.2),∃o v,H c=JH (.frz o TTh)/\o.data=.cell v)/\∀(x:Str)(v:V),ws.lookup x=JH v->∃c o u,cl.lookup x=JH c/\H c=JH (.frz o TTh)/\o.data=.cell (JH u)/\RelV v u
theorem fv.fzs{H:Hp}{cl:List (Str×DF)}{ws:List (Str×V)}(h:fv H cl ws):Fzs H (cl.map (·.2)):=λc a=>let ⟨o,_,e,_⟩:=h.1 c a;⟨o,e⟩
theorem fv.same{H H':Hp}{cl:List (Str×DF)}{ws:List (Str×V)}(h:fv H cl ws)(s:ar H H'):fv H' cl ws :=
 ⟨λc f=>let ⟨o,v,e,d⟩:=h.1 c f;⟨o,v,s _ _ e,d⟩,λx v e=>let ⟨c,o,u,a,b,d,r⟩:=h.2 x v e;⟨c,o,u,a,s _ _ b,d,r⟩⟩
def kI(N ps:List Str)(vs:List V)(ws:List (Str×V)):St:=vs.map JH++(N.drop ps.length).map λx=>ws.lookup x
theorem mz{cl:List (Str×DF)}{x:Str}{c:DF}(h:cl.lookup x=JH c):c∈cl.map (·.2):=dy.mpr ⟨(x,c),mem_of_lookup h,U⟩
theorem sP{ps:List Str}{us:List Ct}{i:Nat}{y:Str}{u:Ct}(d:ps.Nodup)(g:ps[i]?=JH y)(f:us[i]?=JH u)(h:us.length=ps.length):(ps.zip us).reverse.lookup y=JH u:=by
 have c:((ps.zip us).map (·.1)).Nodup:=by rw[tu (by lia)];exact d
 rw[PySem.lookup_reverse_of_nodup _ c];have b:(y,u)∈ps.zip us:=by
  have:(ps.zip us)[i]?=JH (y,u):=by rw[q5];exact⟨g,f⟩
  exact GB this
 cases e:(ps.zip us).lookup y with
 |none =>
  exact JP b (by
   intro b;have:=List.lookup_eq_none_iff.mp e (y,u) b;simp at this)
 |some v =>
  have:=mem_of_lookup e;obtain⟨j,a⟩:=jF this;rw[q5]at a;have:=gX d a.1 g;subst this;rw[f]at a;rw[Option.some.inj a.2]
def HFn(P:Dn)(w:Cu)(K:W.Frag)(mg:Str->Option Ct)(base:DG)(k:Nat)(f:DF)(sp:Sp):Prop:=∃fd ps,aJ P w K mg base CX0 k f fd ps sp/\Binds K fd ps []
def FnO(H:Hp)(f:DF):Prop:=∃o fd,H f=JH (.frz o TTh)/\o.data=.func fd
variable{i:Nat}
inductive zK(X:Cx)(k i:Nat)(t:TA)(σ:St)(H:Hp)(Q:VK):Prop
 |mk (f:DF)(sp:Sp)(_:σ[i]?=JH (JH (.ref f)))(_:FnO H f)(_:HFn X.prog X.w X.K X.mg X.base k f sp)(_:t σ H λvs H1=>FnO H1 f/\sp vs H1 Q E0)
theorem uc(D:bN k X.A)(L:X.N[i]?=JH x)(C:Vis X.env.scope x)(K:PA X (e :: es) t)(G:(x == ("__debug__" : Str))=false:=by decide) (c:(x == ("__classdict__" : Str))=false:=by decide)
  (he:GJ (e :: es) X.env=(JK,eval e X.env) :: GJ es X.env:=by rfl)(b:(GI pos (GJ es X.env)).any (·.1)=false:=by rfl):PE X (.Call (.Name x p) (e :: es) [] pos) (zK X k i t):=by
 intro JM s σ H Q I h;obtain⟨f,sp,O,M,⟨fd,V,F,J⟩,h⟩:=h;have a:∀{H:Hp}{s:F7}{σ:St},Inv X JM σ H s->FnO H f->W.FnAt f s.heap:=λP ⟨o,fd,e,d⟩=>by
  have:=(P.hok f _ e).1;obtain⟨B,z,Y,m⟩:=o;simp only at d;subst d;exact⟨B,z,fd,m,this⟩
 refine B7 (thn (vL L C G c JM s σ H (λv H'=>v=.ref f/\H'=H) I ⟨_,O,U,U⟩) λu n ⟨v,R,l,r,y⟩=>?_);obtain⟨rfl,rfl⟩:=y;cases (show u=Ct.ref f from r);refine W.callWith_F (a l M) (thn (K pos JM n σ R _ l h) λT s2 ⟨S,Z,j,q,g,w⟩=>⟨a j g,?_⟩) he b;exact rY (E:=E0) (dvs:=[]) (ds:=[]) F D J .nil bW j q (by rw[jH];exact w)
theorem cz{H:Hp}{fz:List (DF×Obj)}{b:DF}(h:b ∉ fz.map (·.1)):ip H fz b=H b:=by
 unfold ip;cases e:fz.lookup b with
 |none=>rfl
 |some o=>exact JP (dy.mpr ⟨(b,o),W.mem_of_lookupK e,U⟩) h
theorem gy{H:Hp}{fz:List (DF×Obj)}{b:DF}(h:b∈fz.map (·.1)):∃o,(b,o)∈fz/\ip H fz b=JH (.frz o TTh):=by
 unfold ip;cases e:fz.lookup b with
 |none =>
  obtain⟨⟨c,o⟩,a,rfl⟩:=dy.mp h;have:=List.lookup_eq_none_iff.mp e _ a;simp at this
 |some o=>exact⟨o,W.mem_of_lookupK e,U⟩
structure pL(X:Cx)(s:F7)(fz:List (DF×Obj)):Prop where
 cell:∀p∈fz,∃x,X.env.cells.lookup x=JH p.1
 nb:∀p∈fz,X.base.get? p.1=JI
 nf:∀p∈fz,p.1 ∉ X.fs
 at_:∀p∈fz,s.heap.get? p.1=JH p.2
theorem pL.free{fz:List (DF×Obj)}(z:pL X s fz)(I:Inv X JM σ H s):∀b∈fz.map (·.1),H b=none:=λb c=>by
 obtain⟨p,a,rfl⟩:=dy.mp c;obtain⟨x,e⟩:=z.cell p a;exact I.freeC x _ e
theorem pL.hok{fz:List (DF×Obj)}(z:pL X s fz)(I:Inv X JM σ H s):HOk X.prog X.w (ip H fz) s.heap:=λb u e=>by
 by_cases a:b∈fz.map (·.1)
 .obtain⟨o,c,q⟩:=gy (H:=H) a;rw[q]at e;cases e;exact qM (z.at_ _ c)
 .rw[cz a]at e;have out:∀{d:DF}{u:HO},H d=JH u->ip H fz d=JH u:=λ{d u} q=>by
   rw[cz λm=>by rw[z.free I d m]at q;cases q];exact q
  exact(I.hok b u e).stay (λ_ _ _ q=>q) (λd q=>out q) λd f q=>out q
theorem pL.env0{fz:List (DF×Obj)}(z:pL X s fz)(I:Inv X JM σ H s):qr X.prog X.w X.K X.mg X.base X.A X.stack s (ip H fz):=by
 have e:=I.env0;refine⟨e.frames,e.mod,λb o q=>⟨(e.bs b o q).1,?_⟩,e.bsz,e.funs,λb c=>?_,z.hok I,e.bare⟩
 .rw[cz λm=>?_]
  .exact(e.bs b o q).2
  .obtain⟨p,a,rfl⟩:=dy.mp m;rw[z.nb p a]at q;cases q
 .rw[cz λm=>?_]
  .exact e.frf b c
  .obtain⟨p,a,rfl⟩:=dy.mp m;rcases cf.mp (I.stkSub _ c)with q|q
   .obtain⟨x,d⟩:=z.cell p a;exact I.cne x _ d q
   .exact z.nf p a q
theorem Inv.cellNew(I:Inv X JM σ H s){x:Str}{c:DF}(e:X.env.cells.lookup x=JH c)(d:X.fn x=JJ):X.base.get? c=JI/\c ∉ X.fs:=by
 have a:=I.ok.cab x c d e;refine⟨DG.get?_none_of_le (vG I.ok.bsz a),λq=>?_⟩;obtain⟨_,o,b,_⟩:=I.ok.funs.mem q;exact JP (DG.lt_size b) (zb.mpr a)
theorem pL.after{fz:List (DF×Obj)}{Q:VK}{u:Ct}{s':F7}(z:pL X s fz)(I:Inv X JM σ H s)(h:CE X.stack X.prog X.w (ip H fz) s (λv k=>Q v (hideL k (fz.map (·.1)))) u s'):EP X JM σ Q u s':=by
 obtain⟨v,k,A,j,un,hok,r,q⟩:=h;have fzs:Fzs k (fz.map (·.1)):=λc B=>by
  obtain⟨o,_,e⟩:=gy (H:=H) B;exact⟨o,un.frzs c o _ e⟩
 have out:∀{d:DF}{u:HO},H d=JH u->d ∉ fz.map (·.1):=λ{d u} q m=>by rw[z.free I d m]at q;cases q
 refine⟨v,hideL k (fz.map (·.1)),I.call' (ch:=[]) A ⟨λb o e n g f=>?_,λb o e n g f=>?_,λb o e n f=>?_,un.there,λb x e=>?_,λb o y e=>?_,λb ps e=>?_⟩ (hok.hideL fzs) j (λb g=>JP g (by simp)),r,q⟩
 .by_cases a:b∈fz.map (·.1)
  .obtain⟨p,t,l⟩:=gy (H:=H) a;have:=(hok b _ (un.frzs b p _ l)).1;have i:=z.at_ _ t;rw[e]at i;cases i;exact this
  .exact un.keep b o e (by rw[cz a];exact n) g f
 .by_cases a:b∈fz.map (·.1)
  .obtain⟨p,t,l⟩:=gy (H:=H) a;have:=(hok b _ (un.frzs b p _ l)).1;have i:=z.at_ _ t;rw[e]at i;cases i;exact⟨_,this⟩
  .exact un.slot b o e (by rw[cz a];exact n) g f
 .by_cases a:b∈fz.map (·.1)
  .exact kc a
  .rw[bT a];exact un.free b o e (by rw[cz a];exact n) f
 .have a:=out e;rw[bT a];exact un.tups b x (by rw[cz a];exact e)
 .have a:=out e;rw[bT a];exact un.frzs b o y (by rw[cz a];exact e)
 .have a:=out e;rw[bT a];exact un.tbls b ps (by rw[cz a];exact e)
def tZ(zs:List (Str×Nat×DF))(sp:Sp)(t:TA):TE:=λσ H Q=>t σ H λc b=>∀a:List Obj,a.length=zs.length->(∀z∈zs,b z.2.2=JI) ->
 (∀(j:Nat)(z:Str×Nat×DF),zs[j]?=JH z->∃o w,a[j]?=JH o/\o.data=.cell w/\∀v,σ[z.2.1]?=JH (JH v)->∃u,w=JH u/\RelV v u) ->
 sp c (ip b ((zs.map (·.2.2)).zip a)) (λv d=>Q v (hideL d (zs.map (·.2.2)))) E0
theorem oR{JM:List (DF×Obj)}{σ:St}{H:Hp}{s:F7}(I:Inv X JM σ H s):∀(zs:List (Str×Nat×DF)),(∀z∈zs,X.N[z.2.1]?=JH z.1/\(X.env.scope.names.lookup z.1=JH .cell\/X.env.scope.names.lookup z.1=JH .free)/\X.env.cells.lookup z.1=JH z.2.2/\(X.fn z.1=JJ\/(X.base.get? z.2.2=JI/\z.2.2 ∉ X.fs))) ->
  ∃f:List Obj,f.length=zs.length/\(∀(j:Nat)(z:Str×Nat×DF),zs[j]?=JH z->∃o w,f[j]?=JH o/\s.heap.get? z.2.2=JH o/\o.data=.cell w/\∀v,σ[z.2.1]?=JH (JH v)->∃u,w=JH u/\RelV v u)
 | [],_=>⟨[],U,λj z e=>by simp at e⟩
 |z :: zs,h=>by
  obtain⟨f,y,x⟩:=oR I zs λq a=>h q (fG _ a)
  obtain⟨A,b,n,E⟩:=h z dt;obtain⟨w,o,e,d⟩:=I.cell _ _ n;refine⟨o :: f,by rw[gb,gb,y],λj q a=>?_⟩
  match j,a with
  |0,a =>
   cases a;refine⟨o,w,U,e,d,λv t=>?_⟩;obtain⟨m,D,B⟩:=I.loc;obtain⟨u,r,l⟩:=B _ _ v A t (.inr b);rcases l with⟨g,_⟩|⟨_,c,k,C,p,i⟩
   .have g:X.env.scope.names.lookup z.1=JH .local:=g;rcases b with b|b <;> rw[b]at g <;> cases g
   .rw[n]at k;cases k;rw[e]at p;cases p;rw[d]at i;injection i with i;exact⟨u,i,r⟩
  |j+1,a=>exact x j q (by simpa using a)
theorem AS{JM:List (DF×Obj)}{σ:St}{H:Hp}{s:F7}{zs:List (Str×Nat×DF)}{g:List Obj}(I:Inv X JM σ H s)
  (hz:∀z∈zs,X.N[z.2.1]?=JH z.1/\(X.env.scope.names.lookup z.1=JH .cell\/X.env.scope.names.lookup z.1=JH .free)/\X.env.cells.lookup z.1=JH z.2.2/\(X.fn z.1=JJ\/(X.base.get? z.2.2=JI/\z.2.2 ∉ X.fs)))(n:g.length=zs.length)
  (k:∀(j:Nat)(z:Str×Nat×DF),zs[j]?=JH z->∃o w,g[j]?=JH o/\s.heap.get? z.2.2=JH o/\o.data=.cell w/\∀v,σ[z.2.1]?=JH (JH v)->∃u,w=JH u/\RelV v u):pL X s ((zs.map (·.2.2)).zip g):=by
 have b:∀p∈(zs.map (·.2.2)).zip g,∃z∈zs,z.2.2=p.1/\s.heap.get? p.1=JH p.2:=λp a=>by
  obtain⟨j,d⟩:=jF a;rw[q5,eR]at d;cases ez:zs[j]? with
  |none=>rw[ez]at d;cases d.1
  |some z =>
   rw[ez]at d;have i:z.2.2=p.1:=Option.some.inj d.1;obtain⟨o,w,h,m,_⟩:=k j z ez;rw[d.2]at h;cases h;exact⟨z,GB ez,i,i ▸ m⟩
 have new:∀z∈zs,X.base.get? z.2.2=JI/\z.2.2 ∉ X.fs:=λz c=>by
  obtain⟨_,_,l,f⟩:=hz z c;rcases f with f|f
  .exact I.cellNew l f
  .exact f
 refine⟨λp a=>?_,λp a=>?_,λp a=>?_,λp a=>?_⟩
 .obtain⟨z,c,e,_⟩:=b p a;exact⟨z.1,e ▸ (hz z c).2.2.1⟩
 .obtain⟨z,c,e,_⟩:=b p a;rw[←e];exact(new z c).1
 .obtain⟨z,c,e,_⟩:=b p a;rw[←e];exact(new z c).2
 .obtain⟨z,c,e,h⟩:=b p a;exact h
theorem wO{zs:List (Str×Nat×DF)}(C:Callee X.prog X.w X.K X.mg X.base k x ps sp)(O:bN k X.A)(R:Gl X x)(S:PA X (e :: es) t)(hz:∀z∈zs,X.N[z.2.1]?=JH z.1/\(X.env.scope.names.lookup z.1=JH .cell\/X.env.scope.names.lookup z.1=JH .free)/\X.env.cells.lookup z.1=JH z.2.2/\(X.fn z.1=JJ\/(X.base.get? z.2.2=JI/\z.2.2 ∉ X.fs)))
  (v:(x == ("__debug__" : Str))=false:=by decide) (he:GJ (e :: es) X.env=(JK,eval e X.env) :: GJ es X.env:=by rfl)(l:(GI pos (GJ es X.env)).any (·.1)=false:=by rfl):PE X (.Call (.Name x p) (e :: es) [] pos) (tZ zs sp t):=by
 obtain⟨f,fd,F,b,M,m⟩:=C;intro JM s σ H Q I h;refine B7 (dB I R m ?_ v);refine W.callWith_K (h₀:=X.base) I.ok.mod.kin M (thn (S pos JM s σ H _ I h) λg i ⟨J,V,a,r,q⟩=>⟨a.kIn,?_⟩) he l;obtain⟨B,G,E⟩:=oR a zs hz;have Y:((zs.map (·.2.2)).zip B).map (·.1)=zs.map (·.2.2):=tu (by rw[bo];lia);have d:=AS a hz G E;have D:=q B G (λz P=>a.freeC z.1 _ (hz z P).2.2.1) λj z T=>let ⟨o,w,a1,_,a3,a4⟩:=E j z T;⟨o,w,a1,a3,a4⟩
 have n:g.length=ps.length:=by rw[←r.length];exact F.len _ _ _ _ D
 refine Ht (Hu (F.run X.A X.stack i _ ⟨g,[]⟩ g J _ E0 O (d.env0 a) (by have:=b i g a.kIn (by rw[jH];exact n);rw[jH]at this;exact this) r D) λL y c=>?_);cases L with
 |error e=>exact bW JM σ V i e y a c
 |ok fl =>
  cases fl with
  |ret u =>
   have c:CE X.stack X.prog X.w _ i _ u y:=c;refine d.after a ?_;rw[Y];exact c
  |next=>exact False.elim c
  |brk=>exact False.elim c
  |cont=>exact False.elim c
open PySem.W
def wQ(tabs:List (DF×DF))(H:Hp):Prop:=∀b,H b=JI\/(∃o a,H b=JH (.frz o (.lst a)))\/(b∈tabs.map (·.2)/\H b=JH (.tbl #[]))
theorem vi{P:Dn}{w:Cu}{K:W.Frag}{mg mb:Str->Option Ct}{CX:CXT}{k:Nat}{fa a:DF}{fd:Hq}{x:Str}{sp:Sp}{c:F7}{vs:List Ct}{ns:List Int}{tabs:List (DF×DF)}
  (KX:K.In c.heap)(C:c.heap.Ns D0 mg)(hb:c.heap.Ns D4 mb)(a7:∀x:Str,x ≠ "__name__" -> mb x=D6 x) (DV:c.heap.NoLimit)(hg:c.gens = #[])
  (G:c.heap.get? a=JH { cls:=.type "list",data:=.seq vs.toArray }) (hi:IntsAre vs ns)(hl:ns.length<=DO)(hr:bN k HP)
  (L:TabsAt tabs c.heap)(a5:noTabs K=JJ)(a6:∃bm A,mg "__builtins__" = JH (.ref bm)/\bm≠D4/\c.heap.get? bm=JH A/\A.cls=.type "module" /\ A.dict=JH D4/\A.data=.plain)
  (F:∀base:DG,K.In base->base.Ns D0 mg->(∀q∈tabs,CodeHd base q.1 q.2/\base.BuiltinsAt mg q.2)->aJ P w K mg base CX k fa fd [x] sp)(Cd:∀(s:F7)(u:Ct),Hr s fd ⟨[u],[]⟩ [(x,u)])
  (a3:∀H:Hp,wQ tabs H->SqL K H a (ns.map V.int)->(∀q∈tabs,H q.2=JH (.tbl #[]))->sp [.ref a] H (λv _=>v=.bl JJ) λ_ _ _=>False)
  (b0:∀H e s',CX [] H c (λ_ _ _=>False) e s'->False) :
  Hk (model P w) HP (.call (.ref fa) ⟨[.ref a],[]⟩) (λr s'=>r=.ok (.ret (.bool JJ))/\OldK c.heap s'.heap/\s'.os=c.os/\AllBare s'.gens) c:=by
 have rv:=ow hi;have DW:=hi.length;have E:∀b∈tabs.map (·.2),c.heap.get? b=JH (tabObj #[]):=λb f=>by
  obtain⟨q,i,rfl⟩:=dy.mp f;exact(L q i).2
 have aT:a ∉ tabs.map (·.2):=λz=>by
  have e:=E a z;rw[G]at e;cases e
 have B:∀H:Hp,wQ tabs H->SqL K H a (ns.map V.int)->HOk P w H c.heap->(∀b,H b≠JI->b=a\/b∈tabs.map (·.2))->(H a≠JI->K.lookup a=JI)->(∀q∈tabs,H q.2=JH (.tbl #[])) ->
   Hk (model P w) HP (.call (.ref fa) ⟨[.ref a],[]⟩) (λr s'=>r=.ok (.ret (.bool JJ))/\OldK c.heap s'.heap/\s'.os=c.os/\AllBare s'.gens) c:=by
  intro H hO hS hok hA hK R;have lL:∀{b:DF}{o:Obj},c.heap.get? b=JH o->H b=JI->(lP c.heap H).get? b=JH o:=λe n=>vK e n
  have O:∀{b:DF}{o:Obj},c.heap.get? b=JH o->(b=a->False)->o≠tabObj #[]->H b=none:=λ{b o} e n1 n2=>by
   cases q:H b with
   |none=>rfl
   |some u =>
    rcases hA b (by rw[q];simp)with z|z
    .exact(n1 z).elim
    .have:=E b z;rw[e]at this;exact JP (Option.some.inj this) n2
  have a1:∀{b:DF}{o:Obj}{es:Array DictEntry}{I:Nat},c.heap.get? b=JH o->o.data=.dict es I->H b=none:=λ{b o es I} e d=>O e (λz=>by
   subst z;rw[G]at e;cases e;have N:Data.seq vs.toArray _=Data.dict es I:=d;cases N) (λz=>by rw[z]at d;cases d)
  have Q:∀{b:DF}{o:Obj}{T:String},c.heap.get? b=JH o->o.cls=.type T->T ≠ "list" -> H b=none:=λ{b o T} e d a9=>O e (λz=>by
   subst z;rw[G]at e;cases e;have N:Ct.type "list" = Ct.type T:=d;injection N with N;exact a9 N.symm) (λz=>by rw[z]at d;cases d)
  have y:∀{b:DF}{m:Str->Option Ct},c.heap.Ns b m->(lP c.heap H).Ns b m:=λ{b m} ⟨o,es,I,e,d,r⟩=>⟨o,es,I,lL e (a1 e d),d,r⟩
  have S:K.In (lP c.heap H):=λb o e=>lL (KX b o e) (by
   cases q:H b with
   |none=>rfl
   |some u =>
    rcases hA b (by rw[q];simp)with z|z
    .subst z;rw[hK (by rw[q];simp)]at e;cases e
    .have j:=E b z;rw[KX b o e]at j;cases j;have h2:=ik.mp a5 (b,tabObj #[]) (mem_of_lookupK e);exact JP (show JK=JJ from h2) Bool.false_ne_true)
  have hM:Mod K mg (lP c.heap H):=⟨S,y C,⟨mb,y hb,a7⟩,let ⟨mc,h1,h2⟩:=DV;⟨mc,y h1,h2⟩⟩;have e0:qr P w K mg (lP c.heap H) HP [] c H:=⟨U,hM,λb o e=>xW e,Nat.le_of_eq (uF _ _),trivial,λb hb=>JP (show b∈([]:List DF)from hb) (by simp),hok,.of_eq hg⟩;have a8:∀q∈tabs,CodeHd (lP c.heap H) q.1 q.2/\(lP c.heap H).BuiltinsAt mg q.2:=λq i=>by
   obtain⟨o,a0,Y,tf,D,tg,a2,X,tt,M,r1,r2⟩:=(L q i).1;obtain⟨bm,A,b1,b2,J,b4,b5,b6⟩:=a6;refine⟨⟨o,a0,Y,tf,D,tg,a2,X,tt,lL M (Q M r1 (by decide)),r1,r2⟩,bm,A,b1,b2,λz=>?_,λz=>?_,lL J (Q J b4 (by decide)),b4,b5,b6⟩
   .obtain⟨o',es,I,e,d,_⟩:=C;rw[z,e]at J;cases J;rw[d]at b6;cases b6
   .have j:=(L q i).2;rw[z,j]at J;cases J;cases b4
  refine Hu ((F _ S (y C) a8).run HP [] c H ⟨[.ref a],[]⟩ [.ref a] [.ref a] _ _ hr e0 (Cd c (.ref a)) (.cons U .nil) (a3 H hO hS R)) λr s' h=>?_
  cases r with
  |error e=>exact(b0 H e s' h).elim
  |ok fl =>
   cases fl with
   |next=>exact False.elim h
   |brk=>exact False.elim h
   |cont=>exact False.elim h
   |ret u =>
    obtain⟨v,H',os,Z,un,Ce,r',q⟩:=h;have q':v=.bl true:=q;subst q';obtain rfl:u=Ct.bool true:=r';have kept:∀b o,b ∉ tabs.map (·.2)->c.heap.get? b=JH o->s'.heap.get? b=JH o:=λb o f e=>by
     cases q:H b with
     |none=>exact un.keep b o e q (by intro z;exact JP (show b∈([]:List DF)from z) (by simp)) (by simp)
     |some u =>
      rcases hO b with z|⟨A,xs,z⟩|⟨z,_⟩
      .rw[q]at z;cases z
      .have z2:=un.frzs b A _ z;obtain⟨M,_⟩:=hok b _ z;obtain⟨j,_⟩:=Ce b _ z2;rw[e]at M;cases M;exact j
      .exact JP z f
    have l:∀b∈tabs.map (·.2),isCodeTable c.heap b/\∃g,s'.heap.get? b=JH (tabObj g):=λb f=>by
     obtain⟨qq,i,rfl⟩:=dy.mp f;obtain⟨g,e⟩:=un.tbls _ _ (R qq i);have j:s'.heap.get? qq.2=JH (tabObj (#[]++g)):=Ce _ _ e;exact⟨((L qq i).1.tab (L qq i).2).isCodeTable,_,j⟩
    refine⟨U,⟨λb o e=>?_,λb o e=>?_⟩,os,Z⟩
    .by_cases f:b∈tabs.map (·.2)
     .obtain⟨ht,g,j⟩:=l b f;have e3:=E b f;rw[e]at e3;cases e3;exact .inr (.inl ⟨ht,U,#[],g,U,by rw[Array.empty_append];exact j⟩)
     .exact .inl (kept b o f e)
    .by_cases f:b∈tabs.map (·.2)
     .obtain⟨_,g,j⟩:=l b f;exact⟨_,j⟩
     .exact⟨o,kept b o f e⟩
 cases hk:K.lookup a with
 |some o =>
  have e:=KX a o hk;rw[G]at e;cases e;refine B (λb=>if b∈tabs.map (·.2)then JH (.tbl #[])else JI) (λb=>?_) (.inr ⟨_,vs.toArray,_,hk,U,U,U,by rw[dn,DW];exact hl,by simpa using rv⟩) (λb u z=>?_) (λb z=>?_) (λz=>JP (JN aT) z) λq i=>JO (dy.mpr ⟨q,i,U⟩)
  .by_cases f:b∈tabs.map (·.2)
   .exact .inr (.inr ⟨f,JO f⟩)
   .exact .inl (JN f)
  .by_cases f:b∈tabs.map (·.2)
   .have t:=(JO f).symm.trans z;cases t;exact E b f
   .have t:=(JN f).symm.trans z;cases t
  .by_cases f:b∈tabs.map (·.2)
   .exact .inr f
   .exact JP (JN f) z
 |none =>
  refine B (λb=>if b=a then JH (.frz { cls:=.type "list",data:=.seq vs.toArray } (.lst (ns.map V.int)))else if b∈tabs.map (·.2)then JH (.tbl #[])else JI) (λb=>?_) (.inl (.inr ⟨{ cls:=.type "list",data:=.seq vs.toArray },JO U⟩)) (λb u z=>?_) (λb z=>?_) (λ_=>hk) λq i=>?_
  .by_cases f:b=a
   .exact .inr (.inl ⟨_,_,JO f⟩)
   .by_cases p:b∈tabs.map (·.2)
    .exact .inr (.inr ⟨p,(JN f).trans (JO p)⟩)
    .exact .inl ((JN f).trans (JN p))
  .by_cases f:b=a
   .have t:=(JO f).symm.trans z;cases t;subst f;exact⟨G,by rw[bo];exact hl,vs,_,rv,G⟩
   .by_cases p:b∈tabs.map (·.2)
    .have t:=((JN f).trans (JO p)).symm.trans z;cases t;exact E b p
    .have t:=((JN f).trans (JN p)).symm.trans z;cases t
  .by_cases f:b=a
   .exact .inl f
   .by_cases p:b∈tabs.map (·.2)
    .exact .inr p
    .exact JP ((JN f).trans (JN p)) z
  .have hm:q.2∈tabs.map (·.2):=dy.mpr ⟨q,i,U⟩;have a4:q.2≠a:=λz=>aT (z ▸ hm)
   exact(JN a4).trans (JO hm)
theorem walk_ofT{l:W.OpenLaw}{n k:Nat}{q:Dn}{i:List Str}{XP:(Str->Option Ct)->DG->Prop}{N:Cu->DG->Prop}{d:DefRec}{K:HN->W.Frag}{CX:Cu->CXT}{sp:Cu->Sp}{x:Str}{tabs:HN->List (DF×DF)}{xs:List Str}
  (X:l.most=JH n)(D:n<=DO)(I:d.params.defaults=[])(S:bN k HP)
  (hY:∀(w:Cu)(h:DG),N w h->(K w.params).In h)(C:∀p:HN,noTabs (K p)=JJ)
  (A:∀y∈xs,∃d',(recsOf q).find? (λe=>e.name == y)=JH d')(P:∀p:HN,∀t∈tabs p,∃y∈xs,tabIn (K p) y=JH t)
  (F:∀(w:Cu)(mg:Str->Option Ct)(r:DF)(h:DG),(K w.params).In h->h.Ns D0 mg->mg d.name=JH (.ref r) ->
   ∃fd:Hq,(∀(s:F7)(u:Ct),Hr s fd ⟨[u],[]⟩ [(x,u)]) /\
    ∀base:DG,(K w.params).In base->base.Ns D0 mg->(∀q∈tabs w.params,CodeHd base q.1 q.2/\base.BuiltinsAt mg q.2)->aJ l.prog w (K w.params) mg base (CX w) k r fd [x] (sp w))
  (B:∀(w:Cu)(H:Hp)(a:DF)(ns:List Int),ns.length<=n->wQ (tabs w.params) H->SqL (K w.params) H a (ns.map V.int)->(∀q∈tabs w.params,H q.2=JH (.tbl #[]))->sp w [.ref a] H (λv _=>v=.bl JJ) λ_ _ _=>False)
  (M:∀(w:Cu)(H:Hp)(s:F7)(e:Ct)(s':F7),CX w [] H s (λ_ _ _=>False) e s'->False) :
  W.WalkO q i XP N l.row.toRowW d [] (λf vs=>PySem.call f vs):=by
 refine Att.attach_call X I λw O m mg mb r o pm cd a1 a vs ns G Y ho hd a0 E AE j c Z=>?_
 have z:=hY w _ Y;obtain⟨fd,hb,hF⟩:=F w mg r _ z G.T.g E;refine vi z G.T.g G.T.b G.T.builtins G.T.nolimit Z AE j (vG c D) S (tabs:=tabs w.params) (λt R=>?_) (C w.params) G.T.bmain hF hb (λH hO hS L=>B w H a ns c hO hS L) λH e s'=>M w H m e s'
 obtain⟨y,Q,e⟩:=P w.params t R;obtain⟨d',J⟩:=A y Q;exact tab_of G.T z J e
section
variable{mg:Str->Option Ct}
theorem Fun.okT{x qual:Str}{st:GK}{f c:DF}{fd:Hq}{N ps:List Str}{k:Nat}{sp:Sp}(F:Fun K x qual st f fd)(b:fd.code=.ref c)(S:aq N ps (ak st))(d:∀vs H Q E,sp vs H Q E->vs.length=ps.length)
  (m:∀(A:D7)(a:List Env)(s:F7)(H:Hp)(vs:List V)(Q:VK)(E:XK),bN k (A.deeper (envOfC qual (ak st) s.heap.objs.size f (.ref c)))->sp vs H Q E ->
   ∃t,PSs (iY CX0 P w K mg base N qual (ak st) f (.ref c) A a s H E).nox (cD st) t/\t { nx:=λ_ H'=>Q .non H',rt:=Q } (start N vs) H):aJ P w K mg base CX0 (k+1) f fd ps sp:=by
 obtain⟨u,r,kV,o,p,y,i,v,n,rfl,j,g⟩:=F.ex;have b:i=.ref c:=b;subst b;refine wa j g S d λA a s H vs Q E l e=>?_
 obtain⟨t,h,q⟩:=m A a s H vs Q E l e;exact⟨t,h.nox,q⟩
def jl(H:Hp)(f c':DF)(b:Obj)(qual:Str)(cl:List (Str×DF))(ws:List (Str×V)):Prop:=H f=JH (.frz b TTh)/\(∃a,H c'=JH (.frz a TTh)/\qN a qual)/\fv H cl ws
theorem jl.same{H H':Hp}{f c':DF}{a:Obj}{qual:Str}{cl:List (Str×DF)}{ws:List (Str×V)}(h:jl H f c' a qual cl ws)(s:ar H H'):jl H' f c' a qual cl ws :=
 ⟨s _ _ h.1,let ⟨oc,e,q⟩:=h.2.1;⟨oc,s _ _ e,q⟩,h.2.2.same s⟩
theorem qO{zs:List (Str×Nat×DF)}{f:List Obj}{H:Hp}{σ:St}{cl:List (Str×DF)}{ws:List (Str×V)}(K:f.length=zs.length)(s:(zs.map (·.2.2)).Nodup)
  (t:∀(j:Nat)(z:Str×Nat×DF),zs[j]?=JH z->∃o w,f[j]?=JH o/\o.data=.cell w/\∀v,σ[z.2.1]?=JH (JH v)->∃u,w=JH u/\RelV v u)
  (C:∀c∈cl.map (·.2),∃z∈zs,z.2.2=c)(B:∀(x:Str)(v:V),ws.lookup x=JH v->∃z∈zs,cl.lookup x=JH z.2.2/\σ[z.2.1]?=JH (JH v)):fv (ip H ((zs.map (·.2.2)).zip f)) cl ws:=by
 have h:∀z∈zs,∃o w,ip H ((zs.map (·.2.2)).zip f) z.2.2=JH (.frz o TTh)/\o.data=.cell w/\∀v,σ[z.2.1]?=JH (JH v)->∃u,w=JH u/\RelV v u:=λz g=>by
  obtain⟨j,p⟩:=jF g;obtain⟨o,w,m,l,G⟩:=t j z p;have J:((zs.map (·.2.2)).zip f).map (·.1)=zs.map (·.2.2):=tu (by rw[bo];lia);obtain⟨q,y,F⟩:=gy (H:=H) (fz:=(zs.map (·.2.2)).zip f) (b:=z.2.2) (by rw[J];exact dy.mpr ⟨z,g,U⟩);obtain⟨i,k⟩:=jF y;rw[q5]at k;have D:(zs.map (·.2.2))[j]?=JH z.2.2:=by rw[eR,p];rfl
  obtain⟨M,I⟩:=GA.mp k.1;obtain⟨L,b2⟩:=GA.mp D;have n:i=j:=(uE s).mp (I.trans b2.symm);subst n;have E:o=q:=Option.some.inj (m.symm.trans k.2);subst E;exact⟨o,w,F,l,G⟩
 refine⟨λc A=>?_,λx v e=>?_⟩
 .obtain⟨z,g,rfl⟩:=C c A;obtain⟨o,w,a,b,_⟩:=h z g;exact⟨o,w,a,b⟩
 .obtain⟨z,g,m,l⟩:=B x v e;obtain⟨o,w,a,b,d⟩:=h z g;obtain⟨u,rfl,r⟩:=d v l;exact⟨z.2.2,o,u,m,a,b,r⟩
end
theorem wU{a:Ge}{cl:List (Str×DF)}(h:(a.names.all λy=>match y.2 with | .free=>(cl.map (·.1)).any (y.1 == ·)|_=>JJ)=JJ):∀y∈a.names,y.2=.free->∃c,cl.lookup y.1=JH c:=λy d e=>by
 have:=ik.mp h y d;rw[e]at this;obtain⟨z,b,g⟩:=pk.mp this;obtain⟨p,f,rfl⟩:=dy.mp b;cases q:cl.lookup y.1 with
 |some c=>exact⟨c,U⟩
 |none =>
  have:=List.lookup_eq_none_iff.mp q p f;simp[bne,g]at this
theorem ud{N:List Str}{a:Ge}{ws:List (Str×V)}(h:((ws.map (·.1)).all λx=>match a.names.lookup x with|some .free=>JJ|_=>JK)=JJ):∀y∈N,∀v,ws.lookup y=JH v->a.names.lookup y=JH .free:=λy _ v e=>by
 have:=ik.mp h y (dy.mpr ⟨(y,v),mem_of_lookup e,U⟩);split at this
 .assumption
 .cases this
theorem tab_mk{K:Frag}{x qual:Str}{st:GK}{f c P:DF}{g kV doc pm m:Ct}{d n:Option DF}{b:Array (Option Ct)}{j:Ct}{i:Option DF}{vs:Array Ct}{h:Array (Option Ct)}(a:nsIn K D0 x=JH (JH (.ref f)))
  (l:K.lookup f=JH ⟨g,d,.func (fnOf x qual (gn st) (cD st) (ak st) .none kV doc pm n (.ref c) m),b⟩)(k:K.lookup c=JH ⟨j,i,.fields vs,h⟩)(e:vs[11]?=JH (.ref P)):tabIn K x=JH (c,P):=by
 unfold tabIn;rw[a];simp only[l];show(match K.lookup c with|some ⟨_,_,.fields vs,_⟩=>(match (vs[11]?:Option Ct)with|some (.ref P)=>JH (c,P)|_=>JI)|_=>JI)=JH (c,P);rw[k];simp only[e]
section
variable{zs:List (Str×Nat×DF)}{os:List Obj}{H2:Hp}
theorem mB(a:os.length=zs.length):((zs.map (·.2.2)).zip os).map (·.1)=zs.map (·.2.2):=tu (by rw[bo];lia)
theorem mC(c:os.length=zs.length)(d:∀z∈zs,H z.2.2=JI):ar H (ip H ((zs.map (·.2.2)).zip os)):=λb u e=>by
 rw[cz λm=>?_]
 .exact e
 .rw[mB c]at m;obtain⟨z,a,rfl⟩:=dy.mp m;rw[d z a]at e;cases e
theorem hide_same(d:os.length=zs.length)(a:∀z∈zs,H z.2.2=JI)(s:ar (ip H ((zs.map (·.2.2)).zip os)) H2):ar H (hideL H2 (zs.map (·.2.2))):=λb u e=>by
 rw[bT λm=>?_]
 .exact s _ _ (mC d a _ _ e)
 .obtain⟨z,c,rfl⟩:=dy.mp m;rw[a z c]at e;cases e
end
abbrev T3a(a:Type):=Int×Int×a
def Fm(L:Type):Nat->Type
 |0=>L
 |n+1=>List (Int×Int×Fm L n)
def Fm.dec{L:Type} [d:DecidableEq L]:(n:Nat)->DecidableEq (Fm L n)
 |0=>d
 |n+1=>have:=Fm.dec (L:=L) n;(inferInstance:DecidableEq (List (Int×Int×Fm L n)))
instance {L:Type} [DecidableEq L] (n:Nat):DecidableEq (Fm L n):=Fm.dec n
section
variable{α:Type}
def cJ [DecidableEq α] (f:List (T3a α))(t:T3a α):List (T3a α):=match f.getLast? with
 |some l=>if l.2.2=t.2.2 then f.dropLast++[(l.1,t.2.1,t.2.2)]else f++[t]
 |none=>f++[t]
def gz [DecidableEq α] (ts:List (T3a α)):List (T3a α):=ts.foldl cJ []
def Ch3:List (T3a α)->Int->Int->Prop
 | [],lo,hi=>lo=hi+1
 |t :: r,lo,hi=>t.1=lo/\lo<=t.2.1/\Ch3 r (t.2.1+1) hi
theorem Ch3.snoc{t:T3a α}:∀{f:List (T3a α)}{lo mid:Int},Ch3 f lo mid->t.1=mid+1->t.1<=t.2.1->Ch3 (f++[t]) lo t.2.1
 | [],lo,mid,h,e,l=>⟨by rw[e];exact h.symm,by have:lo=mid+1:=h;lia,U⟩
 |u :: f,lo,mid,h,e,l=>⟨h.1,h.2.1,Ch3.snoc (f:=f) h.2.2 e l⟩
theorem Ch3.unsnoc{t:T3a α}:∀{f:List (T3a α)}{lo hi:Int},Ch3 (f++[t]) lo hi->t.2.1=hi/\t.1<=t.2.1/\Ch3 f lo (t.1-1)
 | [],lo,hi,h=>⟨by have:t.2.1+1=hi+1:=h.2.2;lia,by have:=h.1;have:=h.2.1;lia,by show lo=t.1-1+1;have:=h.1;lia⟩
 |u :: f,lo,hi,h=>let ⟨a,b,c⟩:=Ch3.unsnoc (f:=f) h.2.2;⟨a,b,h.1,h.2.1,c⟩
def Nbx(ys:List α):Prop:=∀(i:Nat)(a b:α),ys[i]?=JH a->ys[i+1]?=JH b->a≠b
theorem Nbx.snoc{ys:List α}{y:α}(h:Nbx ys)(e:∀l,ys.getLast?=JH l->l≠y):Nbx (ys++[y]):=λi a b d c=>by
 have hi:=(GA.mp c).1;simp only[dg,hQ]at hi;by_cases g:i+1<ys.length
 .rw[fc (by lia)]at d;rw[fc g]at c;exact h i a b d c
 .have f:i+1=ys.length:=by lia
  rw[fc (by lia)]at d;rw[f]at c;simp at c;subst c;refine e a ?_;rw[List.getLast?_eq_getElem?];rw[show ys.length-1=i by lia];exact d
def vAt(f:List (T3a α))(c:Int):Option α:=(f.find? λt=>decide (c<=t.2.1)).map (·.2.2)
theorem iS(f g:List (T3a α))(c:Int):vAt (f++g) c=(vAt f c).or (vAt g c):=by
 unfold vAt;rw[List.find?_append];cases f.find? _ <;> rfl
theorem pM(t:T3a α)(c:Int):vAt [t] c=if c<=t.2.1 then JH t.2.2 else none:=by
 unfold vAt;by_cases h:c<=t.2.1 <;> simp[h]
structure vk(ts f:List (T3a α))(lo hi:Int):Prop where
 ch:Ch3 f lo hi
 nb:Nbx (f.map (·.2.2))
 va:∀c,vAt f c=vAt ts c
 mem:∀t∈f,∃t'∈ts,t'.2.2=t.2.2
 ne:ts≠[]->f≠[]
theorem vk.step [DecidableEq α] {ts f:List (T3a α)}{lo mid:Int}{t:T3a α}(h:vk ts f lo mid)(e:t.1=mid+1)(l:t.1<=t.2.1):vk (ts++[t]) (cJ f t) lo t.2.1:=by
 rcases ny f with j|⟨g,u,j⟩
 .subst j;have:cJ [] t=[t]:=rfl;rw[this];refine⟨Ch3.snoc (f:=[]) h.ch e l,λi a b y p=>by simp at p,λc=>?_,λv d=>⟨t,by simp,by rw[iE.mp d]⟩,λ_=>by simp⟩;rw[iS,←h.va c];rfl
 .rw[nB]at j;subst j;have o:=h.ch.unsnoc;have s:(g++[u]).getLast?=JH u:=by simp
  unfold cJ;rw[s];simp only;by_cases q:u.2.2=t.2.2
  .rw[JO q];have w:(g++[u]).dropLast=g:=by simp
   rw[w];have r:(g++[((u.1,t.2.1,t.2.2):T3a α)]).map (·.2.2)=(g++[u]).map (·.2.2):=by simp[q]
   refine⟨Ch3.snoc (t:=((u.1,t.2.1,t.2.2):T3a α)) o.2.2 (by show u.1=u.1-1+1;lia) (by show u.1<=t.2.1;lia),by rw[r];exact h.nb,λc=>?_,λv d=>?_,λ_=>by simp⟩
   .rw[iS ts,←h.va c,iS,iS,pM,pM,pM];show(vAt g c).or (if c<=t.2.1 then JH t.2.2 else JI)=((vAt g c).or (if c<=u.2.1 then JH u.2.2 else JI)).or (if c<=t.2.1 then JH t.2.2 else JI);cases vAt g c with
    |some x=>rfl
    |none =>
     by_cases n:c<=u.2.1
     .rw[JO n,JO (by lia),q];rfl
     .rw[JN n];rfl
   .rcases ia.mp d with d|d
    .obtain⟨k,a,b⟩:=h.mem v (kN _ d);exact⟨k,kN _ a,b⟩
    .rw[iE.mp d];exact⟨t,by simp,U⟩
  .rw[JN q];refine⟨h.ch.snoc e l,?_,λc=>?_,λv d=>?_,λ_=>by simp⟩
   .rw[fF];refine Nbx.snoc h.nb λz m=>?_
    rw[fF]at m;simp at m;rw[←m];exact q
   .rw[iS,iS ts,h.va c]
   .rcases ia.mp d with d|d
    .obtain⟨k,a,b⟩:=h.mem v d;exact⟨k,kN _ a,b⟩
    .rw[iE.mp d];exact⟨t,by simp,U⟩
theorem qP [DecidableEq α]:∀{r ts f:List (T3a α)}{lo mid hi:Int},vk ts f lo mid->Ch3 r (mid+1) hi->vk (ts++r) (r.foldl cJ f) lo hi
 | [],ts,f,lo,mid,hi,h,c=>by
  have:mid=hi:=by have:mid+1=hi+1:=c;lia
  subst this;rw[jH];exact h
 |t :: r,ts,f,lo,mid,hi,h,c=>by
  have:=qP (r:=r) (h.step c.1 (by have:=c.1;have:=c.2.1;lia)) c.2.2;rw[tw]at this;exact this
theorem fY [DecidableEq α] {ts:List (T3a α)}{lo hi:Int}(h:Ch3 ts lo hi):vk ts (gz ts) lo hi :=
 qP (ts:=[]) (f:=[]) (mid:=lo-1) ⟨by show lo=lo-1+1;lia,λi a b e d=>by simp at d,λ_=>U,λt c=>by simp at c,λz=>JP U z⟩ (by rw[show lo-1+1=lo by lia];exact h)
theorem Ch3.at:∀{f:List (T3a α)}{lo hi c:Int},Ch3 f lo hi->lo<=c->c<=hi->∃(j:Nat)(t:T3a α),f[j]?=JH t/\t.1<=c/\c<=t.2.1/\(∀(i:Nat)(u:T3a α),i<j->f[i]?=JH u->u.2.1<c)/\vAt f c=JH t.2.2
 | [],lo,hi,c,h,h1,h2=>by have:lo=hi+1:=h;lia
 |t :: r,lo,hi,c,h,h1,h2=>by
  by_cases q:c<=t.2.1
  .exact⟨0,t,U,by have:=h.1;lia,q,λi u hi=>JP hi (yi i),by unfold vAt;rw[mv (by simpa using q)];rfl⟩
  .obtain⟨j,u,a,b,d,e,v⟩:=Ch3.at (f:=r) h.2.2 (c:=c) (by lia) h2;refine⟨j+1,u,by simpa using a,b,d,λi w hi g=>?_,by unfold vAt at v⊢;rw[ni (by simpa using q)];exact v⟩
   match i,g with
   |0,g=>cases g;lia
   |i+1,g=>exact e i w (by lia) (by simpa using g)
end
def lay{L:Type} [DecidableEq L] (g:List Int->L):(cols:List (List (Int×Int)))->List Int->Fm L cols.length
 | [],ah=>g ah
 |c :: cs,ah=>gz (c.map λp=>((p.1,p.2,lay g cs (ah++[p.1])):T3a (Fm L cs.length)))
def ShS{a:Type}(S:a->List (Int×Int)->Prop)(f:List (T3a a))(ps:List (Int×Int)):Prop:=∃p r,ps=p :: r/\f≠[]/\Ch3 f p.1 p.2/\Nbx (f.map (·.2.2))/\∀t∈f,S t.2.2 r
def dI{L:Type}:(n:Nat)->Fm L n->List (Int×Int)->Prop
 |0,_,ps=>ps=[]
 |n+1,f,ps=>ShS (dI n) f ps
def yx:List (Int×Int)->Int->Int->Prop
 | [],lo,hi=>lo=hi+1
 |p :: r,lo,hi=>p.1=lo/\lo<=p.2/\yx r (p.2+1) hi
theorem wV{a:Type}(F:Int×Int->a):∀{c:List (Int×Int)}{lo hi:Int},yx c lo hi->Ch3 (c.map λp=>((p.1,p.2,F p):T3a a)) lo hi
 | [],lo,hi,h=>h
 |p :: r,lo,hi,h=>⟨h.1,h.2.1,wV F h.2.2⟩
inductive iq:List (List (Int×Int))->List (Int×Int)->Prop
 |nil:iq [] []
 |cons {c:List (Int×Int)}{cs:List (List (Int×Int))}{p:Int×Int}{ps:List (Int×Int)}:c≠[]->yx c p.1 p.2->iq cs ps->iq (c :: cs) (p :: ps)
theorem pN{L:Type} [DecidableEq L] {g:List Int->L}{a:List (List (Int×Int))}{ps:List (Int×Int)}(h:iq a ps):∀b:List Int,dI a.length (lay g a b) ps:=by
 induction h with
 |nil=>intro b;exact(rfl:([]:List (Int×Int))=[])
 | @cons c cs p ps hne hc _ ih =>
  intro b;have k:=fY (wV (λq=>lay g cs (b++[q.1])) hc);refine⟨p,ps,U,k.ne (by simpa using hne),k.ch,k.nb,λt d=>?_⟩;obtain⟨i,f,e⟩:=k.mem t d;obtain⟨q,_,rfl⟩:=dy.mp f;rw[←e];exact ih _
def cx(col:List (Int×Int))(c:Int):Int:=((col.find? λp=>decide (c<=p.2)).map (·.1)).getD 0
theorem ue{a:Type}(F:Int×Int->a)(c:Int):∀col:List (Int×Int),vAt (col.map λp=>((p.1,p.2,F p):T3a a)) c=(col.find? λp=>decide (c<=p.2)).map F
 | []=>rfl
 |p :: r=>by
  unfold vAt;rw[kO];by_cases q:c<=p.2
  .rw[mv (by simpa using q),mv (by simpa using q)];rfl
  .rw[ni (by simpa using q),ni (by simpa using q)];exact ue F c r
inductive Tel{L:Type}:(n:Nat)->Fm L n->List Int->L->Prop
 |nil (x:L):Tel 0 x [] x
 |cons {n:Nat}{f:List (T3a (Fm L n))}{c:Int}{cs:List Int}{x:L}{j:Nat}{t:T3a (Fm L n)}:f[j]?=JH t->c<=t.2.1->(∀(i:Nat)(u:T3a (Fm L n)),i<j->f[i]?=JH u->u.2.1<c)->Tel n t.2.2 cs x->Tel (n+1) f (c :: cs) x
inductive InB:List Int->List (Int×Int)->Prop
 |nil:InB [] []
 |cons {c:Int}{cs:List Int}{p:Int×Int}{ps:List (Int×Int)}:p.1<=c->c<=p.2->InB cs ps->InB (c :: cs) (p :: ps)
theorem pO{L:Type} [DecidableEq L] {g:List Int->L}{a:List (List (Int×Int))}{ps:List (Int×Int)}(h:iq a ps):∀(d b:List Int),InB b ps->Tel a.length (lay g a d) b (g (d++List.zipWith cx a b)):=by
 induction h with
 |nil=>intro d b e;cases e;rw[List.zipWith_nil_left,jH];exact .nil _
 | @cons c a p ps hne hc _ ih =>
  intro d b e;cases e with
  | @cons x b _ _ h1 h2 e =>
   have k:=fY (wV (λq=>lay g a (d++[q.1])) hc);obtain⟨j,t,o,r,n,m,f⟩:=k.ch.at h1 h2;rw[k.va,ue]at f;cases e6:c.find? (λp=>decide (x<=p.2)) with
   |none=>rw[e6]at f;cases f
   |some q =>
    rw[e6]at f;have l:lay g a (d++[q.1])=t.2.2:=Option.some.inj f;have i:cx c x=q.1:=by unfold cx;rw[e6];rfl
    refine .cons o n m ?_;rw[←l,List.zipWith_cons_cons,i];have:=ih (d++[q.1]) b e;rw[tw]at this;exact this
def FmL{a:Type}(R:a->V->Prop)(H:Hp)(f:List (T3a a))(xs:List V):Prop:=xs.length=f.length/\∀(i:Nat)(t:T3a a),f[i]?=JH t->∃(r:DF)(u:V),xs[i]?=JH (.ref r)/\H r=JH (.tup [.int t.1,.int t.2.1,u])/\R t.2.2 u
def nN(K:W.Frag)(H:Hp):Prop:=∀(r:DF)(b a:List V),SqT K H r b->SqT K H r a->b=a
inductive eG(K:W.Frag)(H:Hp):Nat->V->V->Bool->Prop where
 |of {n:Nat}{x y:V}{b:Bool}(h:DEq K H n x y b):eG K H n x y b
 |ti {n:Nat}{a:DF}{xs:List V}{i:Int}(h:SqT K H a xs):eG K H n (.ref a) (.int i) JK
 |it {n:Nat}{a:DF}{xs:List V}{i:Int}(h:SqT K H a xs):eG K H n (.int i) (.ref a) JK
 |tup {n:Nat}{a b:DF}{xs ys:List V}{f:Nat->Bool}(ne:a≠b)(ha:SqT K H a xs)(hb:SqT K H b ys)(h:∀(j:Nat)(x y:V),xs[j]?=JH x->ys[j]?=JH y->eG K H n x y (f j)):eG K H (n+1) (.ref a) (.ref b) ((List.range (min xs.length ys.length)).all f && xs.length == ys.length)
theorem eG.mono{K:W.Frag}{H:Hp}{n m:Nat}{x y:V}{b:Bool}(e:eG K H n x y b)(h:n<=m):eG K H m x y b:=by
 induction e generalizing m with
 |of e=>exact .of (e.mono h)
 |ti e=>exact .ti e
 |it e=>exact .it e
 |tup a f d _ c =>
  obtain⟨m,rfl⟩:∃k,m=k+1:=⟨m-1,by lia⟩;exact .tup a f d λj x y i g=>c j x y i g (by lia)
theorem DX(I:Inv X JM σ H s):nN X.K H:=λr p m l k=>by
 obtain⟨c,h,j,_⟩:=I.tuple l;obtain⟨a,f,i,_⟩:=I.tuple k;obtain⟨o,e,_,n,d⟩:=j;obtain⟨q,g,_,t,b⟩:=i;rw[e]at g;cases g;rw[d]at b;injection b with b;have:c=a:=by simpa using b
 rw[←this]at f;exact Vals.inj h f
theorem eG.at{n:Nat}{x y:V}{b:Bool}(e:eG X.K H n x y b)(I:Inv X JM σ H s):∀{A:D7}{u v:Ct},A.units+n<Hn->RelV x u->RelV y v->SeqAt.EqAt A s u v b:=by
 induction e with
 |of e=>intro A u v l k g;exact e.at I l k g
 | @ti n a xs i h =>
  intro A u v l k g;cases (show u=Ct.ref a from k);obtain⟨t,rfl⟩:=g;obtain⟨c,r,p,_⟩:=I.tuple h;exact SeqAt.EqAt.tuple_int i t (show s.heap.IsTuple a c.toArray from p) (by lia)
 | @it n a xs i h =>
  intro A u v l k g;obtain⟨t,rfl⟩:=k;cases (show v=Ct.ref a from g);obtain⟨c,r,p,_⟩:=I.tuple h;exact SeqAt.EqAt.int_tuple i t (show s.heap.IsTuple a c.toArray from p) (by lia)
 | @tup n a b xs ys f ne ha hb h ih =>
  intro A u v l k g;cases (show u=Ct.ref a from k);cases (show v=Ct.ref b from g);obtain⟨c,r,p,_⟩:=I.tuple ha;obtain⟨d,m,z,_⟩:=I.tuple hb;have G:=r.length;have F:=m.length;have o:=SeqAt.RcAt.tuples (A:=A) (e:=f) (show s.heap.IsTuple a c.toArray from p) (show s.heap.IsTuple b d.toArray from z) (by lia) (λj C B=>by
   obtain⟨x,E,w⟩:=fI r C;obtain⟨y,D,q⟩:=fI m B;exact ih j x y E D (by show A.units+1+n<Hn;lia) w q)
  rw[show c.toArray.size=xs.length by simp only[dn];lia,show d.toArray.size=ys.length by simp only[dn];lia]at o;exact SeqAt.EqAt.of_refs ne o
inductive sQ(K:W.Frag)(neg:Bool)(x:V)(y:V)(H:Hp)(Q:VK):Prop
 |tt (a b:DF)(xs ys:List V)(_:x=.ref a)(_:y=.ref b)(_:SqT K H a xs)(_:SqT K H b ys)(f:Nat->Bool)(_:(∀(j:Nat)(x y:V),xs[j]?=JH x->ys[j]?=JH y->eG K H 60 x y (f j)))(_:Q (.bl (if neg then !((List.range (min xs.length ys.length)).all f && xs.length == ys.length) else(List.range (min xs.length ys.length)).all f && xs.length == ys.length)) H):sQ K neg x y H Q
 |ti (a:DF)(xs:List V)(i:Int)(_:x=.ref a)(_:y=.int i)(_:SqT K H a xs)(_:Q (.bl neg) H):sQ K neg x y H Q
 |it (a:DF)(xs:List V)(i:Int)(_:x=.int i)(_:y=.ref a)(_:SqT K H a xs)(_:Q (.bl neg) H):sQ K neg x y H Q
theorem wW{JM:List (DF×Obj)}{σ:St}{H:Hp}{s:F7}{A:D7}{xs ys:List V}{a its':List Ct}{f:Nat->Bool}(I:Inv X JM σ H s)(h:A.units+60<Hn)(r:Vals xs a)(d:Vals ys its')
  (hf:∀(j:Nat)(x y:V),xs[j]?=JH x->ys[j]?=JH y->eG X.K H 60 x y (f j)):∀j (c:j<a.toArray.size)(b:j<its'.toArray.size),SeqAt.EqAt A s a.toArray[j] its'.toArray[j] (f j):=λj c b=>by
 obtain⟨x,k,g⟩:=fI r c;obtain⟨y,i,e⟩:=fI d b;exact(hf j x y k i).at I h g e
theorem AV{k:Nat}(E:bN k X.A):OpR X (He .Eq) (sQ X.K JK):=by
 intro JM s σ H x y v u Q I n m h;have L:=E.units;cases h with
 |tt a b o J j g d G f F q =>
  subst j g;cases (show v=Ct.ref a from n);cases (show u=Ct.ref b from m);obtain⟨c,r,p,_⟩:=I.tuple d;obtain⟨l,z,B,_⟩:=I.tuple G;have D:=r.length;have C:=z.length;refine SeqAt.eq_tupleAt (e:=f) (show s.heap.IsTuple a c.toArray from p) (show s.heap.IsTuple b l.toArray from B) (by lia) (wW I (by show X.A.units+1+60<Hn;lia) r z F) ⟨.bl _,H,I,U,?_⟩;simp only[dn];rw[←D,←C];exact q
 |ti a o i j g d q =>
  subst j g;cases (show v=Ct.ref a from n);obtain⟨t,rfl⟩:=m;obtain⟨c,r,p,_⟩:=I.tuple d;exact SeqAt.RcAt.tuple_int i t (show s.heap.IsTuple a c.toArray from p) (by lia) X.prog X.w X.xe _ ⟨.bl _,H,I,U,q⟩
 |it a o i j g d q =>
  subst j g;obtain⟨t,rfl⟩:=n;cases (show u=Ct.ref a from m);obtain⟨c,r,p,_⟩:=I.tuple d;exact SeqAt.RcAt.int_tuple i t (show s.heap.IsTuple a c.toArray from p) (by lia) X.prog X.w X.xe _ ⟨.bl _,H,I,U,q⟩
def rFm(K:W.Frag):R2:=λx y H Q=>nN K H->rEq x y H Q\/sQ K JK x y H Q
structure Lfp(K:W.Frag)(L:Type) [DecidableEq L] where
 R:Hp->L->V->Prop
 mono:∀{H H':Hp}{x:L}{v:V},cg H H'->R H x v->R H' x v
 inj:∀{H:Hp}{x y:L}{v:V},nN K H->R H x v->R H y v->x=y
 deq:∀{H:Hp}{x y:L}{u v:V},nN K H->R H x u->R H y v->eG K H 2 u v (JL (x=y))
 eq:∀{H:Hp}{x y:L}{u v:V}{Q:VK},nN K H->R H x u->R H y v->Q (.bl (JL (x=y))) H->rEq u v H Q\/sQ K JK u v H Q
 ne:∀{H:Hp}{x y:L}{u v:V}{Q:VK},nN K H->R H x u->R H y v->Q (.bl (!JL (x=y))) H->rNe u v H Q\/sQ K JJ u v H Q
def FmV{K:W.Frag}{L:Type} [DecidableEq L] (A:Lfp K L)(H:Hp):(n:Nat)->Fm L n->V->Prop
 |0,x,v=>A.R H x v
 |n+1,f,v=>∃(a:DF)(xs:List V),v=.ref a/\H a=JH (.tup xs)/\FmL (FmV A H n) H f xs
theorem FmL.mono{d:Type}{R g:d->V->Prop}{H H':Hp}{f:List (T3a d)}{xs:List V}(h:FmL R H f xs)(k:∀x u,R x u->g x u)(s:cg H H'):FmL g H' f xs:=⟨h.1,λi t e=>by
 obtain⟨r,u,a,b,c⟩:=h.2 i t e;exact⟨r,u,a,s _ _ b,k _ _ c⟩⟩
theorem FmV.mono{K:W.Frag}{L:Type} [DecidableEq L] {A:Lfp K L}{H H':Hp}(s:cg H H'):∀{n:Nat}{f:Fm L n}{v:V},FmV A H n f v->FmV A H' n f v
 |0,_,_,h=>A.mono s h
 |n+1,_,_,h=>by
  obtain⟨a,xs,d,c,b⟩:=h;exact⟨a,xs,d,s _ _ c,b.mono (λ_ _ q=>FmV.mono s q) s⟩
theorem FmL.nil{a:Type}{R:a->V->Prop}{H:Hp}:FmL R H [] []:=⟨U,λi t e=>by simp at e⟩
theorem FmL.snoc{d:Type}{R:d->V->Prop}{H:Hp}{f:List (T3a d)}{xs:List V}{t:T3a d}{r:DF}{u:V}(h:FmL R H f xs)(l:H r=JH (.tup [.int t.1,.int t.2.1,u]))(q:R t.2.2 u):FmL R H (f++[t]) (xs++[.ref r]):=by
 refine⟨by simp[h.1],λi v e=>?_⟩;by_cases hi:i<f.length
 .rw[fc hi]at e;obtain⟨k,j,a,b,c⟩:=h.2 i v e;exact⟨k,j,by rw[fc (by rw[h.1];exact hi)];exact a,b,c⟩
 .have g:i=f.length:=by
   have:=(GA.mp e).1;simp at this;lia
  subst g;simp at e;subst e;exact⟨r,u,by rw[←h.1];simp,l,q⟩
theorem FmL.init{g:Type}{R:g->V->Prop}{H:Hp}{f:List (T3a g)}{xs:List V}{t:T3a g}(h:FmL R H (f++[t]) xs):∃(ys:List V)(r:DF)(u:V),xs=ys++[.ref r]/\FmL R H f ys/\H r=JH (.tup [.int t.1,.int t.2.1,u])/\R t.2.2 u:=by
 obtain⟨r,u,a,b,c⟩:=h.2 f.length t (by simp);have j:=h.1;rw[dg,hQ]at j;rcases ny xs with d|⟨ys,y,d⟩
 .subst d;simp at j
 .rw[nB]at d;subst d;have k:ys.length=f.length:=by simpa using j
  rw[←k]at a;simp at a;subst a;refine⟨ys,r,u,U,⟨k,λi v e=>?_⟩,b,c⟩;have hi:=(GA.mp e).1;obtain⟨n,m,l,p,o⟩:=h.2 i v (by rw[fc hi];exact e);rw[fc (by lia)]at l;exact⟨n,m,l,p,o⟩
theorem FmL.inj{m:Type}{R:m->V->Prop}{H:Hp}{f g:List (T3a m)}{xs:List V}(k:∀x y u,R x u->R y u->x=y)(h:FmL R H f xs)(h':FmL R H g xs):f=g:=by
 refine ri λi=>?_
 cases e:f[i]? with
 |none =>
  have:f.length<=i:=List.getElem?_eq_none_iff.mp e;rw[List.getElem?_eq_none_iff.mpr (by rw[←h'.1,h.1];exact this)]
 |some t =>
  have hi:=(GA.mp e).1;obtain⟨j,n⟩:∃j,g[i]?=JH j:=⟨_,Gz (l:=g) (i:=i) (by rw[←h'.1,h.1];exact hi)⟩;obtain⟨r,u,a,b,c⟩:=h.2 i t e;obtain⟨B,v,p,d,o⟩:=h'.2 i _ n;rw[a]at p;cases p;rw[b]at d;obtain⟨A,z,w⟩:=t;obtain⟨E,D,C⟩:=j;simp only at d c o;injection d with d;injection d with d;simp only[List.cons.injEq,V.int.injEq,and_true]at d;obtain⟨s,q,rfl⟩:=d;rw[n,s,q,k _ _ _ c o]
theorem FmV.inj{K:W.Frag}{L:Type} [DecidableEq L] {A:Lfp K L}{H:Hp}(e:nN K H):∀{n:Nat}{f g:Fm L n}{v:V},FmV A H n f v->FmV A H n g v->f=g
 |0,_,_,_,h,h'=>A.inj e h h'
 |n+1,_,_,_,h,h'=>by
  obtain⟨a,xs,l,k,j⟩:=h;obtain⟨o,m,c,b,d⟩:=h';rw[l]at c;cases c;rw[k]at b;cases b;exact FmL.inj (R:=FmV A H n) (λx y u q i=>FmV.inj e q i) j d
theorem FmL.deq{D:Type} [DecidableEq D] {R:D->V->Prop}{K:W.Frag}{H:Hp}{m:Nat}{f g:List (T3a D)}{xs ys:List V}(inj:∀x y u,R x u->R y u->x=y)(k:∀x y u v,R x u->R y v->eG K H m u v (JL (x=y)))
  (h:FmL R H f xs)(h':FmL R H g ys):(∀(j:Nat)(x y:V),xs[j]?=JH x->ys[j]?=JH y->eG K H (m+1) x y (JL (f[j]?=g[j]?)))/\((List.range (min xs.length ys.length)).all (λj=>decide (f[j]?=g[j]?)) && xs.length == ys.length)=JL (f=g):=by
 refine⟨λj x y l o=>?_,?_⟩
 .have Q:j<f.length:=by rw[←h.1];exact(GA.mp l).1
  have F:j<g.length:=by rw[←h'.1];exact(GA.mp o).1
  have L:=Gz Q;have J:=Gz F;obtain⟨r,u,a,b,c⟩:=h.2 j _ L;obtain⟨O,G,M,p,E⟩:=h'.2 j _ J;rw[l]at a;cases a;rw[o]at M;cases M;rw[L,J];generalize f[j]=t at *
  generalize g[j]=t' at *
  obtain⟨w,s,B⟩:=t;obtain⟨A,z,C⟩:=t';simp only at b p c E;by_cases I:r=O
  .subst I;rw[b]at p;injection p with p;injection p with p;simp only[List.cons.injEq,V.int.injEq,and_true]at p;obtain⟨z1,N,rfl⟩:=p;have:decide (JH (w,s,B)=JH (A,z,C))=true:=by rw[z1,N,inj _ _ _ c E];simp
   rw[this];exact .of (.same r)
  .have d:=eG.tup (K:=K) (H:=H) (n:=m) (f:=λi=>match i with|0=>decide (w=A)|1=>decide (s=z)|_=>decide (B=C)) I (SqT.of b) (SqT.of p) λi x y l o=>?_
   .have e:((List.range (min [V.int w,V.int s,u].length [V.int A,V.int z,G].length)).all (λi=>match i with|0=>decide (w=A)|1=>decide (s=z)|_=>decide (B=C)) && [V.int w,V.int s,u].length == [V.int A,V.int z,G].length)=JL (JH (w,s,B)=JH (A,z,C)):=by
     show((List.range 3).all (λi=>match i with|0=>decide (w=A)|1=>decide (s=z)|_=>decide (B=C)) && JJ)=_;have:List.range 3=[0,1,2]:=rfl;rw[this];simp only[ph,List.all_nil,Bool.and_true,Option.some.injEq,Prod.mk.injEq,Bool.decide_and]
    rw[e]at d;exact d
   .match i,l,o with
    |0,l,o=>cases l;cases o;exact .of (.flat U U)
    |1,l,o=>cases l;cases o;exact .of (.flat U U)
    |2,l,o=>cases l;cases o;exact k _ _ _ _ c E
    |i+3,l,_=>simp at l
 .rw[h.1,h'.1];by_cases e:f=g
  .subst e;simp
  .rw[JR e];by_cases P:f.length=g.length
   .rw[Bool.and_eq_false_iff];left
    refine zD.mpr λq=>e (ri λi=>?_)
    rw[ik]at q;by_cases hi:i<f.length
    .exact JS (q i (iv.mpr (by lia)))
    .rw[List.getElem?_eq_none_iff.mpr (by lia),List.getElem?_eq_none_iff.mpr (by lia)]
   .simp[P]
theorem FmV.deq{K:W.Frag}{L:Type} [DecidableEq L] {A:Lfp K L}{H:Hp}(j:nN K H):∀{n:Nat}{f g:Fm L n}{u v:V},FmV A H n f u->FmV A H n g v->eG K H (2*n+2) u v (JL (f=g))
 |0,f,g,_,_,h,h'=>A.deq j h h'
 |n+1,f,g,_,_,h,h'=>by
  obtain⟨a,xs,rfl,l,k⟩:=h;obtain⟨b,r,rfl,c,i⟩:=h';obtain⟨p,o⟩:=FmL.deq (R:=FmV A H n) (K:=K) (m:=2*n+2) (λx y u q d=>FmV.inj j q d) (λx y u v q d=>FmV.deq j q d) k i;by_cases e:a=b
  .subst e;rw[l]at c;cases c;have:f=g:=FmL.inj (R:=FmV A H n) (λx y u q d=>FmV.inj j q d) k i;rw[JQ this];exact .of (.same a)
  .have:=eG.tup e (SqT.of l) (SqT.of c) p;rw[o]at this;exact this
theorem vm{f:Ct->Ct->Sem Ct}{r e:R2}(a:OpR X f r)(b:OpR X f e):OpR X f (λx y H Q=>r x y H Q\/e x y H Q):=λJM s σ H x y v u Q I d c h=>h.elim (a JM s σ H x y v u Q I d c) (b JM s σ H x y v u Q I d c)
theorem AW{k:Nat}(c:bN k X.A):OpR X (He .Eq) (rFm X.K):=λJM s σ H x y v u Q I b a h=>vm cc (AV c) JM s σ H x y v u Q I b a (h (DX I))
theorem FmV.eq_to{K:W.Frag}{L:Type} [DecidableEq L] {A:Lfp K L}{H:Hp}{Q:VK}:∀{n:Nat}{f g:Fm L n}{u v:V},n<=20->FmV A H n f u->FmV A H n g v->Q (.bl (JL (f=g))) H->rFm K u v H Q
 |0,f,g,_,_,_,h,h',q=>λc=>A.eq c h h' q
 |n+1,f,g,_,_,hn,h,h',q=>λc=>by
  obtain⟨a,xs,rfl,o,l⟩:=h;obtain⟨b,k,rfl,i,e⟩:=h';obtain⟨t,s⟩:=FmL.deq (R:=FmV A H n) (K:=K) (m:=2*n+2) (λx y u q d=>FmV.inj c q d) (λx y u v q d=>FmV.deq c q d) l e;refine .inr <| .tt a b xs k U U (SqT.of o) (SqT.of i) _ (λj x y r p=>(t j x y r p).mono (by lia)) ?_;rw[JN (by decide),s];exact q
theorem wX(x y:Int):decide (V.int x=V.int y)=JL (x=y):=by
 by_cases e:x=y
 .rw[JQ e,e];simp
 .rw[JR e];exact JR λz=>e (V.int.inj z)
theorem wY(x y:Int):eqV (.int x) (.int y)=JL (x=y):=by
 show((x:Int) == (y:Int))=JL (x=y);by_cases e:x=y
 .rw[JQ e,e];simp
 .rw[JR e];exact beq_eq_false_iff_ne.mpr e
def wZ{K:W.Frag}:Lfp K Int where
 R _ x v:=v=.int x
 mono _ h:=h
 inj _ h h':=V.int.inj (h.symm.trans h')
 deq {H x y u v} _ h h':=by
  cases h;cases h';rw[←wY];exact .of (.flat U U)
 eq {H x y u v Q} _ h h' q:=by
  cases h;cases h';refine .inl ⟨U,?_⟩;rw[wX];exact q
 ne {H x y u v Q} _ h h' q:=by
  cases h;cases h';refine .inl ⟨U,?_⟩;rw[wX];exact q
abbrev SI2:=Str×Int
def tp2(p:SI2):List V:=[.str p.1,.int p.2]
theorem lM{p q:SI2}(h:tp2 p=tp2 q):p=q:=by
 injection h with b a;injection a with a c;exact Prod.ext (V.str.inj b) (V.int.inj a)
def Vd(K:W.Frag)(H:Hp)(r:DF)(x:SI2):Prop:=H r=JH (.tup (tp2 x))\/ModT K r (tp2 x)
theorem Vd.sq{K:W.Frag}{H:Hp}{r:DF}{x:SI2}(h:Vd K H r x):SqT K H r (tp2 x):=h.elim (λh=>SqT.of h) λh=>h.sq H
theorem Vd.mono{K:W.Frag}{H H':Hp}{r:DF}{x:SI2}(s:cg H H')(h:Vd K H r x):Vd K H' r x:=h.imp (λh=>s _ _ h) id
theorem Vd.inj{K:W.Frag}{H:Hp}{r:DF}{x y:SI2}(a:nN K H)(h:Vd K H r x)(h':Vd K H r y):x=y:=lM (a r _ _ h.sq h'.sq)
theorem AX(x y:Str):eqV (.str x) (.str y)=JL (x=y):=by unfold eqV;rw[Bool.eq_iff_iff];simp
def fSI(x y:SI2)(j:Nat):Bool:=if j=0 then decide (x.1=y.1)else decide (x.2=y.2)
theorem pP(x y:SI2):((List.range (min (tp2 x).length (tp2 y).length)).all (fSI x y) && (tp2 x).length == (tp2 y).length)=JL (x=y):=by
 show((List.range 2).all (fSI x y) && (2 == 2:Bool))=_;obtain⟨d,c⟩:=x;obtain⟨b,a⟩:=y;unfold fSI;by_cases f:d=b <;> by_cases e:c=a <;> simp[lg,f,e]
theorem sR{K:W.Frag}{H:Hp}{n:Nat}{x y:SI2}(j:Nat)(u v:V)(a:(tp2 x)[j]?=JH u)(b:(tp2 y)[j]?=JH v):eG K H n u v (fSI x y j):=by
 match j,a,b with
 |0,a,b =>
  cases a;cases b;show eG K H n _ _ (JL (x.1=y.1));rw[←AX];exact .of (.flat U U)
 |1,a,b =>
  cases a;cases b;show eG K H n _ _ (JL (x.2=y.2));rw[←wY];exact .of (.flat U U)
 |j+2,a,_=>simp[tp2]at a
theorem Vd.deq{K:W.Frag}{H:Hp}{n:Nat}{a b:DF}{x y:SI2}(c:nN K H)(h:Vd K H a x)(h':Vd K H b y):eG K H (n+1) (.ref a) (.ref b) (JL (x=y)):=by
 by_cases e:a=b
 .subst e;rw[JQ (Vd.inj c h h')];exact .of (.same a)
 .have:=eG.tup (n:=n) e h.sq h'.sq (f:=fSI x y) sR;rw[pP]at this;exact this
def LVd{K:W.Frag}:Lfp K SI2 where
 R H x v:=∃r,v=.ref r/\Vd K H r x
 mono s:=λ⟨r,e,h⟩=>⟨r,e,h.mono s⟩
 inj {H x y v} hT h h':=by
  obtain⟨r,rfl,h⟩:=h;obtain⟨a,e,h'⟩:=h';cases e;exact Vd.inj hT h h'
 deq {H x y u v} hT h h':=by
  obtain⟨r,rfl,h⟩:=h;obtain⟨a,rfl,h'⟩:=h';exact Vd.deq (n:=1) hT h h'
 eq {H x y u v Q} hT h h' q:=by
  obtain⟨r,rfl,h⟩:=h;obtain⟨a,rfl,h'⟩:=h';refine .inr (.tt r a _ _ U U h.sq h'.sq (fSI x y) sR ?_);rw[JN (by decide),pP];exact q
 ne {H x y u v Q} hT h h' q:=by
  obtain⟨r,rfl,h⟩:=h;obtain⟨a,rfl,h'⟩:=h';refine .inr (.tt r a _ _ U U h.sq h'.sq (fSI x y) sR ?_);rw[JO U,pP];exact q
theorem oS(p:Pos)(a b:Int)(c:Ct):∀(l:List Ct),TriplesOk l->JF p (l++[G6 a,G6 b,c])=(JF p l).or (JF p [G6 a,G6 b,c])
 | [],_=>rfl
 | .int x t :: .int y u :: d :: rest,h=>by
  have e:=oS p a b c rest h;show JF p (.int x t :: .int y u :: d :: (rest++[G6 a,G6 b,c]))=_;rw[JF,JF];split
  .rfl
  .exact e
def dj(H:Hp)(P:DF)(L:List (Pos×Str)):Prop:=∃ps,H P=JH (.tbl ps)/\TriplesOk ps.toList/\∀p∈L,JF p.1 ps.toList=JI\/∃(b:DF)(a:Obj),JF p.1 ps.toList=JH (.ref b)/\H b=JH (.frz a TTh)/\qN a p.2
theorem dj.same{H H':Hp}{P:DF}{L:List (Pos×Str)}(h:dj H P L)(s:ar H H'):dj H' P L:=by
 obtain⟨ps,i,g,f⟩:=h;exact⟨ps,s _ _ i,g,λp e=>(f p e).imp id λ⟨c,o,a,b,d⟩=>⟨c,o,a,s _ _ b,d⟩⟩
theorem dj.new{H:Hp}{P:DF}{L:List (Pos×Str)}(h:H P=JH (.tbl #[])):dj H P L:=⟨#[],h,trivial,λ_ _=>.inl U⟩
def DY(P:DF)(pos:Pos)(qual:Str)(mk:Ct->DF->Ct->Obj)(clos:List (Str×DF)):TE:=λ_ H Q=>∃L,(pos,qual)∈L/\(∀p∈L,p.1.line=pos.line->p.1.col=pos.col->p.2=qual)/\dj H P L /\
 ∀(f e:DF)(d:Obj)(g c:Ct)(H':Hp),H f=JI->(∀b o,b≠P->H b=JH o->H' b=JH o)->H' f=JH (.frz (mk g e c) TTh)->H' e=JH (.frz d TTh)->qN d qual->dj H' P L->(∀x y a,clos.lookup x=JH a->clos.lookup y=JH a->x=y)->Q (.ref f) H'
theorem w6{params:HA}{body:GG}{scope:Ge}{pos:Pos}{c P:DF}{clos:List (Str×DF)}(zL:X.env.code=.ref c)
  (C:W.CodeHd X.base c P)(hb:X.base.BuiltinsAt X.mg P)(V:HR scope X.env=pure clos)(S:∀p∈clos,X.env.cells.lookup p.1=JH p.2)(Cf:defaultsOf params X.env=([],[]):=by rfl) :
  PE X (.Lambda params body scope pos) (DY P pos (X.env.qual ++ "<lambda>") (λpm c' ctv=>W.kla_obj "<lambda>" (X.env.qual ++ "<lambda>") params body scope clos pm c' ctv) clos):=by
 intro JM s σ H Q I h;obtain⟨L,hL,b0,⟨ps,r,N,G⟩,k⟩:=h;have B:s.heap.get? P=JH (W.tabObj ps):=I.hok P _ r;have J:s.heap.Ns D0 X.mg:=I.mod.glob.keeps I.bk;have a8:D0≠P:=λq=>by
  obtain⟨o,es,ep,e,M,_⟩:=J;rw[q,B]at e;cases e;cases M
 have inj:∀x y a,clos.lookup x=JH a->clos.lookup y=JH a->x=y:=λx y a E h2=>I.ok.inj x y a (S _ (mem_of_lookup E)) (S _ (mem_of_lookup h2))
 rcases G _ hL with a7|⟨c',j,hf,K,A⟩
 .refine W.kla_eval Cf (W.kla_makeFunction V I.ok.glob J zL (C.keeps I.bk) B N a7 a8 (hb.keeps I.bk) λc' ctv h' tk a5 l R DZ O=>?_);obtain⟨b1,j,vs,t,e2,a6,a9,hv⟩:=DZ;cases e2;have T:∀b,s.heap.objs.size<=b->H b=none:=λb f=>I.hok.fresh f
  have Y:P<s.heap.objs.size:=DG.lt_size B;have a4:c'≠P:=λz=>by rw[z]at l;exact JP Y (zb.mpr l)
  have g:s.heap.objs.size<=h'.objs.size:=vG l (v5 R);have a3:h'.objs.size≠P:=λz=>by rw[z]at g;exact JP Y (zb.mpr g)
  have a2:h'.objs.size≠c':=vH R;have m:=T _ g;have K:=T _ l;have i:∀{b:DF}{u:HO},b≠P->H b=JH u->upd (upd (upd H P (.tbl (ps ++ #[G6 pos.line,G6 pos.col,.ref c']))) c' (.frz j TTh)) h'.objs.size (.frz (W.kla_obj "<lambda>" (X.env.qual ++ "<lambda>") params body scope clos ((X.mg "__name__").getD .none) c' ctv) TTh) b=JH u:=λ{b u} f e=>by
   rw[ay (bc e m),ay (bc e K),ay f];exact e
  have a0:upd (upd (upd H P (.tbl (ps ++ #[G6 pos.line,G6 pos.col,.ref c']))) c' (.frz j TTh)) h'.objs.size (.frz (W.kla_obj "<lambda>" (X.env.qual ++ "<lambda>") params body scope clos ((X.mg "__name__").getD .none) c' ctv) TTh) P=JH (.tbl (ps ++ #[G6 pos.line,G6 pos.col,.ref c'])):=by
   rw[ay a3.symm,ay a4.symm,ae]
  have F:∀{b:DF},H b=JI->b≠P:=λe z=>by rw[z,r]at e;cases e
  have keep:∀b o,b≠P->s.heap.get? b=JH o->(h'.push (W.kla_obj "<lambda>" (X.env.qual ++ "<lambda>") params body scope clos ((X.mg "__name__").getD .none) c' ctv)).get? b=JH o:=λb o f e=>DG.get?_push_of_some _ (a5 b o f e)
  have un:Un X.fs [] H (upd (upd (upd H P (.tbl (ps ++ #[G6 pos.line,G6 pos.col,.ref c']))) c' (.frz j TTh)) h'.objs.size (.frz (W.kla_obj "<lambda>" (X.env.qual ++ "<lambda>") params body scope clos ((X.mg "__name__").getD .none) c' ctv) TTh)) s.heap (h'.push (W.kla_obj "<lambda>" (X.env.qual ++ "<lambda>") params body scope clos ((X.mg "__name__").getD .none) c' ctv)):=by
   refine⟨λb o e n _ _=>keep b o (F n) e,λb o e n _ _=>⟨o.slots,keep b o (F n) e⟩,λb o e n _=>?_,λb o e _=>?_,λb xs e=>i (λz=>by rw[z,r]at e;cases e) e,λb o u e=>i (λz=>by rw[z,r]at e;cases e) e,λb a1 e=>?_⟩
   .have f:=DG.lt_size e;rw[ay (vE (vF f g)),ay (vE (vF f l)),ay (F n)];exact n
   .by_cases f:b=P
    .subst f;exact⟨_,DG.get?_push_of_some _ O⟩
    .exact⟨o,keep b o f e⟩
   .by_cases f:b=P
    .subst f;rw[r]at e;cases e;exact⟨_,a0⟩
    .exact⟨#[],by rw[i f e];simp⟩
  have hok:HOk X.prog X.w (upd (upd (upd H P (.tbl (ps ++ #[G6 pos.line,G6 pos.col,.ref c']))) c' (.frz j TTh)) h'.objs.size (.frz (W.kla_obj "<lambda>" (X.env.qual ++ "<lambda>") params body scope clos ((X.mg "__name__").getD .none) c' ctv) TTh)) (h'.push (W.kla_obj "<lambda>" (X.env.qual ++ "<lambda>") params body scope clos ((X.mg "__name__").getD .none) c' ctv)):=λb u e=>by
   by_cases E:b=h'.objs.size
   .subst E;rw[ae]at e;cases e;exact qM (DG.get?_push_size _ U)
   rw[ay E]at e;by_cases h2:b=c'
   .subst h2;rw[ae]at e;cases e;exact qM (DG.get?_push_of_some _ a6)
   rw[ay h2]at e;by_cases h3:b=P
   .subst h3;rw[ae]at e;cases e;exact DG.get?_push_of_some _ O
   rw[ay h3]at e;refine(I.hok b u e).stay (λd v M q=>keep d v ?_ q) (λd q=>i (λz=>by rw[z,r]at q;cases q) q) λd xs q=>i (λz=>by rw[z,r]at q;cases q) q
   rcases M with rfl|M
   .exact h3
   .exact λz=>by rw[z,r]at M;cases M
  have I2:=I.un (t':=tk) un hok;have A:qN j (X.env.qual ++ "<lambda>"):=⟨vs,t,a9,hv⟩;have Z:upd (upd (upd H P (.tbl (ps ++ #[G6 pos.line,G6 pos.col,.ref c']))) c' (.frz j TTh)) h'.objs.size (.frz (W.kla_obj "<lambda>" (X.env.qual ++ "<lambda>") params body scope clos ((X.mg "__name__").getD .none) c' ctv) TTh) c'=JH (.frz j TTh):=(ay a2.symm).trans ae;refine⟨.ref h'.objs.size,_,I2,U,k _ c' j _ ctv _ m (λb o f e=>i f e) ae Z A ⟨_,a0,?_,λp hp=>?_⟩ inj⟩
  .rw[Array.toList_append];exact TriplesOk_snoc _ _ _ _ N
  .rw[Array.toList_append];show JF p.1 (ps.toList++[G6 pos.line,G6 pos.col,.ref c'])=JI\/∃(d:DF)(j:Obj),JF p.1 (ps.toList++[G6 pos.line,G6 pos.col,.ref c'])=JH (.ref d)/\_;rw[oS _ _ _ _ _ N];rcases G p hp with q|⟨d,od,q1,q2,q3⟩
   .rw[q];show JF p.1 [G6 pos.line,G6 pos.col,.ref c']=JI\/∃(d:DF)(j:Obj),JF p.1 [G6 pos.line,G6 pos.col,.ref c']=JH (.ref d)/\_;by_cases e:p.1.line=pos.line/\p.1.col=pos.col
    .have e3:JF p.1 [G6 pos.line,G6 pos.col,.ref c']=JH (.ref c'):=by
      show(if ((pos.line:Int) == (p.1.line:Int) && (pos.col:Int) == (p.1.col:Int))=JJ then JH (Ct.ref c')else JI)=_;rw[e.1,e.2];simp
     exact .inr ⟨c',j,e3,Z,by rw[b0 p hp e.1 e.2];exact A⟩
    .left
     show(if ((pos.line:Int) == (p.1.line:Int) && (pos.col:Int) == (p.1.col:Int))=JJ then JH (Ct.ref c')else JI)=JI;rw[JN λz=>e ?_];rw[zC,beq_iff_eq,beq_iff_eq]at z;lia
   .exact .inr ⟨d,od,by rw[q1];rfl,i (λz=>by rw[z,r]at q2;cases q2) q2,q3⟩
 .refine W.kla_eval Cf (W.kla_makeFunctionHit V I.ok.glob J zL (C.keeps I.bk) B N hf (hb.keeps I.bk) λctv h' tk kp g=>?_);have m:H h'.objs.size=none:=I.hok.fresh g;have D:ar H (upd H h'.objs.size (.frz (W.kla_obj "<lambda>" (X.env.qual ++ "<lambda>") params body scope clos ((X.mg "__name__").getD .none) c' ctv) TTh)):=ai m _;have keep:∀b o,s.heap.get? b=JH o->(h'.push (W.kla_obj "<lambda>" (X.env.qual ++ "<lambda>") params body scope clos ((X.mg "__name__").getD .none) c' ctv)).get? b=JH o:=λb o e=>DG.get?_push_of_some _ (kp b o e)
  have un:Un X.fs [] H (upd H h'.objs.size (.frz (W.kla_obj "<lambda>" (X.env.qual ++ "<lambda>") params body scope clos ((X.mg "__name__").getD .none) c' ctv) TTh)) s.heap (h'.push (W.kla_obj "<lambda>" (X.env.qual ++ "<lambda>") params body scope clos ((X.mg "__name__").getD .none) c' ctv)):=by
   refine⟨λb o e n _ _=>keep b o e,λb o e n _ _=>⟨o.slots,keep b o e⟩,λb o e n _=>?_,λb o e _=>⟨o,keep b o e⟩,λb xs e=>D _ _ e,λb o u e=>D _ _ e,λb a1 e=>⟨#[],by rw[D _ _ e];simp⟩⟩;have f:=DG.lt_size e;rw[ay (vE (vF f g))];exact n
  have hok:HOk X.prog X.w (upd H h'.objs.size (.frz (W.kla_obj "<lambda>" (X.env.qual ++ "<lambda>") params body scope clos ((X.mg "__name__").getD .none) c' ctv) TTh)) (h'.push (W.kla_obj "<lambda>" (X.env.qual ++ "<lambda>") params body scope clos ((X.mg "__name__").getD .none) c' ctv)):=λb u e=>by
   by_cases E:b=h'.objs.size
   .subst E;rw[ae]at e;cases e;exact qM (DG.get?_push_size _ U)
   rw[ay E]at e;exact(I.hok b u e).stay (λd v _ q=>keep d v q) (λd q=>D _ _ q) λd xs q=>D _ _ q
  have I2:=I.un (t':=tk) un hok;exact⟨.ref h'.objs.size,_,I2,U,k _ c' j _ ctv _ m (λb o _ e=>D _ _ e) ae (D _ _ K) A (dj.same ⟨ps,r,N,G⟩ D) inj⟩
theorem AY{CX:CXT}{P:Dn}{w:Cu}{K:W.Frag}{mg:Str->Option Ct}{base:DG}{k:Nat}{f c':DF}{name qual:Str}{params:HA}{body:GG}{scope:Ge}{cl:List (Str×DF)}{pm ctv:Ct}{N ps:List Str}{sp:Sp}
  (S:pK N ps scope cl)(inj:∀x y c,cl.lookup x=JH c->cl.lookup y=JH c->x=y)
  (len:∀vs H Q E,sp vs H Q E->vs.length=ps.length)
  (eA:∀(A:D7)(g:List Env)(s:F7)(H:Hp)(vs:List V)(Q:VK)(E:XK),bN k (A.deeper (W.envX qual scope s.heap.objs.size f (.ref c') cl))->sp vs H Q E ->
   (∃M,H f=JH (.frz (W.kla_obj name qual params body scope cl pm c' ctv) TTh)/\H c'=JH (.frz M TTh)/\qN M qual)/\∃ws,fv H cl ws/\(∀x∈N.drop ps.length,∀v,ws.lookup x=JH v->scope.names.lookup x=JH .free) /\
   ((∀c∈cl.map (·.2),base.get? c=JI/\c ∉ frs g)->∃t:TE,PE (cxC CX P w K mg base N qual scope f (.ref c') cl A g s H E) body t/\t (kI N ps vs ws) (hideL H (cl.map (·.2))) λv H'=>(∀c∈cl.map (·.2),H' c=JI)->Q v (backL H H' (cl.map (·.2))))) :
  aJ P w K mg base CX (k+1) f (W.kla_fn name qual params body scope cl pm (.ref c') ctv) ps sp:=by
 refine⟨len,λA g s H b0 us vs Q E hr l hb r R=>?_⟩;have hl:=len _ _ _ _ R;obtain⟨⟨M,ef,ec,a0,t',a7,a6⟩,ws,Z,tL,Cg⟩:=eA A g s H vs Q E (hr.deeper _) R;obtain⟨t,ht,hq⟩:=Cg λc D=>by
  obtain⟨o,e⟩:=Z.fzs c D;refine⟨?_,λz=>by rw[l.frf c z]at e;cases e⟩;cases eb:base.get? c with
  |none=>rfl
  |some ob=>rw[(l.bs c ob eb).2]at e;cases e
 have a2:s.heap.NoLimit:=l.mod.nolimit.keeps λb o e=>(l.bs b o e).1
 have eo:s.heap.get? f=JH (W.kla_obj name qual params body scope cl pm c' ctv):=(l.hok f _ ef).1;have a9:s.heap.get? c'=JH M:=(l.hok c' _ ec).1;have a3:us.length=ps.length:=by rw[←r.length];exact hl
 have a1:ps.Nodup:=by rw[←S.pre];exact S.nd.sublist (List.take_sublist _ _)
 have fz:=Z.fzs;have T:∀{x:Str}{c:DF},cl.lookup x=JH c->c∈cl.map (·.2):=λe=>mz e
 refine W.kla_callFunE hr.depth eo U S.co S.gen U ⟨c',M,a0,t',U,a9,a7,a6⟩ (hb _ _ _ _ ?_);refine HY S.nocell (λx n=>S.par x.1 (rr n).1) (λB a5 a4=>?_) S.kind;have j:∀b o,s.heap.get? b=JH o->B.get? b=JH o:=λb o e=>a4.extBut b o (vE (DG.lt_size e)) (DG.get?_push_of_some _ e)
 refine⟨a2.keeps j,W.kla_codeExpr ?_⟩;have G:∀{b:DF},H b=JI->hideL H (cl.map (·.2)) b=none:=λh=>gx h
 have I:Inv (cxC CX P w K mg base N qual scope f (.ref c') cl A g s H E) [] (kI N ps vs ws) (hideL H (cl.map (·.2))) { s with heap:=B,toks:=s.toks+(ps.zip us).length }:=by
  have F:∀b:DF,b ∉ (cxC CX P w K mg base N qual scope f (.ref c') cl A g s H E).ex:=λb z=>JP (show b∈([]:List DF)from z) (by simp)
  refine⟨⟨l.mod,S.kind,U,U,vD _,λx y c L m=>inj x y c L m,λx n=>?_,λx c hf=>?_,λ_=>hr.hd,D7.frames_deeper l.frames,.inr ⟨U,U⟩,λb z=>JP z (F b),λb o e=>⟨(l.bs b o e).1,G (l.bs b o e).2⟩,l.bsz,λb _ _=>F b,λb z=>JP z (F b),l.funs,λb hb=>G (l.frf b hb)⟩,
   rfl,l.bare,Un.kept j,⟨_,a5,λi x v L m h3=>?_⟩,λx c h=>?_,G (l.hok.fresh (vD _)),λx c h=>kc (T h),λp Y=>JP (show p∈([]:List (DF×Obj))from Y) (by simp),(l.hok.hideL fz).kept j,?_⟩
  .have n:scope.names.lookup x=JH .cell\/scope.names.lookup x=JH .free:=n;rcases n with n|n
   .exact JP U (S.nocell _ (mem_of_lookup n))
   .exact S.has _ (mem_of_lookup n) U
  .exact JP (show JK=JJ from hf) Bool.false_ne_true
  .have L:N[i]?=JH x:=L;unfold kI at m;by_cases hi:i<vs.length
   .rw[fc (by simpa using hi),eR]at m;have ha:vs[i]?=JH v:=by
     cases e:vs[i]? with
     |none=>rw[e]at m;cases m
     |some a=>rw[e]at m;cases m;rfl
    obtain⟨u,hu,C⟩:=r.get ha;have Y:ps[i]?=JH x:=by rw[←S.pre,List.getElem?_take_of_lt (by lia)];exact L
    exact⟨u,C,.inl ⟨S.par x (GB Y),sP a1 Y hu a3⟩⟩
   .rw[mu (by simpa using hi),eR,bo]at m;cases e:(N.drop ps.length)[i-vs.length]? with
    |none=>rw[e]at m;cases m
    |some y =>
     rw[e]at m;have m:JH (ws.lookup y)=JH (JH v):=m;have m:=Option.some.inj m;have hy:y=x:=by
      rw[List.getElem?_drop,show ps.length+(i-vs.length)=i by lia,L]at e;exact(Option.some.inj e).symm
     subst hy;obtain⟨c,o,u,e1,e2,e3,C⟩:=Z.2 y v m;exact⟨u,C,.inr ⟨.inr (tL y (GB e) v m),c,e1,o,j _ _ (l.hok c _ e2).1,e3⟩⟩
  .obtain⟨o,v,e,d⟩:=Z.1 c (T h);exact⟨v,o,j _ _ (l.hok c _ e).1,d⟩
  .unfold kI;show _=N.length;have b1:ps.length<=N.length:=by have:=JT List.length S.pre;rw[iD]at this;lia
   rw[dg,bo,bo,pf];lia
 refine GL (ht [] _ (kI N ps vs ws) _ _ I hq) (λu X hs=>?_) λe X hs=>hs
 have a8:∀{O:St}{H':Hp}{v:V}{u:Ct},Inv (cxC CX P w K mg base N qual scope f (.ref c') cl A g s H E) [] O H' X->RelV v u->((∀c∈cl.map (·.2),H' c=JI)->Q v (backL H H' (cl.map (·.2))))->CE g P w H s Q u X:=λ{O H' v u} J C q=>by
  have un:Un (frs g) [] (hideL H (cl.map (·.2))) H' s.heap X.heap:=J.base;have nc:∀c∈cl.map (·.2),H' c=none:=λc D=>by
   obtain⟨⟨x,d⟩,hm,rfl⟩:=dy.mp D;obtain⟨o,e⟩:=fz d D;exact un.free d o (l.hok d _ e).1 (kc D) (by simp)
  refine⟨v,backL H H' (cl.map (·.2)),J.os,J.bare,un.backL fz,J.hok.backL fz nc λc D o e=>?_,C,q nc⟩;refine un.keep c o (l.hok c _ e).1 (kc D) (λz=>?_) (by simp);rw[l.frf c z]at e;cases e
 obtain⟨v,H',J,C,q⟩:=hs;exact a8 J C q
def zM(st:GK)(k:Nat):GG:=match st with
 | .Assign _ (.Call _ as _ _) _=>as.getD k (.Name "" ⟨0,0,0,0⟩)
 | .Return (JH (.Call _ as _ _)) _=>as.getD k (.Name "" ⟨0,0,0,0⟩)
 |_=>.Name "" ⟨0,0,0,0⟩
def pQ(e:GG):HA:=match e with
 | .Lambda a _ _ _=>a
 |_=>gn (.Pass ⟨0,0,0,0⟩)
def nO(e:GG):GG:=match e with
 | .Lambda _ b _ _=>b
 |e=>e
def ke(e:GG):Ge:=match e with
 | .Lambda _ _ s _=>s
 |_=>ak (.Pass ⟨0,0,0,0⟩)
def qQ(e:GG):Pos:=match e with
 | .Lambda _ _ _ p=>p
 |_=>⟨0,0,0,0⟩
section
variable{mg:Str->Option Ct}
theorem xa{qual:Str}{ps:List Str}{e:GG}{f c':DF}{cl:List (Str×DF)}{pm ctv:Ct}{N:List Str}{k:Nat}{sp:Sp}(S:pK N ps (ke e) cl)(inj:∀x y c,cl.lookup x=JH c->cl.lookup y=JH c->x=y)
  (m:∀us:List Ct,us.length=ps.length->Hs (W.kla_fn "<lambda>" qual (pQ e) (nO e) (ke e) cl pm (.ref c') ctv) ⟨us,[]⟩=pure (ps.zip us))
  (len:∀vs H Q E,sp vs H Q E->vs.length=ps.length)
  (z:∀(A:D7)(d:List Env)(s:F7)(H:Hp)(vs:List V)(Q:VK)(E:XK),bN k (A.deeper (W.envX qual (ke e) s.heap.objs.size f (.ref c') cl))->sp vs H Q E ->
   ∃ws,jl H f c' (W.kla_obj "<lambda>" qual (pQ e) (nO e) (ke e) cl pm c' ctv) qual cl ws/\(∀y∈N.drop ps.length,∀v,ws.lookup y=JH v->(ke e).names.lookup y=JH .free) /\
   ((∀c∈cl.map (·.2),base.get? c=JI/\c ∉ frs d)->∃t:TE,PE (cxC CX0 P w K mg base N qual (ke e) f (.ref c') cl A d s H E).nox (nO e) t/\t (kI N ps vs ws) (hideL H (cl.map (·.2))) λv H'=>(∀c∈cl.map (·.2),H' c=JI)->Q v (backL H H' (cl.map (·.2))))) :
  HFn P w K mg base (k+1) f sp:=by
 refine⟨_,ps,AY (name := "<lambda>") (qual:=qual) (c':=c') (params:=pQ e) (body:=nO e) (pm:=pm) (ctv:=ctv) S inj len λA d s H vs Q E i g=>?_,.all λus j=>?_⟩
 .obtain⟨ws,⟨u,⟨h,r,q⟩,p⟩,o,n⟩:=z A d s H vs Q E i g;refine⟨⟨h,u,r,q⟩,ws,p,o,λl=>?_⟩;obtain⟨t,a,b⟩:=n l;exact⟨t,a.nox,b⟩
 .exact m us j
end
inductive TFn(K:W.Frag)(x:Str)(st:GK):Prop
 |mk {f c t:DF}{fd:Hq}(a:W.nsIn K D0 x=JH (JH (.ref f)))(F:Fun K x x st f fd)(hc:fd.code=.ref c)(ht:W.tabIn K x=JH (c,t))
theorem tfn_mk{K:W.Frag}{x:Str}{st:GK}{f c t:DF}{g kV doc pm n:Ct}{d p:Option DF}{b:Array (Option Ct)}{j:Ct}{i:Option DF}{vs:Array Ct}{h:Array (Option Ct)}(a:W.nsIn K D0 x=JH (JH (.ref f)))
  (l:K.lookup f=JH ⟨g,d,.func (W.fnOf x x (gn st) (cD st) (ak st) .none kV doc pm p (.ref c) n),b⟩)(o:W.codeIn K (.ref c) x=JJ)(m:W.keepIn K (.ref f)=JJ)(k:K.lookup c=JH ⟨j,i,.fields vs,h⟩)(e:vs[11]?=JH (.ref t)):TFn K x st :=
 ⟨a,fun_mk l o m,U,tab_mk a l k e⟩
theorem mkT{P:Dn}{w:Cu}{K:W.Frag}{mg:Str->Option Ct}{base:DG}{k:Nat}{x:Str}{ps:List Str}{sp:Sp}{st:GK}(Z:Zb P w K mg base)(h:TFn K x st)(e:∀q∈(W.tabIn K x).toList,W.CodeHd base q.1 q.2/\base.BuiltinsAt mg q.2)
  (O:∀{f c t:DF}{fd:Hq},Fun K x x st f fd->fd.code=.ref c->W.tabIn K x=JH (c,t)->W.CodeHd base c t/\base.BuiltinsAt mg t->aJ P w K mg base CX0 k f fd ps sp)
  (b:∀{f:DF}{fd:Hq},Fun K x x st f fd->Binds K fd ps []:=by trivial):Callee P w K mg base k x ps sp:=by
 cases h with|mk a F i d=>exact⟨_,_,O F i d (e _ (by rw[d];exact dt)),b F,F.kp,Z.g a⟩
theorem uf{K:W.Frag}{x:Str}{t:DF×DF}(h:t∈(W.tabIn K x).toList):W.tabIn K x=JH t:=by
 cases e:W.tabIn K x with
 |none=>rw[e]at h;cases h
 |some z=>rw[e]at h;rw[iE.mp h]
end L2
set_option Elab.async false
set_option maxRecDepth 100000
set_option maxHeartbeats 4000000
set_option linter.all false
namespace My
open PySem L2
def top(i:Nat):GK:=PySem.Challenge.pw_rowjudge_k68_spread.main.body.getD i (.Pass ⟨0,0,0,0⟩)
abbrev Y42:GK:=top 14
abbrev Y38:GK:=top 15
abbrev Y81:GK:=top 16
abbrev Y41:GK:=top 19
abbrev Y37:GK:=top 20
abbrev Y34:GK:=top 21
abbrev Y68:GK:=top 22
abbrev Y35:GK:=top 23
abbrev Y69:GK:=top 24
abbrev Y33:GK:=top 25
abbrev Y40:GK:=top 26
abbrev Y32:GK:=top 31
abbrev Y44:GK:=top 32
abbrev Y43:GK:=top 33
abbrev Y31:GK:=top 37
abbrev Y86:GK:=top 48
abbrev Y74:GK:=top 53
abbrev Y73:GK:=top 54
abbrev Y76:GK:=top 55
abbrev Y75:GK:=top 56
abbrev Y71:GK:=top 57
abbrev Y39:GK:=top 58
abbrev Y70:GK:=top 59
abbrev Y45:GK:=top 60
abbrev Y84:GK:=top 61
abbrev Y82:GK:=top 63
abbrev Y83:GK:=top 64
abbrev Y36:GK:=top 65
abbrev s_row_form:GK:=top 66
abbrev s_verdict_form:GK:=top 67
abbrev Y78:GK:=top 69
abbrev Y79:GK:=top 70
abbrev Y80:GK:=top 71
abbrev Y72:GK:=top 72
abbrev Y51:GK:=top 74
abbrev Y58:GK:=top 75
abbrev Y62:GK:=top 76
abbrev Y67:GK:=top 77
abbrev Y53:GK:=top 78
abbrev Y54:GK:=top 79
abbrev Y63:GK:=top 80
abbrev Y48:GK:=top 81
abbrev Y49:GK:=top 82
abbrev Y60:GK:=top 83
abbrev Y64:GK:=top 84
abbrev Y59:GK:=top 85
abbrev Y52:GK:=top 86
abbrev Y56:GK:=top 87
abbrev Y66:GK:=top 88
abbrev Y55:GK:=top 89
abbrev Y61:GK:=top 90
abbrev Y65:GK:=top 91
abbrev Y47:GK:=top 92
abbrev Y57:GK:=top 93
abbrev Y50:GK:=top 94
abbrev Y17:GK:=inClass (top 52) 0
abbrev Y4:GK:=inClass (top 42) 0
abbrev Y18:GK:=inClass (top 41) 0
abbrev Y13:GK:=inClass (top 43) 0
abbrev Y22:GK:=inClass (top 41) 0
abbrev Y8:GK:=inClass (top 44) 0
abbrev Y20:GK:=inClass (top 41) 0
abbrev Y10:GK:=inClass (top 45) 0
abbrev Y21:GK:=inClass (top 41) 0
abbrev Y6:GK:=inClass (top 46) 0
abbrev Y19:GK:=inClass (top 41) 0
abbrev Y15:GK:=inClass (top 47) 0
abbrev Y23:GK:=inClass (top 41) 0
abbrev Y2:GK:=inClass (top 34) 5
abbrev Y3:GK:=inClass (top 34) 5
abbrev Y12:GK:=inClass (top 35) 0
abbrev Y0:GK:=inClass (top 34) 0
abbrev Y30:GK:=inClass (top 36) 0
abbrev Y1:GK:=inClass (top 34) 0
abbrev Y24:GK:=inClass (top 41) 1
abbrev Y5:GK:=inClass (top 42) 1
abbrev Y28:GK:=inClass (top 41) 1
abbrev Y14:GK:=inClass (top 43) 1
abbrev Y26:GK:=inClass (top 41) 1
abbrev Y9:GK:=inClass (top 44) 1
abbrev Y27:GK:=inClass (top 41) 1
abbrev Y11:GK:=inClass (top 45) 1
abbrev Y25:GK:=inClass (top 41) 1
abbrev Y7:GK:=inClass (top 46) 1
abbrev Y29:GK:=inClass (top 41) 1
abbrev Y16:GK:=inClass (top 47) 1
abbrev Y46:GK:=top 95
abbrev Y77:GG:=zM ((cD s_row_form).getD 0 (.Pass ⟨0,0,0,0⟩)) 2
theorem Z78{c_0:DF}:pK ["codes","table"] ["codes"] (ke Y77) [("table",c_0)]:=⟨U,U,U,by decide+kernel,U,by decide+kernel,by decide+kernel,wU U⟩
abbrev Y85:GG:=zM ((cD s_verdict_form).getD 0 (.Pass ⟨0,0,0,0⟩)) 2
theorem Z87{c_0:DF}:pK ["rows","table"] ["rows"] (ke Y85) [("table",c_0)]:=⟨U,U,U,by decide+kernel,U,by decide+kernel,by decide+kernel,wU U⟩
theorem Z42:aq ["spans","number","low","high"] ["spans","number"] (ak Y42):=fsc
theorem Z38:aq ["spans","low","high","turns","first","last"] ["spans","low","high"] (ak Y38):=fsc
theorem Z82:aq ["low","high","marks","cuts","lows","highs"] ["low","high","marks"] (ak Y81):=fsc
theorem Z41:aq ["bounds","marks","product","parts"] ["bounds","marks"] (ak Y41):=fsc
theorem Z37:aq ["bounds","marks"] ["bounds","marks"] (ak Y37):=fsc
theorem Z34:aq ["bounds","marks","leaf"] ["bounds","marks","leaf"] (ak Y34):=fsc
theorem Z68:aq ["columns","ahead","leaf"] ["columns","ahead","leaf"] (ak Y68):=fsc
theorem Z35:aq ["triples","form","low","high","beneath"] ["triples"] (ak Y35):=fsc
theorem Z69:aq ["form","deep","change"] ["form","deep","change"] (ak Y69):=fsc
theorem Z33:aq ["form","deep","told","low","high","beneath","box","leaf"] ["form","deep"] (ak Y33):=fsc
theorem Z40:aq ["lists","numbers","some"] ["lists"] (ak Y40):=fsc
theorem Z32:aq ["text","signs","sign"] ["text","signs"] (ak Y32):=fsc
theorem Z44:aq ["text"] ["text"] (ak Y44):=fsc
theorem Z43:aq ["value"] ["value"] (ak Y43):=fsc
theorem Z31:aq ["one","other"] ["one","other"] (ak Y31):=fsc
theorem Z88:aq ["name","way"] ["name"] (ak Y86):=fsc
theorem Z74:aq ["names","name"] ["names"] (ak Y74):=fsc
theorem Z73:aq ["names","rows"] ["names","rows"] (ak Y73):=fsc
theorem Z76:aq ["way","outcome"] ["way","outcome"] (ak Y76):=fsc
theorem Z75:aq ["domains","outcome","cells","code","domain","spans","low","high"] ["domains","outcome","cells","code"] (ak Y75):=fsc
theorem Z71:aq ["cells","code"] ["cells","code"] (ak Y71):=fsc
theorem Z39:aq ["table","k","codes","cells","spans","code"] ["table","k","codes"] (ak Y39):=fsc
theorem Z70:aq ["table","codes"] ["table","codes"] (ak Y70):=fsc
theorem Z45:aq ["table","rows","codes"] ["table","rows"] (ak Y45):=fsc
theorem Z85:aq ["table","codes"] ["table","codes"] (ak Y84):=fsc
theorem Z83:aq ["table"] ["table"] (ak Y82):=fsc
theorem Z84:aq ["table"] ["table"] (ak Y83):=fsc
theorem Z36:aq ["table","column","domain"] ["table","column"] (ak Y36):=fsc
theorem Z77:aq ["table"] ["table"] (ak s_row_form):=fsc
theorem Z86:aq ["table"] ["table"] (ak s_verdict_form):=fsc
theorem Z79:aq ["form","deep"] ["form","deep"] (ak Y78):=fsc
theorem Z80:aq ["table"] ["table"] (ak Y79):=fsc
theorem Z81:aq ["name","names","domains","outcome","form","deep"] ["name","names","domains","outcome","form"] (ak Y80):=fsc
theorem Z72:aq ["form","deep","box","leaf"] ["form","deep"] (ak Y72):=fsc
theorem Z51:aq ["script","k"] ["script","k"] (ak Y51):=fsc
theorem Z58:aq ["cell","k","big"] ["cell","k"] (ak Y58):=fsc
theorem Z62:aq ["cells","most","seeds","k","cell","at"] ["cells","most"] (ak Y62):=fsc
theorem Z67:aq ["cell","k","ahead","behind"] ["cell","k"] (ak Y67):=fsc
theorem Z53:aq ["m","most","words","at","pairs","k","wide"] ["m","most"] (ak Y53):=fsc
theorem Z54:aq ["column"] ["column"] (ak Y54):=fsc
theorem Z63:aq ["pairs","bits","spans","k","pair"] ["pairs","bits"] (ak Y63):=fsc
theorem Z48:aq ["m","columns","out","last","bits","seed","j","column","every","code","at"] ["m","columns","out","last"] (ak Y48):=fsc
theorem Z49:aq ["seeds","columns","out","rows","last","m"] ["seeds","columns","out"] (ak Y49):=fsc
theorem Z60:aq ["bit_rows","columns","rows","bits","code"] ["bit_rows","columns"] (ak Y60):=fsc
theorem Z64:aq ["head","columns","out","way","bit_rows","names","domains"] ["head","columns","out","way","bit_rows"] (ak Y64):=fsc
theorem Z59:aq ["columns","points","column","more","point","k"] ["columns"] (ak Y59):=fsc
theorem Z52:aq ["columns","point","turn"] ["columns","point","turn"] (ak Y52):=fsc
theorem Z56:aq ["bit_row","point"] ["bit_row","point"] (ak Y56):=fsc
theorem Z66:aq ["turn","out","way"] ["turn","out"] (ak Y66):=fsc
theorem Z55:aq ["way","bit_rows","out","point","codes"] ["way","bit_rows","out","point"] (ak Y55):=fsc
theorem Z61:aq ["found","due"] ["found","due"] (ak Y61):=fsc
theorem Z65:aq ["table","found","kinds","e"] ["table"] (ak Y65):=fsc
theorem Z47:aq ["spans","domain","last","pair"] ["spans","domain"] (ak Y47):=fsc
theorem Z57:aq ["found","table","one","other","cells","code","spans","domain"] ["found","table"] (ak Y57):=fsc
theorem Z50:aq ["number","count"] ["number"] (ak Y50):=fsc
theorem Z17:aq ["self","name","names","domains","outcome","way","rows","cells","code"] ["self","name","names","domains","outcome","way","rows"] (ak Y17):=fsc
theorem Z4:aq ["self"] ["self"] (ak Y4):=fsc
theorem Z18:aq ["self","called"] ["self","called"] (ak Y18):=fsc
theorem Z13:aq ["self"] ["self"] (ak Y13):=fsc
theorem Z22:aq ["self","called"] ["self","called"] (ak Y22):=fsc
theorem Z8:aq ["self"] ["self"] (ak Y8):=fsc
theorem Z20:aq ["self","called"] ["self","called"] (ak Y20):=fsc
theorem Z10:aq ["self"] ["self"] (ak Y10):=fsc
theorem Z21:aq ["self","called"] ["self","called"] (ak Y21):=fsc
theorem Z6:aq ["self"] ["self"] (ak Y6):=fsc
theorem Z19:aq ["self","called"] ["self","called"] (ak Y19):=fsc
theorem Z15:aq ["self"] ["self"] (ak Y15):=fsc
theorem Z23:aq ["self","called"] ["self","called"] (ak Y23):=fsc
theorem Z2:aq ["self","value"] ["self","value"] (ak Y2):=fsc
theorem Z3:aq ["self","value"] ["self","value"] (ak Y3):=fsc
theorem Z12:aq ["self","low","high"] ["self","low","high"] (ak Y12):=fsc
theorem Z0:aq ["self","low","high"] ["self","low","high"] (ak Y0):=fsc
theorem Z30:aq ["self","words","word"] ["self","words"] (ak Y30):=fsc
theorem Z1:aq ["self","low","high"] ["self","low","high"] (ak Y1):=fsc
theorem Z24:aq ["self","codes","outcome"] ["self","codes","outcome"] (ak Y24):=fsc
theorem Z5:aq ["self","codes","outcome"] ["self","codes","outcome"] (ak Y5):=fsc
theorem Z28:aq ["self","codes","outcome"] ["self","codes","outcome"] (ak Y28):=fsc
theorem Z14:aq ["self","codes","outcome"] ["self","codes","outcome"] (ak Y14):=fsc
theorem Z26:aq ["self","codes","outcome"] ["self","codes","outcome"] (ak Y26):=fsc
theorem Z9:aq ["self","codes","outcome"] ["self","codes","outcome"] (ak Y9):=fsc
theorem Z27:aq ["self","codes","outcome"] ["self","codes","outcome"] (ak Y27):=fsc
theorem Z11:aq ["self","codes","outcome"] ["self","codes","outcome"] (ak Y11):=fsc
theorem Z25:aq ["self","codes","outcome"] ["self","codes","outcome"] (ak Y25):=fsc
theorem Z7:aq ["self","codes","outcome"] ["self","codes","outcome"] (ak Y7):=fsc
theorem Z29:aq ["self","codes","outcome"] ["self","codes","outcome"] (ak Y29):=fsc
theorem Z16:aq ["self","codes","outcome"] ["self","codes","outcome"] (ak Y16):=fsc
theorem Z46:aq ["script","head","turn","count","columns","out","way","bit_rows","table","points","due","told","k","codes"] ["script"] (ak Y46):=fsc
structure AD where (a b c d e f g h i j k l m n o p q r s:DF)
structure Bk(K:W.Frag)(Y:AD):Prop where
 n_TableError:W.nsIn K D0 "TableError" = JH (JH (.ref Y.a))
 n_Clash:W.nsIn K D0 "Clash" = JH (JH (.ref Y.b))
 n_TooMany:W.nsIn K D0 "TooMany" = JH (JH (.ref Y.c))
 n_TooFine:W.nsIn K D0 "TooFine" = JH (JH (.ref Y.d))
 n_Unlike:W.nsIn K D0 "Unlike" = JH (JH (.ref Y.e))
 n_Hole:W.nsIn K D0 "Hole" = JH (JH (.ref Y.f))
 n_Way:W.nsIn K D0 "Way" = JH (JH (.ref Y.g))
 n_First:W.nsIn K D0 "First" = JH (JH (.ref Y.h))
 n_Only:W.nsIn K D0 "Only" = JH (JH (.ref Y.i))
 n_Like:W.nsIn K D0 "Like" = JH (JH (.ref Y.j))
 n_Low:W.nsIn K D0 "Low" = JH (JH (.ref Y.k))
 n_High:W.nsIn K D0 "High" = JH (JH (.ref Y.l))
 n_Sum:W.nsIn K D0 "Sum" = JH (JH (.ref Y.m))
 n_Domain:W.nsIn K D0 "Domain" = JH (JH (.ref Y.n))
 n_Numbers:W.nsIn K D0 "Numbers" = JH (JH (.ref Y.o))
 n_Words:W.nsIn K D0 "Words" = JH (JH (.ref Y.p))
 n_Table:W.nsIn K D0 "Table" = JH (JH (.ref Y.q))
 n_NONE:W.nsIn K D0 "NONE" = JH (JH (.ref Y.r))
 n_CLASH:W.nsIn K D0 "CLASH" = JH (JH (.ref Y.s))
 x_Clash:ExcCls K Y.b
 l_Clash:j5 K Y.b
 k_First:Cls K Y.h
 k_Only:Cls K Y.i
 k_Like:Cls K Y.j
 k_Low:Cls K Y.k
 k_High:Cls K Y.l
 k_Sum:Cls K Y.m
 k_Numbers:Cls K Y.o
 k_Words:Cls K Y.p
 k_Table:Cls K Y.q
 t_First:mn K Y.h
 t_Only:mn K Y.i
 t_Like:mn K Y.j
 t_Low:mn K Y.k
 t_High:mn K Y.l
 t_Sum:mn K Y.m
 t_Numbers:mn K Y.o
 t_Words:mn K Y.p
 t_Table:mn K Y.q
 q_NONE:ModT K Y.r [.str "none",.int (0)]
 q_CLASH:ModT K Y.s [.str "clash",.int (0)]
 na_First_called:NoAttr K Y.h "called"
 na_Only_called:NoAttr K Y.i "called"
 na_Like_called:NoAttr K Y.j "called"
 na_Low_called:NoAttr K Y.k "called"
 na_High_called:NoAttr K Y.l "called"
 na_Sum_called:NoAttr K Y.m "called"
 na_Numbers_low:NoAttr K Y.o "low"
 na_Numbers_high:NoAttr K Y.o "high"
 na_Numbers_words:NoAttr K Y.o "words"
 na_Words_low:NoAttr K Y.p "low"
 na_Words_high:NoAttr K Y.p "high"
 na_Words_words:NoAttr K Y.p "words"
 na_Table_name:NoAttr K Y.q "name"
 na_Table_names:NoAttr K Y.q "names"
 na_Table_domains:NoAttr K Y.q "domains"
 na_Table_outcome:NoAttr K Y.q "outcome"
 na_Table_way:NoAttr K Y.q "way"
 na_Table_rows:NoAttr K Y.q "rows"
 f_nn:W.kitOne K (.ref Y.o) (.ref Y.o)=JH JJ
 f_wn:W.kitOne K (.ref Y.p) (.ref Y.o)=JH JK
 f_ww:W.kitOne K (.ref Y.p) (.ref Y.p)=JH JJ
 f_tt:W.kitOne K (.ref Y.q) (.ref Y.q)=JH JJ
 f_nw:W.kitOne K (.ref Y.o) (.ref Y.p)=JH JK
 e_Clash:W.exmOne K (.ref Y.b) (.ref Y.a)=JH JJ
 v_Clash:W.kitOne K (.ref Y.b) (.type "ValueError")=JH JJ
 g_Clash_Clash:W.kitOne K (.ref Y.b) (.ref Y.b)=JH JJ
 g_Clash_TooMany:W.kitOne K (.ref Y.b) (.ref Y.c)=JH JK
 g_Clash_TooFine:W.kitOne K (.ref Y.b) (.ref Y.d)=JH JK
 g_Clash_Unlike:W.kitOne K (.ref Y.b) (.ref Y.e)=JH JK
 g_Clash_Hole:W.kitOne K (.ref Y.b) (.ref Y.f)=JH JK
 nt0:∀z z',W.tabIn K "row_form" = JH z->W.tabIn K "verdict_form" = JH z'->z.2≠z'.2
structure Bl(K:W.Frag)(mg:Str->Option Ct)(Y:AD):Prop extends Bk K Y where
 TableError_:mg "TableError" = JH (.ref Y.a)
 Clash_:mg "Clash" = JH (.ref Y.b)
 TooMany_:mg "TooMany" = JH (.ref Y.c)
 TooFine_:mg "TooFine" = JH (.ref Y.d)
 Unlike_:mg "Unlike" = JH (.ref Y.e)
 Hole_:mg "Hole" = JH (.ref Y.f)
 Way_:mg "Way" = JH (.ref Y.g)
 First_:mg "First" = JH (.ref Y.h)
 Only_:mg "Only" = JH (.ref Y.i)
 Like_:mg "Like" = JH (.ref Y.j)
 Low_:mg "Low" = JH (.ref Y.k)
 High_:mg "High" = JH (.ref Y.l)
 Sum_:mg "Sum" = JH (.ref Y.m)
 Domain_:mg "Domain" = JH (.ref Y.n)
 Numbers_:mg "Numbers" = JH (.ref Y.o)
 Words_:mg "Words" = JH (.ref Y.p)
 Table_:mg "Table" = JH (.ref Y.q)
 NONE_:mg "NONE" = JH (.ref Y.r)
 CLASH_:mg "CLASH" = JH (.ref Y.s)
 sorted_:mg "sorted" = JI
 list_:mg "list" = JI
 set_:mg "set" = JI
 zip_:mg "zip" = JI
 len_:mg "len" = JI
 tuple_:mg "tuple" = JI
 isinstance_:mg "isinstance" = JI
 int_:mg "int" = JI
 bool_:mg "bool" = JI
 sum_:mg "sum" = JI
 range_:mg "range" = JI
 enumerate_:mg "enumerate" = JI
 all_:mg "all" = JI
 min_:mg "min" = JI
 max_:mg "max" = JI
 str_:mg "str" = JI
 ValueError_:mg "ValueError" = JI
 MOST_GRAIN_:∃u,mg "MOST_GRAIN" = JH u/\RelV (V.int 300) u
 MOST_SIGNS_:∃u,mg "MOST_SIGNS" = JH u/\RelV (V.int 12) u
 SMALL_LETTERS_:∃u,mg "SMALL_LETTERS" = JH u/\RelV (V.str "abcdefghijklmnopqrstuvwxyz") u
 MOST_ROWS_:∃u,mg "MOST_ROWS" = JH u/\RelV (V.int 200) u
 MOST_COLUMNS_:∃u,mg "MOST_COLUMNS" = JH u/\RelV (V.int 4) u
 MOST_WORDS_:∃u,mg "MOST_WORDS" = JH u/\RelV (V.int 40) u
theorem xb(ns:List Int)(k:Nat)(hi:Option Int):∃a:List Int,lr (ns.map V.int) (JH (k:Int)) hi=a.map V.int/\a.length<=ns.length-k:=by
 unfold lr;have e:HT.sIx (ns.map V.int).length 0 (JH (k:Int))=min k ns.length:=by
  simp only[HT.sIx,bo];split <;> lia
 refine⟨(ns.drop (HT.sIx (ns.map V.int).length 0 (JH (k:Int)))).take (HT.sIx (ns.map V.int).length (ns.map V.int).length hi-HT.sIx (ns.map V.int).length 0 (JH (k:Int))),?_,?_⟩
 .rw[List.map_take,List.map_drop]
 .rw[iD,pf,e];lia
theorem p10(n:Nat):(0:Int)<10^n:=Int.pow_pos (by decide)
theorem D1{n:Int}{p:Int×Int}(c:decide (p.1<=n)=JJ)(d:decide (n<=p.2)=JJ):inR n p=true:=by unfold inR;rw[c,d];rfl
theorem Ci{n:Int}{p:Int×Int}(c:¬ decide (p.1<=n)=JJ):inR n p=false:=by unfold inR;rw[zD.mpr c];rfl
theorem Cj{n:Int}{p:Int×Int}(d:¬ decide (n<=p.2)=JJ):inR n p=false:=by unfold inR;rw[zD.mpr d,Bool.and_false]
theorem z0(a b:Int):atI [V.int a,V.int b] 0=JH (V.int a):=rfl
theorem z1(a b:Int):atI [V.int a,V.int b] 1=JH (V.int b):=rfl
theorem bR{H:Hp}{r:DF}{o:HO}{b:DF}{u:HO}(h:H r=JH u)(n:H b=JI):upd H b o r=JH u:=by rw[ay (bc h n)];exact h
theorem qR{n:Nat}(h:0<n):ixN n (-1)=JH (n-1):=by
 unfold ixN;rw[JN (by decide),JO (by lia)]
 congr 1
 lia
theorem qS{a:Type}(l:List a)(x y:a):(l++[x]).set ((l++[x]).length-1) y=l++[y]:=by
 have e:(l++[x]).length-1=l.length:=by simp
 rw[e,List.set_append_right _ _ (vD _),Nat.sub_self];rfl
theorem take_snoc{a:Type}{l:List a}{i:Nat}{x:a}(e:l[i]?=JH x):l.take (i+1)=l.take i++[x]:=by rw[nu,e];rfl
theorem get_map{ns:List Int}{i:Nat}{c:Int}(e:ns[i]?=JH c):(ns.map V.int)[i]?=JH (.int c):=by rw[eR,e];rfl
theorem of_map{ns:List Int}{i:Nat}{x:V}(e:(ns.map V.int)[i]?=JH x):∃c,x=.int c/\ns[i]?=JH c:=by
 rw[eR]at e;cases q:ns[i]? with
 |none=>rw[q]at e;cases e
 |some c=>rw[q]at e;cases e;exact⟨c,U,U⟩
def lets:Str := "abcdefghijklmnopqrstuvwxyz"
def isw(z:Str):Bool:=JL ((1:Int)<=((z.length:Nat):Int)) && (JL (((z.length:Nat):Int)<=12) && (!JL (V.str z=V.str "not") && l7 z lets))
theorem AZ{l:List Nat}{i:Nat}{c:Nat}{p:Nat->Bool}(e:l[i]?=JH c)(h:p c=JK):l.all p=false:=by
 cases q:l.all p with
 |false=>rfl
 |true=>rw[ik.mp q c (GB e)]at h;cases h
theorem all_succ{l:List Nat}{i:Nat}{c:Nat}{p:Nat->Bool}(e:l[i]?=JH c)(h:p c=JJ)(a:(l.take i).all p=JJ):(l.take (i+1)).all p=true:=by
 rw[take_snoc e,List.all_append,a];simp[h]
theorem xc{z g:Str}(h:(z.cps.toList.take z.cps.size).all (sg g)=JJ):l7 z g=true:=by
 have e:z.cps.toList.take z.cps.size=z.cps.toList:=by rw[←zl];exact eU
 rw[e]at h;exact h
theorem A1{g:Str}{c:Nat}(h:(!(!(G9.Str.occurrences g ⟨#[c]⟩ 0 g.length 1).isEmpty))=JJ):sg g c=false:=by unfold sg;simpa using h
theorem Ck{g:Str}{c:Nat}(h:¬ (!(!(G9.Str.occurrences g ⟨#[c]⟩ 0 g.length 1).isEmpty))=JJ):sg g c=true:=by unfold sg;simpa using h
theorem big{n:Nat}(h:n<=1000):n<=DO:=v5 (aD h)
def mkd(C:DF)(H:Hp)(x a:DF)(lo hi:Int):Hp:=upd (upd H x (.ins C a [("low",.int lo)])) x (.ins C a [("low",.int lo),("high",.int hi)])
theorem put2(v u:V):bw s!"high" u [(s!"low",v)]=[(s!"low",v),(s!"high",u)]:=by
 unfold bw bw;rw[JN (by decide)]
theorem put3(v u t:V):bw s!"words" t [(s!"low",v),(s!"high",u)]=[(s!"low",v),(s!"high",u),(s!"words",t)]:=by
 unfold bw bw bw;rw[JN (by decide),JN (by decide)]
def hiW(zs:List Str):Int:=((zs.length:Nat):Int)-1
structure Good(zs:List Str):Prop where
 some_:1<=zs.length
 few:zs.length<=40
 words:∀z∈zs,isw z=JJ
 once:zs.Nodup
theorem oU(zs:List Str):(zs.map V.str).all dR=true:=by
 rw[vj];exact ik.mpr λ_ _=>U
theorem qT{zs:List Str}{i:Nat}{x:V}(e:(zs.map V.str)[i]?=JH x):∃z,x=.str z/\zs[i]?=JH z:=by
 rw[eR]at e;cases q:zs[i]? with
 |none=>rw[q]at e;cases e
 |some z=>rw[q]at e;cases e;exact⟨z,U,U⟩
def six:List Str:=[s!"first",s!"only",s!"like",s!"low",s!"high",s!"sum"]
theorem yy{i j:Nat}{z:Str}(h:six[i]?=JH z)(k:six[j]?=JH z):i=j:=gX (show six.Nodup by decide+kernel) h k
def WyN(C:DF)(H:Hp)(x:DF)(z:Str):Prop:=∃a,H x=JH (.ins C a [("called",.str z)])
theorem WyN.same{C:DF}{H H':Hp}{x:DF}{z:Str}(h:WyN C H x z)(s:ar H H'):WyN C H' x z:=by obtain⟨a,e⟩:=h;exact⟨a,s _ _ e⟩
def vn(C:DF)(z:Str):Sp:=λb H Q _=>∃(x a:DF),b=[.ref x]/\H x=JH (.ins C a [])/\Q .non (upd H x (.ins C a [("called",.str z)]))
theorem bu:2<=DO:=by decide
def cl6(a b c d e f:DF):List DF:=[a,b,c,d,e,f]
def A2(C:DF)(H:Hp)(a:DF)(lo hi:Int):Prop:=∃b fs,H a=JH (.ins C b fs)/\fs.lookup s!"low"=JH (.int lo)/\fs.lookup s!"high"=JH (.int hi)/\fs.lookup s!"has_code"=JI
def Dom(d c:DF)(H:Hp)(a:DF)(b:Int×Int):Prop:=∃C,(C=d\/C=c)/\A2 C H a b.1 b.2
theorem Dom.same{d c:DF}{H H':Hp}{a:DF}{b:Int×Int}(h:Dom d c H a b)(s:ar H H'):Dom d c H' a b:=by obtain⟨C,f,g,fs,e,r⟩:=h;exact⟨C,f,g,fs,s _ _ e,r⟩
def aF{b:Type}(xs:List V)(c:List b)(P:DF->b->Prop):Prop:=xs.length=c.length/\∀(j:Nat)(a:b),c[j]?=JH a->∃r,xs[j]?=JH (.ref r)/\P r a
theorem aF.mono{b:Type}{xs:List V}{c:List b}{P Q:DF->b->Prop}(h:aF xs c P)(k:∀r a,P r a->Q r a):aF xs c Q:=⟨h.1,λj a e=>let ⟨r,e1,p⟩:=h.2 j a e;⟨r,e1,k r a p⟩⟩
theorem aF.nil{b:Type}{P:DF->b->Prop}:aF [] [] P:=⟨U,(λj a e=>by simp at e)⟩
theorem aF.snoc{d:Type}{xs:List V}{c:List d}{P:DF->d->Prop}{r:DF}{a:d}(h:aF xs c P)(p:P r a):aF (xs++[.ref r]) (c++[a]) P:=by
 refine⟨by simp[h.1],λj b e=>?_⟩;by_cases g:j<c.length
 .rw[fc g]at e;obtain⟨i,k,q⟩:=h.2 j b e;exact⟨i,by rw[fc (by rw[h.1];exact g)];exact k,q⟩
 .have f:j=c.length:=by
   have:=(GA.mp e).1;simp at this;lia
  subst f;simp at e;subst e;exact⟨r,by rw[←h.1];simp,p⟩
theorem aF.get{c:Type}{xs:List V}{b:List c}{P:DF->c->Prop}(h:aF xs b P){j:Nat}{x:V}(e:xs[j]?=JH x):∃r a,x=.ref r/\b[j]?=JH a/\P r a:=by
 have g:=(GA.mp e).1;have d:=Gz (l:=b) (i:=j) (by rw[←h.1];exact g);obtain⟨r,f,p⟩:=h.2 j _ d;rw[e]at f;cases f;exact⟨r,_,U,d,p⟩
abbrev Prs:=List (Int×Int)
def SpA(N:DF->Prop)(H:Hp)(l:DF)(ps:Prs):Prop:=N l/\∃a,H l=JH (.lst a)/\PL H a ps
def CL(N:DF->Prop)(H:Hp)(xs:List V)(a:List Prs):Prop:=aF xs a (SpA N H)
abbrev Rw:=List Prs×Int
def gQ(N:DF->Prop)(H:Hp)(r:DF)(a:Rw):Prop:=∃b c,H r=JH (.tup [.ref b,.int a.2])/\N b/\H b=JH (.lst c)/\CL N H c a.1
def RL(N:DF->Prop)(H:Hp)(xs:List V)(rws:List Rw):Prop:=aF xs rws (gQ N H)
theorem SpA.same{N:DF->Prop}{H H':Hp}{l:DF}{ps:Prs}(h:SpA N H l ps)(s:ar H H'):SpA N H' l ps:=by obtain⟨n,a,e,p⟩:=h;exact⟨n,a,s _ _ e,p.mono s.tups⟩
theorem CL.same{N:DF->Prop}{H H':Hp}{xs:List V}{a:List Prs}(h:CL N H xs a)(s:ar H H'):CL N H' xs a:=aF.mono h λ_ _ p=>p.same s
theorem gQ.same{N:DF->Prop}{H H':Hp}{r:DF}{w:Rw}(h:gQ N H r w)(s:ar H H'):gQ N H' r w:=by obtain⟨b,a,e,n,f,c⟩:=h;exact⟨b,a,s _ _ e,n,s _ _ f,c.same s⟩
theorem RL.same{N:DF->Prop}{H H':Hp}{xs:List V}{rws:List Rw}(h:RL N H xs rws)(s:ar H H'):RL N H' xs rws:=aF.mono h λ_ _ p=>p.same s
abbrev NT:DF->Prop:=λ_=>True
theorem SpA.any{N:DF->Prop}{H:Hp}{l:DF}{ps:Prs}(h:SpA N H l ps):SpA NT H l ps:=⟨trivial,h.2⟩
theorem CL.any{N:DF->Prop}{H:Hp}{xs:List V}{a:List Prs}(h:CL N H xs a):CL NT H xs a:=aF.mono h λ_ _ p=>p.any
theorem gQ.any{N:DF->Prop}{H:Hp}{r:DF}{w:Rw}(h:gQ N H r w):gQ NT H r w:=by obtain⟨b,a,e,_,f,c⟩:=h;exact⟨b,a,e,trivial,f,c.any⟩
theorem RL.any{N:DF->Prop}{H:Hp}{xs:List V}{rws:List Rw}(h:RL N H xs rws):RL NT H xs rws:=aF.mono h λ_ _ p=>p.any
theorem SpA.wk{N b:DF->Prop}{H:Hp}{l:DF}{ps:Prs}(h:SpA N H l ps)(k:∀a,N a->b a):SpA b H l ps:=⟨k _ h.1,h.2⟩
theorem CL.wk{N c:DF->Prop}{H:Hp}{xs:List V}{b:List Prs}(h:CL N H xs b)(k:∀a,N a->c a):CL c H xs b:=aF.mono h λ_ _ p=>p.wk k
theorem gQ.wk{N b:DF->Prop}{H:Hp}{r:DF}{w:Rw}(h:gQ N H r w)(k:∀a,N a->b a):gQ b H r w:=by obtain⟨g,d,e,n,f,c⟩:=h;exact⟨g,d,e,k _ n,f,c.wk k⟩
theorem SpA.updN{N:DF->Prop}{D:DF}{H:Hp}{l:DF}{ps:Prs}{zs:List V}{o:HO}(h:SpA N H l ps)(n:¬ N D)(e:H D=JH (.lst zs)):SpA N (upd H D o) l ps:=by
 obtain⟨m,a,f,p⟩:=h;exact⟨m,a,(ay (λz=>n (by rw[←z];exact m))).trans f,p.mono (aY e)⟩
theorem CL.updN{N:DF->Prop}{D:DF}{H:Hp}{xs:List V}{a:List Prs}{zs:List V}{o:HO}(h:CL N H xs a)(n:¬ N D)(e:H D=JH (.lst zs)):CL N (upd H D o) xs a:=aF.mono h λ_ _ p=>p.updN n e
theorem gQ.updN{N:DF->Prop}{D:DF}{H:Hp}{r:DF}{w:Rw}{zs:List V}{o:HO}(h:gQ N H r w)(n:¬ N D)(e:H D=JH (.lst zs)):gQ N (upd H D o) r w:=by
 obtain⟨b,a,f,m,g,c⟩:=h;exact⟨b,a,(ay (fT f e (by intro z;cases z))).trans f,m,(ay (λz=>n (by rw[←z];exact m))).trans g,c.updN n e⟩
theorem RL.updN{N:DF->Prop}{D:DF}{H:Hp}{xs:List V}{rws:List Rw}{zs:List V}{o:HO}(h:RL N H xs rws)(n:¬ N D)(e:H D=JH (.lst zs)):RL N (upd H D o) xs rws:=aF.mono h λ_ _ p=>p.updN n e
def Fr(H:Hp)(D:DF):DF->Prop:=λa=>H a=JI/\a≠D
theorem Fr.out{H:Hp}{D:DF}:¬ Fr H D D:=λh=>h.2 U
structure F8(b:Int×Int)(zs:List Str):Prop where
 le:b.1<=b.2
 ws:zs≠[]->Good zs/\b=(0,hiW zs)
structure qU(bs:Prs)(o:Int×Int)(w:Rw):Prop where
 len:w.1.length=bs.length
 inn:∀(j:Nat)(ps:Prs)(b:Int×Int),w.1[j]?=JH ps->bs[j]?=JH b->∀p∈ps,b.1<=p.1/\p.2<=b.2
 lo:o.1<=w.2
 hi:w.2<=o.2
def ir(a:List Prs)(b:List Int):Bool:=(List.range b.length).all λj=>inP (a.getD j []) (b.getD j 0)
theorem pf1(b a:V):bw s!"names" a [(s!"name",b)]=[(s!"name",b),(s!"names",a)]:=by
 unfold bw bw;rw[JN (by decide)]
theorem pf2(c b a:V):bw s!"domains" a [(s!"name",c),(s!"names",b)]=[(s!"name",c),(s!"names",b),(s!"domains",a)]:=by
 unfold bw bw bw;rw[JN (by decide),JN (by decide)]
theorem pf3(d c b a:V):bw s!"outcome" a [(s!"name",d),(s!"names",c),(s!"domains",b)]=[(s!"name",d),(s!"names",c),(s!"domains",b),(s!"outcome",a)]:=by
 unfold bw bw bw bw;rw[JN (by decide),JN (by decide),JN (by decide)]
theorem pf4(e d c b a:V):bw s!"way" a [(s!"name",e),(s!"names",d),(s!"domains",c),(s!"outcome",b)]=[(s!"name",e),(s!"names",d),(s!"domains",c),(s!"outcome",b),(s!"way",a)]:=by
 unfold bw bw bw bw bw;rw[JN (by decide),JN (by decide),JN (by decide),JN (by decide)]
theorem pf5(f e d c b a:V):bw s!"rows" a [(s!"name",f),(s!"names",e),(s!"domains",d),(s!"outcome",c),(s!"way",b)]=[(s!"name",f),(s!"names",e),(s!"domains",d),(s!"outcome",c),(s!"way",b),(s!"rows",a)]:=by
 unfold bw bw bw bw bw bw;rw[JN (by decide),JN (by decide),JN (by decide),JN (by decide),JN (by decide)]
def hide(H:Hp)(x:DF):Hp:=λb=>if b=x then JI else H b
theorem cH{H:Hp}{x b:DF}{o:HO}(e:H b=JH o)(n:b≠x):hide H x b=JH o:=by unfold hide;rw[JN n];exact e
theorem hide_same{H H':Hp}{x:DF}(k:∀b o,b≠x->H b=JH o->H' b=JH o):ar (hide H x) H':=λb o e=>by
 unfold hide at e;by_cases h:b=x
 .rw[JO h]at e;cases e
 .rw[JN h]at e;exact k b o h e
theorem PL.hide{H:Hp}{x C c:DF}{fs:List (Str×V)}(a:H x=JH (.ins C c fs)){ys:List V}{ps:Prs}(h:PL H ys ps):PL (hide H x) ys ps :=
 h.mono λb d e=>cH e (fT e a (by intro z;cases z))
theorem RL.hide{H:Hp}{x C d:DF}{fs:List (Str×V)}(a:H x=JH (.ins C d fs)){xs:List V}{rws:List Rw}(h:RL NT H xs rws):RL NT (My.hide H x) xs rws :=
 aF.mono h λr w ⟨j,i,e,_,f,c⟩=>⟨j,i,cH e (fT e a (by intro z;cases z)),trivial,cH f (fT f a (by intro z;cases z)),aF.mono c λl k ⟨_,b,g,p⟩=>⟨trivial,b,cH g (fT g a (by intro z;cases z)),PL.hide a p⟩⟩
def wcs(c k:Int):List Nat:=List.replicate (c / 26%6).toNat (97+(c%26).toNat)++([97+(k / 7%7).toNat,97+(k%7).toNat]++List.replicate (k%5).toNat (97+(c / 156%26).toNat))
def wd(c k:Int):Str:=⟨(wcs c k).toArray⟩
theorem yz(c k:Int):(wcs c k).length=(c / 26%6).toNat+(2+(k%5).toNat):=by unfold wcs;simp;lia
theorem pR(c k:Int):(wcs c k)[(c / 26%6).toNat]?=JH (97+(k / 7%7).toNat):=by
 unfold wcs;rw[mu (by simp)];simp
theorem ug(c k:Int):(wcs c k)[(c / 26%6).toNat+1]?=JH (97+(k%7).toNat):=by
 unfold wcs;rw[mu (by simp)];simp
theorem A3(c k:Int):(wd c k).length=(c / 26%6).toNat+(2+(k%5).toNat):=by
 rw[←yz c k];unfold wd;simp[Str.length]
theorem Cm(c k:Int):2<=(wd c k).length/\(wd c k).length<=11:=by
 rw[A3];have b:=zh (c / 26) (show(0:Int)<6 by decide);have a:=zh k (show(0:Int)<5 by decide);lia
theorem A4{c:Nat}(h:97<=c/\c<=122):sg lets c=true:=by
 have:∀d:Nat,d<26->sg lets (97+d)=true:=by decide+kernel
 have z:=this (c-97) (by lia);rw[show 97+(c-97)=c by lia]at z;exact z
theorem yA(c k:Int):∀x∈wcs c k,97<=x/\x<=122:=λx a=>by
 have f:=zh c (show(0:Int)<26 by decide);have e:=zh (c / 156) (show(0:Int)<26 by decide);have d:=zh (k / 7) (show(0:Int)<7 by decide);have b:=zh k (show(0:Int)<7 by decide);unfold wcs at a;simp only[ia,List.mem_replicate,cf,jG,or_false]at a;rcases a with⟨_,rfl⟩|(rfl|rfl)|⟨_,rfl⟩ <;> lia
theorem sS(c k:Int):isw (wd c k)=true:=by
 have f:=Cm c k;have d:l7 (wd c k) lets=true:=by
  unfold l7 wd;rw[ik];intro x a;exact A4 (yA c k x (by simpa using a))
 have b:¬ (V.str (wd c k)=V.str s!"not"):=λh=>by
  injection h with h;have e:s!"not" = ⟨[110,111,116].toArray⟩:=by decide+kernel
  rw[e]at h;unfold wd at h;injection h with h;have h:wcs c k=[110,111,116]:=by simpa using JT Array.toList h
  have z:=pR c k;rw[h]at z;have g:=zh (k / 7) (show(0:Int)<7 by decide);have m:=GB z;simp only[cf,jG,or_false]at m;lia
 unfold isw;rw[d,JQ (show(1:Int)<=(((wd c k).length:Nat):Int) by lia),JQ (show(((wd c k).length:Nat):Int)<=12 by lia)];show(JJ && (JJ && (!JL (V.str (wd c k)=V.str s!"not") && JJ)))=JJ;rw[JR b];rfl
theorem A5{c k d:Int}(i:0<=k)(h:k<49)(g:0<=d)(f:d<49)(e:wd c k=wd c d):k=d:=by
 unfold wd at e;injection e with e;have e:wcs c k=wcs c d:=by simpa using JT Array.toList e
 have a:=pR c k;have b:=ug c k;rw[e,pR]at a;rw[e,ug]at b;injection a with a;injection b with b;lia
theorem lN{s:Str}{n:Nat}(h:s.cps.toList=(List.range n).map (97 + ·)){k:Int}(c:0<=k)(b:k<n):atI s.cps.toList k=JH (97+k.toNat):=by
 have a:k.toNat<n:=by lia
 have z:s.cps.toList[k.toNat]?=JH (97+k.toNat):=by rw[h,eR,List.getElem?_range a];rfl
 have q:=cw z;rw[show((k.toNat:Nat):Int)=k by lia]at q;exact q
theorem zN:s!"abcdefghijklmnopqrstuvwxyz".cps.toList=(List.range 26).map (97 + ·):=by decide+kernel
theorem Cn:s!"abcdefg".cps.toList=(List.range 7).map (97 + ·):=by decide+kernel
theorem Co(c:Nat)(n:Int):Txt.mul ⟨#[c]⟩ n=⟨(List.replicate n.toNat c).toArray⟩:=by
 have h:=PyProof.Rows.mul_one_list c n;cases q:Txt.mul ⟨#[c]⟩ n with
 |mk a=>rw[q]at h;simp only at h;rw[←h]
def wds(c:Int)(n:Nat):List Str:=(List.range n).map λj:Nat=>wd c (j:Int)
theorem xf(c:Int)(n:Nat):wds c (n+1)=wds c n++[wd c (n:Int)]:=by unfold wds;rw[lg,fF];rfl
theorem oV{c:Int}{n:Nat}(h:n<=49)(f:Nat->Int)(g:∀j,j<n->0<=f j/\f j<49)(inj:∀i j,f i=f j->i=j):((List.range n).map λj:Nat=>wd c (f j)).Nodup:=by
 rw[List.nodup_iff_pairwise_ne,List.pairwise_map];refine List.Pairwise.imp_of_mem (R:=λa b=>a≠b) (λ{a b} o m d e=>?_) List.nodup_range;have l:=g a (iv.mp o);have k:=g b (iv.mp m);exact d (inj a b (A5 l.1 l.2 k.1 k.2 e))
theorem xg{c:Int}{n:Nat}(f:1<=n)(d:n<=40):Good (wds c n):=by
 refine⟨by unfold wds;simp;lia,by unfold wds;simp;lia,λz a=>?_,oV (n:=n) (by lia) (λj:Nat=>(j:Int)) (λj b=>⟨by lia,by lia⟩) λi j e=>by lia⟩;unfold wds at a;obtain⟨j,_,rfl⟩:=dy.mp a;exact sS _ _
abbrev SI:=Str×Int
def tp(p:SI):List V:=[.str p.1,.int p.2]
def say(i:Int):SI:=(s!"say",i)
def aR:SI:=(s!"clash",0)
def yB:SI:=(s!"none",0)
def least(ns:List Int):Int:=ns.foldl (λm c=>if c<m then c else m) (ns.headD 0)
def great(ns:List Int):Int:=ns.foldl (λm c=>if c>m then c else m) (ns.headD 0)
theorem fold_min(ns:List Int):∀m:Int,(ns.foldl (λm c=>if c<m then c else m) m=m\/ns.foldl (λm c=>if c<m then c else m) m∈ns)/\ns.foldl (λm c=>if c<m then c else m) m<=m/\∀x∈ns,ns.foldl (λm c=>if c<m then c else m) m<=x:=by
 induction ns with
 |nil=>intro m;exact⟨.inl U,Int.le_refl _,λx h=>by cases h⟩
 |cons n ns e =>
  intro m;obtain⟨a,d,f⟩:=e (if n<m then n else m);rw[List.foldl_cons];refine⟨?_,?_,λx b=>?_⟩
  .rcases a with a|a
   .rw[a];split
    .exact .inr dt
    .exact .inl U
   .exact .inr (fG _ a)
  .split at d <;> split <;> lia
  .rcases cf.mp b with rfl|b
   .split at d <;> split <;> lia
   .exact f x b
theorem fold_max(ns:List Int):∀m:Int,(ns.foldl (λm c=>if c>m then c else m) m=m\/ns.foldl (λm c=>if c>m then c else m) m∈ns)/\m<=ns.foldl (λm c=>if c>m then c else m) m/\∀x∈ns,x<=ns.foldl (λm c=>if c>m then c else m) m:=by
 induction ns with
 |nil=>intro m;exact⟨.inl U,Int.le_refl _,λx h=>by cases h⟩
 |cons n ns e =>
  intro m;obtain⟨a,d,f⟩:=e (if n>m then n else m);rw[List.foldl_cons];refine⟨?_,?_,λx b=>?_⟩
  .rcases a with a|a
   .rw[a];split
    .exact .inr dt
    .exact .inl U
   .exact .inr (fG _ a)
  .split at d <;> split <;> lia
  .rcases cf.mp b with rfl|b
   .split at d <;> split <;> lia
   .exact f x b
theorem eH{n:Int}{ns:List Int}:least (n :: ns)∈n :: ns/\∀x∈n :: ns,least (n :: ns)<=x:=by
 obtain⟨a,c,b⟩:=fold_min (n :: ns) n;refine⟨?_,b⟩;rcases a with a|a
 .show(n :: ns).foldl _ n∈_;rw[a];exact dt
 .exact a
theorem fZ{n:Int}{ns:List Int}:great (n :: ns)∈n :: ns/\∀x∈n :: ns,x<=great (n :: ns):=by
 obtain⟨a,c,b⟩:=fold_max (n :: ns) n;refine⟨?_,b⟩;rcases a with a|a
 .show(n :: ns).foldl _ n∈_;rw[a];exact dt
 .exact a
theorem mD{n m:Int}{ns:List Int}(d:m∈n :: ns)(c:∀b∈n :: ns,m<=b):m=least (n :: ns):=by
 have a:=c _ eH.1;have b:=eH.2 _ d;lia
theorem mE{n m:Int}{ns:List Int}(d:m∈n :: ns)(c:∀b∈n :: ns,b<=m):m=great (n :: ns):=by
 have a:=c _ fZ.1;have b:=fZ.2 _ d;lia
def D3(ns:List Int):SI:=say (least ns)
def Cp(ns:List Int):SI:=say (great ns)
def fw(ns:List Int):SI:=if least ns=great ns then say (least ns)else aR
theorem kJ{n:Int}{ns:List Int}:(∀x∈ns,x=n)↔least (n :: ns)=great (n :: ns):=by
 constructor
 .intro h;have e:∀x∈n :: ns,x=n:=λx a=>by
   rcases cf.mp a with r|a
   .exact r
   .exact h x a
  rw[e _ eH.1,e _ fZ.1]
 .intro h x a;have f:=eH.2 x (fG n a);have d:=fZ.2 x (fG n a);have c:=eH.2 n (dt (l:=ns));have b:=fZ.2 n (dt (l:=ns));lia
theorem oW{n:Int}{ns:List Int}(h:∀x∈ns,x=n):least (n :: ns)=n:=by
 have e:∀x∈n :: ns,x=n:=λx a=>by
  rcases cf.mp a with r|a
  .exact r
  .exact h x a
 exact e _ eH.1
def ver(f:List Int->SI):List Int->SI
 | []=>yB
 |n :: ns=>f (n :: ns)
def Wy(C:DF)(H:Hp)(x:DF):Prop:=∃a z,H x=JH (.ins C a [("called",.str z)])
def A6(ns:List Int):SI:=say (ns.headD 0)
def fA(ns:List Int):SI:=if ns.length=1 then say (ns.headD 0)else aR
def near(lo hi n:Int):Int:=if n<lo then lo else if n>hi then hi else n
def wf:Nat->Int->Int->List Int->SI
 |0,_,_=>A6
 |1,_,_=>fA
 |2,_,_=>fw
 |3,_,_=>D3
 |4,_,_=>Cp
 |_,lo,hi=>λns=>say (near lo hi ns.sum)
theorem at0(n:Int)(ns:List Int):atI ((n :: ns).map V.int) 0=JH (.int n):=cw (j:=0) U
def vo(K:W.Frag)(C g f:DF)(i:Nat):Sp:=λe H Q _=>∃(x c o:DF)(n:Int)(a:List Int)(b:Int×Int),e=[.ref x,.ref c,.ref o]/\Wy C H x/\Dom g f H o b/\b.1<=b.2/\SqL K H c ((n :: a).map V.int)/\a.length<900/\∀(r:DF)(d:Hp),ar H d->Vd K d r (wf i b.1 b.2 (n :: a))->Q (.ref r) d
def kf(K:W.Frag)(C g f:DF)(i:Nat):Sp:=λe H Q _=>∃(x c o:DF)(a:List Int)(b:Int×Int),e=[.ref x,.ref c,.ref o]/\Wy C H x/\Dom g f H o b/\b.1<=b.2/\SqL K H c (a.map V.int)/\a.length<900/\∀(r:DF)(d:Hp),ar H d->Vd K d r (ver (wf i b.1 b.2) a)->Q (.ref r) d
def msk(f:Nat->Bool):Nat->Nat
 |0=>0
 |n+1=>(if f n then 2^n else 0)+msk f n
theorem eI(f:Nat->Bool)(n:Nat):msk f (n+1)=(if f n then 2^n else 0)+msk f n:=rfl
theorem sT(f:Nat->Bool):∀n,msk f n<2^n
 |0=>Nat.one_pos
 |n+1=>by
  have:=sT f n;unfold msk;rw[yl];split <;> lia
theorem uh(f:Nat->Bool)(k:Nat):∀n,(msk f n).testBit k=(JL (k<n) && f k)
 |0=>by simp[msk]
 |n+1=>by
  have b:=uh f k n;have lt:=sT f n;unfold msk;rcases Nat.lt_trichotomy k n with h|h|h
  .split
   .rw[Nat.testBit_two_pow_add_gt h,b];simp[h,vJ h]
   .rw[xT,b];simp[h,vJ h]
  .subst h;split
   .rename_i hf
    rw[Nat.testBit_two_pow_add_eq,Nat.testBit_lt_two_pow lt];simp[hf]
   .rename_i hf
    rw[xT,Nat.testBit_lt_two_pow lt];simp[hf]
  .have a:(if f n=JJ then 2^n else 0)+msk f n<2^k:=vF (sT f (n+1)) (Nat.pow_le_pow_right (by decide) h);rw[Nat.testBit_lt_two_pow a];simp;lia
def f7(m:Int)(k:Nat):Bool:=G9.bitAnd (m / 2^k) 1 != 0
theorem vp(f:Nat->Bool)(n k:Nat):f7 ((msk f n:Nat):Int) k=(JL (k<n) && f k):=by
 rw[←uh];unfold f7;have e:((msk f n:Nat):Int) / 2^k=((msk f n / 2^k:Nat):Int):=by simp
 rw[e,PyProof.Rows.bitAnd_pp (Int.natCast_nonneg _) (by decide)];unfold Nat.testBit;rw[Nat.shiftRight_eq_div_pow,zj,Nat.and_comm];show((((1:Int).toNat &&& (msk f n / 2^k):Nat):Int) != 0)=_;rw[Bool.eq_iff_iff,bne_iff_ne,bne_iff_ne];constructor
 .intro h z;exact h (by rw[show(1:Int).toNat=1 from U,z];rfl)
 .intro h z;exact h (by rw[show(1:Int).toNat=1 from U]at z;lia)
def pkF(rws:List Rw)(f:Nat->Bool)(n:Nat):List Int:=((List.range n).filter f).map λk=>(rws.getD k ([],0)).2
theorem qV(rws:List Rw)(f:Nat->Bool)(n:Nat):pkF rws f (n+1)=pkF rws f n++(if f n then[(rws.getD n ([],0)).2] else[]):=by
 unfold pkF;rw[lg,lq,fF];cases h:f n with
 |true=>rw[rm h];simp
 |false=>rw[List.filter_cons_of_neg (by rw[h];exact Bool.false_ne_true)];simp
theorem ui(rws:List Rw)(f:Nat->Bool)(n:Nat):(pkF rws f n).length<=n:=by
 unfold pkF;rw[bo];exact vG (ov ..) (by simp)
theorem uj(rws:List Rw)(f:Nat->Bool)(n:Nat):pkF rws (f7 ((msk f n:Nat):Int)) n=pkF rws f n:=by
 unfold pkF
 congr 1
 apply List.filter_congr
 intro k a;rw[vp];simp[iv.mp a]
def Tbl(g h f:DF)(H:Hp)(t:DF)(rws:List Rw)(i:Nat)(o:Int×Int):Prop:=∃(c d e:DF)(fs:List (Str×V))(a:List V)(b:Str),H t=JH (.ins g e fs)/\fs.lookup s!"rows"=JH (.ref c)/\fs.lookup s!"way"=JH (.str b)/\fs.lookup s!"outcome"=JH (.ref d)/\H c=JH (.lst a)/\RL NT H a rws/\six[i]?=JH b/\Dom h f H d o/\o.1<=o.2/\a.length<=200
theorem Tbl.same{c d b:DF}{H H':Hp}{t:DF}{rws:List Rw}{i:Nat}{o:Int×Int}(h:Tbl c d b H t rws i o)(s:ar H H'):Tbl c d b H' t rws i o:=by
 obtain⟨g,j,w,fs,e,f,v,u,r,q,p,n,m,l,k,a⟩:=h;exact⟨g,j,w,fs,e,f,s _ _ v,u,r,q,s _ _ p,n.same s,m,l.same s,k,a⟩
def gR(rws:List Rw)(a:List Int)(k:Nat):Bool:=ir (rws.getD k ([],0)).1 a
theorem getD_at{rws:List Rw}{k:Nat}{w:Rw}(e:rws[k]?=JH w):rws.getD k ([],0)=w:=by rw[fo,e];rfl
def fl(rws:List Rw)(a:List Int):List Int:=(rws.filter λw=>ir w.1 a).map (·.2)
theorem uk(rws:List Rw)(w:Rw)(a:List Int):fl (rws++[w]) a=fl rws a++(if ir w.1 a then[w.2] else[]):=by
 unfold fl;rw[lq,fF];cases h:ir w.1 a <;> simp[vx,h]
theorem qW(rws:List Rw)(b:List Int):∀n,n<=rws.length->pkF rws (gR rws b) n=fl (rws.take n) b
 |0,_=>by simp[pkF,fl]
 |n+1,h=>by
  have a:rws[n]?=JH rws[n]:=Gz h;rw[qV,qW rws b n (Nat.le_of_succ_le h),take_snoc a,uk,getD_at a];unfold gR;rw[getD_at a]
theorem sU(rws:List Rw)(a:List Int):pkF rws (gR rws a) rws.length=fl rws a:=by
 rw[qW rws a _ (vD _),eU]
structure Lay(H:Hp)(r1:DF)(F2 F3:DF->Prop)(m:Nat):Prop where
 top:∃xs,H r1=JH (.lst xs)/\xs.length<=63/\∀x∈xs,∃(t ce:DF)(c:Int),x=.ref t/\H t=JH (.tup [.ref ce,.int c])/\F2 ce
 mid:∀ce,F2 ce->∃ys,H ce=JH (.lst ys)/\ys.length<=4/\∀y∈ys,∃l,y=.ref l/\F3 l
 low:∀l,F3 l->∃zs,H l=JH (.lst zs)/\zs.length<=m
 n2:¬ F2 r1
 n3:¬ F3 r1
 n23:∀a,F2 a->F3 a->False
theorem xh(x:V)(xs:List V):lr (x :: xs) (JH 1) JI=xs:=by
 unfold lr;simp[HT.sIx]
theorem um{K:W.Frag}{H:Hp}{n:Nat}{a b:DF}{xs ys:List V}(g:SqL K H a xs)(d:SqL K H b ys)(c:xs.length=ys.length)(h:∀(j:Nat)(x y:V),xs[j]?=JH x->ys[j]?=JH y->DEq K H n x y JJ):DEq K H (n+1) (.ref a) (.ref b) true:=by
 by_cases e:a=b
 .subst e;exact .same a
 .have:=DEq.lst (f:=λ_=>JJ) e g d c h;rw[show(List.range xs.length).all (λ_=>JJ)=JJ by simp]at this;exact this
theorem uo{K:W.Frag}{H:Hp}{n:Nat}{a b:DF}{xs ys:List V}(g:SqT K H a xs)(d:SqT K H b ys)(c:xs.length=ys.length)(h:∀(j:Nat)(x y:V),xs[j]?=JH x->ys[j]?=JH y->DEq K H n x y JJ):DEq K H (n+1) (.ref a) (.ref b) true:=by
 by_cases e:a=b
 .subst e;exact .same a
 .have:=DEq.tup (f:=λ_=>JJ) e g d h;rw[show((List.range (min xs.length ys.length)).all (λ_=>JJ) && xs.length == ys.length)=JJ by simp[c]]at this;exact this
theorem pS{K:W.Frag}{H:Hp}{n:Nat}(i:Int):DEq K H n (.int i) (.int i) true:=by
 have:=DEq.flat (K:=K) (H:=H) (n:=n) (x:=.int i) (y:=.int i) U U;rw[show eqV (.int i) (.int i)=JJ by simp[eqV]]at this;exact this
theorem A7{K:W.Frag}{H:Hp}{n:Nat}{xs ys:List V}{ps:Prs}(h:PL H xs ps)(h':PL H ys ps)(j:Nat)(x y:V)(i:xs[j]?=JH x)(g:ys[j]?=JH y):DEq K H (n+1) x y true:=by
 obtain⟨u,r,f,rfl,e⟩:=h.get i;obtain⟨k,l,b,rfl,d⟩:=h'.get g;rw[f]at b;cases b;refine uo (SqT.of e) (SqT.of d) U λj x y a c=>?_
 rw[a]at c;cases c
 match j,a with
 |0,a=>cases a;exact pS _
 |1,a=>cases a;exact pS _
 |j+2,a=>simp at a
structure Pts(ps:List Int):Prop where
 two:2<=ps.length
 few:ps.length<=13
 asc:ps.Pairwise (· < ·)
def s2(c:Int):List Nat:=[113+(c%8).toNat,121+(c / 8%2).toNat]
def w3l(c k:Int):List Nat:=(s2 c).take (c / 16%3).toNat++([97+k.toNat]++(s2 c).drop (c / 16%3).toNat)
def w3(c k:Int):Str:=⟨(w3l c k).toArray⟩
theorem yC{K:W.Frag}{H:Hp}{r k:DF}{w:Rw}(h:gQ NT H r w)(h':gQ NT H k w):DEq K H 60 (.ref r) (.ref k) true:=by
 obtain⟨I,G,q,_,p,o⟩:=h;obtain⟨C,B,g,_,f,d⟩:=h';refine uo (n:=59) (SqT.of q) (SqT.of g) U λj x y a b=>?_
 match j,a,b with
 |0,a,b =>
  cases a;cases b;refine um (n:=58) (SqL.of p) (SqL.of f) (by rw[o.1,d.1]) λj x y t s=>?_
  obtain⟨l,E,rfl,u,_,D,v,m⟩:=aF.get o t;obtain⟨F,A,rfl,e,_,z,i,c⟩:=aF.get d s;rw[u]at e;cases e;exact um (n:=57) (SqL.of v) (SqL.of i) (by rw[m.length,c.length]) (A7 (n:=56) m c)
 |1,a,b=>cases a;cases b;exact pS _
 |j+2,a,b=>simp at a
theorem oX{K:W.Frag}{H:Hp}{Q:VK}{a b:DF}{xs ys:List V}(e:SqL K H a xs)(d:SqL K H b ys)(c:xs.length=ys.length)(h:∀(j:Nat)(x y:V),xs[j]?=JH x->ys[j]?=JH y->DEq K H 60 x y JJ)(q:Q (.bl JK) H):wt K JJ (.ref a) (.ref b) H Q:=by
 refine⟨a,b,xs,ys,U,U,e,d,.inr ⟨c,λ_=>JJ,h,?_⟩⟩;rw[show(List.range xs.length).all (λ_=>JJ)=JJ by simp];exact q
theorem qX{K:W.Frag}{H:Hp}{xs ys:List V}{rws:List Rw}(h:RL NT H xs rws)(h':RL NT H ys rws)(j:Nat)(x y:V)(f:xs[j]?=JH x)(e:ys[j]?=JH y):DEq K H 60 x y true:=by
 obtain⟨r,w,rfl,d,c⟩:=aF.get h f;obtain⟨i,g,rfl,a,b⟩:=aF.get h' e;rw[d]at a;cases a;exact yC c b
def cb(lo hi:Int)(a:List Int):List (Int×Int):=(lo :: a).zip (a.map (· - 1)++[hi])
def Chn:List (Int×Int)->Int->Int->Prop
 | [],lo,hi=>lo=hi+1
 |p :: r,lo,hi=>p.1=lo/\lo<=p.2/\Chn r (p.2+1) hi
theorem qY:∀{a:List Int}{lo hi:Int},a.Pairwise (· < ·)->(∀c∈a,lo<c/\c<=hi)->lo<=hi->Chn (cb lo hi a) lo hi
 | [],lo,hi,_,_,h=>⟨U,h,U⟩
 |c :: a,lo,hi,hp,hb,h=>by
  obtain⟨i,g⟩:=qD.mp hp;have f:=hb c dt;have e:cb lo hi (c :: a)=(lo,c-1) :: cb c hi a:=rfl;rw[e];refine⟨U,by show lo<=c-1;lia,?_⟩;show Chn (cb c hi a) (c-1+1) hi;rw[show c-1+1=c by lia];exact qY g (λd b=>⟨i d b,(hb d (fG _ b)).2⟩) f.2
theorem iu(lo hi:Int)(a:List Int):(cb lo hi a).length=a.length+1:=by simp[cb]
theorem PL.of_get{H:Hp}:∀{ts:List DF}{ps:List (Int×Int)},ts.length=ps.length->(∀(j:Nat)(p:Int×Int),ps[j]?=JH p->∃T,ts[j]?=JH T/\H T=JH (.tup [.int p.1,.int p.2]))->PL H (ts.map V.ref) ps
 | [],[],_,_=>.nil
 | [],p :: ps,h,_=>by simp at h
 |t :: ts,[],h,_=>by simp at h
 |t :: ts,p :: ps,h,g=>by
  obtain⟨T,c,b⟩:=g 0 p U;have:t=T:=by simpa using c
  subst this;exact .cons ⟨t,U,b⟩ (PL.of_get (by simpa using h) λj q a=>by simpa using g (j+1) q (by simpa using a))
theorem zip_get{lo hi:Int}{a:List Int}{j:Nat}{p:Int×Int}(e:(cb lo hi a)[j]?=JH p):((lo :: a).map V.int)[j]?=JH (.int p.1)/\((a.map (· - 1)++[hi]).map V.int)[j]?=JH (.int p.2):=by
 unfold cb at e;rw[q5]at e;obtain⟨c,b⟩:=e;exact⟨get_map c,get_map b⟩
def mF(lo hi:Int)(a:List Int)(m:Int):List Int:=if lo<m/\m<=hi/\m ∉ a then a++[m]else a
def dd(lo hi:Int)(a:List Int):List Int:=a.foldl (mF lo hi) []
theorem pT(lo hi:Int):∀(e d:List Int),d.Nodup->(e.foldl (mF lo hi) d).Nodup/\∀c,c∈e.foldl (mF lo hi) d↔(c∈d\/(c∈e/\lo<c/\c<=hi))
 | [],d,h=>⟨h,λc=>by simp⟩
 |m :: e,d,h=>by
  have k:(mF lo hi d m).Nodup:=by
   unfold mF;split
   .rename_i g
    rw[rH];refine⟨h,by simp,λa j b i=>?_⟩;have:b=m:=by simpa using i
    subst this;exact λz=>g.2.2 (z ▸ j)
   .exact h
  obtain⟨n,l⟩:=pT lo hi e (mF lo hi d m) k;refine⟨n,λc=>(l c).trans ?_⟩;unfold mF;by_cases g:lo<m/\m<=hi/\m ∉ d
  .rw[JO g];simp only[ia,cf,jG,or_false];constructor
   .rintro((h|rfl)|⟨h,h'⟩)
    .exact .inl h
    .exact .inr ⟨.inl U,g.1,g.2.1⟩
    .exact .inr ⟨.inr h,h'⟩
   .rintro(h|⟨rfl|h,h'⟩)
    .exact .inl (.inl h)
    .exact .inl (.inr U)
    .exact .inr ⟨h,h'⟩
  .rw[JN g];simp only[cf];constructor
   .rintro(h|⟨h,h'⟩)
    .exact .inl h
    .exact .inr ⟨.inr h,h'⟩
   .rintro(h|⟨rfl|h,h'⟩)
    .exact .inl h
    .by_cases f:c∈d
     .exact .inl f
     .exact JP ⟨h'.1,h'.2,f⟩ g
    .exact .inr ⟨h,h'⟩
theorem A8{lo hi:Int}{a b:List Int}(g:b.Pairwise (· < ·))(i:∀c,c∈b↔(c∈a/\lo<c/\c<=hi)):b.length=(dd lo hi a).length:=by
 obtain⟨j,f⟩:=pT lo hi a [] sk;have e:∀c,c∈b↔c∈dd lo hi a:=λc=>by
  rw[i c];exact⟨λh=>(f c).mpr (.inr h),λh=>by rcases(f c).mp h with z|z;cases z;exact z⟩
 exact Nat.le_antisymm (bK (g.imp λh=>Int.ne_of_lt h) λx d=>(e x).mp d) (bK j λx d=>(e x).mpr d)
theorem Cq(lo hi:Int)(a:List Int):(dd lo hi a).length<=a.length:=by
 obtain⟨d,c⟩:=pT lo hi a [] sk;exact bK d λx b=>by rcases(c x).mp b with z|z;cases z;exact z.1
def gl(ps:List (Int×Int))(a:List (List Int))(j:Nat):Nat:=(dd (ps.getD j (0,0)).1 (ps.getD j (0,0)).2 (a.getD j [])).length+1
def gr(ps:List (Int×Int))(a:List (List Int)):Nat->Nat
 |0=>1
 |n+1=>gr ps a n*gl ps a n
theorem Cr{ps:List (Int×Int)}{a:List (List Int)}(h:∀b∈a,b.length<=57)(j:Nat):gl ps a j<=58:=by
 unfold gl;have:=Cq (ps.getD j (0,0)).1 (ps.getD j (0,0)).2 (a.getD j []);have c:(a.getD j []).length<=57:=by
  rw[fo];cases e:a[j]? with
  |none=>simp
  |some b=>exact h b (GB e)
 lia
theorem zO{ps:List (Int×Int)}{c:List (List Int)}(h:∀ms∈c,ms.length<=57):∀n,gr ps c n<=58^n
 |0=>vD _
 |n+1=>by
  have a:=zO (ps:=ps) h n;have b:=Cr (ps:=ps) h n;show gr ps c n*gl ps c n<=58^n*58;exact yt a b
def MLs(H:Hp)(c:List DF)(a:List (List Int)):Prop:=c.length=a.length/\∀(j:Nat)(b:List Int),a[j]?=JH b->∃r,c[j]?=JH r/\H r=JH (.lst (b.map V.int))
theorem MLs.keep{H H':Hp}{b:List DF}{a:List (List Int)}(h:MLs H b a)(k:∀r∈b,∀o,H r=JH o->H' r=JH o):MLs H' b a :=
 ⟨h.1,λj c e=>let ⟨r,e1,e2⟩:=h.2 j c e;⟨r,e1,k r (GB e1) _ e2⟩⟩
theorem MLs.same{H H':Hp}{b:List DF}{a:List (List Int)}(h:MLs H b a)(s:ar H H'):MLs H' b a:=h.keep λ_ _ _ e=>s _ _ e
theorem xi{a:List DF}{j:Nat}{x:V}(e:(a.map V.ref)[j]?=JH x):∃r,x=.ref r/\a[j]?=JH r:=by
 rw[eR]at e;cases h:a[j]? with
 |none=>rw[h]at e;cases e
 |some r=>rw[h]at e;cases e;exact⟨r,U,U⟩
def MOK(ps:List (Int×Int))(a:List (List Int)):Prop:=ps.length=a.length/\ps.length<=6/\∀ms∈a,ms.length<=57
abbrev Tri:=Int×Int×V
def T3(H:Hp)(xs:List V)(ts:List Tri):Prop:=xs.length=ts.length/\∀(i:Nat)(t:Tri),ts[i]?=JH t->∃r:DF,xs[i]?=JH (.ref r)/\H r=JH (.tup [.int t.1,.int t.2.1,t.2.2])
structure At(ts:List Tri)(c:Int)(j:Nat)(t:Tri):Prop where
 at_:ts[j]?=JH t
 le:c<=t.2.1
 lt:∀(i:Nat)(u:Tri),i<j->ts[i]?=JH u->u.2.1<c
theorem zP:∀{c:List (Int×Int)}{lo hi:Int},Chn c lo hi->yx c lo hi
 | [],_,_,h=>h
 |_ :: _,_,_,h=>⟨h.1,h.2.1,zP h.2.2⟩
theorem qZ:∀{a:List Int}{lo hi c:Int},a.Pairwise (· < ·)->(∀x∈a,lo<x)->lo<=c->c<=hi->cx (cb lo hi a) c<=c/\(cx (cb lo hi a) c=lo\/cx (cb lo hi a) c∈a)/\lo<=cx (cb lo hi a) c/\∀x∈a,x<=c->x<=cx (cb lo hi a) c
 | [],lo,hi,c,_,_,h1,h2=>by
  have e:cx (cb lo hi []) c=lo:=by simp[cb,cx,h2]
  rw[e];exact⟨h1,.inl U,Int.le_refl _,λx b=>by cases b⟩
 |d :: a,lo,hi,c,hp,hb,h1,h2=>by
  obtain⟨h,j⟩:=qD.mp hp;have e:cb lo hi (d :: a)=(lo,d-1) :: cb d hi a:=rfl;by_cases q:c<=d-1
  .have g:cx (cb lo hi (d :: a)) c=lo:=by rw[e];unfold cx;rw[mv (by simpa using q)];rfl
   rw[g];refine⟨h1,.inl U,Int.le_refl _,λx b i=>?_⟩;rcases cf.mp b with rfl|b
   .lia
   .have:=h x b;lia
  .have g:cx (cb lo hi (d :: a)) c=cx (cb d hi a) c:=by rw[e];unfold cx;rw[ni (by simpa using q)]
   rw[g];obtain⟨m,f,l,k⟩:=qZ j h (c:=c) (by lia) h2;have n:=hb d dt;refine⟨m,.inr ?_,by lia,λx b i=>?_⟩
   .rcases f with f|f
    .rw[f];exact dt
    .exact fG _ f
   .rcases cf.mp b with rfl|b
    .exact l
    .exact k x b i
def CoL(H:Hp)(xs:List V)(a:List (List (Int×Int))):Prop:=aF xs a λr c=>∃b,H r=JH (.lst b)/\PL H b c
theorem CoL.same{H H':Hp}{xs:List V}{a:List (List (Int×Int))}(h:CoL H xs a)(s:ar H H'):CoL H' xs a:=aF.mono h λ_ _ ⟨b,e,p⟩=>⟨b,s _ _ e,PL.mono p s.tups⟩
structure A9{K':W.Frag}{L:Type} [DecidableEq L] (A:Lfp K' L)(P:Dn)(w:Cu)(K:W.Frag)(mg:Str->Option Ct)(base:DG)(f:DF)(m:Nat)(g:List Int->L)(J:Hp->Prop):Prop where
 fn:∃sp,HFn P w K mg base 8 f sp/\∀(H:Hp)(a:DF)(cs:List Int)(Q:VK),J H->cs.length=m->H a=JH (.lst (cs.map V.int))->(∀v H',(∀b o,b≠a->H b=JH o->H' b=JH o)->A.R H' (g cs) v->Q v H')->sp [.ref a] H Q E0
 ob:∀H,J H->FnO H f
 st:∀H H',J H->ar H H'->J H'
theorem oY{a:Type} [DecidableEq a] (ts:List (T3a a)):(gz ts).length<=ts.length:=by
 have:∀(r f:List (T3a a)),(r.foldl cJ f).length<=f.length+r.length:=by
  intro r;induction r with
  |nil=>intro f;exact vD _
  |cons t r b =>
   intro f;have d:(cJ f t).length<=f.length+1:=by
    unfold cJ;split
    .split
     .rw[dg,List.length_dropLast,hQ];lia
     .rw[dg,hQ];lia
    .rw[dg,hQ];lia
   have c:=b (cJ f t);rw[gb];show((r.foldl cJ (cJ f t)).length)<=_;lia
 have h:=this ts [];rw[List.length_nil,xT]at h;exact h
def below(a:List Int)(c:Int):Int:=((a.filter λm=>decide (m<=c)).length:Int)
def Ba(a:List (List Int))(b:Int)(c:List Int):Nat->Int
 |0=>0
 |k+1=>Ba a b c k*b+(1+Ba a b c k)%3*below (a.getD k []) (c.getD k 0)
def told(a:List (List Int))(c d st:Int)(b:List Int):Int:=Ba a c b b.length%d*st
def SmS{a:Type}(b:Nat)(S:a->Prop)(f:List (T3a a)):Prop:=f.length<=b/\∀t∈f,S t.2.2
def SmF{L:Type}(b:Nat):(n:Nat)->Fm L n->Prop
 |0,_=>True
 |n+1,f=>SmS b (SmF b n) f
theorem sV{b:Nat}{L:Type} [DecidableEq L] {g:List Int->L}:∀{a:List (List (Int×Int))}{ps:List (Int×Int)},iq a ps->(∀c∈a,c.length<=b)->∀e:List Int,SmF b a.length (lay g a e)
 | [],_,_,_,_=>trivial
 |c :: a,_,hok,h,e=>by
  cases hok with
  | @cons _ _ p ps hne d hok =>
   have k:=fY (wV (λq=>lay g a (e++[q.1])) d);refine⟨vG (oY _) (by rw[bo];exact h c dt),λt f=>?_⟩;obtain⟨l,j,i⟩:=k.mem t f;obtain⟨q,_,rfl⟩:=dy.mp j;rw[←i];exact sV hok (λc d=>h c (fG _ d)) _
theorem Bb{ps:List (Int×Int)}{c:List (List Int)}{m:Nat}(g:∀d∈c,∃L:List Int,L.length<=m/\∀x∈d,x∈L)(j:Nat):gl ps c j<=m+1:=by
 unfold gl;have:(dd (ps.getD j (0,0)).1 (ps.getD j (0,0)).2 (c.getD j [])).length<=m:=by
  rw[show c.getD j []=(c[j]?).getD []from fo ..];cases e:c[j]? with
  |none=>exact vI _
  |some d =>
   obtain⟨L,i,h⟩:=g d (GB e);obtain⟨a,b⟩:=pT (ps.getD j (0,0)).1 (ps.getD j (0,0)).2 d [] sk;refine vG (bK a λx f=>?_) i;rcases(b x).mp f with z|z
   .cases z
   .exact h x z.1
 lia
theorem xj:∀{ps:List (Int×Int)}{css:List (List Int)},css.length=ps.length->(∀p∈ps,p.1<=p.2)->(∀(j:Nat)(p:Int×Int)(d:List Int),ps[j]?=JH p->css[j]?=JH d->d.Pairwise (· < ·)/\∀c∈d,p.1<c/\c<=p.2)->iq (List.zipWith (λp d=>cb p.1 p.2 d) ps css) ps
 | [],[],_,_,_=>.nil
 | [],_ :: _,h,_,_=>by simp at h
 |_ :: _,[],h,_,_=>by simp at h
 |p :: ps,d :: css,h,hle,hk=>by
  obtain⟨a,b⟩:=hk 0 p d U U;refine .cons (λz=>?_) (zP (qY a b (hle p dt))) (xj (by simpa using h) (λq e=>hle q (fG _ e)) λj q c g f=>hk (j+1) q c (by simpa using g) (by simpa using f));have:=JT List.length z;rw[iu]at this;simp at this
def nP{L M:Type} [DecidableEq M] (h:L->M):(n:Nat)->Fm L n->Fm M n
 |0,x=>h x
 |n+1,f=>gz (List.map (λt:T3a (Fm L n)=>((t.1,t.2.1,nP h n t.2.2):T3a (Fm M n))) f)
theorem pU{b a:Type}(F:b->a):∀{f:List (T3a b)}{lo hi:Int},Ch3 f lo hi->Ch3 (f.map λt=>((t.1,t.2.1,F t.2.2):T3a a)) lo hi
 | [],_,_,h=>h
 |_ :: _,_,_,h=>⟨h.1,h.2.1,pU F h.2.2⟩
theorem q8{b a:Type}(F:b->a)(c:Int):∀f:List (T3a b),vAt (f.map λt=>((t.1,t.2.1,F t.2.2):T3a a)) c=(vAt f c).map F
 | []=>rfl
 |t :: f=>by
  have d:=q8 F c f;unfold vAt at d⊢;rw[kO];by_cases q:c<=t.2.1
  .rw[mv (by simpa using q),mv (by simpa using q)];rfl
  .rw[ni (by simpa using q),ni (by simpa using q)];exact d
theorem iT{a:Type}{c:Int}:∀{f:List (T3a a)}{j:Nat}{t:T3a a},f[j]?=JH t->c<=t.2.1->(∀(i:Nat)(u:T3a a),i<j->f[i]?=JH u->u.2.1<c)->vAt f c=JH t.2.2
 | [],j,t,e,_,_=>by simp at e
 |u :: f,0,t,e,h,_=>by
  cases e;unfold vAt;rw[mv (by simpa using h)];rfl
 |u :: f,j+1,t,e,h,k=>by
  have b:=k 0 u (xU _) U;have:=iT (f:=f) (j:=j) (t:=t) (by simpa using e) h λi w hi d=>k (i+1) w (by lia) (by simpa using d)
  unfold vAt at this⊢;rw[ni (by simpa using b)];exact this
theorem xk{L M:Type} [DecidableEq M] {h:L->M}:∀{n:Nat}{F:Fm L n}{ps:List (Int×Int)},dI n F ps->dI n (nP h n F) ps
 |0,_,_,hs=>hs
 |n+1,F,ps,hs=>by
  obtain⟨G,rfl⟩:∃G:List (T3a (Fm L n)),(G:Fm L (n+1))=F:=⟨F,U⟩;obtain⟨p,r,rfl,c,d,i,g⟩:ShS (dI n) G ps:=hs;have k:=fY (pU (nP h n) d);refine⟨p,r,U,k.ne (by simpa using c),k.ch,k.nb,λt f=>?_⟩;obtain⟨j,a,b⟩:=k.mem t f;obtain⟨u,e,rfl⟩:=dy.mp a;rw[←b];exact xk (g u e)
theorem yD{L M:Type} [DecidableEq M] {h:L->M}{n:Nat}{F:Fm L n}{a:List Int}{x:L}(i:Tel n F a x):∀{ps:List (Int×Int)},dI n F ps->InB a ps->Tel n (nP h n F) a (h x):=by
 induction i with
 |nil x=>intro ps _ _;exact .nil (h x)
 | @cons n f c a x j t e1 e2 e3 _ ih =>
  intro ps l d;obtain⟨p,r,rfl,w,e,y,q⟩:ShS (dI n) f ps:=l;cases d with
  |cons o m d =>
   have k:=fY (pU (nP h n) e);obtain⟨z,g,v,A,u,s,b⟩:=k.ch.at o m;rw[k.va,q8,iT e1 e2 e3]at b;have b:nP h n t.2.2=g.2.2:=Option.some.inj b;refine .cons (f:=(nP h (n+1) f:List (T3a (Fm M n)))) v u s ?_;rw[←b];exact ih (q t (GB e1)) d
structure Cs{K':W.Frag}{L M:Type} [DecidableEq L] [DecidableEq M] (A:Lfp K' L)(B:Lfp K' M)(P:Dn)(w:Cu)(K:W.Frag)(mg:Str->Option Ct)(base:DG)(f:DF)(h:L->M)(J:Hp->Prop):Prop where
 fn:∃sp,HFn P w K mg base 8 f sp/\∀(H:Hp)(v:V)(x:L)(Q:VK),J H->A.R H x v->(∀u H',ar H H'->B.R H' (h x) u->Q u H')->sp [v] H Q E0
 ob:∀H,J H->FnO H f
 st:∀H H',J H->ar H H'->J H'
theorem _root_.L2.Ch3.le{a:Type}:∀{f:List (T3a a)}{lo hi:Int},Ch3 f lo hi->lo<=hi+1
 | [],_,_,h=>Int.le_of_eq h
 |t :: f,lo,hi,h=>by have:=L2.Ch3.le h.2.2;have:=h.2.1;lia
theorem eJ{a:Type}(t:T3a a)(r:List (T3a a))(c:Int):vAt (t :: r) c=if c<=t.2.1 then JH t.2.2 else vAt r c:=by
 unfold vAt;by_cases h:c<=t.2.1
 .rw[mv (by simpa using h),JO h];rfl
 .rw[ni (by simpa using h),JN h]
theorem SmF.le{L:Type}{b a:Nat}:∀{n:Nat}{F:Fm L n},SmF b n F->b<=a->SmF a n F
 |0,_,_,_=>trivial
 |n+1,F,h,l=>by
  obtain⟨f,rfl⟩:∃f:List (T3a (Fm L n)),(f:Fm L (n+1))=F:=⟨F,U⟩;obtain⟨e,d⟩:SmS b (SmF b n) f:=h;exact⟨vG e l,λt c=>SmF.le (d t c) l⟩
theorem yE{ps:List (Int×Int)}{css:List (List Int)}{a:List Int}{k:Nat}{p:Int×Int}{ks:List Int}{c:Int}(b:ps[k]?=JH p)(d:css[k]?=JH ks)(e:a[k]?=JH c):(List.zipWith cx (List.zipWith (λp a=>cb p.1 p.2 a) ps css) a)[k]?=JH (cx (cb p.1 p.2 ks) c):=by
 rw[nL,nL,b,d,e]
theorem oZ{d:Type}:∀{f g:List (T3a d)}{lo hi:Int},Ch3 f lo hi->Ch3 g lo hi->Nbx (f.map (·.2.2))->Nbx (g.map (·.2.2))->(∀c,lo<=c->c<=hi->vAt f c=vAt g c)->f=g
 | [],[],_,_,_,_,_,_,_=>rfl
 | [],t :: g,lo,hi,j,e,_,_,_=>by
  have j:lo=hi+1:=j;have:=e.2.1;have:=e.2.2.le;lia
 |s :: f,[],lo,hi,j,e,_,_,_=>by
  have e:lo=hi+1:=e;have:=j.2.1;have:=j.2.2.le;lia
 |s :: f,t :: g,lo,hi,j,e,nf,ng,hv=>by
  obtain⟨C,B,p⟩:=j;obtain⟨A,z,o⟩:=e;have Q:=p.le;have P:=o.le;have k:=hv lo (by lia) (by lia);rw[eJ,eJ,JO B,JO z]at k;have k:s.2.2=t.2.2:=Option.some.inj k;have l:∀{a b:T3a d}{r:List (T3a d)}{q:List (T3a d)},Ch3 r (a.2.1+1) hi->Nbx ((a :: r).map (·.2.2))->a.2.1<b.2.1->b.2.1<=hi->lo<=a.2.1->a.2.2=b.2.2->vAt (a :: r) (a.2.1+1)=vAt (b :: q) (a.2.1+1)->False:=λ{a b r q} m D T S R E n=>by
   rw[eJ,eJ,JN (by lia),JO (by lia)]at n;cases r with
   |nil =>
    have m:a.2.1+1=hi+1:=m;lia
   |cons u r =>
    rw[eJ,JO m.2.1]at n;exact D 0 _ _ U U (E.trans (Option.some.inj n).symm)
  have v:s.2.1=t.2.1:=by
   rcases Int.lt_trichotomy s.2.1 t.2.1 with h|h|h
   .exact(l p nf h (by lia) B k (hv _ (by lia) (by lia))).elim
   .exact h
   .exact(l o ng h (by lia) z k.symm (hv _ (by lia) (by lia)).symm).elim
  have I:s=t:=by
   obtain⟨O,s2,N⟩:=s;obtain⟨M,L,K⟩:=t;simp only at C A k v;rw[C,A,k,v]
  have w:∀{d:Type}{a:d}{r:List d},Nbx (a :: r)->Nbx r:=λ{d a r} h i x y G F=>h (i+1) x y (by simpa using G) (by simpa using F)
  have H:f=g:=oZ p (by rw[v];exact o) (w nf) (w ng) λc V J=>by
   have:=hv c (by lia) J;rw[eJ,eJ,JN (by lia),JN (by lia)]at this;exact this
  rw[I,H]
section
variable{L:Type}
theorem _root_.L2.Tel.inv{n:Nat}{g:List (T3a (Fm L n))}{c:Int}{e:List Int}{y:L}(h:Tel (n+1) (g:Fm L (n+1)) (c :: e) y):∃(j:Nat)(t:T3a (Fm L n)),g[j]?=JH t/\c<=t.2.1/\(∀(i:Nat)(u:T3a (Fm L n)),i<j->g[i]?=JH u->u.2.1<c)/\Tel n t.2.2 e y:=by
 cases h with
 |cons a b c d=>exact⟨_,_,a,b,c,d⟩
theorem pV{n:Nat}{F:Fm L n}{b:List Int}{x:L}(h:Tel n F b x):∀{y:L},Tel n F b y->x=y:=by
 induction h with
 |nil x=>intro y a;cases a;rfl
 | @cons n f c b x j t e1 e2 e3 _ ih =>
  intro y a;obtain⟨m,l,k,i,g,d⟩:=a.inv;have e:=(iT e1 e2 e3).symm.trans (iT k i g);rw[←Option.some.inj e]at d;exact ih d
theorem o6:∀{n:Nat}{F G:Fm L n}{ps:List (Int×Int)},dI n F ps->dI n G ps->(∀b,InB b ps->∀x y,Tel n F b x->Tel n G b y->x=y)->F=G
 |0,F,G,ps,a,_,hv=>by
  have a:ps=[]:=a;subst a;exact hv [] .nil F G (.nil F) (.nil G)
 |n+1,F,G,ps,a,hs',hv=>by
  obtain⟨f,rfl⟩:∃f:List (T3a (Fm L n)),(f:Fm L (n+1))=F:=⟨F,U⟩;obtain⟨g,rfl⟩:∃g:List (T3a (Fm L n)),(g:Fm L (n+1))=G:=⟨G,U⟩;obtain⟨p,r,rfl,J,d,k,w⟩:ShS (dI n) f ps:=a;obtain⟨M,K,e,Q,q,H,I⟩:ShS (dI n) g (p :: r):=hs';cases e;refine oZ d q k H λc i h=>?_
  obtain⟨j,t,m,O,B,A,z⟩:=d.at i h;obtain⟨N,s,o,P,E,D,C⟩:=q.at i h;rw[z,C];rw[o6 (w t (GB m)) (I s (GB o)) λb l x y v u=>hv (c :: b) (.cons i h l) x y (.cons m B A v) (.cons o E D u)]
end
theorem pW:∀{a:List Int}{ps:List (Int×Int)},a.length=ps.length->(∀(j:Nat)(c:Int)(p:Int×Int),a[j]?=JH c->ps[j]?=JH p->p.1<=c/\c<=p.2)->InB a ps
 | [],[],_,_=>.nil
 | [],_ :: _,h,_=>by simp at h
 |_ :: _,[],h,_=>by simp at h
 |c :: a,p :: ps,h,k=>.cons (k 0 c p U U).1 (k 0 c p U U).2 (pW (by simpa using h) λj x q d b=>k (j+1) x q (by simpa using d) (by simpa using b))
theorem pX{b:Type}:∀{f:List (T3a b)}{lo hi:Int}{j:Nat}{s:T3a b},Ch3 f lo hi->f[j]?=JH s->lo<=s.1/\s.1<=s.2.1/\s.2.1<=hi/\(∀t,f[j+1]?=JH t->t.1=s.2.1+1)/\(∀(i:Nat)(u:T3a b),i<j->f[i]?=JH u->u.2.1<s.1)/\(j=0->s.1=lo)
 | [],_,_,j,s,_,e=>by simp at e
 |t :: f,lo,hi,0,s,h,e=>by
  cases e;have d:=h.1;have c:=h.2.1;have o:=h.2.2.le;refine⟨by lia,by lia,by lia,λt e=>?_,λi u hi=>JP hi (yi i),λ_=>d⟩;cases f with
  |nil=>simp at e
  |cons u f=>simp at e;subst e;exact h.2.2.1
 |t :: f,lo,hi,j+1,s,h,e=>by
  have g:f[j]?=JH s:=by simpa using e
  obtain⟨q,n,m,l,k,p⟩:=pX (f:=f) h.2.2 g;have c:=h.2.1;refine⟨by lia,n,m,λt e=>l t (by simpa using e),λi u hi a=>?_,λz=>by lia⟩
  match i,a with
  |0,a=>cases a;lia
  |i+1,a=>exact k i u (by lia) (by simpa using a)
section
variable{L:Type}
theorem xl{n:Nat}{f:List (T3a (Fm L n))}{lo hi:Int}{j:Nat}{t:T3a (Fm L n)}{c:Int}{a:List Int}{x:L}(h:Ch3 f lo hi)(e:f[j]?=JH t)(l:t.1<=c)(d:c<=t.2.1)(b:Tel n t.2.2 a x):Tel (n+1) (f:Fm L (n+1)) (c :: a) x:=by
 obtain⟨_,_,_,_,k,_⟩:=pX h e;exact .cons e d (λi u hi g=>by have:=k i u hi g;lia) b
end
theorem ll{d:Type}:∀{f:List (T3a d)}{lo hi:Int},Ch3 f lo hi->(f.map (·.1)).Pairwise (· < ·)/\∀t∈f,lo<=t.1
 | [],_,_,_=>⟨.nil,λt g=>by cases g⟩
 |t :: f,lo,hi,h=>by
  obtain⟨a,b⟩:=ll h.2.2;have j:=h.1;have i:=h.2.1;refine⟨.cons (λx e=>?_) a,λu c=>?_⟩
  .obtain⟨u,c,rfl⟩:=dy.mp e;have:=b u c;show t.1<u.1;lia
  .rcases cf.mp c with rfl|c
   .lia
   .have:=b u c;lia
theorem o7{n:Nat}(h:n<=2000):n<DO:=Nat.lt_of_le_of_lt h (by decide)
theorem gA{c d:Type}{R:c->d->Prop}:∀{xs:List c}{f:List d}{i:Nat}{x:c},Paired R xs f->xs[i]?=JH x->∃a,f[i]?=JH a/\R x a
 |_,_,_,_,.nil,e=>by simp at e
 |_,_,0,_,.cons (b:=b) h _,e=>by simp at e;subst e;exact⟨b,U,h⟩
 |_,_,i+1,x,.cons _ tl,e=>by
  obtain⟨a,q⟩:=gA (i:=i) (x:=x) tl (by simpa using e);exact⟨a,by simpa using q.1,q.2⟩
theorem sW{c b:Type}{R:c->b->Prop}{xs ys:List c}{d bs:List b}(h:Paired R xs d)(h':Paired R ys bs):Paired R (xs++ys) (d++bs):=by
 induction h with
 |nil=>exact h'
 |cons a _ e=>exact .cons a e
theorem xm{K:W.Frag}{H:Hp}{Q:VK}{a b:DF}{xs ys:List V}(d:H a=JH (.tup xs))(c:H b=JH (.tup ys))(hz:xs.length+ys.length<=DO)(q:∀(r:DF)(H':Hp),ar H H'->H' r=JH (.tup (xs++ys))->Q (.ref r) H'):sr K (.ref a) (.ref b) H Q:=by
 refine⟨a,b,xs,ys,U,U,SqT.of d,SqT.of c,hz,λz=>?_,λ_ z=>?_,λ_ _ p e=>q p _ (ai e _) ae⟩
 .subst z;exact q b H (ar.refl _) c
 .subst z;exact q a H (ar.refl _) (by rw[jH];exact d)
def BxA(H:Hp)(a:DF)(B:List (Int×Int)):Prop:=∃b,H a=JH (.tup b)/\PL H b B
theorem BxA.mono{H H':Hp}{a:DF}{B:List (Int×Int)}(h:BxA H a B)(s:cg H H'):BxA H' a B:=by obtain⟨b,e,p⟩:=h;exact⟨b,s _ _ e,p.mono s⟩
def bxs{L:Type}:(n:Nat)->Fm L n->List (List (Int×Int)×L)
 |0,f=>[([],f)]
 |n+1,l=>List.flatMap (λe:T3a (Fm L n)=>(bxs n e.2.2).map λq=>((e.1,e.2.1) :: q.1,q.2)) l
theorem uq{L:Type}(n:Nat)(l m:List (T3a (Fm L n))):bxs (n+1) (show Fm L (n+1)from l++m)=bxs (n+1) (show Fm L (n+1)from l)++bxs (n+1) (show Fm L (n+1)from m):=List.flatMap_append
theorem yF{L:Type}(n:Nat)(e:T3a (Fm L n)):bxs (n+1) (show Fm L (n+1) from[e])=(bxs n e.2.2).map λq=>((e.1,e.2.1) :: q.1,q.2):=by
 show List.flatMap (λe:T3a (Fm L n)=>(bxs n e.2.2).map λq=>((e.1,e.2.1) :: q.1,q.2)) [e]=_;rw[List.flatMap_singleton]
theorem xn{ps:List (Int×Int)}{a:List (List Int)}{b:Nat}(h:∀j,gl ps a j<=b):∀n,gr ps a n<=b^n
 |0=>vD _
 |n+1=>by
  show gr ps a n*gl ps a n<=b^n*b;exact yt (xn h n) (h n)
theorem xo{L:Type}{n:Nat}{f:List (T3a (Fm L n))}{q:List (Int×Int)×L}:q∈bxs (n+1) (f:Fm L (n+1))↔∃e∈f,∃r∈bxs n e.2.2,q=((e.1,e.2.1) :: r.1,r.2):=by
 constructor
 .intro h;obtain⟨e,b,c⟩:=qk.mp h;obtain⟨r,a,rfl⟩:=dy.mp c;exact⟨e,b,r,a,U⟩
 .rintro⟨e,b,r,a,rfl⟩;exact qk.mpr ⟨e,b,dy.mpr ⟨r,a,U⟩⟩
structure yG(B ps:List (Int×Int)):Prop where
 len:B.length=ps.length
 get:∀(k:Nat)(b p:Int×Int),B[k]?=JH b->ps[k]?=JH p->p.1<=b.1/\b.1<=b.2/\b.2<=p.2
theorem yG.lows{B ps:List (Int×Int)}(h:yG B ps):InB (B.map (·.1)) ps:=pW (by rw[bo,h.len]) λj c p a e=>by
 rw[eR]at a;obtain⟨b,d,rfl⟩:=Bz.mp a;have:=h.get j b p d e;exact⟨this.1,by lia⟩
theorem o8{L:Type}:∀{n:Nat}{F:Fm L n}{ps:List (Int×Int)},dI n F ps->∀q∈bxs n F,yG q.1 ps/\Tel n F (q.1.map (·.1)) q.2/\Tel n F (q.1.map (·.2)) q.2
 |0,F,ps,c,q,d=>by
  have c:ps=[]:=c;have d:q∈[(([]:List (Int×Int)),F)]:=d;rw[iE.mp d,c];exact⟨⟨U,λk b p e=>by simp at e⟩,.nil _,.nil _⟩
 |n+1,F,ps,c,q,d=>by
  obtain⟨f,rfl⟩:∃f:List (T3a (Fm L n)),(f:Fm L (n+1))=F:=⟨F,U⟩;obtain⟨p,r,rfl,A,a,B,w⟩:ShS (dI n) f ps:=c;obtain⟨e,o,t,m,rfl⟩:=xo.mp d;obtain⟨j,v,g⟩:=List.getElem_of_mem o;have g:f[j]?=JH e:=by rw[Gz v,g]
  obtain⟨z,l,y,-,-,-⟩:=pX a g;obtain⟨s,b2,x⟩:=o8 (w e o) t m;refine⟨⟨by rw[gb,gb,s.len],λk b u i h=>?_⟩,xl a g (Int.le_refl _) l b2,xl a g l (Int.le_refl _) x⟩
  match k,i,h with
  |0,i,h=>cases i;cases h;exact⟨z,l,y⟩
  |k+1,i,h=>exact s.get k b u (by simpa using i) (by simpa using h)
inductive Asc:List (Int×Int)->List (Int×Int)->Prop
 |here {a b:Int×Int}{A B:List (Int×Int)}:a.1<b.1->a.2<b.1->Asc (a :: A) (b :: B)
 |there {a:Int×Int}{A B:List (Int×Int)}:Asc A B->Asc (a :: A) (a :: B)
theorem yH{A B:List (Int×Int)}(h:Asc A B):∃(k:Nat)(a b:Int×Int),A[k]?=JH a/\B[k]?=JH b/\a.1<b.1/\a.2<b.1/\∀(i:Nat),i<k->A[i]?=B[i]?:=by
 induction h with
 | @here a b A B d c=>exact⟨0,a,b,U,U,d,c,λi hi=>JP hi (yi i)⟩
 | @there a A B _ ih =>
  obtain⟨k,x,y,g,f,d,c,e⟩:=ih;refine⟨k+1,x,y,by simpa using g,by simpa using f,d,c,λi hi=>?_⟩
  match i with
  |0=>rfl
  |i+1=>simpa using e i (by lia)
theorem xp{c:Type}:∀{f:List (T3a c)}{lo hi:Int},Ch3 f lo hi->f.Pairwise λa b=>a.1<b.1/\a.2.1<b.1
 | [],_,_,_=>.nil
 |t :: f,lo,hi,h=>by
  have g:=h.1;have e:=h.2.1;refine .cons (λu d=>?_) (xp h.2.2);have:=(ll h.2.2).2 u d;exact⟨by lia,by lia⟩
theorem xq{L:Type}:∀{n:Nat}{F:Fm L n}{ps:List (Int×Int)},dI n F ps->(bxs n F).Pairwise λq r=>Asc q.1 r.1
 |0,F,_,_=>List.pairwise_singleton _ _
 |n+1,F,ps,hs=>by
  obtain⟨f,rfl⟩:∃f:List (T3a (Fm L n)),(f:Fm L (n+1))=F:=⟨F,U⟩;obtain⟨p,r,rfl,l,d,m,k⟩:ShS (dI n) f ps:=hs;show(List.flatMap (λe:T3a (Fm L n)=>(bxs n e.2.2).map λq=>((e.1,e.2.1) :: q.1,q.2)) f).Pairwise _;rw[List.pairwise_flatMap];refine⟨λe j=>?_,(xp d).imp λ{a b} c x i y g=>?_⟩
  .rw[List.pairwise_map];exact(xq (k e j)).imp λh=>.there h
  .obtain⟨s,_,rfl⟩:=dy.mp i;obtain⟨o,_,rfl⟩:=dy.mp g;exact .here c.1 c.2
theorem q9{a c:Type}{b:Nat}{F:a->List c}:∀{l:List a},(∀x∈l,(F x).length<=b)->(l.flatMap F).length<=l.length*b
 | [],_=>vI _
 |x :: l,h=>by
  have f:=h x dt;have e:=q9 λy d=>h y (fG _ d)
  rw[List.flatMap_cons,dg,gb,Nat.succ_mul];lia
theorem xr{b:Nat}{L:Type} [DecidableEq L] {g:List Int->L}:∀{a:List (List (Int×Int))}{ps:List (Int×Int)},iq a ps->(∀c∈a,c.length<=b)->∀d:List Int,(bxs a.length (lay g a d)).length<=b^a.length
 | [],_,_,_,_=>vD _
 |c :: a,ps,h,hb,d=>by
  cases h with
  | @cons _ _ p ps hne e h =>
  have k:=fY (wV (λq=>lay g a (d++[q.1])) e);have j:(gz (c.map λp=>((p.1,p.2,lay g a (d++[p.1])):T3a (Fm L a.length)))).length<=b:=vG (oY _) (by rw[bo];exact hb c dt);have i:(bxs (a.length+1) (show Fm L (a.length+1)from gz (c.map λp=>((p.1,p.2,lay g a (d++[p.1])):T3a (Fm L a.length))))).length<=(gz (c.map λp=>((p.1,p.2,lay g a (d++[p.1])):T3a (Fm L a.length)))).length*b^a.length:=q9 λt f=>by
   rw[bo];obtain⟨n,m,l⟩:=k.mem t f;obtain⟨q,_,rfl⟩:=dy.mp m;rw[←l];exact xr h (λc e=>hb c (fG _ e)) _
  show(bxs (a.length+1) _).length<=b^(a.length+1);rw[yl,Nat.mul_comm];exact vG i (Nat.mul_le_mul_right _ j)
def TD(g h f:DF)(H:Hp)(t:DF)(c:List V)(bs:Prs)(rws:List Rw):Prop:=∃(b e d:DF)(fs:List (Str×V))(a:List V),H t=JH (.ins g e fs)/\fs.lookup s!"rows"=JH (.ref b)/\fs.lookup s!"domains"=JH (.ref d)/\H d=JH (.lst c)/\aF c bs (Dom h f H)/\H b=JH (.lst a)/\RL NT H a rws
theorem TD.same{c d b:DF}{H H':Hp}{t:DF}{a:List V}{bs:Prs}{rws:List Rw}(h:TD c d b H t a bs rws)(s:ar H H'):TD c d b H' t a bs rws:=by
 obtain⟨f,o,q,fs,e,n,m,l,k,j,i,g⟩:=h;exact⟨f,o,q,fs,e,s _ _ n,m,l,s _ _ k,aF.mono j λ_ _ p=>p.same s,s _ _ i,g.same s⟩
theorem kg{H:Hp}{D:DF}{o:HO}:hide (upd H D o) D=hide H D:=by
 funext b
 unfold hide;by_cases h:b=D
 .rw[JO h,JO h]
 .rw[JN h,JN h,ay h]
theorem iU{H H':Hp}{D:DF}(s:ar H H'):ar (hide H D) (hide H' D):=λb o e=>by
 unfold hide at e⊢;by_cases h:b=D
 .rw[JO h]at e;cases e
 .rw[JN h]at e⊢;exact s b o e
theorem lO(H:Hp)(D:DF):ar (hide H D) H:=λb o e=>by
 unfold hide at e;by_cases h:b=D
 .rw[JO h]at e;cases e
 .rw[JN h]at e;exact e
theorem MLs.nil{H:Hp}:MLs H [] []:=⟨U,λj a e=>by simp at e⟩
theorem MLs.snoc{H:Hp}{g:List DF}{a:List (List Int)}{r:DF}{d:List Int}(h:MLs H g a)(e:H r=JH (.lst (d.map V.int))):MLs H (g++[r]) (a++[d]):=by
 refine⟨by rw[dg,dg,h.1];rfl,λj m b=>?_⟩;by_cases f:j<a.length
 .rw[fc f]at b;obtain⟨i,l,k⟩:=h.2 j m b;exact⟨i,by rw[fc (by rw[h.1];exact f)];exact l,k⟩
 .rw[mu (by lia)]at b;have c:j-a.length=0:=by
   have:=(GA.mp b).1;rw[hQ]at this;lia
  rw[c]at b;cases b;exact⟨r,by rw[mu (by rw[h.1];lia),h.1,c];rfl,e⟩
def rmk(c:Nat)(b:Int×Int)(w:Rw):List Int:=(ends (w.1.getD c [])).filter λt=>decide (b.1<t) && decide (t<=b.2)
def MkC(rws:List Rw)(c:Nat)(b:Int×Int)(x:Int):Prop:=∃w∈rws,x∈rmk c b w
theorem ra:∀R:Prs,(ends R).length=2*R.length
 | []=>rfl
 |p :: R=>by
  rw[uQ,gb,gb,ra R,gb];lia
theorem yI(c:Nat)(b:Int×Int){w:Rw}(h:(w.1.getD c []).length<=6):(rmk c b w).length<=12:=vG (ov _ _) (by rw[ra];lia)
theorem rb(c:Nat)(b:Int×Int):∀{rws:List Rw},(∀w∈rws,(w.1.getD c []).length<=6)->((rws.map (rmk c b)).flatten).length<=12*rws.length
 | [],_=>vD _
 |w :: rws,h=>by
  have e:=yI c b (h w (.head _));have d:=rb c b (rws:=rws) λw a=>h w (.tail _ a)
  rw[kO,List.flatten_cons,dg,gb];lia
theorem ur{rws:List Rw}{c:Nat}{b:Int×Int}{x:Int}:x∈(rws.map (rmk c b)).flatten↔MkC rws c b x:=by
 rw[List.mem_flatten];constructor
 .rintro⟨l,e,a⟩;obtain⟨w,d,rfl⟩:=dy.mp e;exact⟨w,d,a⟩
 .rintro⟨w,d,a⟩;exact⟨_,dy.mpr ⟨w,d,U⟩,a⟩
def Bc:HO->Prop
 | .frz _ (.lst _)=>True
 | .frz _ _=>False
 | .tbl _=>False
 |_=>True
def So(H H':Hp):Prop:=∀d o,Bc o->H d=JH o->H' d=JH o
theorem So.of{H H':Hp}(s:ar H H'):So H H':=λd o _ e=>s d o e
theorem So.trans{H f c:Hp}(a:So H f)(b:So f c):So H c:=λd o p e=>b d o p (a d o p e)
theorem So.tups{H H':Hp}(s:So H H'):cg H H':=λd a e=>s d _ trivial e
theorem So.lst{H H':Hp}{a:DF}{xs:List V}(s:So H H')(e:H a=JH (.lst xs)):H' a=JH (.lst xs):=s _ _ trivial e
theorem So.hide{H:Hp}{a:List DF}(f:Fzs H a):So H (hideL H a):=λd o p e=>by
 rw[bT (f.out e λz q=>by rw[q]at p;exact p)];exact e
section
variable{H H':Hp}(s:So H H')
include s
theorem SpA.so{N:DF->Prop}{l:DF}{ps:Prs}(h:SpA N H l ps):SpA N H' l ps:=by obtain⟨n,a,e,p⟩:=h;exact⟨n,a,s _ _ trivial e,p.mono s.tups⟩
theorem RL.so{N:DF->Prop}{xs:List V}{rws:List Rw}(h:RL N H xs rws):RL N H' xs rws:=aF.mono h λ_ _ ⟨b,a,e,n,f,c⟩=>⟨b,a,s _ _ trivial e,n,s _ _ trivial f,aF.mono c λ_ _ p=>SpA.so s p⟩
theorem Dom.so{d c a:DF}{b:Int×Int}(h:Dom d c H a b):Dom d c H' a b:=by obtain⟨C,f,g,fs,e,r⟩:=h;exact⟨C,f,g,fs,s _ _ trivial e,r⟩
theorem Tbl.so{b c a t:DF}{rws:List Rw}{i:Nat}{o:Int×Int}(h:Tbl b c a H t rws i o):Tbl b c a H' t rws i o:=by
 obtain⟨f,g,v,fs,d,e,u,r,q,p,n,m,l,k,j⟩:=h;exact⟨f,g,v,fs,d,e,s _ _ trivial u,r,q,p,s _ _ trivial n,RL.so s m,l,Dom.so s k,j⟩
theorem MLs.so{b:List DF}{a:List (List Int)}(h:MLs H b a):MLs H' b a:=⟨h.1,λj c e=>let ⟨r,e1,e2⟩:=h.2 j c e;⟨r,e1,s _ _ trivial e2⟩⟩
theorem TD.so{c d b t:DF}{a:List V}{bs:Prs}{rws:List Rw}(h:TD c d b H t a bs rws):TD c d b H' t a bs rws:=by
 obtain⟨f,o,q,fs,e,n,m,l,k,j,i,g⟩:=h;exact⟨f,o,q,fs,e,s _ _ trivial n,m,l,s _ _ trivial k,aF.mono j λ_ _ p=>Dom.so s p,s _ _ trivial i,RL.so s g⟩
end
theorem xt{a L:List Int}(b:a.Pairwise (· < ·))(h:∀x∈a,x∈L):a.length<=L.length:=bK (b.imp λh=>Int.ne_of_lt h) h
structure RfH(cT cN cW:DF)(H:Hp)(t:DF)(dv:List V)(bs:Prs)(rws:List Rw)(L:Nat->List Int)(kk:Nat)(i:Nat)(o:Int×Int):Prop where
 td:TD cT cN cW H t dv bs rws
 tb:Tbl cT cN cW H t rws i o
 b4:bs.length<=4
 r60:rws.length<=60
 row:∀x∈rws,x.1.length=bs.length/\∀c,(x.1.getD c []).length<=6
 mrk:∀(c:Nat)(b:Int×Int),bs[c]?=JH b->(L c).length<=kk/\∀x,MkC rws c b x->x∈L c
 few:(kk+1)^bs.length<=300
 k57:kk<=57
 le:∀p∈bs,p.1<=p.2
theorem RfH.so{c d b t:DF}{H H':Hp}{a:List V}{bs:Prs}{rws:List Rw}{L:Nat->List Int}{kk i:Nat}{o:Int×Int}(h:RfH c d b H t a bs rws L kk i o)(s:So H H'):RfH c d b H' t a bs rws L kk i o:=⟨TD.so s h.td,Tbl.so s h.tb,h.b4,h.r60,h.row,h.mrk,h.few,h.k57,h.le⟩
theorem RfH.gr{n p m t:DF}{H:Hp}{l:List V}{bs:Prs}{rws:List Rw}{L:Nat->List Int}{kk i:Nat}{o:Int×Int}(h:RfH n p m H t l bs rws L kk i o)(a:List (List Int))(q:a.length=bs.length)(k:∀(c:Nat)(b:Int×Int)(d:List Int),bs[c]?=JH b->a[c]?=JH d->d.Pairwise (· < ·)/\∀x,x∈d↔MkC rws c b x):My.gr bs a bs.length<=300 :=
 vG (xn (b:=kk+1) (Bb λd f=>by
  obtain⟨c,g⟩:=jF f;have r:=(GA.mp g).1;obtain⟨b,e⟩:∃b,bs[c]?=JH b:=⟨_,Gz (by lia)⟩;exact⟨L c,(h.mrk c b e).1,λx j=>(h.mrk c b e).2 x (((k c b d e g).2 x).mp j)⟩) _) h.few
def nQ(K:W.Frag)(H:Hp):Prop:=∀z,W.tabIn K "row_form" = JH z->dj H z.2 [(qQ Y77,"row_form.<locals>.<lambda>")]
theorem nQ.same{K:W.Frag}{H H':Hp}(h:nQ K H)(s:ar H H'):nQ K H':=λz e=>(h z e).same s
structure Cv(bs:Prs)(rws:List Rw)(cols:List (List (Int×Int))):Prop where
 ok:iq cols bs
 ex:∃css:List (List Int),css.length=bs.length/\cols=List.zipWith (λp cs=>cb p.1 p.2 cs) bs css/\∀(j:Nat)(p:Int×Int)(cs:List Int),bs[j]?=JH p->css[j]?=JH cs->cs.Pairwise (· < ·)/\∀x,x∈cs↔MkC rws j p x
theorem xu{rws:List Rw}{c:Nat}{b:Int×Int}{x:Int}(h:MkC rws c b x):b.1<x/\x<=b.2:=by
 obtain⟨d,_,a⟩:=h;have:=(kl.mp a).2;rw[zC,JU,JU]at this;exact this
abbrev mkg(rws:List Rw)(a:List Int):Int:=((msk (gR rws a) rws.length:Nat):Int)
structure SpG(ps:List Int)(m:Int)(n:Nat)(qs:Prs):Prop where
 le:∀p∈qs,p.1<=p.2
 pw:qs.Pairwise λp q=>p.2<q.1
 bel:∀a,ps[n]?=JH a->∀p∈qs,p.2<a
 iff:∀x,inP qs x=JJ↔∃(k:Nat)(a b:Int),k<n/\ps[k]?=JH a/\ps[k+1]?=JH b/\f7 m k=JJ/\a<=x/\x<b
 ep:∀p∈qs,p.1∈ps/\p.2+1∈ps
 lenA:2*qs.length<=n+1
 lenB:(∀p∈qs,∀a,ps[n]?=JH a->p.2≠a-1)->2*qs.length<=n
section
variable{ps:List Int}{m:Int}{n:Nat}{a b:Int}(hp:Pts ps)(ea:ps[n]?=JH a)(eb:ps[n+1]?=JH b)
include hp ea eb
end
def vN(bs:List Nat):List V:=bs.map λb:Nat=>V.int (b:Int)
theorem eK(bs:List Nat):(vN bs).length=bs.length:=by unfold vN;rw[bo]
theorem Cw{bs:List Nat}{j b:Nat}(e:bs[j]?=JH b):(vN bs)[j]?=JH (.int (b:Int)):=by unfold vN;rw[eR,e];rfl
theorem uu{bs:List Nat}{j:Nat}{x:V}(e:(vN bs)[j]?=JH x):∃b:Nat,x=.int (b:Int)/\bs[j]?=JH b:=by
 unfold vN at e;rw[eR]at e;cases q:bs[j]? with
 |none=>rw[q]at e;cases e
 |some b=>rw[q]at e;cases e;exact⟨b,U,U⟩
theorem pY(bs a:List Nat):vN bs++vN a=vN (bs++a):=by unfold vN;rw[fF]
def grow(a:List (List Nat))(n:Nat):List (List Nat):=a.flatMap λp=>(List.range n).map λk=>p++[k]
def dk(a:List Nat):List (List Nat):=a.foldl grow [[]]
theorem jx(a:List Nat)(n:Nat):dk (a++[n])=grow (dk a) n:=by unfold dk;rw[List.foldl_append];rfl
theorem xv{a:List (List Nat)}{n:Nat}{q:List Nat}:q∈grow a n↔∃p∈a,∃k,k<n/\q=p++[k]:=by
 unfold grow;rw[qk];constructor
 .rintro⟨p,b,h⟩;obtain⟨k,c,rfl⟩:=dy.mp h;exact⟨p,b,k,iv.mp c,U⟩
 .rintro⟨p,b,k,c,rfl⟩;exact⟨p,b,dy.mpr ⟨k,iv.mpr c,U⟩⟩
theorem vq{b:List (List Nat)}{n a:Nat}{p:List Nat}(e:b[a]?=JH p):grow (b.take (a+1)) n=grow (b.take a) n++(List.range n).map λk=>p++[k]:=by
 unfold grow;rw[take_snoc e,List.flatMap_append];simp
theorem mG(a:List (List Nat))(n:Nat):(grow a n).length=a.length*n:=by
 unfold grow;induction a with
 |nil=>simp
 |cons p a b=>rw[List.flatMap_cons,dg,b,bo,jJ,gb,Nat.succ_mul];lia
def iZ(b:List Nat)(p:List Nat):Prop:=p.length=b.length/\∀(j a m:Nat),p[j]?=JH a->b[j]?=JH m->a<m
theorem o9:∀{r b:List Nat}(_:b.reverse=r){p:List Nat},p∈dk b↔iZ b p
 | [],b,h,p=>by
  have:b=[]:=List.reverse_eq_nil_iff.mp h;subst this;show p∈[[]]↔_;rw[iE];constructor
  .rintro rfl;exact⟨U,λj a m e=>by simp at e⟩
  .rintro⟨h,_⟩;exact List.length_eq_zero_iff.mp h
 |n :: r,b,h,p=>by
  have e:b=r.reverse++[n]:=by rw[←ro b,h,List.reverse_cons]
  subst e;rw[jx,xv];have l:∀{p:List Nat},p∈dk r.reverse↔iZ r.reverse p:=o9 (ro r);constructor
  .rintro⟨q,s,k,t,rfl⟩;obtain⟨c,d⟩:=l.mp s;refine⟨by rw[dg,dg,c];rfl,λj a m f g=>?_⟩;by_cases o:j<q.length
   .rw[fc o]at f;rw[fc (by rw[←c];exact o)]at g;exact d j a m f g
   .have:j=q.length:=by have:=(GA.mp f).1;simp at this;lia
    subst this;simp at f;subst f;rw[c]at g;simp at g;subst g;exact t
  .rintro⟨c,d⟩;rw[dg,hQ]at c;rcases ny p with rfl|⟨q,k,rfl⟩
   .simp at c
   .rw[nB]at c d⊢;rw[dg,hQ]at c;have i:q.length=r.reverse.length:=by lia
    refine⟨q,l.mpr ⟨i,λj a m f g=>?_⟩,k,?_,U⟩
    .refine d j a m ?_ ?_
     .rw[fc (GA.mp f).1];exact f
     .rw[fc (GA.mp g).1];exact g
    .refine d q.length k n (by simp) ?_;rw[i];simp
theorem iZ.iff{a p:List Nat}:p∈dk a↔iZ a p:=o9 U
def PtL(N:DF->Prop)(H:Hp)(xs:List V)(a:List (List Nat)):Prop:=aF xs a λr p=>N r/\H r=JH (.lst (vN p))
theorem PtL.same{N:DF->Prop}{H H':Hp}{xs:List V}{a:List (List Nat)}(h:PtL N H xs a)(s:ar H H'):PtL N H' xs a:=aF.mono h λ_ _ p=>⟨p.1,s _ _ p.2⟩
theorem PtL.updN{N:DF->Prop}{D:DF}{H:Hp}{xs:List V}{a:List (List Nat)}{o:HO}(h:PtL N H xs a)(n:¬ N D):PtL N (upd H D o) xs a:=aF.mono h λ_ _ p=>⟨p.1,(ay (λz=>n (by rw[←z];exact p.1))).trans p.2⟩
theorem PtL.any{N:DF->Prop}{H:Hp}{xs:List V}{a:List (List Nat)}(h:PtL N H xs a):PtL NT H xs a:=aF.mono h λ_ _ p=>⟨trivial,p.2⟩
theorem xw{A:Prs}{m n:Int}(f:m<=n)(h:∀e∈ends A,e<=m\/n<e):inP A n=inP A m:=by
 rw[Bool.eq_iff_iff,tX,tX];constructor
 .rintro⟨p,a,c,b⟩;have d:=h _ (lZ.mpr ⟨p,a,.inl U⟩);exact⟨p,a,by lia,by lia⟩
 .rintro⟨p,a,c,b⟩;have d:=h _ (lZ.mpr ⟨p,a,.inr U⟩);exact⟨p,a,by lia,by lia⟩
theorem pb{f g:Nat->Bool}:∀{n:Nat},(∀k,k<n->f k=g k)->msk f n=msk g n
 |0,_=>rfl
 |n+1,h=>by rw[eI,eI,h n (wj n),pb λk a=>h k (vJ a)]
theorem iV:∀{a:List Int}{ps:List (Int×Int)},InB a ps->a.length=ps.length/\∀(j:Nat)(c:Int)(p:Int×Int),a[j]?=JH c->ps[j]?=JH p->p.1<=c/\c<=p.2
 |_,_,.nil=>⟨U,λj c p e=>by simp at e⟩
 |_,_,.cons h1 h2 h=>by
  obtain⟨f,g⟩:=iV h;refine⟨by rw[gb,gb,f],λj c p d b=>?_⟩;cases j with
  |zero=>cases d;cases b;exact⟨h1,h2⟩
  |succ j=>exact g j c p (by simpa using d) (by simpa using b)
theorem yJ{bs:Prs}{rws:List Rw}{a:List (List (Int×Int))}(E:Cv bs rws a)(F:∀x∈rws,x.1.length=bs.length){b:List Int}(h:InB b bs):mkg rws (List.zipWith cx a b)=mkg rws b:=by
 obtain⟨css,L,e,C⟩:=E.ex;obtain⟨I,s⟩:=iV h;have r:(List.zipWith cx a b).length=b.length:=by rw[e,lz,lz];lia
 show((msk (gR rws (List.zipWith cx a b)) rws.length:Nat):Int)=((msk (gR rws b) rws.length:Nat):Int);rw[pb λk D=>?_];obtain⟨x,ex⟩:∃x,rws[k]?=JH x:=⟨_,Gz D⟩;have g:=GB ex;have H:=F x g;unfold gR ir;rw[fo,ex,r];show(List.range b.length).all (λj=>inP (x.1.getD j []) ((List.zipWith cx a b).getD j 0))=(List.range b.length).all λj=>inP (x.1.getD j []) (b.getD j 0)
 have f:∀j∈List.range b.length,inP (x.1.getD j []) ((List.zipWith cx a b).getD j 0)=inP (x.1.getD j []) (b.getD j 0):=λj d=>by
  have d:=iv.mp d;obtain⟨c,q⟩:∃c,b[j]?=JH c:=⟨_,Gz d⟩;obtain⟨p,o⟩:∃p,bs[j]?=JH p:=⟨_,Gz (by lia)⟩;obtain⟨m,u⟩:∃m,css[j]?=JH m:=⟨_,Gz (by lia)⟩;obtain⟨v,i⟩:=C j p m o u;obtain⟨G,b2⟩:=s j c p q o;have t:=yE (css:=css) o u q;rw[←e]at t;obtain⟨B,K,J,A⟩:=qZ (hi:=p.2) v (λy n=>(xu ((i y).mp n)).1) G b2;rw[fo (l:=List.zipWith cx a b),t,fo (l:=b),q];show inP _ (cx (cb p.1 p.2 m) c)=inP _ c
  symm
  refine xw B λy n=>?_
  by_cases z:p.1<y/\y<=p.2
  .have:MkC rws j p y:=⟨x,g,kl.mpr ⟨n,by rw[zC,JU,JU];exact z⟩⟩;by_cases w:y<=c
   .exact .inl (A y ((i y).mpr this) w)
   .exact .inr (by lia)
  .by_cases w:y<=p.1
   .exact .inl (by lia)
   .exact .inr (by lia)
 rw[Bool.eq_iff_iff,ik,ik];exact⟨λh j d=>by rw[←f j d];exact h j d,λh j d=>by rw[f j d];exact h j d⟩
theorem So.tp{H H':Hp}{a:DF}{xs:List V}(s:So H H')(e:H a=JH (.tup xs)):H' a=JH (.tup xs):=s _ _ trivial e
theorem So.ins{H H':Hp}{a C b:DF}{fs:List (Str×V)}(s:So H H')(e:H a=JH (.ins C b fs)):H' a=JH (.ins C b fs):=s _ _ trivial e
theorem xx{a:Type}:∀{f:List (T3a a)}{lo hi c:Int}{j:Nat}{t:T3a a},Ch3 f lo hi->lo<=c->f[j]?=JH t->(∀(i:Nat)(u:T3a a),i<j->f[i]?=JH u->u.2.1<c)->t.1<=c
 | [],_,_,_,j,_,_,_,e,_=>by simp at e
 |u :: f,lo,hi,c,0,t,h,hc,e,_=>by cases e;rw[h.1];exact hc
 |u :: f,lo,hi,c,j+1,t,h,hc,e,hb=>by
  have:=hb 0 u (by lia) U;exact xx (f:=f) h.2.2 (by lia) (by simpa using e) λi v hi b=>hb (i+1) v (by lia) (by simpa using b)
def BxG{K:W.Frag}{L:Type} [DecidableEq L] (A:Lfp K L)(H:Hp):List V->List (List (Int×Int)×L)->Prop:=Paired λx q=>∃(t b:DF)(u:V),x=.ref t/\H t=JH (.tup [.ref b,u])/\BxA H b q.1/\A.R H q.2 u
theorem BxG.mono{K:W.Frag}{L:Type} [DecidableEq L] {A:Lfp K L}{H H':Hp}{xs:List V}{l:List (List (Int×Int)×L)}(h:BxG A H xs l)(s:cg H H'):BxG A H' xs l:=Paired.mapP h λ_ _ ⟨t,b,u,e,z,p,r⟩=>⟨t,b,u,e,s _ _ z,p.mono s,A.mono s r⟩
theorem BxG.length{K:W.Frag}{L:Type} [DecidableEq L] {A:Lfp K L}{H:Hp}{xs:List V}{l:List (List (Int×Int)×L)}(h:BxG A H xs l):xs.length=l.length:=Paired.length h
theorem tab_ne{K:W.Frag}{x y:Str}{c t c' t':DF}(h:W.tabIn K x=JH (c,t))(h':W.tabIn K y=JH (c',t'))(d:t≠t'):∀z a,W.tabIn K x=JH z->W.tabIn K y=JH a->z.2≠a.2:=λz a e b=>by
 rw[h]at e;rw[h']at b;cases e;cases b;exact d
theorem tab_keep{H H':Hp}{P b:DF}{L:List (Pos×Str)}(h:dj H P L)(i:P≠b){ps:Array Ct}(e:H b=JH (.tbl ps))(k:∀d o,d≠b->H d=JH o->H' d=JH o):dj H' P L:=by
 obtain⟨f,r,q,n⟩:=h;refine⟨f,k _ _ i r,q,λp m=>?_⟩;rcases n p m with z|⟨c,g,l,a,j⟩
 .exact .inl z
 .exact .inr ⟨c,g,l,k _ _ (λz=>by rw[z,e]at a;cases a) a,j⟩
theorem yK{L M:Type} [DecidableEq L] [DecidableEq M] {h:L->M}{g:List Int->L}{a:List (List (Int×Int))}{ps:List (Int×Int)}(c:iq a ps):nP h a.length (lay g a [])=lay (λd=>h (g d)) a [] :=
 o6 (xk (pN c [])) (pN c []) λe b x y i f=>(pV i (yD (pO c [] e b) (pN c []) b)).trans (pV f (pO (g:=λd=>h (g d)) c [] e b)).symm
def vdm(rws:List Rw)(i:Nat)(o:Int×Int)(m:Int):SI:=ver (wf i o.1 o.2) (pkF rws (f7 m) rws.length)
theorem zQ{L:Type}{d n:Nat}(e:n=d)(F:Fm L n)(P:(n:Nat)->Fm L n->Prop)(h:P n F):∃G:Fm L d,P d G:=by subst e;exact⟨F,h⟩
def nR(K:W.Frag)(H:Hp):Prop:=∀z,W.tabIn K "verdict_form" = JH z->dj H z.2 [(qQ Y85,"verdict_form.<locals>.<lambda>")]
theorem nR.same{K:W.Frag}{H H':Hp}(h:nR K H)(s:ar H H'):nR K H':=λz e=>(h z e).same s
theorem yL{K:W.Frag}{H:Hp}{Q:VK}{a b:DF}{v u:SI}(m:SqT K H a (tp v))(l:SqT K H b (tp u))(h:Q (.bl (JL (v=u))) H):yn K JK (.ref a) (.ref b) H Q:=by
 refine⟨a,b,_,_,U,U,m,l,λj=>if j=0 then eqV (.str v.1) (.str u.1)else eqV (.int v.2) (.int u.2),λj x y c d=>?_,?_⟩
 .match j,c,d with
  |0,c,d=>cases c;cases d;exact EqI.flat U U
  |1,c,d=>cases c;cases d;exact EqI.flat U U
  |j+2,c,d=>simp[tp]at c
 .have e:((List.range (min (tp v).length (tp u).length)).all (λj=>if j=0 then eqV (.str v.1) (.str u.1)else eqV (.int v.2) (.int u.2)) && (tp v).length == (tp u).length)=JL (v=u):=by
   have c:eqV (.str v.1) (.str u.1)=JL (v.1=u.1):=by unfold eqV;rw[Bool.eq_iff_iff];simp
   have d:eqV (.int v.2) (.int u.2)=JL (v.2=u.2):=by unfold eqV;rw[Bool.eq_iff_iff];simp
   show((List.range 2).all (λj=>if j=0 then eqV (.str v.1) (.str u.1)else eqV (.int v.2) (.int u.2)) && (2 == 2:Bool))=_;rw[c,d];obtain⟨g,f⟩:=v;obtain⟨k,i⟩:=u;by_cases o:g=k <;> by_cases n:f=i <;> simp[lg,o,n]
  show Q (.bl (if JK=JJ then _ else _)) H;rw[JN (by decide),e];exact h
abbrev Dm:=Sum (Int×Int) (List Str)
def Dm.b:Dm->Int×Int
 | .inl p=>p
 | .inr zs=>(0,hiW zs)
theorem pd{b:Nat}:∀{r a:List Nat},a.reverse=r->(∀n∈a,n<=b)->(dk a).length<=b^a.length
 | [],a,h,_=>by
  have:a=[]:=List.reverse_eq_nil_iff.mp h;subst this;exact vD _
 |n :: r,a,h,hb=>by
  obtain⟨c,d⟩:∃c:List Nat,c.reverse=r:=⟨r.reverse,ro r⟩;have e:a=c++[n]:=by rw[←ro a,h,List.reverse_cons,←d,ro]
  subst e;rw[jx,mG,dg,hQ,yl];exact yt (pd d λm f=>hb m (kN _ f)) (hb n (jE _ (iE.mpr U)))
theorem mH{c:Type}{R:c->c->Prop}{p:c->Bool}(e:∀a b,R a b->p a=JJ->p b=JJ->False):∀{l:List c}{q:c},l.Pairwise R->q∈l->p q=JJ->l.filter p=[q]
 |a :: l,q,hp,d,hq=>by
  obtain⟨g,i⟩:=qD.mp hp;rcases cf.mp d with rfl|d
  .rw[rm hq,List.filter_eq_nil_iff.mpr λb h f=>e q b (g b h) hq f]
  .rw[List.filter_cons_of_neg λz=>e a q (g q d) z hq];exact mH e i d hq
def wth:List (Int×Int)->List Int->Bool
 | [],[]=>JJ
 |p :: B,c :: cs=>(JL (p.1<=c) && decide (c<=p.2)) && wth B cs
 |_,_=>JK
theorem kh:∀{B:List (Int×Int)}{d:List Int},wth B d=JJ↔InB d B
 | [],[]=>⟨λ_=>.nil,λ_=>U⟩
 |p :: B,c :: d=>by
  show((JL (p.1<=c) && decide (c<=p.2)) && wth B d)=JJ↔_;rw[zC,zC,JU,JU,kh];exact⟨λ⟨⟨a,b⟩,c⟩=>.cons a b c,λh=>by cases h with|cons a b c=>exact⟨⟨a,b⟩,c⟩⟩
 | [],c :: d=>⟨λh=>(by cases h),λh=>(by cases h)⟩
 |p :: B,[]=>⟨λh=>(by cases h),λh=>(by cases h)⟩
theorem uv{L:Type}{n:Nat}{F:Fm L n}{a:List Int}{x:L}(h:Tel n F a x):∀{ps:List (Int×Int)},dI n F ps->InB a ps->∃q∈bxs n F,q.2=x/\InB a q.1:=by
 induction h with
 |nil x=>intro ps _ _;exact⟨([],x),iE.mpr U,U,.nil⟩
 | @cons n f c a x j t ej hc hb ht ih =>
  intro ps l b;obtain⟨p,r,rfl,s,d,u,o⟩:ShS (dI n) f ps:=l;cases b with
  |cons i v g =>
   obtain⟨q,m,e,k⟩:=ih (o t (GB ej)) g;exact⟨_,xo.mpr ⟨t,GB ej,q,m,U⟩,e,.cons (xx d i ej hb) hc k⟩
structure Col where
 prs:Prs
 w:Bool
 sd:Int
def dJ(N:DF->Prop)(H:Hp)(l:DF)(c:Col):Prop:=∃(a:DF)(b:List V),N l/\N a/\H l=JH (.lst [.ref a,.bl c.w,.int c.sd])/\H a=JH (.lst b)/\PL H b c.prs
theorem dJ.same{N:DF->Prop}{H H':Hp}{l:DF}{c:Col}(h:dJ N H l c)(s:ar H H'):dJ N H' l c:=by obtain⟨b,a,n,m,e,f,p⟩:=h;exact⟨b,a,n,m,s _ _ e,s _ _ f,p.mono s.tups⟩
theorem dJ.wk{N b:DF->Prop}{H:Hp}{l:DF}{c:Col}(h:dJ N H l c)(k:∀a,N a->b a):dJ b H l c:=by obtain⟨e,d,n,m,r⟩:=h;exact⟨e,d,k _ n,k _ m,r⟩
theorem dJ.any{N:DF->Prop}{H:Hp}{l:DF}{c:Col}(h:dJ N H l c):dJ NT H l c:=h.wk λ_ _=>trivial
theorem dJ.updN{N:DF->Prop}{D:DF}{H:Hp}{l:DF}{c:Col}{zs:List V}{o:HO}(h:dJ N H l c)(n:¬ N D)(e:H D=JH (.lst zs)):dJ N (upd H D o) l c:=by
 obtain⟨f,d,b,a,i,g,p⟩:=h;exact⟨f,d,b,a,(ay (λz=>n (by rw[←z];exact b))).trans i,(ay (λz=>n (by rw[←z];exact a))).trans g,p.mono (aY e)⟩
def c9(N:DF->Prop)(H:Hp)(xs:List V)(a:List Col):Prop:=aF xs a (dJ N H)
theorem c9.same{N:DF->Prop}{H H':Hp}{xs:List V}{a:List Col}(h:c9 N H xs a)(s:ar H H'):c9 N H' xs a:=aF.mono h λ_ _ p=>p.same s
theorem c9.any{N:DF->Prop}{H:Hp}{xs:List V}{a:List Col}(h:c9 N H xs a):c9 NT H xs a:=aF.mono h λ_ _ p=>p.any
theorem c9.updN{N:DF->Prop}{D:DF}{H:Hp}{xs:List V}{a:List Col}{zs:List V}{o:HO}(h:c9 N H xs a)(n:¬ N D)(e:H D=JH (.lst zs)):c9 N (upd H D o) xs a:=aF.mono h λ_ _ p=>p.updN n e
structure Ch(ps:Prs):Prop where
 le:∀(i:Nat)(p:Int×Int),ps[i]?=JH p->p.1<=p.2
 nxt:∀(i:Nat)(p q:Int×Int),ps[i]?=JH p->ps[i+1]?=JH q->q.1=p.2+1
theorem Ch.nil:Ch []:=⟨λi p e=>by simp at e,λi p q e=>by simp at e⟩
theorem Ch.snoc{ps:Prs}{a b:Int}(h:Ch ps)(c:a<=b)(d:∀p,ps[ps.length-1]?=JH p->a=p.2+1):Ch (ps++[(a,b)]):=by
 refine⟨λi p e=>?_,λi p q e f=>?_⟩
 .by_cases hi:i<ps.length
  .rw[fc hi]at e;exact h.le i p e
  .have:i=ps.length:=by have:=(GA.mp e).1;simp at this;lia
   subst this;simp at e;subst e;exact c
 .have g:=(GA.mp f).1;rw[dg,hQ]at g;rw[fc (by lia)]at e;by_cases hi:i+1<ps.length
  .rw[fc hi]at f;exact h.nxt i p q e f
  .have:i=ps.length-1:=by lia
   subst this;rw[show ps.length-1+1=ps.length by lia]at f;simp at f;subst f;exact d p e
theorem Ch.mono{ps:Prs}(h:Ch ps){i:Nat}{p:Int×Int}(e:ps[i]?=JH p):∀(d:Nat)(q:Int×Int),ps[i+d]?=JH q->p.1<=q.1/\p.2<=q.2/\(0<d->p.2<q.1)
 |0,q,f=>by rw[Nat.add_zero,e]at f;cases f;exact⟨Int.le_refl _,Int.le_refl _,λz=>JP z (by lia)⟩
 |d+1,q,f=>by
  have j:i+d<ps.length:=by have:=(GA.mp f).1;lia
  obtain⟨r,g⟩:∃r,ps[i+d]?=JH r:=⟨_,Gz j⟩;obtain⟨a,b,c⟩:=h.mono e d r g;have n:=h.nxt (i+d) r q g f;have m:=h.le (i+d) r g;have l:=h.le _ q f;have k:=h.le _ p e;lia
theorem Ch.lt{ps:Prs}(h:Ch ps){i j:Nat}{p q:Int×Int}(e:ps[i]?=JH p)(f:ps[j]?=JH q)(a:i<j):p.2<q.1:=by
 have:=h.mono e (j-i) q (by rw[show i+(j-i)=j by lia];exact f);exact this.2.2 (by lia)
structure bD(c:Col):Prop where
 some_:1<=c.prs.length
 few:c.prs.length<=6
 ch:Ch c.prs
 w0:c.w=JJ->∀p,c.prs[0]?=JH p->p.1=0
 wl:c.w=JJ->∀(i:Nat)(p:Int×Int),c.prs[i]?=JH p->p.2<40
def Col.lo(c:Col):Int:=(c.prs.headD (0,0)).1
def Col.hi(c:Col):Int:=(c.prs.getLastD (0,0)).2
def Col.b(c:Col):Int×Int:=(c.lo,c.hi)
theorem bD.first{c:Col}(h:bD c):∃p,c.prs[0]?=JH p/\p.1=c.lo:=by
 have:=h.some_;unfold Col.lo
 match c.prs,this with
 |p :: r,_=>exact⟨p,U,U⟩
theorem bD.last{c:Col}(h:bD c):∃p,c.prs[c.prs.length-1]?=JH p/\p.2=c.hi:=by
 have:=h.some_;unfold Col.hi;generalize c.prs=l at this⊢;rcases ny l with rfl|⟨a,x,rfl⟩
 .simp at this
 .exact⟨x,by simp,by simp⟩
theorem bD.inn{c:Col}(h:bD c){i:Nat}{p:Int×Int}(e:c.prs[i]?=JH p):c.lo<=p.1/\p.2<=c.hi:=by
 obtain⟨j,g,l⟩:=h.first;obtain⟨d,f,k⟩:=h.last;have hi:=(GA.mp e).1;have a:=h.ch.mono g i p (by rw[xT];exact e);have b:=h.ch.mono e (c.prs.length-1-i) d (by rw[show i+(c.prs.length-1-i)=c.prs.length-1 by lia];exact f);lia
theorem bD.le{c:Col}(h:bD c):c.lo<=c.hi:=by
 obtain⟨b,a,d⟩:=h.first;have:=h.inn a;have:=h.ch.le _ _ a;lia
structure Srt(ps:Prs):Prop where
 le:∀(i:Nat)(p:Int×Int),ps[i]?=JH p->p.1<=p.2
 lt:∀(i j:Nat)(p q:Int×Int),i<j->ps[i]?=JH p->ps[j]?=JH q->p.2<q.1
structure fb(prs:Prs)(b n:Nat)(ps:Prs):Prop where
 srt:Srt ps
 iff:∀x:Int,inP ps x=JJ↔∃(k:Nat)(p:Int×Int),k<n/\prs[k]?=JH p/\b.testBit k=JJ/\p.1<=x/\x<=p.2
theorem mI{ps:Prs}{x:Int}:inP ps x=JJ↔∃(i:Nat)(p:Int×Int),ps[i]?=JH p/\p.1<=x/\x<=p.2:=by
 unfold inP inR;rw[pk];constructor
 .rintro⟨p,a,e⟩;obtain⟨i,d⟩:=jF a;simp at e;exact⟨i,p,d,e.1,e.2⟩
 .rintro⟨i,p,e,c,b⟩;exact⟨p,GB e,by simp[c,b]⟩
theorem Srt.snoc{ps:Prs}{a b:Int}(h:Srt ps)(g:a<=b)(k:∀(i:Nat)(p:Int×Int),ps[i]?=JH p->p.2<a):Srt (ps++[(a,b)]):=by
 have c:∀(i:Nat)(p:Int×Int),(ps++[(a,b)])[i]?=JH p->ps[i]?=JH p/\i<ps.length\/p=(a,b)/\i=ps.length:=λi p e=>by
  by_cases hi:i<ps.length
  .rw[fc hi]at e;exact .inl ⟨e,hi⟩
  .have:i=ps.length:=by have:=(GA.mp e).1;simp at this;lia
   subst this;simp at e;exact .inr ⟨e.symm,U⟩
 refine⟨λi p e=>?_,λi j p q d e f=>?_⟩
 .rcases c i p e with⟨e,_⟩|⟨rfl,_⟩
  .exact h.le i p e
  .exact g
 .rcases c i p e with⟨e,hi⟩|⟨rfl,hi⟩
  .rcases c j q f with⟨f,l⟩|⟨rfl,l⟩
   .exact h.lt i j p q d e f
   .exact k i p e
  .have:=(GA.mp f).1;simp at this;lia
theorem fb.nil{prs:Prs}{b:Nat}:fb prs b 0 []:=⟨⟨λi p e=>by simp at e,λi j p q _ e=>by simp at e⟩,λx=>⟨(λh=>by cases h),λ⟨k,p,a,_⟩=>JP a (by lia)⟩⟩
theorem fb.skip{prs ps:Prs}{b n:Nat}(h:fb prs b n ps)(c:b.testBit n=JK):fb prs b (n+1) ps:=by
 refine⟨h.srt,λx=>(h.iff x).trans ⟨λ⟨k,p,a,r⟩=>⟨k,p,by lia,r⟩,λ⟨k,p,a,e,t,r⟩=>⟨k,p,?_,e,t,r⟩⟩⟩;rcases xM k n with z|z
 .exact z
 .have:k=n:=by lia
  subst this;rw[c]at t;cases t
theorem fb.ahead{prs ps:Prs}{b n:Nat}(h:fb prs b n ps)(d:Ch prs){q:Int×Int}(e:prs[n]?=JH q){i:Nat}{p:Int×Int}(f:ps[i]?=JH p):p.2<q.1:=by
 have a:=h.srt.le i p f;obtain⟨k,r,c,g,_,l,j⟩:=(h.iff p.2).mp (mI.mpr ⟨i,p,f,a,Int.le_refl _⟩);have:=d.lt g e c;lia
theorem fb.put{prs ps:Prs}{b n:Nat}(h:fb prs b n ps)(g:Ch prs)(l:b.testBit n=JJ){q:Int×Int}(e:prs[n]?=JH q):fb prs b (n+1) (ps++[(q.1,q.2)]):=by
 refine⟨h.srt.snoc (g.le n q e) λi p f=>h.ahead g e f,λx=>?_⟩;have m:inP (ps++[(q.1,q.2)]) x=(inP ps x || inR x (q.1,q.2)):=by unfold inP;rw[vl];simp
 rw[m,AB,h.iff x];constructor
 .rintro(⟨k,p,j,r⟩|hr)
  .exact⟨k,p,by lia,r⟩
  .unfold inR at hr;simp at hr;exact⟨n,q,by lia,e,l,hr.1,hr.2⟩
 .rintro⟨k,p,j,a,t,d,c⟩;rcases xM k n with z|z
  .exact .inl ⟨k,p,z,a,t,d,c⟩
  .have:k=n:=by lia
   subst this;rw[e]at a;cases a;exact .inr (by unfold inR;simp[d,c])
theorem fb.join{prs ps:Prs}{b n:Nat}{u:Int×Int}(h:fb prs b (n+1) (ps++[u]))(o:Ch prs)(C:b.testBit (n+1)=JJ)(H:b.testBit n=JJ){c q:Int×Int}(G:prs[n]?=JH c)(e:prs[n+1]?=JH q)(M:u.2=c.2):fb prs b (n+2) (ps++[(u.1,q.2)]):=by
 have K:=o.le _ q e;have L:=o.nxt n c q G e;have J:=h.srt.le ps.length u (by simp);have D:Srt ps:=by
  refine⟨λi p e=>h.srt.le i p ?_,λi j p r g e f=>h.srt.lt i j p r g ?_ ?_⟩
  .rw[fc (GA.mp e).1];exact e
  .rw[fc (GA.mp e).1];exact e
  .rw[fc (GA.mp f).1];exact f
 refine⟨D.snoc (by lia) λi p f=>?_,λx=>?_⟩
 .have hi:=(GA.mp f).1;exact h.srt.lt i ps.length p u hi (by rw[fc hi];exact f) (by simp)
 have s:∀v:Int×Int,inP (ps++[v]) x=(inP ps x || inR x v):=λv=>by unfold inP;rw[vl];simp
 have a:=h.iff x;rw[s u,AB]at a;rw[s (u.1,q.2),AB];have F:inR x (u.1,q.2)=JJ↔u.1<=x/\x<=q.2:=by unfold inR;simp
 have E:inR x u=JJ↔u.1<=x/\x<=u.2:=by unfold inR;simp
 rw[E]at a;rw[F];constructor
 .rintro(z|⟨z1,z2⟩)
  .obtain⟨k,p,m,r⟩:=a.mp (.inl z);exact⟨k,p,by lia,r⟩
  .by_cases B:x<=u.2
   .obtain⟨k,p,m,r⟩:=a.mp (.inr ⟨z1,B⟩);exact⟨k,p,by lia,r⟩
   .exact⟨n+1,q,by lia,e,C,by lia,z2⟩
 .rintro⟨k,p,m,d,t,A,l⟩;rcases xM k (n+1)with z|z
  .rcases a.mpr ⟨k,p,z,d,t,A,l⟩with w|⟨y,I⟩
   .exact .inl w
   .exact .inr ⟨y,by lia⟩
  .have:k=n+1:=by lia
   subst this;rw[e]at d;cases d;exact .inr ⟨by lia,l⟩
theorem fb.lastAt{prs ps:Prs}{b n:Nat}(h:fb prs b (n+1) ps)(g:Ch prs)(s:b.testBit n=JJ){q:Int×Int}(e:prs[n]?=JH q):∃a u,ps=a++[u]/\u.2=q.2:=by
 have o:=g.le _ q e;obtain⟨i,p,f,y,w⟩:=mI.mp ((h.iff q.2).mpr ⟨n,q,by lia,e,s,o,Int.le_refl _⟩);rcases ny ps with rfl|⟨a,u,rfl⟩
 .simp at f
 .rw[nB]at h f;refine⟨a,u,nB,?_⟩;have c:(a++[u])[a.length]?=JH u:=by simp
  have m:=h.srt.le _ _ c;have top:∀x,inP (a++[u]) x=JJ->x<=q.2:=λx l=>by
   obtain⟨k,r,v,d,_,_,j⟩:=(h.iff x).mp l;rcases xM k n with z|z
   .have:=g.lt d e z;lia
   .have:k=n:=by lia
    subst this;rw[e]at d;cases d;exact j
  have t:=top u.2 (mI.mpr ⟨_,u,c,m,Int.le_refl _⟩);have hi:=(GA.mp f).1;rw[dg,hQ]at hi;rcases xM i a.length with z|z
  .have:=h.srt.lt i a.length p u z f c;lia
  .have:i=a.length:=by lia
   subst this;rw[show(a++[u])[a.length]?=JH u by simp]at f;cases f;lia
theorem pZ(b k:Nat):(JL (V.int (G9.bitAnd ((b:Int) / 2^k) 1)=V.int 1))=b.testBit k:=by
 have e:(b:Int) / 2^k=((b / 2^k:Nat):Int):=by simp
 rw[e,PyProof.Rows.bitAnd_pp (Int.natCast_nonneg _) (by decide)];unfold Nat.testBit;rw[Nat.shiftRight_eq_div_pow,zj,Nat.and_comm];show decide (V.int (((1:Int).toNat &&& (b / 2^k):Nat):Int)=V.int 1)=_;rw[show(1:Int).toNat=1 from U];have a:1 &&& (b / 2^k)=(b / 2^k)%2:=by rw[Nat.and_comm];exact Nat.and_one_is_mod _
 rw[a];have c:=yY (b / 2^k) (show 0<2 by decide);by_cases z:b / 2^k%2=1
 .rw[z];decide
 .have z0:b / 2^k%2=0:=by lia
  rw[z0];decide
def mrg(prs:Prs)(b:Nat):Nat->Prs
 |0=>[]
 |n+1=>if b.testBit n then(if (JL (0<n) && b.testBit (n-1)) then(mrg prs b n).dropLast++[(((mrg prs b n).getLastD (0,0)).1,(prs.getD n (0,0)).2)]else mrg prs b n++[prs.getD n (0,0)])else mrg prs b n
theorem Bd{prs:Prs}{b n:Nat}(h:b.testBit n=JK):mrg prs b (n+1)=mrg prs b n:=by
 show(if b.testBit n then _ else _)=_;rw[h];rfl
theorem yM{prs:Prs}{b n:Nat}{q:Int×Int}(h:b.testBit n=JJ)(a:(JL (0<n) && b.testBit (n-1))=JK)(e:prs[n]?=JH q):mrg prs b (n+1)=mrg prs b n++[(q.1,q.2)]:=by
 show(if b.testBit n then _ else _)=_;rw[h,JO U,a,JN (by decide),fo,e];rfl
theorem xy{prs ps:Prs}{b n:Nat}{q u:Int×Int}(h:b.testBit (n+1)=JJ)(c:b.testBit n=JJ)(a:ps++[u]=mrg prs b (n+1))(e:prs[n+1]?=JH q):mrg prs b (n+2)=ps++[(u.1,q.2)]:=by
 show(if b.testBit (n+1) then(if (JL (0<n+1) && b.testBit (n+1-1)) then(mrg prs b (n+1)).dropLast++[(((mrg prs b (n+1)).getLastD (0,0)).1,(prs.getD (n+1) (0,0)).2)]else _)else _)=_;rw[h,JO U,Nat.add_sub_cancel,c,JO (by simp),←a,fo,e];simp
abbrev BW:=List Nat×Int
def dS(N:DF->Prop)(H:Hp)(r:DF)(w:BW):Prop:=∃bl,H r=JH (.tup [.ref bl,.int w.2])/\N bl/\H bl=JH (.lst (vN w.1))
theorem dS.same{N:DF->Prop}{H H':Hp}{r:DF}{w:BW}(h:dS N H r w)(s:ar H H'):dS N H' r w:=by obtain⟨bl,e,n,f⟩:=h;exact⟨bl,s _ _ e,n,s _ _ f⟩
theorem dS.wk{N b:DF->Prop}{H:Hp}{r:DF}{w:BW}(h:dS N H r w)(k:∀a,N a->b a):dS b H r w:=by obtain⟨bl,e,n,f⟩:=h;exact⟨bl,e,k _ n,f⟩
theorem dS.updN{N:DF->Prop}{D:DF}{H:Hp}{r:DF}{w:BW}{zs:List V}{o:HO}(h:dS N H r w)(n:¬ N D)(e:H D=JH (.lst zs)):dS N (upd H D o) r w:=by
 obtain⟨bl,f,m,g⟩:=h;exact⟨bl,(ay (fT f e (by intro z;cases z))).trans f,m,(ay (λz=>n (by rw[←z];exact m))).trans g⟩
def BRL(N:DF->Prop)(H:Hp)(xs:List V)(ws:List BW):Prop:=aF xs ws (dS N H)
theorem BRL.same{N:DF->Prop}{H H':Hp}{xs:List V}{ws:List BW}(h:BRL N H xs ws)(s:ar H H'):BRL N H' xs ws:=aF.mono h λ_ _ p=>p.same s
theorem BRL.wk{N b:DF->Prop}{H:Hp}{xs:List V}{ws:List BW}(h:BRL N H xs ws)(k:∀a,N a->b a):BRL b H xs ws:=aF.mono h λ_ _ p=>p.wk k
theorem BRL.updN{N:DF->Prop}{D:DF}{H:Hp}{xs:List V}{ws:List BW}{zs:List V}{o:HO}(h:BRL N H xs ws)(n:¬ N D)(e:H D=JH (.lst zs)):BRL N (upd H D o) xs ws:=aF.mono h λ_ _ p=>p.updN n e
structure dU(cs:List Col)(o:Col)(w:BW):Prop where
 len:w.1.length=cs.length
 lt:∀(j b:Nat)(c:Col),w.1[j]?=JH b->cs[j]?=JH c->b<2^c.prs.length
 lo:o.lo<=w.2
 hi:w.2<=o.hi
theorem yN(xs:List V)(k:Nat):lr xs JI (JH (k:Int))=xs.take k:=by
 unfold lr;have e:HT.sIx xs.length xs.length (JH (k:Int))=min k xs.length:=by
  simp only[HT.sIx];split <;> lia
 have a:HT.sIx xs.length 0 JI=0:=by simp[HT.sIx]
 rw[e,a,List.drop_zero,Nat.sub_zero];rcases Nat.le_total k xs.length with h|h
 .rw[Nat.min_eq_left h]
 .rw[Nat.min_eq_right h,eU,List.take_of_length_le h]
theorem yO(xs:List V)(k:Nat):lr xs (JH (k:Int)) JI=xs.drop k:=by
 unfold lr;have e:HT.sIx xs.length 0 (JH (k:Int))=min k xs.length:=by
  simp only[HT.sIx];split <;> lia
 have a:HT.sIx xs.length xs.length JI=xs.length:=by simp[HT.sIx]
 rw[e,a,←pf,eU];rcases Nat.le_total k xs.length with h|h
 .rw[Nat.min_eq_left h]
 .rw[Nat.min_eq_right h,List.drop_length,List.drop_of_length_le h]
theorem yP(bs:List Nat)(k:Nat):(vN bs).take k=vN (bs.take k):=by unfold vN;rw[List.map_take]
theorem yQ(bs:List Nat)(k:Nat):(vN bs).drop k=vN (bs.drop k):=by unfold vN;rw[List.map_drop]
theorem Be{bs:List Nat}{k:Nat}(h:k<bs.length)(x:Nat):bs.take k++[x]++bs.drop (k+1)=bs.set k x:=by
 rw[List.set_eq_take_append_cons_drop,JO h];simp
theorem four{e v:Int}(d:0<e)(j:0<=v){m:Int}:∃b:Nat,atI [V.int (v%(e+1)),.int (v%(e+1)),.int e,.int (v%e)] (m%4)=JH (.int (b:Int))/\(b:Int)<=e:=by
 have g:=zi m (show(4:Int)≠0 by decide);have f:=zh m (show(0:Int)<4 by decide);have a:=zi v (show e+1≠0 by lia);have i:=zh v (show 0<e+1 by lia);have c:=zi v (show e≠0 by lia);have h:=zh v d;generalize m%4=k at g f⊢;generalize v%(e+1)=x at a i⊢;generalize v%e=y at c h⊢;have:k=0\/k=1\/k=2\/k=3:=by lia
 rcases this with rfl|rfl|rfl|rfl
 .exact⟨x.toNat,by rw[zk a];rfl,by lia⟩
 .exact⟨x.toNat,by rw[zk a];rfl,by lia⟩
 .exact⟨e.toNat,by rw[zk (by lia)];rfl,by lia⟩
 .exact⟨y.toNat,by rw[zk c];rfl,by lia⟩
theorem Cy{p:Int×Int}{m:Int}:∃x:Int,atI [V.int p.1,V.int p.2] (m%2)=JH (.int x)/\(x=p.1\/x=p.2):=by
 have b:=zi m (show(2:Int)≠0 by decide);have a:=zh m (show(0:Int)<2 by decide);generalize m%2=k at b a⊢;have:k=0\/k=1:=by lia
 rcases this with rfl|rfl
 .exact⟨_,U,.inl U⟩
 .exact⟨_,U,.inr U⟩
theorem zR{H:Hp}{ts:List V}{ps:Prs}(h:PL H ts ps){i:Int}(b:0<=i)(e:i<((ts.length:Nat):Int)):∃r p,atI ts i=JH (.ref r)/\ps[i.toNat]?=JH p/\H r=JH (.tup [.int p.1,.int p.2]):=by
 obtain⟨x,a⟩:∃x,ts[i.toNat]?=JH x:=⟨_,Gz (by lia)⟩;obtain⟨p,r,d,rfl,c⟩:=h.get a;have:=cw a;rw[zk b]at this;exact⟨r,p,this,d,c⟩
structure rf(cs:List Col)(w:BW)(x:Rw):Prop where
 code:x.2=w.2
 len:x.1.length=cs.length
 sp:∀(j:Nat)(ps:Prs)(c:Col)(b:Nat),x.1[j]?=JH ps->cs[j]?=JH c->w.1[j]?=JH b->fb c.prs b c.prs.length ps
 is:∀(j:Nat)(ps:Prs)(c:Col)(b:Nat),x.1[j]?=JH ps->cs[j]?=JH c->w.1[j]?=JH b->ps=mrg c.prs b c.prs.length
def dF(a:List Col)(ws:List BW)(rws:List Rw):Prop:=rws.length=ws.length/\∀(k:Nat)(w:BW)(x:Rw),ws[k]?=JH w->rws[k]?=JH x->rf a w x
theorem dF.nil{a:List Col}:dF a [] []:=⟨U,λk w x e=>by simp at e⟩
theorem dF.snoc{a:List Col}{ws:List BW}{rws:List Rw}{w:BW}{x:Rw}(h:dF a ws rws)(i:rf a w x):dF a (ws++[w]) (rws++[x]):=by
 refine⟨by simp[h.1],λk g d e f=>?_⟩;by_cases c:k<ws.length
 .rw[fc c]at e;rw[fc (by rw[h.1];exact c)]at f;exact h.2 k g d e f
 .have b:k=ws.length:=by have:=(GA.mp e).1;simp at this;lia
  subst b;simp at e;subst e;rw[←h.1]at f;simp at f;subst f;exact i
theorem rf.rowOk{a:List Col}{m:Col}{w:BW}{x:Rw}(h:rf a w x)(g:dU a m w)(hok:∀c∈a,bD c):qU (a.map Col.b) m.b x:=by
 refine⟨by rw[h.len,bo],λj n b e f p o=>?_,by rw[h.code];exact g.lo,by rw[h.code];exact g.hi⟩;rw[eR]at f;cases ec:a[j]? with
 |none=>rw[ec]at f;cases f
 |some c =>
  rw[ec]at f;cases f;have ok:=hok c (GB ec);obtain⟨l,q⟩:∃l,w.1[j]?=JH l:=⟨_,Gz (by rw[g.len];exact(GA.mp ec).1)⟩;have so:=h.sp j n c l e ec q;obtain⟨i,k⟩:=jF o;have d:=so.srt.le i p k;obtain⟨A,y,_,s,_,u,_⟩:=(so.iff p.1).mp (mI.mpr ⟨i,p,k,Int.le_refl _,d⟩);obtain⟨z,v,_,r,_,_,t⟩:=(so.iff p.2).mp (mI.mpr ⟨i,p,k,d,Int.le_refl _⟩);have C:=ok.inn s;have B:=ok.inn r;show c.lo<=p.1/\p.2<=c.hi;lia
theorem dF.rowOk{a:List Col}{d:Col}{ws:List BW}{rws:List Rw}(h:dF a ws rws)(i:∀w∈ws,dU a d w)(hok:∀c∈a,bD c):∀x∈rws,qU (a.map Col.b) d.b x:=λx g=>by
 obtain⟨k,f⟩:=jF g;obtain⟨w,e⟩:∃w,ws[k]?=JH w:=⟨_,Gz (by rw[←h.1];exact(GA.mp f).1)⟩;exact(h.2 k w x e f).rowOk (i w (GB e)) hok
def dc(a:List Col):List Nat:=a.map λc=>c.prs.length
def AtP(d:List Col)(p:List Nat)(e:List Int):Prop:=e.length=d.length/\∀(j:Nat)(x:Int)(c:Col)(a:Nat),e[j]?=JH x->d[j]?=JH c->p[j]?=JH a->∃b,c.prs[a]?=JH b/\(x=b.1\/x=b.2)
def mJ(bs p:List Nat):Bool:=(List.range p.length).all λj=>(bs.getD j 0).testBit (p.getD j 0)
theorem xA{bs p:List Nat}(d:bs.length=p.length):mJ bs p=JJ↔∀(j a b:Nat),p[j]?=JH a->bs[j]?=JH b->b.testBit a=true:=by
 unfold mJ;rw[ik];constructor
 .intro h j a b e f;have:=h j (iv.mpr (GA.mp e).1);rw[fo,fo,e,f]at this;exact this
 .intro h j c;have c:=iv.mp c;have e:=Gz c;have f:=Gz (l:=bs) (i:=j) (by lia);rw[fo,fo,e,f];exact h j _ _ e f
theorem fb.atPair{prs ps:Prs}{b:Nat}(h:fb prs b prs.length ps)(d:Ch prs){a:Nat}{c:Int×Int}(e:prs[a]?=JH c){x:Int}(i:c.1<=x)(g:x<=c.2):inP ps x=JJ↔b.testBit a=true:=by
 rw[h.iff x];constructor
 .rintro⟨k,p,m,f,t,l,j⟩;rcases Nat.lt_trichotomy k a with z|z|z
  .have:=d.lt f e z;lia
  .subst z;exact t
  .have:=d.lt e f z;lia
 .intro t;exact⟨a,c,(GA.mp e).1,e,t,i,g⟩
theorem uw{a:List Col}{j:Nat}{c:Col}(e:a[j]?=JH c):(dc a)[j]?=JH c.prs.length:=by unfold dc;rw[eR,e];rfl
theorem eN(a:List Col):(dc a).length=a.length:=by unfold dc;rw[bo]
def bF(ws:List BW)(p:List Nat)(k:Nat):Bool:=mJ (ws.getD k ([],0)).1 p
def cnt(ws:List BW)(p:List Nat):List Nat:=(List.range ws.length).filter (bF ws p)
def dG(e d:DF)(H:Hp)(a:DF)(c:Col):Prop:=(c.w=JK/\∃b fs,H a=JH (.ins e b fs)/\fs.lookup s!"low"=JH (.int c.lo)/\fs.lookup s!"high"=JH (.int c.hi)/\fs.lookup s!"has_code"=JI) \/
 (c.w=JJ/\∃b fs l,H a=JH (.ins d b fs)/\fs.lookup s!"low"=JH (.int c.lo)/\fs.lookup s!"high"=JH (.int c.hi)/\fs.lookup s!"has_code"=JI/\fs.lookup s!"words"=JH (.ref l)/\H l=JH (.lst ((wds c.sd (c.hi+1).toNat).map V.str)))
theorem dG.same{f d:DF}{H H':Hp}{a:DF}{c:Col}(h:dG f d H a c)(s:ar H H'):dG f d H' a c:=by
 rcases h with⟨w,b,fs,e,r⟩|⟨w,b,fs,l,e,m,k,j,i,g⟩
 .exact .inl ⟨w,b,fs,s _ _ e,r⟩
 .exact .inr ⟨w,b,fs,l,s _ _ e,m,k,j,i,s _ _ g⟩
theorem dG.dom{k j:DF}{H:Hp}{a:DF}{c:Col}(h:dG k j H a c):Dom k j H a c.b:=by
 rcases h with⟨w,i,fs,e,g,f,d⟩|⟨w,i,fs,l,e,g,f,d,_⟩
 .exact⟨k,.inl U,i,fs,e,g,f,d⟩
 .exact⟨j,.inr U,i,fs,e,g,f,d⟩
def TF(i:DF)(H:Hp)(t:DF)(nm e:Str)(f:DF)(zs:List Str)(h:List V)(rws:List Rw):Prop:=∃(b g c d:DF)(fs:List (Str×V))(a:List V),H t=JH (.ins i g fs)/\fs.lookup s!"rows"=JH (.ref b)/\fs.lookup s!"name"=JH (.str nm)/\fs.lookup s!"way"=JH (.str e)/\fs.lookup s!"outcome"=JH (.ref f)/\fs.lookup s!"names"=JH (.ref c)/\fs.lookup s!"domains"=JH (.ref d)/\H c=JH (.lst (zs.map V.str))/\H d=JH (.lst h)/\H b=JH (.lst a)/\RL NT H a rws/\a.length<=200
theorem TF.same{f:DF}{H H':Hp}{t:DF}{nm c:Str}{d:DF}{zs:List Str}{e:List V}{rws:List Rw}(h:TF f H t nm c d zs e rws)(s:ar H H'):TF f H' t nm c d zs e rws:=by
 obtain⟨i,w,j,x,fs,g,v,u,q,p,o,n,m,l,k,b,a,r⟩:=h;exact⟨i,w,j,x,fs,g,s _ _ v,u,q,p,o,n,m,s _ _ l,s _ _ k,s _ _ b,a.same s,r⟩
theorem TF.tbl{g j f:DF}{H:Hp}{t:DF}{nm a:Str}{b:DF}{zs:List Str}{v:List V}{rws:List Rw}{i:Nat}{o:Int×Int}(h:TF g H t nm a b zs v rws)(hi:six[i]?=JH a)(m:Dom j f H b o)(n:o.1<=o.2):Tbl g j f H t rws i o:=by
 obtain⟨l,u,_,_,fs,k,s,r,_,q,p,_,_,_,_,e,d,c⟩:=h;exact⟨l,b,u,fs,k,a,s,r,q,p,e,d,hi,m,n,c⟩
structure TOk(cN cW:DF)(H:Hp)(nm wy:Str)(ou:DF)(zs:List Str)(dv:List V)(rws:List Rw)(bs:Prs)(o:Int×Int):Prop where
 words:∀z∈nm :: zs,isw z=JJ
 once:(nm :: zs).Nodup
 one:1<=zs.length
 four:zs.length<=4
 way:wy∈six
 sum:wy=s!"sum" -> ∃dx fs,H ou=JH (.ins cN dx fs)
 doms:aF dv bs (Dom cN cW H)
 out:Dom cN cW H ou o
 len:bs.length=zs.length
 rows:∀w∈rws,qU bs o w
 few:rws.length<=200
theorem TOk.same{f d:DF}{H H':Hp}{nm a:Str}{b:DF}{zs:List Str}{c:List V}{rws:List Rw}{bs:Prs}{o:Int×Int}(h:TOk f d H nm a b zs c rws bs o)(s:ar H H'):TOk f d H' nm a b zs c rws bs o :=
 ⟨h.words,h.once,h.one,h.four,h.way,λz=>let ⟨dx,fs,e⟩:=h.sum z;⟨dx,fs,s _ _ e⟩,aF.mono h.doms λ_ _ p=>p.same s,h.out.same s,h.len,h.rows,h.few⟩
theorem dG.hide{i g:DF}{H:Hp}{a D:DF}{c:Col}{zs:List V}(h:dG i g H a c)(e:H D=JH (.lst zs))(hz:∀x∈zs,∃r,x=.ref r)(p:c.w=JJ->0<=c.hi):dG i g (My.hide H D) a c:=by
 rcases h with⟨w,f,fs,d,r⟩|⟨w,f,fs,l,d,n,m,k,j,b⟩
 .exact .inl ⟨w,f,fs,cH d (fT d e (by intro z;cases z)),r⟩
 .refine .inr ⟨w,f,fs,l,cH d (fT d e (by intro z;cases z)),n,m,k,j,cH b λz=>?_⟩;rw[z,e]at b;injection b with b;injection b with b;have s:=p w;have q:0<(wds c.sd (c.hi+1).toNat).length:=by unfold wds;simp;lia
  obtain⟨r,o⟩:=hz (.str (wds c.sd (c.hi+1).toNat)[0]) (by rw[b];exact dy.mpr ⟨_,nq q,U⟩);cases o
def pc(ws:List BW)(p:List Nat):List Int:=(ws.filter λw=>mJ w.1 p).map (·.2)
theorem p4(ws:List BW)(w:BW)(p:List Nat):pc (ws++[w]) p=pc ws p++(if mJ w.1 p then[w.2] else[]):=by
 unfold pc;rw[lq,fF];cases h:mJ w.1 p <;> simp[vx,h]
theorem xB(ws:List BW)(p:List Nat):(pc ws p).length<=ws.length:=by
 unfold pc;rw[bo];exact ov ..
theorem sne{a b:Str}(h:a≠b):¬ (V.str a=V.str b):=λe=>by injection e with e;exact h e
theorem ux{prs:Prs}{b:Nat}:∀n,(mrg prs b n).length<=n
 |0=>vD _
 |n+1=>by
  have a:=ux (prs:=prs) (b:=b) n;show(if b.testBit n then(if (JL (0<n) && b.testBit (n-1))then _ else _)else _:Prs).length<=n+1;split
  .split
   .simp only[dg,List.length_dropLast,hQ];lia
   .simp only[dg,hQ];lia
  .lia
def mg(c:Col)(b:Nat):Prs:=mrg c.prs b c.prs.length
def cel(a:List Col)(bs:List Nat):List Prs:=List.zipWith mg a bs
def rwo(a:List Col)(w:BW):Rw:=(cel a w.1,w.2)
theorem yR{a:List Col}{bs:List Nat}{j:Nat}{c:Col}{b:Nat}(e:a[j]?=JH c)(f:bs[j]?=JH b):(cel a bs)[j]?=JH (mg c b):=by
 unfold cel;rw[nL,e,f]
theorem yS{a:List Col}{bs:List Nat}(h:bs.length=a.length):(cel a bs).length=a.length:=by unfold cel;rw[lz];lia
theorem rf.rwo{a:List Col}{w:BW}{x:Rw}(h:rf a w x)(c:w.1.length=a.length):x=My.rwo a w:=by
 have m:x.1=cel a w.1:=by
  refine ri λj=>?_
  by_cases b:j<a.length
  .have d:=Gz (l:=x.1) (i:=j) (by rw[h.len];exact b);have f:=Gz b;have e:=Gz (l:=w.1) (i:=j) (by rw[c];exact b);rw[yR f e,d,h.is j _ _ _ d f e];rfl
  .rw[jI (by rw[h.len];lia),jI (by rw[yS c];lia)]
 cases x with
 |mk k g=>rw[show k=cel a w.1 from m,show g=w.2 from h.code];rfl
theorem dF.rwo{b:List Col}{ws:List BW}{rws:List Rw}(h:dF b ws rws)(e:∀w∈ws,w.1.length=b.length):rws=ws.map (My.rwo b):=by
 refine ri λk=>?_
 rw[eR];by_cases c:k<ws.length
 .have a:=Gz c;have d:=Gz (l:=rws) (i:=k) (by rw[h.1];exact c);rw[d,a,(h.2 k _ _ a d).rwo (e _ (GB a))];rfl
 .rw[jI (by rw[h.1];lia),jI (by lia)];rfl
def rg(d:List Col)(p:List Nat)(e:List Int):Prop:=e.length=d.length/\∀(j:Nat)(x:Int)(c:Col)(a:Nat),e[j]?=JH x->d[j]?=JH c->p[j]?=JH a->∃b,c.prs[a]?=JH b/\(b.1<=x/\x<=b.2)
theorem yT{g:List Col}{A:Col}{w:BW}{x:Rw}{p:List Nat}{m:List Int}(h:rf g w x)(t:dU g A w)(hok:∀c∈g,bD c)(B:iZ (dc g) p)(q:rg g p m):ir x.1 m=mJ w.1 p:=by
 have o:p.length=g.length:=by rw[B.1,eN]
 rw[Bool.eq_iff_iff,xA (by rw[t.len,o])];unfold ir;rw[ik];have n:∀(j a b:Nat),p[j]?=JH a->w.1[j]?=JH b->∀z,m[j]?=JH z->(inP (x.1.getD j []) z=JJ↔b.testBit a=JJ):=λj a b e k z f=>by
  have d:j<g.length:=by rw[←o];exact(GA.mp e).1
  have s:=Gz d;have u:=Gz (l:=x.1) (i:=j) (by rw[h.len];exact d);have ok:=hok _ (GB s);obtain⟨D,y,v⟩:=q.2 j z _ a f s e;have C:=ok.ch.le _ _ y;rw[fo,u];exact(h.sp j _ _ b u s k).atPair ok.ch y v.1 v.2
 constructor
 .intro r j a b e k;have d:j<m.length:=by rw[q.1,←o];exact(GA.mp e).1
  have f:=Gz d;have:=r j (iv.mpr d);rw[fo (l:=m),f]at this;exact(n j a b e k _ f).mp this
 .intro r j d;have d:=iv.mp d;have f:=Gz d;have e:=Gz (l:=p) (i:=j) (by rw[o,←q.1];exact d);have k:=Gz (l:=w.1) (i:=j) (by rw[t.len,←q.1];exact d);rw[fo (l:=m),f];exact(n j _ _ e k _ f).mpr (r j _ _ e k)
theorem Cz{a:List Col}{j:Col}{ws:List BW}{rws:List Rw}{p:List Nat}{d:List Int}(h:dF a ws rws)(q:∀w∈ws,dU a j w)(hok:∀c∈a,bD c)(m:iZ (dc a) p)(o:rg a p d):fl rws d=pc ws p:=by
 have e:∀n,n<=ws.length->fl (rws.take n) d=pc (ws.take n) p:=λn=>by
  induction n with
  |zero=>intro _;rfl
  |succ n k =>
   intro s;have b:=Gz (l:=ws) (i:=n) (by lia);have g:=Gz (l:=rws) (i:=n) (by rw[h.1];lia);have f:=h.2 n _ _ b g;have r:=q _ (GB b);rw[take_snoc b,take_snoc g,uk,p4,k (by lia),yT f r hok m o,f.code]
 have:=e ws.length (vD _);rw[eU,←h.1,eU]at this;exact this
theorem xC{L:Type}{n:Nat}{F:Fm L n}{ps:List (Int×Int)}{c:List Int}{x:L}(f:dI n F ps)(o:InB c ps)(j:Tel n F c x):∃B,((bxs n F).filter λq=>wth q.1 c)=[(B,x)]:=by
 obtain⟨q,m,e,hi⟩:=uv j f o;refine⟨q.1,?_⟩;rw[mH (R:=λq r:List (Int×Int)×L=>Asc q.1 r.1) (λa b d s p=>?_) (xq f) m (kh.mpr hi),←e];obtain⟨k,u,v,g,y,E,D,_⟩:=yH d;obtain⟨A,w⟩:=iV (kh.mp s);obtain⟨z,t⟩:=iV (kh.mp p);have C:=(GA.mp g).1;have h:=Gz (l:=c) (i:=k) (by lia);have:=w k _ u h g;have:=t k _ v h y;lia
def mK:Str:=s!"say"
def bX(L:List (Prs×SI)):List Rw:=(L.filter λq=>decide (q.2.1=mK)).map λq=>(q.1.map λp=>[p],q.2.2)
theorem sX(L:List (Prs×SI))(q:Prs×SI):bX (L++[q])=bX L++(if decide (q.2.1=mK) then[(q.1.map λp=>[p],q.2.2)] else[]):=by
 unfold bX;rw[lq,fF];cases h:decide (q.2.1=mK) <;> simp[vx,h]
theorem pe(L:List (Prs×SI)):(bX L).length<=L.length:=by
 unfold bX;rw[bo];exact ov _ _
theorem kK{L:List (Prs×SI)}{w:Rw}(h:w∈bX L):∃q∈L,q.2.1=mK/\w=(q.1.map λp=>[p],q.2.2):=by
 unfold bX at h;obtain⟨q,a,rfl⟩:=dy.mp h;obtain⟨c,b⟩:=kl.mp a;exact⟨q,c,JS b,U⟩
theorem xD{B:Prs}{d:List Int}(k:B.length=d.length):ir (B.map λp=>[p]) d=wth B d:=by
 rw[Bool.eq_iff_iff,kh];unfold ir;rw[ik];have e:∀(j:Nat)(c:Int)(p:Int×Int),d[j]?=JH c->B[j]?=JH p->(inP ((B.map λp=>[p]).getD j []) (d.getD j 0)=JJ↔p.1<=c/\c<=p.2):=λj c p a b=>by
  rw[fo,eR,b,fo,a];show([p].any (inR c))=JJ↔_;simp[inR]
 constructor
 .intro h;refine pW k.symm λj c p a b=>(e j c p a b).mp (h j (iv.mpr (GA.mp a).1))
 .intro h j f;obtain⟨_,g⟩:=iV h;have f:=iv.mp f;have a:=Gz f;have b:=Gz (l:=B) (i:=j) (by lia);exact(e j _ _ a b).mpr (g j _ _ a b)
theorem xE{L:List (Prs×SI)}{b:List Int}(d:∀q∈L,q.1.length=b.length):fl (bX L) b=((L.filter λq=>wth q.1 b).filter λq=>decide (q.2.1=mK)).map λq=>q.2.2:=by
 unfold fl bX;rw[List.filter_map,vr,List.filter_filter,List.filter_filter];have:(L.filter λa=>((λw:Rw=>ir w.1 b) ∘ λq:Prs×SI=>(q.1.map λp=>[p],q.2.2)) a && decide (a.2.1=mK))=L.filter λa=>decide (a.2.1=mK) && wth a.1 b:=List.filter_congr λq c=>by
  show(ir (q.1.map λp=>[p]) b && _)=_;rw[xD (d q c),Bool.and_comm]
 rw[this];rfl
theorem xF{i:Nat}(hi:i<6){lo hi':Int}(l:List Int):ver (wf i lo hi') l=yB\/ver (wf i lo hi') l=aR\/∃c,ver (wf i lo hi') l=say c:=by
 cases l with
 |nil=>exact .inl U
 |cons n a =>
  right
  show wf i lo hi' (n :: a)=aR\/∃c,wf i lo hi' (n :: a)=say c
  match i,hi with
  |0,_=>exact .inr ⟨_,U⟩
  |1,_ =>
   show fA (n :: a)=aR\/∃c,fA (n :: a)=say c;unfold fA;split
   .exact .inr ⟨_,U⟩
   .exact .inl U
  |2,_ =>
   show fw (n :: a)=aR\/∃c,fw (n :: a)=say c;unfold fw;split
   .exact .inr ⟨_,U⟩
   .exact .inl U
  |3,_=>exact .inr ⟨_,U⟩
  |4,_=>exact .inr ⟨_,U⟩
  |5,_=>exact .inr ⟨_,U⟩
theorem yU{x:SI}{lo hi:Int}(a:x=yB\/∃c,x=say c){B:Prs}:ver (wf 1 lo hi) (([(B,x)].filter λq=>decide (q.2.1=mK)).map λq:Prs×SI=>q.2.2)=x:=by
 rcases a with rfl|⟨c,rfl⟩
 .rfl
 .rfl
theorem yV{x:SI}{B:Prs}:(([(B,x)].filter λq=>decide (q.2.1=mK)).map λq:Prs×SI=>q.2.2).length<=1:=by
 rw[bo];exact ov _ _
theorem rh{f:Nat->Bool}:∀{n:Nat},(∀k,k<n->f k=JK)->msk f n=0
 |0,_=>rfl
 |n+1,h=>by rw[eI,h n (wj n),rh λk a=>h k (vJ a)];rfl
theorem uy{f:Nat->Bool}:∀{n:Nat},((List.range n).filter f).length<=1->msk f n=0\/∃k,msk f n=2^k
 |0,_=>.inl U
 |n+1,h=>by
  rw[lg,lq,dg]at h;cases hf:f n with
  |false =>
   rw[eI,hf];have:=uy (f:=f) (n:=n) (by lia);simpa using this
  |true =>
   rw[rm hf]at h;have b:((List.range n).filter f)=[]:=List.length_eq_zero_iff.mp (by rw[gb]at h;lia);rw[eI,hf,rh λk a=>by
    have:=List.filter_eq_nil_iff.mp b k (iv.mpr a);simpa using this]
   exact .inr ⟨n,by simp⟩
theorem xG{prs:Prs}{b n:Nat}(h:b.testBit n=JJ):mrg prs b (n+1)≠[]:=by
 show(if b.testBit n then _ else _)≠[];rw[h,JO U];split <;> simp
theorem rj{prs:Prs}{b:Nat}:∀n,n<=prs.length->∀p∈mrg prs b n,(∃q∈prs,p.1=q.1)/\∃q∈prs,p.2=q.2
 |0,_,p,a=>by cases a
 |n+1,hn,p,a=>by
  have c:=rj (prs:=prs) (b:=b) n (by lia);have k:=Gz (l:=prs) (i:=n) (by lia);have g:prs.getD n (0,0)=prs[n]:=by rw[fo,k];rfl
  have d:prs[n]∈prs:=nq _;have a:p∈(if b.testBit n then(if (JL (0<n) && b.testBit (n-1)) then(mrg prs b n).dropLast++[(((mrg prs b n).getLastD (0,0)).1,(prs.getD n (0,0)).2)]else mrg prs b n++[prs.getD n (0,0)])else mrg prs b n):=a;split at a
  .split at a
   .rename_i hc
    rw[zC,JU]at hc;obtain⟨m,rfl⟩:∃m,n=m+1:=⟨n-1,by lia⟩;have e:=xG (prs:=prs) hc.2;rcases ny (mrg prs b (m+1))with j|⟨l,x,f⟩
    .exact JP j e
    .rw[nB]at f;rw[f]at a c;rw[List.dropLast_concat,List.getLastD_concat]at a;rcases ia.mp a with h|h
     .exact c p (kN _ h)
     .rw[iE.mp h,g];exact⟨(c x (jE _ (iE.mpr U))).1,_,d,U⟩
   .rcases ia.mp a with h|h
    .exact c p h
    .rw[iE.mp h,g];exact⟨⟨_,d,U⟩,_,d,U⟩
  .exact c p a
theorem CL.hideN{N:DF->Prop}{D:DF}{H:Hp}{xs:List V}{a:List Prs}{zs:List V}(h:CL N H xs a)(n:¬ N D)(e:H D=JH (.lst zs)):CL NT (hide H D) xs a:=aF.mono h λl k ⟨f,d,i,g⟩=>⟨trivial,d,cH i (λz=>n (by rw[←z];exact f)),g.mono λb j c=>cH c λz=>by rw[z,e]at c;cases c⟩
def Bf(a:List Col)(c:Nat):List Int:=(a.getD c ⟨[],JK,0⟩).prs.map (·.1)
theorem Bg{cT cN cW:DF}{H:Hp}{t X:DF}{a:List Col}{A:Col}{ws:List BW}{rws:List Rw}{nm D:Str}{zs:List Str}{J:List V}{W kk:Nat}(Z:TF cT H t nm D X zs J rws)(v:TOk cN cW H nm D X zs J rws (a.map Col.b) A.b)(M:six[W]?=JH D)(h:dF a ws rws)(s:∀w∈ws,dU a A w)(hok:∀c∈a,bD c)(P:bD A)(h4:a.length<=4)(a0:ws.length<=60)(Q:∀c∈a,c.prs.length<=kk)(R:(kk+1)^a.length<=300)(D5:kk<=57):RfH cT cN cW H t J (a.map Col.b) rws (Bf a) kk W A.b:=by
 have u:(a.map Col.b).length=a.length:=bo _;have r:∀(k:Nat)(x:Rw),rws[k]?=JH x->∃w,ws[k]?=JH w/\rf a w x:=λk x e=>by
  have hk:=(GA.mp e).1;have Y:=h.1;have C:=Gz (l:=ws) (i:=k) (by lia);exact⟨_,C,h.2 k _ x C e⟩
 have gL:∀x∈rws,∀c,c<a.length->∃(m:Col)(b:Nat),a[c]?=JH m/\x.1.getD c []=mrg m.prs b m.prs.length:=λx g c d=>by
  obtain⟨k,G⟩:=jF g;obtain⟨w,F,B⟩:=r k x G;have f:=Gz d;have ex:=Gz (l:=x.1) (i:=c) (by rw[B.len];exact d);have o:=Gz (l:=w.1) (i:=c) (by rw[(s w (GB F)).len];exact d);refine⟨_,w.1[c]'(by rw[(s w (GB F)).len];exact d),f,?_⟩;rw[fo,ex];exact B.is c _ _ _ ex f o
 have q:∀x∈rws,x.1.length=a.length:=λx g=>by
  obtain⟨k,G⟩:=jF g;obtain⟨w,F,B⟩:=r k x G;exact B.len
 obtain⟨L,dx,na,dl,fs,K,e1,C,e3,e4,e5,e6,e7,e8,e9,T,S,_⟩:=id Z;refine⟨⟨L,dx,dl,fs,K,e1,C,e7,e9,v.doms,T,aF.mono S λ_ _ p=>p⟩,Z.tbl M v.out P.le,by lia,by rw[h.1];lia,λx g=>⟨by rw[q x g,u],λc=>?_⟩,λc b o=>?_,by rw[u];exact R,D5,λp E=>?_⟩
 .by_cases d:c<a.length
  .obtain⟨m,b,f,e⟩:=gL x g c d;rw[e];exact vG (ux _) (hok m (GB f)).few
  .rw[fo,jI (by rw[q x g];lia)];exact vI _
 .have d:c<a.length:=by have:=(GA.mp o).1;lia
  have f:=Gz d;rw[eR,f]at o;cases o;have eL:Bf a c=a[c].prs.map (·.1):=by unfold Bf;rw[fo,f];rfl
  rw[eL,bo];refine⟨Q _ (GB f),λy ⟨x,g,hy⟩=>?_⟩;obtain⟨m,b,z,e⟩:=gL x g c d;rw[f]at z;cases z;have CA:=hok _ (GB f);obtain⟨hE,hF⟩:=kl.mp hy;rw[zC,JU,JU]at hF;rw[e]at hE;obtain⟨p,E,n⟩:=lZ.mp hE;obtain⟨⟨q1,O,f1⟩,q2,N,f2⟩:=rj _ (vD _) p E;rcases n with n|n
  .rw[n,f1];exact dy.mpr ⟨q1,O,U⟩
  .obtain⟨j,I⟩:=jF N;have hj:=(GA.mp I).1;by_cases Y:j+1<a[c].prs.length
   .have en:=Gz Y;rw[n,f2,←CA.ch.nxt j _ _ I en];exact dy.mpr ⟨_,GB en,U⟩
   .obtain⟨pl,el,a1⟩:=CA.last;have:j=a[c].prs.length-1:=by lia
    subst this;rw[I]at el;cases el;have h2:y<=a[c].hi:=hF.2;lia
 .obtain⟨c,d,rfl⟩:=dy.mp E;exact(hok c d).le
theorem uz{bs:List Bool}{i:Nat}{x:V}(e:(bs.map V.bl)[i]?=JH x):∃b,x=.bl b/\bs[i]?=JH b:=by
 rw[eR]at e;cases q:bs[i]? with
 |none=>rw[q]at e;cases e
 |some z=>rw[q]at e;cases e;exact⟨z,U,U⟩
theorem mL{K:W.Frag}{H:Hp}{Q:VK}{a b:DF}{xs ys:List Bool}{r:Bool}(i:SqL K H a (xs.map V.bl))(g:SqL K H b (ys.map V.bl))(f:r=JJ↔xs=ys)(q:Q (.bl r) H):uO K JK (.ref a) (.ref b) H Q:=by
 by_cases c:xs.length=ys.length
 .refine⟨a,b,_,_,U,U,i,g,.inr ⟨by rw[bo,bo];exact c,λj=>decide (xs[j]?=ys[j]?),λj x y s p=>?_,?_⟩⟩
  .obtain⟨z,rfl,o⟩:=uz s;obtain⟨d,rfl,n⟩:=uz p;have k:=EqI.flat (K:=K) (H:=H) (x:=V.bl z) (y:=V.bl d) U U;have m:eqV (V.bl z) (V.bl d)=JL (xs[j]?=ys[j]?):=by
    rw[o,n,Bool.eq_iff_iff];simp[eqV]
   rw[m]at k;exact k
  .have e:(List.range (xs.map V.bl).length).all (λj=>decide (xs[j]?=ys[j]?))=r:=by
    rw[Bool.eq_iff_iff,f,ik];constructor
    .intro h;apply ri
     intro j;by_cases l:j<xs.length
     .exact JS (h j (iv.mpr (by rw[bo];exact l)))
     .rw[jI (by lia),jI (by lia)]
    .intro h j _;rw[h];exact JQ U
   rw[JN Bool.false_ne_true,e];exact q
 .have e:r=false:=by
   rw[zD];intro z;exact c (by rw[f.mp z])
  rw[e]at q;exact⟨a,b,_,_,U,U,i,g,.inl ⟨by rw[bo,bo];exact c,q⟩⟩
theorem AtP.inpr{b:List Col}{p:List Nat}{g:List Int}(h:AtP b p g)(hok:∀c∈b,bD c):rg b p g:=⟨h.1,λj x c a l f i=>by
 obtain⟨d,e,k⟩:=h.2 j x c a l f i;have:=(hok c (GB f)).ch.le a d e;exact⟨d,e,by rcases k with rfl|rfl <;> lia,by rcases k with rfl|rfl <;> lia⟩⟩
theorem rg.inb{a:List Col}{p:List Nat}{g:List Int}(h:rg a p g)(k:p.length=a.length)(hok:∀c∈a,bD c):InB g (a.map Col.b):=pW (by rw[h.1,bo]) λj x b n f=>by
 rw[eR]at f;obtain⟨c,d,rfl⟩:=Bz.mp f;have m:=Gz (l:=p) (i:=j) (by rw[k];exact(GA.mp d).1);obtain⟨o,e,r,q⟩:=h.2 j x c _ n d m;have:=(hok c (GB d)).inn e;exact⟨by show c.lo<=x;lia,by show x<=c.hi;lia⟩
theorem xH{prs:Prs}(f:Ch prs){d:Int×Int}{x:Int}(c:prs[0]?=JH d)(g:d.1<=x):∀(n:Nat)(q:Int×Int),prs[n]?=JH q->x<=q.2->∃(a:Nat)(b:Int×Int),prs[a]?=JH b/\b.1<=x/\x<=b.2
 |0,q,e,h=>by rw[c]at e;cases e;exact⟨0,_,c,g,h⟩
 |n+1,q,e,h=>by
  have j:=Gz (l:=prs) (i:=n) (by have:=(GA.mp e).1;lia);by_cases k:q.1<=x
  .exact⟨_,q,e,k,h⟩
  .exact xH f c g n _ j (by have:=f.nxt n _ _ j e;lia)
theorem yW{g:List Col}{o:List Int}(h:InB o (g.map Col.b))(hok:∀c∈g,bD c):∃p,p∈dk (dc g)/\rg g p o:=by
 obtain⟨y,F⟩:=iV h;rw[bo]at y;have A:∀j:Nat,j<g.length->∃a:Nat,∀c x,g[j]?=JH c->o[j]?=JH x->∃n,c.prs[a]?=JH n/\n.1<=x/\x<=n.2:=λj d=>by
  have s:=Gz d;have B:=Gz (l:=o) (i:=j) (by lia);have ok:=hok _ (GB s);obtain⟨w,v⟩:=F j _ _ B (by rw[eR,s];rfl);obtain⟨I,H,K⟩:=ok.first;obtain⟨E,q,J⟩:=ok.last;have w:g[j].lo<=o[j]:=w;have v:o[j]<=g[j].hi:=v;obtain⟨a,n,e,D,C⟩:=xH ok.ch H (x:=o[j]) (by lia) _ E q (by lia);refine⟨a,λc x q r=>?_⟩;rw[s]at q;rw[B]at r;cases q;cases r;exact⟨n,e,D,C⟩
 obtain⟨f,z⟩:∃f:Nat->Nat,∀j,j<g.length->∀c x,g[j]?=JH c->o[j]?=JH x->∃n,c.prs[f j]?=JH n/\n.1<=x/\x<=n.2:=by
  refine⟨λj=>if d:j<g.length then Classical.choose (A j d)else 0,λj d=>?_⟩;simp only[dif_pos d];exact Classical.choose_spec (A j d)
 have t:∀(j a:Nat),((List.range g.length).map f)[j]?=JH a->j<g.length/\a=f j:=λj a e=>by
  rw[eR]at e;obtain⟨k,u,rfl⟩:=Bz.mp e;have d:=(GA.mp u).1;rw[jJ]at d;rw[List.getElem?_range d]at u;cases u;exact⟨d,U⟩
 refine⟨(List.range g.length).map f,iZ.iff.mpr ⟨by rw[bo,jJ,eN],λj a m q r=>?_⟩,y,λj x c a q r G=>?_⟩
 .obtain⟨d,rfl⟩:=t j a q;have s:=Gz d;rw[uw s]at r;cases r;obtain⟨n,e,_⟩:=z j d _ _ s (Gz (l:=o) (i:=j) (by lia));exact(GA.mp e).1
 .obtain⟨d,rfl⟩:=t j a G;exact z j d c x r q
theorem sY{a:List Col}{d:Col}{ws:List BW}{rws:List Rw}{i:Nat}{p:List Nat}{e:List Int}(h:dF a ws rws)(j:∀w∈ws,dU a d w)(hok:∀c∈a,bD c)(f:iZ (dc a) p)(g:rg a p e):vdm rws i d.b (mkg rws e)=ver (wf i d.lo d.hi) (pc ws p):=by
 unfold vdm mkg;rw[uj,sU,Cz h j hok f g];rfl
theorem Bh{h:Int}:∃v:Int,atI [V.int 6,.int 4,.int 3,.int 2] (1+h%4-1)=JH (.int v)/\1<=v/\v<=6/\(v.toNat+1)^(1+h%4).toNat<=200:=by
 have b:=zi h (show(4:Int)≠0 by decide);have a:=zh h (show(0:Int)<4 by decide);generalize h%4=k at b a⊢;have:k=0\/k=1\/k=2\/k=3:=by lia
 rcases this with rfl|rfl|rfl|rfl
 .exact⟨_,U,by decide,by decide,by decide⟩
 .exact⟨_,U,by decide,by decide,by decide⟩
 .exact⟨_,U,by decide,by decide,by decide⟩
 .exact⟨_,U,by decide,by decide,by decide⟩
theorem Bi{i:Nat}(hi:i<6){a:Col}{l:List Int}(f:∀x∈l,a.lo<=x/\x<=a.hi)(d:a.lo<=a.hi){c:Int}(h:ver (wf i a.lo a.hi) l=say c):a.lo<=c/\c<=a.hi:=by
 have b:∀{x:Int},(say x=say c)->a.lo<=x/\x<=a.hi->a.lo<=c/\c<=a.hi:=λe h=>by
  have:_=c:=JT (·.2) e;rw[←this];exact h
 cases l with
 |nil=>exact JP (JT (·.1) h) (by show ¬ s!"none" = s!"say";decide)
 |cons n ns =>
  have h:wf i a.lo a.hi (n :: ns)=say c:=h;have j:=f n dt;have g:=f _ (eH (n:=n) (ns:=ns)).1;have k:=f _ (fZ (n:=n) (ns:=ns)).1
  match i,hi with
  |0,_=>exact b h j
  |1,_ =>
   have h:fA (n :: ns)=say c:=h;unfold fA at h;split at h
   .exact b h j
   .exact JP (JT (·.1) h) (by show ¬ s!"clash" = s!"say";decide)
  |2,_ =>
   have h:fw (n :: ns)=say c:=h;unfold fw at h;split at h
   .exact b h g
   .exact JP (JT (·.1) h) (by show ¬ s!"clash" = s!"say";decide)
  |3,_=>exact b h g
  |4,_=>exact b h k
  |5,_ =>
   have h:say (near a.lo a.hi (n :: ns).sum)=say c:=h;refine b h ?_;unfold near;split
   .exact⟨Int.le_refl _,d⟩
   .split
    .exact⟨d,Int.le_refl _⟩
    .exact⟨by lia,by lia⟩
theorem TF.so{f:DF}{H H':Hp}{t:DF}{nm c:Str}{d:DF}{zs:List Str}{e:List V}{rws:List Rw}(h:TF f H t nm c d zs e rws)(s:So H H'):TF f H' t nm c d zs e rws:=by
 obtain⟨i,w,j,x,fs,g,v,u,q,p,o,n,m,l,k,b,a,r⟩:=h;exact⟨i,w,j,x,fs,g,s _ _ trivial v,u,q,p,o,n,m,s _ _ trivial l,s _ _ trivial k,s _ _ trivial b,RL.so s a,r⟩
theorem dG.so{f d:DF}{H H':Hp}{a:DF}{c:Col}(h:dG f d H a c)(s:So H H'):dG f d H' a c:=by
 rcases h with⟨w,b,fs,e,r⟩|⟨w,b,fs,l,e,k,j,i,g,m⟩
 .exact .inl ⟨w,b,fs,s _ _ trivial e,r⟩
 .exact .inr ⟨w,b,fs,l,s _ _ trivial e,k,j,i,g,s _ _ trivial m⟩
theorem yX{d:List Col}{p:List Nat}(hok:∀c∈d,bD c)(g:iZ (dc d) p):∃k,rg d p k:=by
 have l:p.length=d.length:=by rw[g.1,eN]
 refine⟨List.zipWith (λc a=>(c.prs.getD a (0,0)).1) d p,by rw[lz];lia,λj x c a b f h=>?_⟩;rw[nL,f,h]at b;have b:(c.prs.getD a (0,0)).1=x:=Option.some.inj b;have i:a<c.prs.length:=g.2 j a _ h (uw f);have e:=Gz i;rw[fo,e]at b;have:=(hok c (GB f)).ch.le a _ e;exact⟨_,e,by rw[←b];exact Int.le_refl _,by rw[←b];exact this⟩
theorem xI{K:W.Frag}{H:Hp}{o:List V}{xs:List (List Nat)}{g:List Nat->SI}{t:DF}(h:aF o (xs.map g) (λr x=>H r=JH (.tup (tp x))))(m:H t=JH (.tup (tp aR))):∃f:V->Bool,(∀z∈o,(∃a,z=.ref a)/\DEq K H 60 z (.ref t) (f z))/\(o.any f=JJ↔∃p∈xs,g p=aR):=by
 classical
 have q:∀z∈o,∃(r:DF)(x:SI),z=.ref r/\x∈xs.map g/\H r=JH (.tup (tp x)):=λz l=>by
  obtain⟨j,B⟩:=jF l;obtain⟨r,x,c,b,J⟩:=aF.get h B;exact⟨r,x,c,GB b,J⟩
 have L:∀(z:V),z∈o->(∃a,z=.ref a)/\DEq K H 60 z (.ref t) (JL (∃r,z=.ref r/\H r=JH (.tup (tp aR)))):=λz l=>by
  obtain⟨r,x,rfl,_,i⟩:=q z l;refine⟨⟨r,U⟩,?_⟩;have w:(∃k,V.ref r=.ref k/\H k=JH (.tup (tp aR)))↔x=aR:=by
   constructor
   .rintro⟨k,e,b⟩;cases e;rw[i]at b;exact lM (by injection b with b;injection b)
   .intro e;exact⟨r,U,by rw[←e];exact i⟩
  rw[show decide (∃k,V.ref r=.ref k/\H k=JH (.tup (tp aR)))=JL (x=aR) by rw[Bool.eq_iff_iff,JU,JU];exact w];by_cases s:r=t
  .subst s;rw[i]at m;rw[JQ (lM (by injection m with m;injection m))];exact .same r
  .have d:=DEq.tup (K:=K) (H:=H) (n:=59) (f:=λj=>if j=0 then eqV (.str x.1) (.str aR.1)else eqV (.int x.2) (.int aR.2)) s (SqT.of i) (SqT.of m) λj u v c b=>by
    match j,c,b with
    |0,c,b=>cases c;cases b;exact .flat U U
    |1,c,b=>cases c;cases b;exact .flat U U
    |j+2,c,_=>simp[tp]at c
   have e:((List.range (min (tp x).length (tp aR).length)).all (λj=>if j=0 then eqV (.str x.1) (.str aR.1)else eqV (.int x.2) (.int aR.2)) && (tp x).length == (tp aR).length)=JL (x=aR):=by
    have c:eqV (.str x.1) (.str aR.1)=JL (x.1=aR.1):=by unfold eqV;rw[Bool.eq_iff_iff];simp
    have b:eqV (.int x.2) (.int aR.2)=JL (x.2=aR.2):=by unfold eqV;rw[Bool.eq_iff_iff];simp
    show((List.range 2).all (λj=>if j=0 then eqV (.str x.1) (.str aR.1)else eqV (.int x.2) (.int aR.2)) && (2 == 2:Bool))=_;rw[c,b];generalize aR=y;obtain⟨D,C⟩:=x;obtain⟨F,E⟩:=y;by_cases I:D=F <;> by_cases G:C=E <;> simp[lg,I,G]
   rw[e]at d;exact d
 refine⟨λz=>decide (∃r,z=.ref r/\H r=JH (.tup (tp aR))),L,?_⟩;rw[pk];constructor
 .rintro⟨z,l,e⟩;obtain⟨r,x,rfl,w,i⟩:=q z l;obtain⟨p,A,rfl⟩:=dy.mp w;obtain⟨k,c,b⟩:=JS e;cases c;rw[i]at b;exact⟨p,A,lM (by injection b with b;injection b)⟩
 .rintro⟨p,A,e⟩;obtain⟨j,B⟩:=jF A;obtain⟨r,i,s⟩:=h.2 j (g p) (by rw[eR,B];rfl);exact⟨_,GB i,JQ ⟨r,U,by rw[←e];exact s⟩⟩
theorem dJ.so{N:DF->Prop}{H H':Hp}{l:DF}{c:Col}(h:dJ N H l c)(s:So H H'):dJ N H' l c:=by obtain⟨b,a,n,m,e,f,p⟩:=h;exact⟨b,a,n,m,s.lst e,s.lst f,p.mono s.tups⟩
inductive mM(K:W.Frag)(Y:AD)(vs:List V)(H:Hp)(Q:VK)(e_:XK):Prop
 |mk (a:DF)(xs:List V)(ps:List (Int×Int))(n:Int)(_:vs=[.ref a,.int n])(_:SqL K H a xs)(_:PL H xs ps)(_:Q (.bl (inP ps n)) H)
inductive mO(K:W.Frag)(Y:AD)(vs:List V)(H:Hp)(Q:VK)(e_:XK):Prop
 |mk (a:DF)(xs:List V)(R:List (Int×Int))(lo hi:Int)(_:vs=[.ref a,.int lo,.int hi])(_:SqL K H a xs)(_:PL H xs R)(_:xs.length<=400)(_:∀(r:DF)(H':Hp)(es:List Int),ar H H'->H r=JI->H' r=JH (.lst (es.map V.int))->es=(ends R).filter (λt=>decide (lo<t) && decide (t<=hi))->Q (.ref r) H')
inductive gB(K:W.Frag)(Y:AD)(vs:List V)(H:Hp)(Q:VK)(e_:XK):Prop
 |mk (a:DF)(ms L:List Int)(lo hi:Int)(_:vs=[.int lo,.int hi,.ref a])(_:SqL K H a (ms.map V.int))(_:ms.length<=400)(_:L.length<64)(_:(∀m∈ms,lo<m->m<=hi->m∈L))(_:∀(r:DF)(H':Hp)(cs:List Int)(ts:List V),ar H H'->H r=JI->H' r=JH (.lst ts)->PL H' ts (cb lo hi cs)->cs.Pairwise (· < ·)->(∀c,c∈cs↔(c∈ms/\lo<c/\c<=hi))->cs.length<64->Q (.ref r) H')
inductive iW(K:W.Frag)(Y:AD)(vs:List V)(H:Hp)(Q:VK)(e_:XK):Prop
 |mk (L:Type)(_:DecidableEq L)(A:Lfp K L)(n:Nat)(a:DF)(xs:List V)(ts:List (T3a (Fm L n)))(_:vs=[.ref a])(_:n<=6)(_:H a=JH (.lst xs))(_:FmL (FmV A H n) H ts xs)(_:ts.length<=900)(_:∀(r:DF)(H':Hp),ar H H'->FmV A H' (n+1) (gz ts) (.ref r)->Q (.ref r) H')
inductive iw(K:W.Frag)(Y:AD)(vs:List V)(H:Hp)(Q:VK)(e_:XK):Prop
 |mk (a:DF)(as:List DF)(xss:List (List Int))(L:List Int)(_:vs=[.ref a])(_:H a=JH (.lst (as.map V.ref)))(_:MLs H as xss)(_:xss.flatten.length<=1000)(_:L.length<64)(_:(∀x∈xss.flatten,x∈L))(_:∀(l:DF)(cs:List Int)(H':Hp),ar H H'->H l=JI->H' l=JH (.lst (cs.map V.int))->cs.Pairwise (· < ·)->(∀x,x∈cs↔x∈xss.flatten)->Q (.ref l) H')
inductive gC(K:W.Frag)(Y:AD)(vs:List V)(H:Hp)(Q:VK)(e_:XK):Prop
 |mk (z g:Str)(_:vs=[.str z,.str g])(_:Q (.bl (l7 z g)) H)
inductive fB(K:W.Frag)(Y:AD)(vs:List V)(H:Hp)(Q:VK)(e_:XK):Prop
 |mk (i:Int)(_:vs=[.int i])(_:Q (.bl JJ) H)
inductive mP(K:W.Frag)(Y:AD)(vs:List V)(H:Hp)(Q:VK)(e_:XK):Prop
 |mk (a b:DF)(c:Col)(_:vs=[.ref a,.ref b])(_:dG Y.o Y.p H a c)(_:dG Y.o Y.p H b c)(_:Q (.bl JJ) H)
inductive dz(K:W.Frag)(Y:AD)(vs:List V)(H:Hp)(Q:VK)(e_:XK):Prop
 |mk (p r:DF)(xs ys:List V)(_:vs=[.ref p,.ref r])(_:SqL K H p xs)(_:SqL K H r ys)(_:1<=xs.length)(_:xs.length<=4)(_:ys.length<=200)(_:Q .non H)
inductive jy(K:W.Frag)(Y:AD)(vs:List V)(H:Hp)(Q:VK)(e_:XK):Prop
 |mk (cl:DF)(xs:List V)(w:Rw)(_:vs=[.ref cl,.int w.2])(_:H cl=JH (.lst xs))(_:CL NT H xs w.1)(_:w.1.length<=100)(_:∀(r:DF)(H':Hp),ar H H'->H r=JI->gQ (λa=>H a=JI) H' r w->Q (.ref r) H')
inductive dM(K:W.Frag)(Y:AD)(vs:List V)(H:Hp)(Q:VK)(e_:XK):Prop
 |mk (t:DF)(dv:List V)(bs:Prs)(rws:List Rw)(_:vs=[.ref t])(_:TD Y.q Y.o Y.p H t dv bs rws)(_:bs.length<=100)(_:∀(l:DF)(ys:List V)(H':Hp),ar H H'->H l=JI->H' l=JH (.lst ys)->PL H' ys bs->Q (.ref l) H')
inductive eO(K:W.Frag)(Y:AD)(vs:List V)(H:Hp)(Q:VK)(e_:XK):Prop
 |mk (a:DF)(ns:List Int)(k:Int)(_:vs=[.ref a,.int k])(_:SqL K H a (ns.map V.int))(_:0<=k)(_:∀r:Int,Q (.int r) H)
inductive cI(K:W.Frag)(Y:AD)(vs:List V)(H:Hp)(Q:VK)(e_:XK):Prop
 |mk (c k:Int)(_:vs=[.int c,.int k])(_:0<=k)(_:k<=100)(_:∀r:Int,0<=r->Q (.int r) H)
inductive fC(K:W.Frag)(Y:AD)(vs:List V)(H:Hp)(Q:VK)(e_:XK):Prop
 |mk (c k:Int)(_:vs=[.int c,.int k])(_:Q (.str (wd c k)) H)
inductive gD(K:W.Frag)(Y:AD)(vs:List V)(H:Hp)(Q:VK)(e_:XK):Prop
 |mk (pl:DF)(ts:List V)(prs:Prs)(b:Nat)(_:vs=[.ref pl,.int (b:Int)])(_:H pl=JH (.lst ts))(_:PL H ts prs)(_:Ch prs)(_:prs.length<=6)(_:∀(l:DF)(ps:Prs)(H':Hp),ar H H'->SpA (λa=>H a=JI) H' l ps->fb prs b prs.length ps->ps=mrg prs b prs.length->Q (.ref l) H')
inductive fM(K:W.Frag)(Y:AD)(vs:List V)(H:Hp)(Q:VK)(e_:XK):Prop
 |mk (cl:DF)(xs:List V)(cs:List Col)(_:vs=[.ref cl])(_:H cl=JH (.lst xs))(_:c9 NT H xs cs)(_:(∀c∈cs,bD c))(_:cs.length<=4)(_:∀(l:DF)(zs:List V)(H':Hp),ar H H'->H' l=JH (.lst zs)->PtL NT H' zs (dk (dc cs))->Q (.ref l) H')
inductive gE(K:W.Frag)(Y:AD)(vs:List V)(H:Hp)(Q:VK)(e_:XK):Prop
 |mk (cl pl:DF)(xs:List V)(cs:List Col)(p:List Nat)(tn:Int)(_:vs=[.ref cl,.ref pl,.int tn])(_:H cl=JH (.lst xs))(_:c9 NT H xs cs)(_:(∀c∈cs,bD c))(_:cs.length<=4)(_:H pl=JH (.lst (vN p)))(_:iZ (dc cs) p)(_:∀(l:DF)(cd:List Int)(H':Hp),ar H H'->H' l=JH (.lst (cd.map V.int))->AtP cs p cd->Q (.ref l) H')
inductive jz(K:W.Frag)(Y:AD)(vs:List V)(H:Hp)(Q:VK)(e_:XK):Prop
 |mk (r pl:DF)(w:BW)(p:List Nat)(_:vs=[.ref r,.ref pl])(_:dS NT H r w)(_:H pl=JH (.lst (vN p)))(_:w.1.length=p.length)(_:p.length<=100)(_:∀H',ar H H'->Q (.bl (mJ w.1 p)) H')
inductive jA(K:W.Frag)(Y:AD)(vs:List V)(H:Hp)(Q:VK)(e_:XK):Prop
 |mk (tn:Int)(ol:DF)(oc:Col)(_:vs=[.int tn,.ref ol])(_:dJ NT H ol oc)(_:∀(wy:Str)(i:Nat)(H':Hp),ar H H'->six[i]?=JH wy->(wy=s!"sum" -> oc.w=JK)->Q (.str wy) H')
inductive iz(K:W.Frag)(Y:AD)(vs:List V)(H:Hp)(Q:VK)(e_:XK):Prop
 |mk (r d:DF)(p:SI)(_:vs=[.ref r,.ref d])(_:SqT K H r (tp p))(_:SqT K H d (tp p))(_:Q (.bl JJ) H)
inductive dA(K:W.Frag)(Y:AD)(vs:List V)(H:Hp)(Q:VK)(e_:XK):Prop
 |mk (l a:DF)(p b:Int×Int)(_:vs=[.ref l,.ref a])(_:SpA NT H l [p])(_:Dom Y.o Y.p H a b)(_:p.1<=p.2)(_:b.1<=p.1)(_:p.2<=b.2)(_:Q (.bl JJ) H)
inductive eP(K:W.Frag)(Y:AD)(vs:List V)(H:Hp)(Q:VK)(e_:XK):Prop
 |mk (m:Nat)(_:vs=[.int (m:Int)])(_:(m=0\/∃k,m=2^k))(_:∀c:Int,c<=1->Q (.int c) H)
inductive cn(K:W.Frag)(Y:AD)(vs:List V)(H:Hp)(Q:VK)(e_:XK):Prop
 |mk (x dx:DF)(z:Str)(_:vs=[.ref x,.str z])(_:H x=JH (.ins Y.h dx []))(_:Q .non (upd H x (.ins Y.h dx [("called",.str z)])))
inductive cA(K:W.Frag)(Y:AD)(vs:List V)(H:Hp)(Q:VK)(e_:XK):Prop
 |mk (x dx:DF)(z:Str)(_:vs=[.ref x,.str z])(_:H x=JH (.ins Y.i dx []))(_:Q .non (upd H x (.ins Y.i dx [("called",.str z)])))
inductive cB(K:W.Frag)(Y:AD)(vs:List V)(H:Hp)(Q:VK)(e_:XK):Prop
 |mk (x dx:DF)(z:Str)(_:vs=[.ref x,.str z])(_:H x=JH (.ins Y.j dx []))(_:Q .non (upd H x (.ins Y.j dx [("called",.str z)])))
inductive cM(K:W.Frag)(Y:AD)(vs:List V)(H:Hp)(Q:VK)(e_:XK):Prop
 |mk (x dx:DF)(z:Str)(_:vs=[.ref x,.str z])(_:H x=JH (.ins Y.k dx []))(_:Q .non (upd H x (.ins Y.k dx [("called",.str z)])))
inductive cC(K:W.Frag)(Y:AD)(vs:List V)(H:Hp)(Q:VK)(e_:XK):Prop
 |mk (x dx:DF)(z:Str)(_:vs=[.ref x,.str z])(_:H x=JH (.ins Y.l dx []))(_:Q .non (upd H x (.ins Y.l dx [("called",.str z)])))
inductive cO(K:W.Frag)(Y:AD)(vs:List V)(H:Hp)(Q:VK)(e_:XK):Prop
 |mk (x dx:DF)(z:Str)(_:vs=[.ref x,.str z])(_:H x=JH (.ins Y.m dx []))(_:Q .non (upd H x (.ins Y.m dx [("called",.str z)])))
inductive bO(K:W.Frag)(Y:AD)(vs:List V)(H:Hp)(Q:VK)(e_:XK):Prop
 |mk (x dx:DF)(lo hi:Int)(_:vs=[.ref x,.int lo,.int hi])(_:H x=JH (.ins Y.o dx []))(_:Q .non (mkd Y.o H x dx lo hi))
inductive bY(K:W.Frag)(Y:AD)(vs:List V)(H:Hp)(Q:VK)(e_:XK):Prop
 |mk (x dx:DF)(lo hi:Int)(_:vs=[.ref x,.int lo,.int hi])(_:H x=JH (.ins Y.p dx []))(_:Q .non (mkd Y.p H x dx lo hi))
def J1(K:W.Frag)(Y:AD):Sp:=vo K Y.h Y.o Y.p 0
def J9(K:W.Frag)(Y:AD):Sp:=vo K Y.i Y.o Y.p 1
def J5(K:W.Frag)(Y:AD):Sp:=vo K Y.j Y.o Y.p 2
def J7(K:W.Frag)(Y:AD):Sp:=vo K Y.k Y.o Y.p 3
def J3(K:W.Frag)(Y:AD):Sp:=vo K Y.l Y.o Y.p 4
def J11(K:W.Frag)(Y:AD):Sp:=vo K Y.m Y.o Y.p 5
inductive de(K:W.Frag)(Y:AD)(vs:List V)(H:Hp)(Q:VK)(e_:XK):Prop
 |mk (a b:DF)(ys:List V)(ps:List (Int×Int))(as:List DF)(mss:List (List Int))(_:vs=[.ref a,.ref b])(_:H a=JH (.lst ys))(_:PL H ys ps)(_:H b=JH (.lst (as.map V.ref)))(_:MLs H as mss)(_:MOK ps mss)(_:∀(l:DF)(xs:List V)(H':Hp)(css:List (List Int)),ar H H'->H' l=JH (.lst xs)->css.length=ps.length->(∀(j:Nat)(p:Int×Int)(ms cs:List Int),ps[j]?=JH p->mss[j]?=JH ms->css[j]?=JH cs->cs.Pairwise (· < ·)/\(∀c,c∈cs↔(c∈ms/\p.1<c/\c<=p.2))/\cs.length<64)->CoL H' xs (List.zipWith (λp cs=>cb p.1 p.2 cs) ps css)->Q (.ref l) H')
inductive gF(K:W.Frag)(Y:AD)(vs:List V)(H:Hp)(Q:VK)(e_:XK):Prop
 |mk (z:Str)(_:vs=[.str z])(_:z.length<=1000)(_:Q (.bl (isw z)) H)
inductive p5(K:W.Frag)(Y:AD)(vs:List V)(H:Hp)(Q:VK)(e_:XK):Prop
 |mk (t rl c dx:DF)(fs:List (Str×V))(xs:List V)(rws:List Rw)(k:Nat)(w:Rw)(cs:List Int)(_:vs=[.ref t,.int k,.ref c])(_:H t=JH (.ins Y.q dx fs))(_:fs.lookup s!"rows"=JH (.ref rl)) (_:H rl=JH (.lst xs))(_:RL NT H xs rws)(_:rws[k]?=JH w)(_:SqL K H c (cs.map V.int))(_:w.1.length=cs.length)(_:∀H',ar H H'->Q (.bl (ir w.1 cs)) H')
inductive dN(K:W.Frag)(Y:AD)(vs:List V)(H:Hp)(Q:VK)(e_:XK):Prop
 |mk (t:DF)(c:Nat)(dv:List V)(bs:Prs)(rws:List Rw)(b:Int×Int)(L:List Int)(_:vs=[.ref t,.int (c:Int)])(_:TD Y.q Y.o Y.p H t dv bs rws)(_:bs[c]?=JH b)(_:rws.length<=60)(_:(∀w∈rws,c<w.1.length/\(w.1.getD c []).length<=6))(_:L.length<64)(_:(∀x,MkC rws c b x->x∈L))(_:∀(l:DF)(cs:List Int)(H':Hp),ar H H'->H l=JI->H' l=JH (.lst (cs.map V.int))->cs.Pairwise (· < ·)->(∀x,x∈cs↔MkC rws c b x)->Q (.ref l) H')
inductive gG(K:W.Frag)(Y:AD)(vs:List V)(H:Hp)(Q:VK)(e_:XK):Prop
 |mk (a:DF)(ns:List Int)(m:Int)(_:vs=[.ref a,.int m])(_:SqL K H a (ns.map V.int))(_:ns.length<=900)(_:1<=m)(_:m<=200)(_:∀(l:DF)(ms:List Int)(H':Hp),ar H H'->H' l=JH (.lst (ms.map V.int))->((ms.length:Nat):Int)<=m->ms.length<=ns.length->(∀x∈ms,0<=x)->Q (.ref l) H')
inductive fN(K:W.Frag)(Y:AD)(vs:List V)(H:Hp)(Q:VK)(e_:XK):Prop
 |mk (m most:Int)(_:vs=[.int m,.int most])(_:1<=most)(_:most<=6)(_:∀(l:DF)(c:Col)(H':Hp),ar H H'->dJ (λa=>H a=JI) H' l c->bD c->((c.prs.length:Nat):Int)<=most->Q (.ref l) H')
inductive eQ(K:W.Frag)(Y:AD)(vs:List V)(H:Hp)(Q:VK)(e_:XK):Prop
 |mk (m:Int)(cl ol la:DF)(xs:List V)(cs:List Col)(oc:Col)(_:vs=[.int m,.ref cl,.ref ol,.ref la])(_:H cl=JH (.lst xs))(_:c9 NT H xs cs)(_:(∀c∈cs,bD c))(_:1<=cs.length)(_:cs.length<=4)(_:dJ NT H ol oc)(_:bD oc)(_:0<=m)(_:(H la=JH (.lst [])\/∃w,dS NT H la w/\dU cs oc w))(_:∀(r:DF)(w:BW)(H':Hp),ar H H'->dS (λa=>H a=JI) H' r w->dU cs oc w->Q (.ref r) H')
inductive fD(K:W.Frag)(Y:AD)(vs:List V)(H:Hp)(Q:VK)(e_:XK):Prop
 |mk (l cl:DF)(zs xs:List V)(ws:List BW)(cs:List Col)(_:vs=[.ref l,.ref cl])(_:H l=JH (.lst zs))(_:BRL NT H zs ws)(_:ws.length<=200)(_:H cl=JH (.lst xs))(_:c9 NT H xs cs)(_:(∀c∈cs,bD c))(_:cs.length<=4)(_:(∀w∈ws,w.1.length=cs.length))(_:∀(l':DF)(zs':List V)(rws:List Rw)(H':Hp),ar H H'->H' l'=JH (.lst zs')->RL (λa=>H a=JI) H' zs' rws->dF cs ws rws->Q (.ref l') H')
inductive jB(K:W.Frag)(Y:AD)(vs:List V)(H:Hp)(Q:VK)(e_:XK):Prop
 |mk (wy:Str)(i:Nat)(bl_ ol pl:DF)(zs:List V)(ws:List BW)(oc:Col)(p:List Nat)(_:vs=[.str wy,.ref bl_,.ref ol,.ref pl])(_:six[i]?=JH wy)(_:H bl_=JH (.lst zs))(_:BRL NT H zs ws)(_:ws.length<=200)(_:dJ NT H ol oc)(_:bD oc)(_:H pl=JH (.lst (vN p)))(_:(∀w∈ws,w.1.length=p.length))(_:p.length<=100)(_:∀(r:DF)(H':Hp),ar H H'->H' r=JH (.tup (tp (ver (wf i oc.lo oc.hi) (pc ws p))))->Q (.ref r) H')
inductive iA(K:W.Frag)(Y:AD)(vs:List V)(H:Hp)(Q:VK)(e_:XK):Prop
 |mk (f t ou:DF)(nm wy:Str)(zs:List Str)(dv:List V)(CB:List Rw)(L:List (Prs×SI))(cs:List Col)(oc:Col)(_:vs=[.ref f,.ref t])(_:TF Y.q H f nm s!"only" ou zs dv (bX L)) (_:TF Y.q H t nm wy ou zs dv CB)(_:aF dv cs (dG Y.o Y.p H))(_:dG Y.o Y.p H ou oc)(_:(∀q∈L,yG q.1 (cs.map Col.b)))(_:cs.length<=4)(_:∀H',ar H H'->Q (.bl JJ) H')
def J0(K:W.Frag)(Y:AD):Sp:=vn Y.h s!"first"
def J8(K:W.Frag)(Y:AD):Sp:=vn Y.i s!"only"
def J4(K:W.Frag)(Y:AD):Sp:=vn Y.j s!"like"
def J6(K:W.Frag)(Y:AD):Sp:=vn Y.k s!"low"
def J2(K:W.Frag)(Y:AD):Sp:=vn Y.l s!"high"
def J10(K:W.Frag)(Y:AD):Sp:=vn Y.m s!"sum"
inductive bP(K:W.Frag)(Y:AD)(vs:List V)(H:Hp)(Q:VK)(e_:XK):Prop
 |mk (a:DF)(b:Int×Int)(i:Int)(_:vs=[.ref a,.int i])(_:A2 Y.o H a b.1 b.2)(_:b.1<=i)(_:i<=b.2)(_:Q (.bl JJ) H)
inductive bZ(K:W.Frag)(Y:AD)(vs:List V)(H:Hp)(Q:VK)(e_:XK):Prop
 |mk (a:DF)(b:Int×Int)(i:Int)(_:vs=[.ref a,.int i])(_:A2 Y.p H a b.1 b.2)(_:b.1<=i)(_:i<=b.2)(_:Q (.bl JJ) H)
inductive bI(K:W.Frag)(Y:AD)(vs:List V)(H:Hp)(Q:VK)(e_:XK):Prop
 |mk (x dx:DF)(lo hi:Int)(_:vs=[.ref x,.int lo,.int hi])(_:H x=JH (.ins Y.o dx []))(_:lo<=hi)(_:Q .non (mkd Y.o H x dx lo hi))
def J12(K:W.Frag)(Y:AD):Sp:=kf K Y.h Y.o Y.p 0
def J16(K:W.Frag)(Y:AD):Sp:=kf K Y.i Y.o Y.p 1
def J14(K:W.Frag)(Y:AD):Sp:=kf K Y.j Y.o Y.p 2
def J15(K:W.Frag)(Y:AD):Sp:=kf K Y.k Y.o Y.p 3
def J13(K:W.Frag)(Y:AD):Sp:=kf K Y.l Y.o Y.p 4
def J17(K:W.Frag)(Y:AD):Sp:=kf K Y.m Y.o Y.p 5
inductive mQ(K:W.Frag)(Y:AD)(vs:List V)(H:Hp)(Q:VK)(e_:XK):Prop
 |mk (a b:DF)(ys:List V)(ps:List (Int×Int))(as:List DF)(mss:List (List Int))(_:vs=[.ref a,.ref b])(_:H a=JH (.lst ys))(_:PL H ys ps)(_:H b=JH (.lst (as.map V.ref)))(_:MLs H as mss)(_:MOK ps mss)(_:∀H':Hp,ar H H'->Q (.int ((gr ps mss ps.length:Nat):Int)) H')
inductive dO(K:W.Frag)(Y:AD)(vs:List V)(H:Hp)(Q:VK)(e_:XK):Prop
 |mk (p:DF)(zs:List Str)(_:vs=[.ref p])(_:SqL K H p (zs.map V.str))(_:(∀z∈zs,isw z=JJ))(_:zs.Nodup)(_:zs.length<=100)(_:∀H',ar H H'->Q .non H')
inductive fO(K:W.Frag)(Y:AD)(vs:List V)(H:Hp)(Q:VK)(e_:XK):Prop
 |mk (dl ou cl:DF)(dv xs:List V)(bs:Prs)(o:Int×Int)(w:Rw)(_:vs=[.ref dl,.ref ou,.ref cl,.int w.2])(_:SqL K H dl dv)(_:aF dv bs (Dom Y.o Y.p H))(_:Dom Y.o Y.p H ou o)(_:H cl=JH (.lst xs))(_:CL NT H xs w.1)(_:qU bs o w)(_:∀H',ar H H'->Q .non H')
inductive gH(K:W.Frag)(Y:AD)(vs:List V)(H:Hp)(Q:VK)(e_:XK):Prop
 |mk (t c:DF)(rws:List Rw)(i:Nat)(o:Int×Int)(cs:List Int)(_:vs=[.ref t,.ref c])(_:Tbl Y.q Y.o Y.p H t rws i o)(_:SqL K H c (cs.map V.int))(_:(∀w∈rws,w.1.length=cs.length))(_:∀H',ar H H'->Q (.int ((msk (gR rws cs) rws.length:Nat):Int)) H')
inductive eS(K:W.Frag)(Y:AD)(vs:List V)(H:Hp)(Q:VK)(e_:XK):Prop
 |mk (t:DF)(dv:List V)(bs:Prs)(rws:List Rw)(L:Nat->List Int)(_:vs=[.ref t])(_:TD Y.q Y.o Y.p H t dv bs rws)(_:bs.length<=100)(_:rws.length<=60)(_:(∀w∈rws,w.1.length=bs.length/\∀c,(w.1.getD c []).length<=6))(_:(∀(c:Nat)(b:Int×Int),bs[c]?=JH b->(L c).length<64/\∀x,MkC rws c b x->x∈L c))(_:∀(l:DF)(as:List DF)(mss:List (List Int))(H':Hp),ar H H'->H l=JI->H' l=JH (.lst (as.map V.ref))->MLs H' as mss->mss.length=bs.length->(∀(c:Nat)(b:Int×Int)(ms:List Int),bs[c]?=JH b->mss[c]?=JH ms->ms.Pairwise (· < ·)/\∀x,x∈ms↔MkC rws c b x)->Q (.ref l) H')
inductive dP(K:W.Frag)(Y:AD)(vs:List V)(H:Hp)(Q:VK)(e_:XK):Prop
 |mk (sl cl ol:DF)(ns:List Int)(xs:List V)(cs:List Col)(oc:Col)(_:vs=[.ref sl,.ref cl,.ref ol])(_:H sl=JH (.lst (ns.map V.int)))(_:ns.length<=200)(_:(∀n∈ns,0<=n))(_:H cl=JH (.lst xs))(_:c9 NT H xs cs)(_:(∀c∈cs,bD c))(_:1<=cs.length)(_:cs.length<=4)(_:dJ NT H ol oc)(_:bD oc)(_:∀(l:DF)(zs:List V)(ws:List BW)(H':Hp),ar H H'->H' l=JH (.lst zs)->BRL (λa=>H a=JI) H' zs ws->ws.length=ns.length->(∀w∈ws,dU cs oc w)->Q (.ref l) H')
inductive b9(K:W.Frag)(Y:AD)(vs:List V)(H:Hp)(Q:VK)(e_:XK):Prop
 |mk (x dx p:DF)(zs:List Str)(_:vs=[.ref x,.ref p])(_:H x=JH (.ins Y.p dx []))(_:H p=JH (.lst (zs.map V.str)))(_:Good zs)(_:∀(H':Hp)(l:DF),(∀b o,b≠x->H b=JH o->H' b=JH o)->H' x=JH (.ins Y.p dx [("low",.int 0),("high",.int (hiW zs)),("words",.ref l)])->H' l=JH (.lst (zs.map V.str))->Q .non H')
inductive iX(K:W.Frag)(Y:AD)(vs:List V)(H:Hp)(Q:VK)(e_:XK):Prop
 |mk (z:Str)(_:vs=[.str z])(_:z∈six)(_:(∀i:Nat,six[i]?=JH z->∀(x C:DF)(H':Hp),ar H H'->(cl6 Y.h Y.i Y.j Y.k Y.l Y.m)[i]?=JH C->WyN C H' x z->Q (.ref x) H'))
inductive fP(K:W.Frag)(Y:AD)(vs:List V)(H:Hp)(Q:VK)(e_:XK):Prop
 |mk (z:Str)(ou:DF)(_:vs=[.str z,.ref ou])(_:z∈six)(_:(z=s!"sum" -> ∃dx fs,H ou=JH (.ins Y.o dx fs))) (_:∀H',ar H H'->Q .non H')
inductive d7(K:W.Frag)(Y:AD)(vs:List V)(H:Hp)(Q:VK)(e_:XK):Prop
 |mk (t:DF)(rws:List Rw)(i:Nat)(o:Int×Int)(m:Int)(_:vs=[.ref t,.int m])(_:Tbl Y.q Y.o Y.p H t rws i o)(_:∀(r:DF)(H':Hp),ar H H'->Vd K H' r (ver (wf i o.1 o.2) (pkF rws (f7 m) rws.length))->Q (.ref r) H')
inductive fQ(K:W.Frag)(Y:AD)(vs:List V)(H:Hp)(Q:VK)(e_:XK):Prop
 |mk (l:DF)(c:Col)(_:vs=[.ref l])(_:dJ NT H l c)(_:bD c)(_:∀(a:DF)(H':Hp),ar H H'->dG Y.o Y.p H' a c->Q (.ref a) H')
inductive jC(K:W.Frag)(Y:AD)(vs:List V)(H:Hp)(Q:VK)(e_:XK):Prop
 |mk (t c:DF)(rws:List Rw)(i:Nat)(o:Int×Int)(cs:List Int)(_:vs=[.ref t,.ref c])(_:Tbl Y.q Y.o Y.p H t rws i o)(_:SqL K H c (cs.map V.int))(_:(∀w∈rws,w.1.length=cs.length))(_:∀(r:DF)(H':Hp),ar H H'->SqT K H' r (tp (ver (wf i o.1 o.2) (pkF rws (gR rws cs) rws.length)))->Q (.ref r) H')
inductive bE(K:W.Frag)(Y:AD)(vs:List V)(H:Hp)(Q:VK)(e_:XK):Prop
 |mk (x dx na dl ou rl:DF)(nm wy:Str)(zs:List Str)(dv rx:List V)(bs:Prs)(o:Int×Int)(rws:List Rw)(_:vs=[.ref x,.str nm,.ref na,.ref dl,.ref ou,.str wy,.ref rl])(_:H x=JH (.ins Y.q dx []))(_:H na=JH (.lst (zs.map V.str)))(_:(∀z∈nm :: zs,isw z=JJ))(_:(nm :: zs).Nodup)(_:1<=zs.length)(_:zs.length<=4)(_:wy∈six)(_:(wy=s!"sum" -> ∃dx fs,H ou=JH (.ins Y.o dx fs))) (_:H dl=JH (.lst dv))(_:aF dv bs (Dom Y.o Y.p H))(_:Dom Y.o Y.p H ou o)(_:H rl=JH (.lst rx))(_:RL NT H rx rws)(_:rx.length<=200)(_:bs.length<=4)(_:(∀w∈rws,qU bs o w))(_:∀(H':Hp)(fs:List (Str×V))(rl':DF)(xs':List V),(∀b o,b≠x->H b=JH o->H' b=JH o)->H' x=JH (.ins Y.q dx fs)->fs.lookup s!"rows"=JH (.ref rl')->fs.lookup s!"way"=JH (.str wy)->fs.lookup s!"outcome"=JH (.ref ou)->fs.lookup s!"name"=JH (.str nm)->(∃na' dl':DF,fs.lookup s!"names"=JH (.ref na')/\fs.lookup s!"domains"=JH (.ref dl')/\H' na'=JH (.lst (zs.map V.str))/\H' dl'=JH (.lst dv))->H' rl'=JH (.lst xs')->RL NT H' xs' rws->Q .non H')
inductive gc(K:W.Frag)(Y:AD)(n:Nat)(vs:List V)(H:Hp)(Q:VK)(e_:XK):Prop
 |mk (L:Type)(_:DecidableEq L)(A:Lfp K L)(d:Nat)(f:Fm L d)(v:V)(_:vs=[v,.int (d:Int)])(_:FmV A H d f v)(_:d+1<=n)(_:(bxs d f).length<=2000)(_:(∀q∈bxs d f,q.1.length<=6))(_:∀(l:DF)(xs:List V)(H':Hp),ar H H'->H l=JI->H' l=JH (.lst xs)->BxG A H' xs (bxs d f)->Q (.ref l) H')
theorem xJ{K:W.Frag}{Y:AD}{vs:List V}{H:Hp}{Q:VK}{E:XK}(h:gc K Y 0 vs H Q E):False:=by
 obtain⟨j,b,c,d,i,v,rfl,f,e,a,g,q⟩:=h;lia
inductive jD(K:W.Frag)(Y:AD)(vs:List V)(H:Hp)(Q:VK)(e_:XK):Prop
 |mk (d:Nat)(F:Fm SI d)(v:V)(_:vs=[v,.int (d:Int)])(_:FmV (K:=K) LVd H d F v)(_:d<=6)(_:(bxs d F).length<=300)(_:(∀q∈bxs d F,q.1.length<=6))(_:∀(l:DF)(xs:List V)(H':Hp),ar H H'->H' l=JH (.lst xs)->RL NT H' xs (bX (bxs d F))->Q (.ref l) H')
inductive df(K:W.Frag)(Y:AD)(vs:List V)(H:Hp)(Q:VK)(E:XK):Prop
 |mk (d:Nat)(F:Fm SI d)(v:V)(_:vs=[v,.int (d:Int)])(_:FmV (K:=K) LVd H d F v)(_:d<=6)(_:(bxs d F).length<=300)(_:(∀q∈bxs d F,q.1.length<=6))(_:((∀q∈bxs d F,q.2≠aR)->∀H',ar H H'->Q .non H'))(_:((∃q∈bxs d F,q.2=aR)->∀H',ar H H'->E (.ref Y.b) JI H'))
inductive gI(K:W.Frag)(Y:AD)(vs:List V)(H:Hp)(Q:VK)(e_:XK):Prop
 |mk (h:Int)(cl ol bl_:DF)(wy:Str)(xs zs:List V)(cs:List Col)(oc:Col)(ws:List BW)(i:Nat)(_:vs=[.int h,.ref cl,.ref ol,.str wy,.ref bl_])(_:H cl=JH (.lst xs))(_:c9 NT H xs cs)(_:(∀c∈cs,bD c))(_:1<=cs.length)(_:cs.length<=4)(_:dJ NT H ol oc)(_:bD oc)(_:six[i]?=JH wy)(_:(wy=s!"sum" -> oc.w=JK)) (_:H bl_=JH (.lst zs))(_:BRL NT H zs ws)(_:ws.length<=200)(_:(∀w∈ws,dU cs oc w))(_:∀(t ou:DF)(dv:List V)(rws:List Rw)(H':Hp),ar H H'->TF Y.q H' t (wd (h / 16) 0) wy ou ((List.range cs.length).map λj:Nat=>wd (h / 16) (1+(0+(j:Int)))) dv rws->TOk Y.o Y.p H' (wd (h / 16) 0) wy ou ((List.range cs.length).map λj:Nat=>wd (h / 16) (1+(0+(j:Int)))) dv rws (cs.map Col.b) oc.b->aF dv cs (dG Y.o Y.p H')->dG Y.o Y.p H' ou oc->dF cs ws rws->Q (.ref t) H')
inductive eV(K:W.Frag)(Y:AD)(vs:List V)(H:Hp)(Q:VK)(E:XK):Prop
 |mk (na dl ou:DF)(nm:Str)(zs:List Str)(dv:List V)(F:Fm SI zs.length)(v:V)(bs:Prs)(o:Int×Int)(_:vs=[.str nm,.ref na,.ref dl,.ref ou,v])(_:H na=JH (.lst (zs.map V.str)))(_:H dl=JH (.lst dv))(_:FmV (K:=K) LVd H zs.length F v)(_:(bxs zs.length F).length<=200)(_:(∀q∈bxs zs.length F,q.1.length<=6))(_:TOk Y.o Y.p H nm s!"only" ou zs dv (bX (bxs zs.length F)) bs o) (_:((∀q∈bxs zs.length F,q.2≠aR)->∀(t':DF)(H':Hp),ar H H'->TF Y.q H' t' nm s!"only" ou zs dv (bX (bxs zs.length F))->Q (.ref t') H')) (_:((∃q∈bxs zs.length F,q.2=aR)->∀H',ar H H'->E (.ref Y.b) JI H'))
inductive eW(K:W.Frag)(Y:AD)(P:Dn)(w:Cu)(mg:Str->Option Ct)(base:DG)(n:Nat)(vs:List V)(H:Hp)(Q:VK)(e_:XK):Prop
 |mk (c b f:DF)(xs:List V)(cols:List (List (Int×Int)))(ah:List Int)(m:Nat)(L:Type)(_:DecidableEq L)(A:Lfp K L)(g:List Int->L)(J:Hp->Prop)(_:vs=[.ref c,.ref b,.ref f])(_:cols.length+1<=n)(_:H c=JH (.lst xs))(_:CoL H xs cols)(_:H b=JH (.lst (ah.map V.int)))(_:(∀col∈cols,col.length<=64))(_:ah.length+cols.length<=6)(_:cols.length<=6)(_:m=ah.length+cols.length)(_:A9 A P w K mg base f m g J)(_:J H)(_:(∀(v:V)(H':Hp),(∀d o,d≠b->H d=JH o->H' d=JH o)->FmV A H' cols.length (lay g cols ah) v->Q v H'))
theorem sZ{K:W.Frag}{Y:AD}{P:Dn}{w:Cu}{mg:Str->Option Ct}{base:DG}{vs:List V}{H:Hp}{Q:VK}{E:XK}(h:eW K Y P w mg base 0 vs H Q E):False:=by
 obtain⟨c,b,t,i,a,u,m,L,j,A,g,J,rfl,k,n,s,o,f,e,d,l,p,r,q⟩:=h;lia
inductive gd(K:W.Frag)(Y:AD)(P:Dn)(w:Cu)(mg:Str->Option Ct)(base:DG)(n:Nat)(vs:List V)(H:Hp)(Q:VK)(e_:XK):Prop
 |mk (L M:Type)(_:DecidableEq L)(_:DecidableEq M)(A:Lfp K L)(B:Lfp K M)(h:L->M)(J:Hp->Prop)(d:Nat)(F:Fm L d)(v:V)(f:DF)(_:vs=[v,.int d,.ref f])(_:d+1<=n)(_:d<=6)(_:FmV A H d F v)(_:SmF 300 d F)(_:Cs A B P w K mg base f h J)(_:J H)(_:∀(u:V)(H':Hp),ar H H'->FmV B H' d (nP h d F) u->Q u H')
theorem vw{K:W.Frag}{Y:AD}{P:Dn}{w:Cu}{mg:Str->Option Ct}{base:DG}{vs:List V}{H:Hp}{Q:VK}{E:XK}(h:gd K Y P w mg base 0 vs H Q E):False:=by
 obtain⟨L,M,e,c,A,B,i,J,d,m,v,l,rfl,g,b,f,a,j,k,q⟩:=h;lia
inductive mR(K:W.Frag)(Y:AD)(P:Dn)(w:Cu)(mg:Str->Option Ct)(base:DG)(vs:List V)(H:Hp)(Q:VK)(e_:XK):Prop
 |mk (a b f:DF)(ys:List V)(ps:List (Int×Int))(as:List DF)(mss:List (List Int))(L:Type)(_:DecidableEq L)(A:Lfp K L)(g:List Int->L)(J:Hp->Prop)(_:vs=[.ref a,.ref b,.ref f])(_:H a=JH (.lst ys))(_:PL H ys ps)(_:H b=JH (.lst (as.map V.ref)))(_:MLs H as mss)(_:MOK ps mss)(_:gr ps mss ps.length<=300)(_:A9 A P w K mg base f ps.length g J)(_:J H)(_:∀(v:V)(H':Hp)(css:List (List Int)),ar H H'->css.length=ps.length->(∀(j:Nat)(p:Int×Int)(ms cs:List Int),ps[j]?=JH p->mss[j]?=JH ms->css[j]?=JH cs->cs.Pairwise (· < ·)/\(∀c,c∈cs↔(c∈ms/\p.1<c/\c<=p.2))/\cs.length<64)->FmV A H' (List.zipWith (λp cs=>cb p.1 p.2 cs) ps css).length (lay g (List.zipWith (λp cs=>cb p.1 p.2 cs) ps css) []) v->Q v H')
inductive iB(K:W.Frag)(Y:AD)(vs:List V)(H:Hp)(Q:VK)(e_:XK):Prop
 |mk (t:DF)(dv:List V)(bs:Prs)(rws:List Rw)(L:Nat->List Int)(i:Nat)(o:Int×Int)(_:vs=[.ref t])(_:TD Y.q Y.o Y.p H t dv bs rws)(_:Tbl Y.q Y.o Y.p H t rws i o)(_:bs.length<=4)(_:rws.length<=60)(_:(∀x∈rws,x.1.length=bs.length/\∀c,(x.1.getD c []).length<=6))(_:(∀(c:Nat)(b:Int×Int),bs[c]?=JH b->(L c).length<=57/\∀x,MkC rws c b x->x∈L c))(_:(∀mss:List (List Int),mss.length=bs.length->(∀(c:Nat)(b:Int×Int)(ms:List Int),bs[c]?=JH b->mss[c]?=JH ms->ms.Pairwise (· < ·)/\∀x,x∈ms↔MkC rws c b x)->gr bs mss bs.length<=300))(_:(∀z,W.tabIn K "row_form" = JH z->dj H z.2 [(qQ Y77,"row_form.<locals>.<lambda>")])) (_:∀(v:V)(H':Hp)(css:List (List Int)),So H H'->(∀z,W.tabIn K "row_form" = JH z->dj H' z.2 [(qQ Y77,"row_form.<locals>.<lambda>")]/\∀d o,d≠z.2->H d=JH o->H' d=JH o)->(∃z,W.tabIn K "row_form" = JH z)->css.length=bs.length->(∀(j:Nat)(p:Int×Int)(cs:List Int),bs[j]?=JH p->css[j]?=JH cs->cs.Pairwise (· < ·)/\∀x,x∈cs↔MkC rws j p x)->FmV (K:=K) wZ H' (List.zipWith (λp cs=>cb p.1 p.2 cs) bs css).length (lay (λcd=>((msk (gR rws cd) rws.length:Nat):Int)) (List.zipWith (λp cs=>cb p.1 p.2 cs) bs css) []) v->Q v H')
inductive dQ(K:W.Frag)(Y:AD)(vs:List V)(H:Hp)(Q:VK)(e_:XK):Prop
 |mk (t:DF)(dv:List V)(bs:Prs)(rws:List Rw)(L:Nat->List Int)(kk i:Nat)(o:Int×Int)(_:vs=[.ref t])(_:RfH Y.q Y.o Y.p H t dv bs rws L kk i o)(_:nQ K H)(_:nR K H)(_:∀(v:V)(F:Fm SI bs.length)(H':Hp),So H H'->nQ K H'->nR K H'->FmV (K:=K) LVd H' bs.length F v->dI bs.length F bs->SmF 300 bs.length F->(∀cs,InB cs bs->Tel bs.length F cs (vdm rws i o (mkg rws cs)))->(bxs bs.length F).length<=(kk+1)^bs.length->Q v H')
inductive kL(K:W.Frag)(Y:AD)(vs:List V)(H:Hp)(Q:VK)(E:XK):Prop
 |mk (t ou:DF)(nm wy:Str)(zs:List Str)(dv:List V)(rws:List Rw)(bs:Prs)(o:Int×Int)(L:Nat->List Int)(kk i:Nat)(_:vs=[.ref t])(_:TF Y.q H t nm wy ou zs dv rws)(_:TOk Y.o Y.p H nm wy ou zs dv rws bs o)(_:o.1<=o.2)(_:RfH Y.q Y.o Y.p H t dv bs rws L kk i o)(_:(kk+1)^bs.length<=200)(_:nQ K H)(_:nR K H)(_:(∀cs,InB cs bs->∀c,vdm rws i o (mkg rws cs)=say c->o.1<=c/\c<=o.2))(_:(∀(t':DF)(F:Fm SI zs.length)(H':Hp),So H H'->nQ K H'->nR K H'->dI zs.length F bs->(∀cs,InB cs bs->Tel zs.length F cs (vdm rws i o (mkg rws cs)))->(∀q∈bxs zs.length F,q.2≠aR)->TF Y.q H' t' nm s!"only" ou zs dv (bX (bxs zs.length F))->TOk Y.o Y.p H' nm s!"only" ou zs dv (bX (bxs zs.length F)) bs o->Q (.ref t') H')) (_:((∃cs,InB cs bs/\vdm rws i o (mkg rws cs)=aR)->∀H',So H H'->nQ K H'->nR K H'->E (.ref Y.b) JI H'))
inductive iC(K:W.Frag)(Y:AD)(vs:List V)(H:Hp)(Q:VK)(e_:XK):Prop
 |mk (t ou:DF)(nm wy:Str)(zs:List Str)(dv:List V)(rws:List Rw)(bs:Prs)(o:Int×Int)(L:Nat->List Int)(kk i:Nat)(_:vs=[.ref t])(_:TF Y.q H t nm wy ou zs dv rws)(_:TOk Y.o Y.p H nm wy ou zs dv rws bs o)(_:o.1<=o.2)(_:RfH Y.q Y.o Y.p H t dv bs rws L kk i o)(_:(kk+1)^bs.length<=200)(_:nQ K H)(_:nR K H)(_:(∀cs,InB cs bs->∀c,vdm rws i o (mkg rws cs)=say c->o.1<=c/\c<=o.2))(_:(∀(r t':DF)(F:Fm SI zs.length)(H':Hp),So H H'->dI zs.length F bs->(∀cs,InB cs bs->Tel zs.length F cs (vdm rws i o (mkg rws cs)))->(∀q∈bxs zs.length F,q.2≠aR)->TF Y.q H' t' nm s!"only" ou zs dv (bX (bxs zs.length F))->TOk Y.o Y.p H' nm s!"only" ou zs dv (bX (bxs zs.length F)) bs o->H' r=JH (.tup [.str s!"made",.ref t'])->Q (.ref r) H')) (_:((∃cs,InB cs bs/\vdm rws i o (mkg rws cs)=aR)->∀(r:DF)(H':Hp),So H H'->H' r=JH (.tup [.str s!"clash",.non])->Q (.ref r) H'))
def J18(K:W.Frag):Sp:=λc H Q _=>∃(a:DF)(b:List Int),c=[.ref a]/\SqL K H a (b.map V.int)/\b.length<=63/\(∀z,W.tabIn K "row_form" = JH z->H z.2=JH (.tbl #[]))/\(∀z,W.tabIn K "verdict_form" = JH z->H z.2=JH (.tbl #[]))/\∀d,Q (.bl JJ) d
inductive gf(K:W.Frag)(Y:AD)(f c' c_0:DF)(doc pm ctv:Ct)(vs:List V)(H:Hp)(Q:VK)(e_:XK):Prop
 |mk (a t:DF)(cs:List Int)(rws:List Rw)(i:Nat)(o:Int×Int)(_:vs=[.ref a])(_:jl H f c' (W.kla_obj "<lambda>" "row_form.<locals>.<lambda>" (pQ Y77) (nO Y77) (ke Y77) [("table",c_0)] pm c' ctv) "row_form.<locals>.<lambda>" [("table",c_0)] [("table",.ref t)]) (_:Tbl Y.q Y.o Y.p H t rws i o)(_:H a=JH (.lst (cs.map V.int)))(_:(∀x∈rws,x.1.length=cs.length))(_:∀H',ar H H'->Q (.int ((msk (gR rws cs) rws.length:Nat):Int)) H')
inductive dH(K:W.Frag)(Y:AD)(f c' c_0:DF)(doc pm ctv:Ct)(vs:List V)(H:Hp)(Q:VK)(e_:XK):Prop
 |mk (m:Int)(t:DF)(rws:List Rw)(i:Nat)(o:Int×Int)(_:vs=[.int m])(_:jl H f c' (W.kla_obj "<lambda>" "verdict_form.<locals>.<lambda>" (pQ Y85) (nO Y85) (ke Y85) [("table",c_0)] pm c' ctv) "verdict_form.<locals>.<lambda>" [("table",c_0)] [("table",.ref t)]) (_:Tbl Y.q Y.o Y.p H t rws i o)(_:∀(r:DF)(H':Hp),ar H H'->Vd K H' r (vdm rws i o m)->Q (.ref r) H')
section
variable{P:Dn}{w:Cu}{K:W.Frag}{mg:Str->Option Ct}{base:DG}{f:DF}{fd:Hq}{Y:AD}
theorem D8(F:Fun K "holds" "holds" Y42 f fd) (bl:Bl K mg Y)  : aJ P w K mg base CX0 1 f fd ["spans","number"] (mM K Y):=by
 refine F.okA Z42 λD A v s H G Q E I h=>?_
 obtain⟨a,xs,k,n,rfl,y,B,q⟩:=h
 refine⟨_,(ao (bh G1.never U (aU (pv 0)) (cm U (az (ax (i:=2) Z42.nd U (Or.inl U)) (az (ax (i:=3) Z42.nd U (Or.inl U)) aV)))
  (ag (aP (hV fj fj (pv 2) (pv 1) (pv 3))
  (ag (av b8))
  aE)))
  (ag (av b8))),?_⟩
 refine⟨_,U,a,U,⟨_,y⟩,bx (xs:=xs) (λi g j=>(∃t o,g=[JH (.ref a),JH (.int n),t,o])/\j=H/\(k.take i).any (inR n)=JK) ⟨⟨_,_,U⟩,U,U⟩ (λi g j _ h=>by obtain⟨_,e,_⟩:=h;rw[e];exact y) (λi x g j e h=>?_) (λg j h=>?_)⟩
 .obtain⟨⟨t,o,rfl⟩,m,b⟩:=h;rw[m];obtain⟨p,r,l,rfl,u⟩:=B.get e;refine⟨r,_,U,SqT.of u,U,_,_,U,_,_,U,U,?_⟩;refine⟨_,U,_,U,_,_,U,U,_,U,?_⟩;refine dh (λc=>?_) (λc=>?_)
  .refine⟨_,U,_,_,U,U,_,U,?_⟩;refine dh (λd=>?_) (λd=>?_)
   .have C:inP k n=true:=si l (D1 c d);rw[C]at q;exact q
   .exact⟨⟨_,_,U⟩,U,jg l b (Cj d)⟩
  .exact⟨_,U,bp ⟨⟨_,_,U⟩,U,jg l b (Ci c)⟩⟩
 .obtain⟨⟨t,o,rfl⟩,m,b⟩:=h;rw[m];have z:inP k n=false:=by
   rw[B.length,eU]at b;exact b
  rw[z]at q;exact q
theorem Ea(F:Fun K "edges" "edges" Y38 f fd) (bl:Bl K mg Y)  : aJ P w K mg base CX0 1 f fd ["spans","low","high"] (mO K Y):=by
 refine F.okA Z38 λa2 A S s H vs Q E hr h=>?_
 obtain⟨a,xs,R,lo,hi,rfl,W,C,hl,q⟩:=h
 refine⟨_,(ao (aH (i:=3) Z38.nd U (Or.inl U) (aX af))
  (ao (bh G1.never U (aU (pv 0)) (cm U (az (ax (i:=4) Z38.nd U (Or.inl U)) (az (ax (i:=5) Z38.nd U (Or.inl U)) aV)))
  (ao (ba (gN PySem.F.plainAttrs_list PySem.F.slot_list_append PySem.F.type_list_append bL (pv 3) (aa (pv 4) af)))
  (ag (ba (gN PySem.F.plainAttrs_list PySem.F.slot_list_append PySem.F.type_list_append bL (pv 3) (aa (aw bH (pv 5) aj) af))))))
  (ag (av (fm (aU (pv 3)) (cj (N:=["turn","low","high"]) (fr:=[1,2]) (cl:=[("low",s.heap.objs.size+1),("high",s.heap.objs.size+1+1)]) U U (by decide+kernel) (by decide+kernel) U (by decide+kernel) U U U (hZ.mpr ⟨U,hZ.mpr ⟨U,jo _⟩⟩) U) U (λ_ _ _ _=>(iO (hV kY fj (pv 1) (pv 0) (pv 2)))) (λ_ _ _ _=>(pv 0))))))),?_⟩
 refine⟨(by show 0<=DO;decide),λl v=>?_⟩;have T:ar H (upd H l (.lst [])):=ai v _
 refine⟨_,U,a,U,⟨_,T.seq W⟩,bx (xs:=xs) (λi B k=>∃(L J:Option V),B=[JH (.ref a),JH (.int lo),JH (.int hi),JH (.ref l),L,J]/\ar H k/\k l=JH (.lst ((ends (R.take i)).map V.int))/\(ends (R.take i)).length<=2*i)
  ⟨JI,JI,U,T,ae,vD _⟩ (λi B k _ h=>by obtain⟨_,_,_,j,_⟩:=h;exact j.seq W) (λi x B k e h=>?_) (λB k h=>?_)⟩
 .obtain⟨L,J,rfl,j,m,z⟩:=h;obtain⟨p,r,Z,rfl,M⟩:=(C.mono j.tups).get e;have b:i<xs.length:=(GA.mp e).1;refine⟨r,_,U,SqT.of M,U,_,_,U,_,_,U,U,?_⟩;refine⟨_,U,.inl ⟨U,_,SqL.of m⟩,_,U,l,_,_,U,U,m,aD (by rw[bo];lia),?_⟩;refine⟨_,U,.inl ⟨U,_,SqL.of ae⟩,_,U,_,_,U,U,l,_,_,U,U,ae,aD (by rw[dg,bo,hQ];lia),?_⟩;rw[xV];refine⟨_,_,U,j.upd v,?_,?_⟩
  .rw[ae,take_snoc Z,oy];simp
  .rw[take_snoc Z,oy,dg];simp;lia
 .obtain⟨L,J,rfl,j,m,z⟩:=h;rw[C.length,eU]at m z
  refine⟨_,U,l,U,⟨_,SqL.of m⟩,cY (xs:=(ends R).map V.int) (λD i zs d=>ar k d/\d D=JH (.lst zs)/\zs=(((ends R).take i).filter (λt=>decide (lo<t) && decide (t<=hi))).map V.int/\zs.length<=i)
   (λD n=>⟨ai n _,ae,U,vI _⟩) (λD i zs d n _ h=>SqL.of (h.1 _ _ m)) (λD i x zs d n e h=>?_) (λD zs d n h=>?_)⟩
  .obtain⟨g,u,o,O⟩:=h;obtain⟨c,rfl,X⟩:=of_map e;have b:i<((ends R).map V.int).length:=(GA.mp e).1;have a1:i<(ends R).length:=by rw[bo]at b;exact b
   have y:(JL (lo<c) && decide (c<=hi))=JK->dC (λD i zs d=>ar k d/\d D=JH (.lst zs)/\zs=(((ends R).take i).filter (λt=>decide (lo<t) && decide (t<=hi))).map V.int/\zs.length<=i) D i ((ends R).map V.int).length d:=λhf=>by
    refine dC.mk (zs:=zs) b ⟨g,u,?_,by lia⟩;rw[take_snoc X,lq,List.filter_cons_of_neg (by simpa using hf)];simpa using o
   refine⟨_,U,_,U,_,_,U,U,_,U,?_⟩;refine dh (λI=>?_) (λI=>?_)
   .refine⟨_,U,_,_,U,U,_,U,?_⟩;refine dh (λG=>?_) (λG=>y (by rw[zD.mpr G,Bool.and_false]));have a0:=C.length;refine⟨_,U,cQ.mk b u (aD (by lia)) ⟨g.upd n,ae,?_,by rw[dg,hQ];lia⟩⟩;rw[take_snoc X,lq,rm (by rw[I,G];rfl),o];simp
   .exact⟨_,U,bp (y (by rw[zD.mpr I,Bool.false_and]))⟩
  .obtain⟨g,u,o,O⟩:=h;rw[bo,eU]at o;rw[o]at u;exact q D d _ (j.trans g) (j.free n) u U
theorem Eb(F:Fun K "stretches" "stretches" Y81 f fd) (bl:Bl K mg Y)  : aJ P w K mg base CX0 1 f fd ["low","high","marks"] (gB K Y):=by
 refine F.okA Z82 λb4 A b1 s H vs Q E hr h=>?_
 obtain⟨a,n,L,lo,hi,rfl,hS,hl,hL,j4,q⟩:=h
 refine⟨_,(ao (aH (i:=3) Z82.nd U (Or.inl U) (au (fX (w:=w) U U) U bl.sorted_ PyProof.Rows.boot_sorted (aa (ck (oP (w:=w) U U) U bl.set_ PyProof.Rows.boot_set (aa (fm (aU (pv 2)) (cj (N:=["mark","low","high"]) (fr:=[0,1]) (cl:=[("low",s.heap.objs.size+1),("high",s.heap.objs.size+1+1)]) U U (by decide+kernel) (by decide+kernel) U (by decide+kernel) U U U (hZ.mpr ⟨U,hZ.mpr ⟨U,jo _⟩⟩) U) U (λ_ _ _ _=>(iO (hV kY fj (pv 1) (pv 0) (pv 2)))) (λ_ _ _ _=>(pv 0))) af)) af)))
  (ao (aH (i:=4) Z82.nd U (Or.inl U) (aw jt (aX (aa (pv 0) af)) (pv 3)))
  (ao (aH (i:=5) Z82.nd U (Or.inl U) (aw jt (fm (aU (pv 3)) (fk U (by decide+kernel) (by decide+kernel) (by decide+kernel) U) U (λ_ _ _ _=>bQ) (λ_ _ _ _=>(aw d9 (pv 0) aj))) (aX (aa (pv 1) af))))
  (ag (av (sM U U bl.list_ U bl.zip_ (aa (pv 4) (aa (pv 5) af)))))))),?_⟩
 refine⟨_,U,a,U,⟨_,hS⟩,cY (xs:=n.map V.int) (λD i zs g=>ar H g/\g D=JH (.lst zs)/\zs=((n.take i).filter (λt=>decide (lo<t) && decide (t<=hi))).map V.int/\zs.length<=i)
  (λD m=>⟨ai m _,ae,U,vI _⟩) (λD i zs g m _ h=>h.1.seq hS) (λD i x zs g m e h=>?_) (λD zs g m h=>?_)⟩
 .obtain⟨r,B,y,R⟩:=h;obtain⟨c,rfl,ec⟩:=of_map e;have d:i<(n.map V.int).length:=(GA.mp e).1;have a6:i<n.length:=by rw[bo]at d;exact d
  have O:(JL (lo<c) && decide (c<=hi))=JK->dC (λD i zs g=>ar H g/\g D=JH (.lst zs)/\zs=((n.take i).filter (λt=>decide (lo<t) && decide (t<=hi))).map V.int/\zs.length<=i) D i (n.map V.int).length g:=λhf=>by
   refine dC.mk (zs:=zs) d ⟨r,B,?_,by lia⟩;rw[take_snoc ec,lq,List.filter_cons_of_neg (by simpa using hf)];simpa using y
  refine⟨_,U,_,U,_,_,U,U,_,U,?_⟩;refine dh (λg1=>?_) (λg1=>?_)
  .refine⟨_,U,_,_,U,U,_,U,?_⟩;refine dh (λg2=>?_) (λg2=>O (by rw[zD.mpr g2,Bool.and_false]));refine⟨_,U,cQ.mk d B (aD (by lia)) ⟨r.upd m,ae,?_,by rw[dg,hQ];lia⟩⟩;rw[take_snoc ec,lq,rm (by rw[g1,g2];rfl),y];simp
  .exact⟨_,U,bp (O (by rw[zD.mpr g1,Bool.false_and]))⟩
 .obtain⟨s2,B,y,R⟩:=h;rw[bo]at R y;rw[eU]at y;rw[y]at B;generalize S:n.filter (λt=>decide (lo<t) && decide (t<=hi))=ks at B y;have kd:∀c,c∈ks↔(c∈n/\lo<c/\c<=hi):=λc=>by rw[←S,kl];simp
  have b3:ks.length<=n.length:=by rw[←S];exact ov ..
  refine⟨D,ks,U,SqL.of B,by lia,λl a5=>?_⟩;have s3:ar H (upd g l (sL w l ks)):=s2.trans (ai a5 _);refine⟨l,ks,L,U,ae,hL,λk hk=>let ⟨a1,a2,a3⟩:=(kd k).mp hk;j4 k a1 a2 a3,λC b a9 pw G=>?_⟩;have s4:=s3.trans (ai a9 (.lst (b.map V.int)));have e4:upd (upd g l (sL w l ks)) C (.lst (b.map V.int)) C=JH (.lst (b.map V.int)):=ae;generalize upd (upd g l (sL w l ks)) C (.lst (b.map V.int))=H3 at s4 e4⊢;have a7:b.length<64:=Nat.lt_of_le_of_lt (bK (pw.imp λh=>Int.ne_of_lt h) λk hk=>let ⟨a1,a2,a3⟩:=(kd k).mp ((G k).mp hk);j4 k a1 a2 a3) hL;refine⟨_,U,(by show 1<=DO;decide),λt1 M=>?_⟩;have e5:=bR (o:=.lst [.int lo]) e4 M;have s5:=s4.trans (ai M (.lst [.int lo]));refine⟨_,U,t1,C,_,_,U,U,ae,e5,v5 (aD (by rw[bo];show 1+b.length<=1000;lia)),λZ J=>?_⟩;have e6:=bR (o:=.lst ([V.int lo]++b.map V.int)) e5 J;have s6:=s5.trans (ai J (.lst ([V.int lo]++b.map V.int)));have e7:upd (upd H3 t1 (.lst [.int lo])) Z (.lst ([V.int lo]++b.map V.int)) Z=JH (.lst ([V.int lo]++b.map V.int)):=ae;generalize upd (upd H3 t1 (.lst [.int lo])) Z (.lst ([V.int lo]++b.map V.int))=H4 at s6 e6 e7⊢
  refine⟨_,U,C,U,⟨_,SqL.of e6⟩,cY (xs:=b.map V.int) (λD i zs z=>ar H4 z/\z D=JH (.lst zs)/\zs=((b.take i).map (· - 1)).map V.int/\zs.length<=i)
   (λD m=>⟨ai m _,ae,U,vI _⟩) (λD i zs z m _ h=>SqL.of (h.1 _ _ e6)) (λD i x zs z m e h=>?_) (λD zs z m h=>?_)⟩
  .obtain⟨r,v,u,Ec⟩:=h;obtain⟨c,rfl,ec⟩:=of_map e;have d:i<(b.map V.int).length:=(GA.mp e).1;have a6:i<b.length:=by rw[bo]at d;exact d
   refine⟨_,U,_,_,U,U,cQ.mk d v (aD (by lia)) ⟨r.upd m,ae,?_,by rw[dg,hQ];lia⟩⟩;rw[take_snoc ec,fF,fF,u];rfl
  .obtain⟨a0,v,u,Ec⟩:=h;rw[bo,eU]at u;rw[u]at v;refine⟨_,U,(by show 1<=DO;decide),λt3 I=>?_⟩;have s7:=a0.trans (ai I (.lst [.int hi]));refine⟨D,t3,_,_,U,U,bR v I,ae,v5 (aD (by rw[bo,bo];show b.length+1<=1000;lia)),λX a4=>?_⟩;have s8:=s7.trans (ai a4 (.lst ((b.map (· - 1)).map V.int++[.int hi])));have e8:upd (upd z t3 (.lst [.int hi])) X (.lst ((b.map (· - 1)).map V.int++[.int hi])) X=JH (.lst ((b.map (· - 1)).map V.int++[.int hi])):=ae;generalize upd (upd z t3 (.lst [.int hi])) X (.lst ((b.map (· - 1)).map V.int++[.int hi]))=H6 at s8 e8⊢;have e9:=s8 _ _ e7;refine⟨_,U,_,U,Z,X,(lo :: b).map V.int,(b.map (· - 1)++[hi]).map V.int,U,SqL.of e9,by rw[fF];exact SqL.of e8,λD9 ts H9 W k9 a8 b0 f9=>?_⟩;have s9:ar H H9:=(s6.trans s8).trans λc o e=>k9 c o e
   refine q D9 H9 b (ts.map V.ref) s9 ((s6.trans s8).free a8) b0 (PL.of_get (by rw[W,iu];simp) λj p hj=>?_) pw (λc=>(G c).trans (kd c)) a7;obtain⟨z1,z2⟩:=zip_get hj;obtain⟨T,h1,_,h2⟩:=f9 j _ _ z1 z2;exact⟨T,h1,h2⟩
theorem Ed(F:Fun K "closed" "closed" Y35 f fd) (bl:Bl K mg Y)  : aJ P w K mg base CX0 1 f fd ["triples"] (iW K Y):=by
 refine F.okA Z35 λa7 A a5 s H vs Q E hr h=>?_
 obtain⟨L,iL,A,n,a,xs,o,rfl,hn,ha,W,hl,q⟩:=h
 refine⟨_,(ao (aH (i:=1) Z35.nd U (Or.inl U) (aX af))
  (ao (bh G1.never U (aU (pv 0)) (cm U (az (ax (i:=2) Z35.nd U (Or.inl U)) (az (ax (i:=3) Z35.nd U (Or.inl U)) (az (ax (i:=4) Z35.nd U (Or.inl U)) aV))))
  (ag (aP (PW.pt (gm (c0 (pv 1) (by intro _;rfl)) (dX (aG (AW hr) (aK bj (aK aQ (pv 1) (kX hU aj) (λ_ _=>U)) aj (λ_ _=>U)) (pv 4) (aI _)))))
  (ag (rM (aZ (aa (aK bj (aK aQ (pv 1) (kX hU aj) (λ_ _=>U)) aj (λ_ _=>U)) (aa (pv 3) (aa (pv 4) af)))) (rL (pv 1) (kX hU aj) set_list)))
  (ag (ba (gN PySem.F.plainAttrs_list PySem.F.slot_list_append PySem.F.type_list_append bL (pv 1) (aa (aZ (aa (pv 2) (aa (pv 3) (aa (pv 4) af)))) af)))))))
  (ag (av (ck nE U bl.tuple_ PyProof.Rows.boot_tuple (aa (pv 1) af)))))),?_⟩
 refine⟨(by show 0<=DO;decide),λl B=>?_⟩;have s0:ar H (upd H l (.lst [])):=ai B _
 refine⟨_,U,a,U,⟨_,SqL.of (s0 _ _ ha)⟩,bx (xs:=xs) (λi S g=>ar H g/\∃(c:List V)(N M J:Option V),g l=JH (.lst c)/\FmL (FmV A g n) g ((o.take i).foldl cJ []) c/\c.length<=i/\S=[JH (.ref a),JH (.ref l),N,M,J])
  ⟨s0,[],JI,JI,JI,ae,FmL.nil,vI _,U⟩ (λi S g _ h=>SqL.of (h.1 _ _ ha)) (λi y S g e h=>?_) (λS g h=>?_)⟩
 .obtain⟨C,c,N,M,J,m,p,O,rfl⟩:=h;have hi:i<xs.length:=(GA.mp e).1;obtain⟨t,et⟩:∃t,o[i]?=JH t:=⟨_,Gz (by rw[←W.1];exact hi)⟩;obtain⟨r,u,ex,er,hu⟩:=W.2 i t et;rw[e]at ex;cases ex;have a4:=C _ _ er;have x:=FmV.mono C.tups hu;have CC:(o.take (i+1)).foldl cJ []=cJ ((o.take i).foldl cJ []) t:=by rw[take_snoc et,List.foldl_append];rfl
  rw[CC];generalize (o.take i).foldl cJ []=F at p;have a6:i<900:=by have:=W.1;lia
  refine⟨r,_,U,SqT.of a4,U,_,_,U,_,_,U,_,_,U,U,?_⟩
  have put:cJ F t=F++[t]->∀b,g b=JI->ar H (upd (upd g b (.tup [.int t.1,.int t.2.1,u])) l (.lst (c++[.ref b])))/\∃(v:List V)(N M J:Option V),upd (upd g b (.tup [.int t.1,.int t.2.1,u])) l (.lst (c++[.ref b])) l=JH (.lst v) /\
    FmL (FmV A (upd (upd g b (.tup [.int t.1,.int t.2.1,u])) l (.lst (c++[.ref b]))) n) (upd (upd g b (.tup [.int t.1,.int t.2.1,u])) l (.lst (c++[.ref b]))) (cJ F t) v/\v.length<=i+1/\[JH (V.ref a),JH (V.ref l),JH (V.int t.1),JH (V.int t.2.1),JH u]=[JH (.ref a),JH (.ref l),N,M,J]:=λI b j=>by
   have D:upd g b (.tup [.int t.1,.int t.2.1,u]) l=JH (.lst c):=bR m j;have k:cg g (upd (upd g b (.tup [.int t.1,.int t.2.1,u])) l (.lst (c++[.ref b]))):=(iN j).trans (aY D);refine⟨(C.trans (ai j _)).upd B,c++[.ref b],_,_,_,ae,?_,by rw[dg,hQ];lia,U⟩;rw[I];exact(p.mono (λ_ _ q=>FmV.mono k q) k).snoc (aY D _ _ ae) (FmV.mono k x)
  refine⟨_,U,!c.isEmpty,.inl ⟨c,SqL.of m,U⟩,?_⟩;rcases ny F with X|⟨Z,lt,X⟩
  .subst X;have a0:c=[]:=List.eq_nil_of_length_eq_zero p.1;have eE:(!c.isEmpty)=false:=by rw[a0];rfl
   rw[eE];refine bp (bp ?_);refine⟨_,U,.inl ⟨U,_,SqL.of m⟩,_,U,_,U,_,U,(by show 3<=DO;decide),λb j=>?_⟩;refine⟨l,c,_,U,U,bR m j,aD (by lia),?_⟩;exact put U b j
  .rw[nB]at X;subst X;obtain⟨G,T,ul,rfl,hy,R,a2⟩:=p.init;have eE:(!(G++[V.ref T]).isEmpty)=true:=by cases G <;> rfl
   rw[eE];refine cZ ?_;refine⟨_,U,_,U,l,_,_,_,U,U,SqL.of m,hX _ _,T,_,_,_,U,U,SqT.of R,U,_,U,λa3=>FmV.eq_to (by lia) a2 x ?_ a3⟩;refine⟨_,U,?_⟩;refine dh (λd=>?_) (λd=>?_)
   .have d':lt.2.2=t.2.2:=lU d;have I:cJ (Z++[lt]) t=Z++[(lt.1,t.2.1,t.2.2)]:=by
     unfold cJ;rw[List.getLast?_concat];simp only;rw[JO d',List.dropLast_concat]
    refine⟨_,U,_,U,l,_,_,_,U,U,SqL.of m,hX _ _,T,_,_,_,U,U,SqT.of R,U,_,U,_,U,(by show 3<=DO;decide),λb j=>?_⟩;have D:upd g b (.tup [.int lt.1,.int t.2.1,u]) l=JH (.lst (G++[.ref T])):=bR m j;refine⟨_,U,_,U,l,_,_,_,U,U,D,qR (by simp),?_⟩;rw[qS];have k:cg g (upd (upd g b (.tup [.int lt.1,.int t.2.1,u])) l (.lst (G++[.ref b]))):=(iN j).trans (aY D);refine⟨(C.trans (ai j _)).upd B,G++[.ref b],_,_,_,ae,?_,by rw[dg,hQ]at O⊢;lia,U⟩;rw[I];exact(hy.mono (λ_ _ q=>FmV.mono k q) k).snoc (t:=(lt.1,t.2.1,t.2.2)) (aY D _ _ ae) (FmV.mono k x)
   .have d':lt.2.2≠t.2.2:=tV d;have I:cJ (Z++[lt]) t=Z++[lt]++[t]:=by
     unfold cJ;rw[List.getLast?_concat];simp only;rw[JN d']
    refine⟨_,U,.inl ⟨U,_,SqL.of m⟩,_,U,_,U,_,U,(by show 3<=DO;decide),λb j=>?_⟩;refine⟨l,_,_,U,U,bR m j,aD (by lia),?_⟩;exact put I b j
 .obtain⟨C,c,N,M,J,m,p,O,rfl⟩:=h;have a1:FmL (FmV A g n) g (gz o) c:=by
   have e:o.take xs.length=o:=by rw[W.1];exact eU
   rw[e]at p;exact p
  refine⟨_,U,l,c,U,.inl ⟨SqL.of m,λb j=>?_⟩⟩;have st:=ai j (.tup c);exact q b _ (C.trans st) ⟨b,c,U,ae,a1.mono (λ_ _ z=>FmV.mono st.tups z) st.tups⟩
theorem Ee(F:Fun K "gathered" "gathered" Y40 f fd) (bl:Bl K mg Y)  : aJ P w K mg base CX0 1 f fd ["lists"] (iw K Y):=by
 refine F.okA Z40 λa1 A C s H vs Q E I h=>?_
 obtain⟨a,as,b,L,rfl,M,g,O,T,S,q⟩:=h
 refine⟨_,(ao (aH (i:=1) Z40.nd U (Or.inl U) (aX af))
  (ao (bh G1.never U (aU (pv 0)) (ax (i:=2) Z40.nd U (Or.inl U))
  (ag (ba (gN PySem.F.plainAttrs_list PySem.F.slot_list_extend PySem.F.type_list_extend uL (pv 1) (aa (pv 2) af)))))
  (ag (av (au (fX (w:=w) U U) U bl.sorted_ PyProof.Rows.boot_sorted (aa (ck (oP (w:=w) U U) U bl.set_ PyProof.Rows.boot_set (aa (pv 1) af)) af)))))),?_⟩
 refine⟨(by show 0<=DO;decide),λd m=>?_⟩;have t:ar H (upd H d (.lst [])):=ai m _;have N:upd H d (.lst []) d=JH (.lst [] ):=ae;generalize upd H d (.lst [])=H0 at t N⊢;have G:∀(A:List (List Int))(x:List Int),(A++[x]).flatten=A.flatten++x:=λA x=>by rw[List.flatten_append];simp
 refine⟨_,U,a,U,⟨_,SqL.of (t _ _ M)⟩,bx (xs:=as.map V.ref) (λi p k=>ar H k/\k d=JH (.lst ((b.take i).flatten.map V.int))/\∃v:Option V,p=[JH (.ref a),JH (.ref d),v]) ⟨t,N,_,U⟩ (λi p k _ h=>SqL.of (h.1 _ _ M)) (λi y p k e h=>?_) (λp k h=>?_)⟩
 .obtain⟨j,c,v,rfl⟩:=h;obtain⟨r,rfl,J⟩:=xi e;obtain⟨xs,u⟩:∃xs,b[i]?=JH xs:=⟨_,Gz (by rw[←g.1];exact(GA.mp J).1)⟩;obtain⟨r',o,I⟩:=g.2 i xs u;rw[J]at o;cases o;have a0:(b.take i).flatten.length+xs.length<=1000:=by
   have X:b.flatten=(b.take (i+1)).flatten++(b.drop (i+1)).flatten:=by rw[←List.flatten_append,List.take_append_drop]
   have W:((b.take (i+1)).flatten).length<=b.flatten.length:=by rw[X,dg];lia
   rw[take_snoc u,G,dg]at W;lia
  refine⟨_,U,.inl ⟨U,_,SqL.of c⟩,_,U,d,r,_,_,U,U,c,j _ _ I,v5 (aD (by rw[bo,bo];lia)),j.upd m,?_,_,U⟩;rw[ae,take_snoc u,G,fF]
 .obtain⟨j,c,v,rfl⟩:=h;rw[bo,g.1,eU]at c;refine⟨_,U,d,b.flatten,U,SqL.of c,(by lia),λl B=>?_⟩;have D:=ai B (sL w l b.flatten);refine⟨l,b.flatten,L,U,ae,T,S,λD2 Z n R z=>?_⟩;exact q D2 Z _ ((j.trans D).trans (ai n _)) (j.free (D.free n)) ae R z
theorem Ef(F:Fun K "all_among" "all_among" Y32 f fd) (bl:Bl K mg Y)  : aJ P w K mg base CX0 1 f fd ["text","signs"] (gC K Y):=by
 refine F.okA Z32 λo A m s H p Q E r h=>?_
 obtain⟨z,g,rfl,q⟩:=h
 refine⟨_,(ao (bh G1.never U (AG (pv 0)) (ax (i:=2) Z32.nd U (Or.inl U))
  (ag (aP (aG pC (pv 2) (pv 1) (by with_unfolding_all rfl))
  (ag (av b8))
  aE)))
  (ag (av b8))),?_⟩
 refine⟨_,U,z,U,yj (λi a l=>(∃k:Option V,a=[JH (.str z),JH (.str g),k])/\l=H/\(z.cps.toList.take i).all (sg g)=JJ) ⟨⟨_,U⟩,U,U⟩ (λi c a l e h=>?_) (λa l h=>?_)⟩
 .obtain⟨⟨k,rfl⟩,j,b⟩:=h;rw[j];refine⟨_,U,_,U,_,_,U,U,_,U,?_⟩;refine dh (λd=>?_) (λd=>?_)
  .have n:l7 z g=false:=AZ e (A1 d);rw[n]at q;exact q
  .exact⟨⟨_,U⟩,U,all_succ e (Ck d) b⟩
 .obtain⟨⟨k,rfl⟩,j,b⟩:=h;rw[j];rw[xc b]at q;exact q
theorem Eg(F:Fun K "is_whole" "is_whole" Y43 f fd) (bl:Bl K mg Y)  : aJ P w K mg base CX0 1 f fd ["value"] (fB K Y):=by
 refine F.okA Z43 λb A a s H c Q E d h=>?_
 obtain⟨i,rfl,q⟩:=h;refine⟨_,(ag (av (gZ (au bC U bl.isinstance_ PyProof.Rows.boot_isinstance (aa (pv 0) (aa (dW (v:=.ty "int") U bl.int_ PyProof.Rows.boot_int U) af))) (kx (vP (au bC U bl.isinstance_ PyProof.Rows.boot_isinstance (aa (pv 0) (aa (dW (v:=.ty "bool") U bl.bool_ PyProof.Rows.boot_bool U) af)))))))),?_⟩;exact⟨_,U,_,_,_,_,JJ,U,.ty _,.inl (.int _),(by first|rfl|with_unfolding_all rfl|decide+kernel),_,U,cZ ⟨_,U,_,_,_,_,JK,U,.ty _,.inl (.int _),(by first|rfl|with_unfolding_all rfl|decide+kernel),_,U,q⟩⟩
theorem Eh(F:Fun K "alike" "alike" Y31 f fd) (bl:Bl K mg Y)  : aJ P w K mg base CX0 1 f fd ["one","other"] (mP K Y):=by
 refine F.okA Z31 λO A m s H R Q E L h=>?_
 obtain⟨a,b,c,rfl,M,y,q⟩:=h
 refine⟨_,(ao (aP (PW.pt (gm (bG (au bC U bl.isinstance_ PyProof.Rows.boot_isinstance (aa (pv 0) (aa (bz (v:=.ref Y.o) U bl.Numbers_ U) af)))) (dX (bG (au bC U bl.isinstance_ PyProof.Rows.boot_isinstance (aa (pv 1) (aa (bz (v:=.ref Y.o) U bl.Numbers_ U) af)))))))
  (ag (av (gZ (dY cc (aN (pv 0) U) (aN (pv 1) U) (aI _)) (kx (dY cc (aN (pv 0) U) (aN (pv 1) U) (aI _))))))
  aE)
  (ao (aP (PW.pt (gm (bG (au bC U bl.isinstance_ PyProof.Rows.boot_isinstance (aa (pv 0) (aa (bz (v:=.ref Y.p) U bl.Words_ U) af)))) (dX (bG (au bC U bl.isinstance_ PyProof.Rows.boot_isinstance (aa (pv 1) (aa (bz (v:=.ref Y.p) U bl.Words_ U) af)))))))
  (ag (av (dY (sh L) (aN (pv 0) U) (aN (pv 1) U) (aI _))))
  aE)
  (ag (av b8)))),?_⟩
 rcases M with⟨i,N,fs,e,u,t,I⟩|⟨i,N,fs,l,e,u,t,I,G,D⟩
 .rcases y with⟨d,k,j,g,r,n,C⟩|⟨d,_⟩
  .refine⟨_,U,_,_,_,_,JJ,U,.ref _,bl.t_Numbers.ty e,bl.f_nn,_,U,cZ ?_⟩;refine⟨_,U,_,_,_,_,JJ,U,.ref _,bl.t_Numbers.ty g,bl.f_nn,_,U,cZ ?_⟩;refine⟨_,U,a,_,_,_,_,U,e,bl.k_Numbers,bl.na_Numbers_low,u,_,U,b,_,_,_,_,U,g,bl.k_Numbers,bl.na_Numbers_low,r,U,_,U,dD U ?_⟩;refine⟨_,U,a,_,_,_,_,U,e,bl.k_Numbers,bl.na_Numbers_high,t,_,U,b,_,_,_,_,U,g,bl.k_Numbers,bl.na_Numbers_high,n,U,?_⟩;rw[JQ U];exact q
  .rw[i]at d;cases d
 .rcases y with⟨d,_⟩|⟨d,k,j,S,g,r,n,C,B,z⟩
  .rw[i]at d;cases d
  .refine⟨_,U,_,_,_,_,JK,U,.ref _,bl.t_Words.ty e,bl.f_wn,_,U,bp (bp ?_)⟩;refine⟨_,U,_,_,_,_,JJ,U,.ref _,bl.t_Words.ty e,bl.f_ww,_,U,cZ ?_⟩;refine⟨_,U,_,_,_,_,JJ,U,.ref _,bl.t_Words.ty g,bl.f_ww,_,U,cZ ?_⟩;refine⟨_,U,a,_,_,_,_,U,e,bl.k_Words,bl.na_Words_words,G,_,U,b,_,_,_,_,U,g,bl.k_Words,bl.na_Words_words,B,?_⟩;exact ve (SqL.of D) (SqL.of z) (λx J=>.inl (ik.mp (oU _) x J)) q
theorem Ei(F:Fun K "refuse_counts" "refuse_counts" Y73 f fd) (bl:Bl K mg Y)  : aJ P w K mg base CX0 1 f fd ["names","rows"] (dz K Y):=by
 refine F.okA Z73 λe A a s H i Q E k h=>?_
 obtain⟨p,r,b,g,rfl,d,c,m,l,j,q⟩:=h
 refine⟨_,(ao (aP (bM (hV fj fj aj (au aC U bl.len_ JG (aa (pv 0) af)) (oz U bl.MOST_COLUMNS_)))
  (ag bV)
  aE)
  (ag (aP (aG gM (au aC U bl.len_ JG (aa (pv 1) af)) (oz U bl.MOST_ROWS_) (aI _))
  (ag bV)
  aE))),?_⟩
 refine⟨_,U,p,_,U,.inl (d),_,_,U,U,_,U,dD (by lia) ?_⟩;refine⟨_,_,U,U,_,U,?_⟩;rw[JQ (show((b.length:Nat):Int)<=4 by lia)];refine bp ?_;exact⟨_,U,r,_,U,.inl (c),_,_,U,U,_,U,br (by lia) q⟩
theorem Ej(F:Fun K "own_row" "own_row" Y71 f fd) (bl:Bl K mg Y)  : aJ P w K mg base CX0 1 f fd ["cells","code"] (jy K Y):=by
 refine F.okA Z71 λT A y s H V Q E X h=>?_
 obtain⟨S,xs,G,rfl,B,t,Z,q⟩:=h;refine⟨_,(ag (av (aZ (aa (fm (aU (pv 0)) (fk U (by decide+kernel) (by decide+kernel) (by decide+kernel) U) U (λ_ _ _ _=>bQ) (λ_ _ _ _=>(ck (nK (K:=K) U) U bl.list_ PyProof.Rows.boot_list (aa (pv 0) af)))) (aa (pv 1) af))))),?_⟩
 refine⟨_,U,S,U,⟨_,SqL.of B⟩,cY (xs:=xs) (λD i g d=>ar H d/\d D=JH (.lst g)/\CL (Fr H D) d g (G.1.take i))
  (λD m=>⟨ai m _,ae,aF.nil⟩) (λD i g d m _ h=>SqL.of (h.1 _ _ B)) (λD i x g d m e h=>?_) (λD g d m h=>?_)⟩
 .obtain⟨k,u,p⟩:=h;obtain⟨l,W,rfl,O,M⟩:=aF.get t e;obtain⟨_,n,R,L⟩:=M.same k;have hi:i<xs.length:=(GA.mp e).1;have v:g.length<DO:=by
   have N:=p.1;rw[iD]at N;exact aD (by lia)
  refine⟨_,U,l,_,U,.inl (SqL.of R),λo c=>?_⟩;have s2:=ai c (.lst n);have C:upd d o (.lst n) o=JH (.lst n):=ae;have j:=s2 _ _ u;generalize upd d o (.lst n)=H2 at s2 C j⊢;have J:H o=none:=k.free c;have I:o≠D:=λz=>by rw[z,u]at c;cases c
  refine cQ.mk hi j v ⟨(k.trans s2).upd m,ae,?_⟩;rw[take_snoc O];exact CL.updN (aF.snoc (p.same s2) ⟨⟨J,I⟩,n,C,L.mono s2.tups⟩) Fr.out j
 .obtain⟨k,u,p⟩:=h;rw[t.1,eU]at p;refine⟨_,U,bu,λr b=>q r _ (k.trans (ai b _)) (k.free b) ⟨D,g,ae,m,ai b _ _ _ u,?_⟩⟩;exact(p.same (ai b _)).wk λa h=>h.1
theorem Ek(F:Fun K "table_bounds" "table_bounds" Y82 f fd) (bl:Bl K mg Y)  : aJ P w K mg base CX0 1 f fd ["table"] (dM K Y):=by
 refine F.okA Z83 λa1 A I s H vs Q E hr h=>?_
 obtain⟨t,x,bs,W,rfl,⟨rl,dx,V,fs,xs,M,f1,S,p,o,Z,hR⟩,hb,q⟩:=h;refine⟨_,(ag (av (fm (aU (aN (pv 0) U)) (fk U (by decide+kernel) (by decide+kernel) (by decide+kernel) U) U (λ_ _ _ _=>bQ) (λ_ _ _ _=>(aZ (aa (lI (K:=K) U (pv 0) U) (aa (lI (K:=K) U (pv 0) U) af))))))),?_⟩;have G:x.length=bs.length:=o.1;refine⟨_,U,t,_,_,_,_,U,M,bl.k_Table,bl.na_Table_domains,S,V,U,⟨_,SqL.of p⟩,cY (xs:=x) (λD i j c=>ar H c/\c D=JH (.lst j)/\PL c j (bs.take i)) (λD k=>⟨ai k _,ae,.nil⟩) (λD i j c k _ h=>SqL.of (h.1 _ _ p)) (λD i y j c k e h=>?_) (λD j c k h=>?_)⟩
 .obtain⟨l,v,m⟩:=h;obtain⟨a,b,rfl,T,C,N,a0,X,J,R,O,_⟩:=aF.get o e;have hi:i<x.length:=(GA.mp e).1;have u:Cls K C/\NoAttr K C s!"low"/\NoAttr K C s!"high":=by
   rcases N with rfl|rfl
   .exact⟨bl.k_Numbers,bl.na_Numbers_low,bl.na_Numbers_high⟩
   .exact⟨bl.k_Words,bl.na_Words_low,bl.na_Words_high⟩
  refine⟨_,U,a,_,_,_,_,U,l _ _ J,u.1,u.2.1,R,_,U,a,_,_,_,_,U,l _ _ J,u.1,u.2.2,O,bu,λg B=>?_⟩;have r:=ai B (.tup [.int b.1,.int b.2]);have L:upd c g (.tup [.int b.1,.int b.2]) g=JH (.tup [.int b.1,.int b.2]):=ae;have d:=r _ _ v;have n:=m.mono r.tups;generalize upd c g (.tup [.int b.1,.int b.2])=H4 at r L d n⊢;have z:=m.length;rw[iD]at z;refine cQ.mk hi d (aD (by lia)) ⟨(l.trans r).upd k,ae,?_⟩;rw[take_snoc T];exact(n.mono (aY d)).snoc (aY d _ _ L)
 .obtain⟨l,v,m⟩:=h;rw[G,eU]at m;exact q D j c l k v m
theorem El(F:Fun K "_law_cell_at" "_law_cell_at" Y51 f fd) (bl:Bl K mg Y)  : aJ P w K mg base CX0 1 f fd ["script","k"] (eO K Y):=by
 refine F.okA Z51 λl A d s H m Q E n h=>?_
 obtain⟨a,b,k,rfl,e,o,q⟩:=h
 refine⟨_,(ao (aP (aG kY (pv 1) (au aC U bl.len_ JG (aa (pv 0) af)) (aI _))
  (ag (av (aK aQ (pv 0) (pv 1) (λ_ _=>U))))
  aE)
  (ag (av aj))),?_⟩
 refine⟨_,U,_,U,a,_,U,.inl e,_,_,U,U,_,U,?_⟩;refine dh (λc=>?_) (λc=>?_)
 .have j:k<(((b.map V.int).length:Nat):Int):=lU c;rw[bo]at j;have i:k.toNat<b.length:=by lia
  have g:atI (b.map V.int) k=JH (.int b[k.toNat]):=by
   have z:atI (b.map V.int) ((k.toNat:Nat):Int)=JH (.int b[k.toNat]):=cw (by rw[eR,Gz i];rfl);rw[show((k.toNat:Nat):Int)=k by lia]at z;exact z
  exact⟨_,U,_,U,a,_,_,_,U,U,e,g,q _⟩
 .exact q 0
theorem Em(F:Fun K "_law_mixed" "_law_mixed" Y58 f fd) (bl:Bl K mg Y)  : aJ P w K mg base CX0 1 f fd ["cell","k"] (cI K Y):=by
 refine F.okA Z58 λD A l s H I Q E L h=>?_
 obtain⟨c,k,rfl,v,u,q⟩:=h
 refine⟨_,(aL (aH (i:=2) Z58.nd U (Or.inl U) (aw tY (aw bH (aw aW (pv 0) (aw kB aj aj)) aj) (aw bH aj (aw pq (aw pq aj (pv 1)) (pv 1)))))
  (aL (aH (i:=2) Z58.nd U (Or.inl U) (aw bH (pv 2) (aw pq aj (pv 1))))
  (ag (av (aw aW (aw tY (pv 2) (pv 2)) (aw bH (aw kB aj aj) aj)))))),?_⟩
 have S:=zi c (Int.ne_of_gt (p10 (60:Int).toNat));have R:=zh c (p10 (60:Int).toNat);have C:(10:Int)^(60:Int).toNat<2^200:=by decide
 have J:0<=2*k*k/\2*k*k<=20000:=by
  have z1:0<=2*k:=by lia
  have o:=Int.mul_nonneg z1 v;have G:2*k*k<=2*k*100:=Int.mul_le_mul_of_nonneg_left u z1;lia
 refine⟨λa j=>j=H/\∃b:Int,0<=b/\b<2^400/\a=[JH (.int c),JH (.int k),JH (.int b)],?_,?_⟩
 .have r:0<=c%10^(60:Int).toNat+1/\c%10^(60:Int).toNat+1<=2^200:=⟨by lia,by lia⟩;have g:0<=31415926535897932384626433832795028841971+2*k*k/\31415926535897932384626433832795028841971+2*k*k<2^140:=by
   have:(31415926535897932384626433832795028841971:Int)+20000<2^140:=by decide
   lia
  have d:Hc (c%10^(60:Int).toNat+1) (31415926535897932384626433832795028841971+2*k*k):=by
   refine qK (m:=201) (n:=140) ?_ ?_ (by decide) (by decide)
   .have:(2:Int)^200<((2^201:Nat):Int):=by decide
    lia
   .have:(2:Int)^140=((2^140:Nat):Int):=by decide
    lia
  refine⟨_,U,_,_,U,U,⟨by decide,by decide,by decide⟩,_,_,U,U,p10 _,_,_,U,U,_,U,_,_,U,U,.inl ⟨by decide,by decide⟩,_,U,_,_,U,U,.inr ⟨by lia,by lia⟩,_,_,U,U,_,_,U,U,d,U,_,Int.mul_nonneg r.1 g.1,?_,U⟩;have z:=Int.mul_le_mul r.2 (Int.le_of_lt g.2) g.1 (by decide);have o:(2:Int)^200*2^140<2^400:=by decide
  lia
 rintro B x ⟨rfl,b,O,N,rfl⟩;refine⟨λa j=>j=x/\∃b:Int,0<=b/\b<2^401/\a=[JH (.int c),JH (.int k),JH (.int b)],?_,?_⟩
 .refine⟨_,U,_,U,_,_,U,U,.inl ⟨by decide,by decide⟩,_,_,U,U,U,_,by lia,?_,U⟩;have o:(2:Int)^400+7919*100<2^401:=by decide
  lia
 rintro y T ⟨rfl,t,b2,M,rfl⟩;have d:Hc t t:=by
  have e:(2:Int)^401=((2^401:Nat):Int):=by decide
  refine qK (m:=401) (n:=401) ?_ ?_ (by decide) (by decide) <;> lia
 have p:(0:Int)<10^(60:Int).toNat+9:=by have:=p10 (60:Int).toNat;lia
 exact⟨_,U,_,U,_,_,U,U,d,_,_,U,U,⟨by decide,by decide,by decide⟩,_,_,U,U,_,_,U,U,p,q _ (zi _ (Int.ne_of_gt p))⟩
theorem En(F:Fun K "_law_word" "_law_word" Y67 f fd) (bl:Bl K mg Y)  : aJ P w K mg base CX0 1 f fd ["cell","k"] (fC K Y):=by
 refine F.okA Z67 λL A g s H M Q E R h=>?_
 obtain⟨c,k,rfl,q⟩:=h
 refine⟨_,(aL (aH (i:=2) Z67.nd U (Or.inl U) (aw l9 (aK pE aO (aw aW (pv 0) aj) (λ_ _=>U)) (aw aW (aw bB (pv 0) aj) aj)))
  (aL (aH (i:=3) Z67.nd U (Or.inl U) (aw l9 (aK pE aO (aw aW (aw bB (pv 0) aj) aj) (λ_ _=>U)) (aw aW (pv 1) aj)))
  (ag (av (aw jr (aw jr (aw jr (pv 2) (aK pE aO (aw aW (aw bB (pv 1) aj) aj) (λ_ _=>U))) (aK pE aO (aw aW (pv 1) aj) (λ_ _=>U))) (pv 3)))))),?_⟩
 have j:∀(x:Nat)(n:Int),0<=n->n<10->MulOk ⟨#[x]⟩ n:=λx n T S=>by
  have:n=0\/n=1\/n=2\/n=3\/n=4\/n=5\/n=6\/n=7\/n=8\/n=9:=by lia
  have e:(⟨#[x]⟩:Str).length=1:=rfl;unfold MulOk;rw[e];rcases this with rfl|rfl|rfl|rfl|rfl|rfl|rfl|rfl|rfl|rfl <;> decide
 have C:=zi c (show(26:Int)≠0 by decide);have z:=zh c (show(0:Int)<26 by decide);have v:=zi (c / 26) (show(6:Int)≠0 by decide);have W:=zh (c / 26) (show(0:Int)<6 by decide);have u:=zi (c / 156) (show(26:Int)≠0 by decide);have t:=zh (c / 156) (show(0:Int)<26 by decide);have r:=zi k (show(5:Int)≠0 by decide);have V:=zh k (show(0:Int)<5 by decide);have p:=zi (k / 7) (show(7:Int)≠0 by decide);have o:=zh (k / 7) (show(0:Int)<7 by decide);have m:=zi k (show(7:Int)≠0 by decide);have l:=zh k (show(0:Int)<7 by decide);refine⟨λa d=>d=H/\a=[JH (.int c),JH (.int k),JH (.str ⟨(List.replicate (c / 26%6).toNat (97+(c%26).toNat)).toArray⟩),JI],?_,?_⟩
 .refine⟨_,U,_,_,U,U,(by show(0:Int)<26;decide),_,_,_,U,U,(by decide),lN zN C z,_,U,_,_,U,U,⟨by decide,by decide⟩,_,_,U,U,(by show(0:Int)<6;decide),_,_,U,U,j _ _ v (by lia),U,?_⟩;rw[Co];rfl
 rintro J G ⟨rfl,rfl⟩;refine⟨λa d=>d=G/\a=[JH (.int c),JH (.int k),JH (.str ⟨(List.replicate (c / 26%6).toNat (97+(c%26).toNat)).toArray⟩),JH (.str ⟨(List.replicate (k%5).toNat (97+(c / 156%26).toNat)).toArray⟩)],?_,?_⟩
 .refine⟨_,U,_,_,U,U,⟨by decide,by decide⟩,_,_,U,U,(by show(0:Int)<26;decide),_,_,_,U,U,(by decide),lN zN u t,_,U,_,_,U,U,(by show(0:Int)<5;decide),_,_,U,U,j _ _ r (by lia),U,?_⟩;rw[Co];rfl
 rintro I D ⟨rfl,rfl⟩;have O:(⟨(List.replicate (c / 26%6).toNat (97+(c%26).toNat)).toArray⟩:Str).length<=6:=by simp[Str.length];lia
 have N:(⟨(List.replicate (k%5).toNat (97+(c / 156%26).toNat)).toArray⟩:Str).length<=6:=by simp[Str.length];lia
 have b:∀x:Nat,(⟨#[x]⟩:Str).length=1:=λ_=>U
 refine⟨_,U,_,U,_,_,U,U,⟨by decide,by decide⟩,_,_,U,U,(by show(0:Int)<7;decide),_,_,_,U,U,(by decide),lN Cn p o,_,_,U,U,big (by rw[b];lia),_,U,_,_,U,U,(by show(0:Int)<7;decide),_,_,_,U,U,(by decide),lN Cn m l,_,_,U,U,big (by rw[len_app,b,b];lia),_,U,_,_,U,U,big (by rw[len_app,len_app,b,b];lia),?_⟩;have e:∀(A B:List Nat)(x y:Nat),(⟨A.toArray⟩:Str)++(⟨#[x]⟩:Str)++(⟨#[y]⟩:Str)++(⟨B.toArray⟩:Str)=⟨(A++([x,y]++B)).toArray⟩:=λA B x y=>by
  show Str.append (Str.append (Str.append _ _) _) _=_;unfold Str.append;simp
 show Q (.str (_++_++_++_)) D;rw[e];exact q
theorem Eo(F:Fun K "_law_spans" "_law_spans" Y63 f fd) (bl:Bl K mg Y)  : aJ P w K mg base CX0 1 f fd ["pairs","bits"] (gD K Y):=by
 refine F.okA Z63 λa7 A a4 s H vs Q E hr h=>?_
 obtain⟨pl,ts,m,b,rfl,L,hp,C,h6,q⟩:=h
 refine⟨_,(ao (aH (i:=2) Z63.nd U (Or.inl U) (aX af))
  (ao (bh G1.never U (lK U bl.enumerate_ (aa (pv 0) af)) (cm U (az (ax (i:=3) Z63.nd U (Or.inl U)) (az (ax (i:=4) Z63.nd U (Or.inl U)) aV)))
  (ag (aP (aG cc (aw pB (aw pA (pv 1) (pv 3)) aj) aj (aI _))
  (ag (aP (PW.pt (gm (aG gM (pv 3) aj (aI _)) (dX (aG cc (aw pB (aw pA (pv 1) (aw d9 (pv 3) aj)) aj) aj (aI _)))))
  (ag (rM (aZ (aa (aK bj (aK aQ (pv 2) (kX hU aj) (λ_ _=>U)) aj (λ_ _=>U)) (aa (aK bj (pv 4) aj (λ_ _=>U)) af))) (rL (pv 2) (kX hU aj) set_list)))
  (ag (ba (gN PySem.F.plainAttrs_list PySem.F.slot_list_append PySem.F.type_list_append bL (pv 2) (aa (pv 4) af))))))
  aE)))
  (ag (av (pv 2))))),?_⟩
 have a1:=hp.length;refine⟨(by show 0<=DO;decide),λc o=>?_⟩;have s0:ar H (upd H c (.lst [])):=ai o _;have e0:upd H c (.lst []) c=JH (.lst []):=ae;generalize upd H c (.lst [])=H0 at s0 e0⊢;refine⟨_,U,pl,U,⟨_,SqL.of (s0 _ _ L)⟩,mw (xs:=ts) (λi S k=>ar H k/\∃(j:List V)(p:Prs)(c3 c4:Option V),k c=JH (.lst j)/\PL k j p/\fb m b i p/\p=mrg m b i/\j.length<=i/\S=[JH (.ref pl),JH (.int (b:Int)),JH (.ref c),c3,c4]) ⟨s0,[],[],_,_,e0,.nil,fb.nil,U,vD _,U⟩ (λi S k I=>SqL.of (I.1 _ _ L)) (λi y S k T ey I hT=>?_) (λS k I=>?_)⟩
 .obtain⟨sm,j,p,c3,c4,es,hP,ok,d,M,rfl⟩:=I;obtain⟨u,l,J,rfl,hu⟩:=hp.get ey;have hi:i<m.length:=(GA.mp J).1;have s2:=sm.trans (ai hT (.tup [.int (i:Int),.ref l]));have eT:upd k T (.tup [.int (i:Int),.ref l]) T=JH (.tup [.int (i:Int),.ref l]):=ae;have a:upd k T (.tup [.int (i:Int),.ref l]) c=JH (.lst j):=bR es hT;have e:=hP.mono (ai hT (.tup [.int (i:Int),.ref l])).tups;have B:=s2 _ _ hu;generalize upd k T (.tup [.int (i:Int),.ref l])=H2 at s2 eT a e B⊢;refine⟨T,_,U,SqT.of eT,U,_,_,U,_,_,U,U,?_⟩;refine⟨_,U,_,U,_,_,U,U,(by show(0:Int)<=(i:Int);lia),_,_,U,U,U,_,U,?_⟩;have eb:=pZ b i;refine dh (λg=>?_) (λg=>⟨s2,j,p,_,_,a,e,ok.skip (by rw[←eb];exact zD.mpr g),by rw[d,Bd (by rw[←eb];exact zD.mpr g)],by lia,U⟩);have Z:b.testBit i=true:=by rw[←eb];exact g
  refine⟨_,U,_,_,U,U,_,U,?_⟩;refine dh (λg1=>?_) (λg1=>bp ?e1);have a6:(0:Int)<(i:Int):=lU g1;obtain⟨n,rfl⟩:∃n,i=n+1:=⟨i-1,by lia⟩;have R:=pZ b n;refine⟨_,U,_,U,_,_,U,U,_,_,U,U,(by show(0:Int)<=((n+1:Nat):Int)-1;lia),_,_,U,U,U,_,U,?_⟩;have en:(((n+1:Nat):Int)-1).toNat=n:=by lia
  rw[en];refine dh (λg2=>?_) (λg2=>?e2);have D:b.testBit n=true:=by rw[←R];exact g2
  obtain⟨p0,O⟩:∃p0,m[n]?=JH p0:=⟨_,Gz (by lia)⟩;obtain⟨a5,v,G,ev⟩:=ok.lastAt C D O;obtain⟨x,r,a0,X,a3,N,a2,er⟩:=e.last (by intro z;rw[z]at e;have:=e.length;rw[G]at this;simp at this);rw[N]at G;obtain⟨rfl,hv⟩:=List.append_inj' G U;have hv:X=v:=by simpa using hv
  subst hv;subst a3 N;refine⟨_,U,_,U,c,_,_,_,U,U,SqL.of a,hX _ _,r,_,_,_,U,U,SqT.of er,z0 _ _,_,U,l,_,_,_,U,U,SqT.of B,z1 _ _,bu,λt ht=>?_⟩;have x1:upd H2 t (.tup [.int X.1,.int u.2]) c=JH (.lst (x++[.ref r])):=bR a ht;refine⟨_,U,_,U,c,_,_,_,U,U,x1,qR (by simp),?_⟩;rw[qS];have W:cg H2 (upd (upd H2 t (.tup [.int X.1,.int u.2])) c (.lst (x++[.ref t]))):=(iN ht).trans (aY x1);refine⟨(s2.trans (ai ht _)).upd o,x++[.ref t],a0++[(X.1,u.2)],_,_,ae,(a2.mono W).snoc (aY x1 _ _ ae),ok.join C Z D O J ev,?_,?_,U⟩
  .rw[xy Z D d J]
  .rw[dg,hQ]at M⊢;lia
  all_goals
   refine⟨_,U,.inl ⟨U,_,SqL.of a⟩,_,U,c,_,_,U,U,a,aD (by lia),?_⟩;have W:cg H2 (upd H2 c (.lst (j++[.ref l]))):=aY a;exact⟨s2.upd o,j++[.ref l],p++[(u.1,u.2)],_,_,ae,(e.mono W).snoc (W _ _ B),ok.put C Z J,by rw[d,yM Z (by first|(rw[show i=0 by(have:¬ ((0:Int)<(i:Int)):=λz=>g1 (JQ z));lia];rfl)|(rw[show n+1-1=n by lia,←R,zD.mpr g2,Bool.and_false])) J],by rw[dg,hQ];lia,U⟩
 .obtain⟨sm,j,p,c3,c4,es,hP,ok,d,M,rfl⟩:=I;rw[a1]at ok d;exact⟨_,U,q c p k sm ⟨o,j,es,hP⟩ ok d⟩
theorem Ep(F:Fun K "_law_points" "_law_points" Y59 f fd) (bl:Bl K mg Y)  : aJ P w K mg base CX0 1 f fd ["columns"] (fM K Y):=by
 refine F.okA Z59 λe4 A d3 s H vs Q E hr h=>?_
 obtain⟨cl,xs,m,rfl,a6,a5,hok,h4,q⟩:=h
 refine⟨_,(ao (aH (i:=1) Z59.nd U (Or.inl U) (aX (aa (aX af) af)))
  (ao (bh G1.never U (aU (pv 0)) (ax (i:=2) Z59.nd U (Or.inl U))
  (ao (aH (i:=3) Z59.nd U (Or.inl U) (aX af))
  (aL (bh G1.never U (aU (pv 1)) (ax (i:=4) Z59.nd U (Or.inl U))
  (ag (bh G1.never U (cX U bl.range_ (aa (au aC U bl.len_ JG (aa (aK aQ (pv 2) aj (λ_ _=>U)) af)) af)) (ax (i:=5) Z59.nd U (Or.inl U))
  (ag (ba (gN PySem.F.plainAttrs_list PySem.F.slot_list_append PySem.F.type_list_append bL (pv 3) (aa (aw jt (pv 4) (aX (aa (pv 5) af))) af)))))))
  (ag (aH (i:=1) Z59.nd U (Or.inl U) (pv 3))))))
  (ag (av (pv 1))))),?_⟩
 have b6:xs.length=m.length:=a5.1;refine⟨(by show 0<=DO;decide),λn c8=>?_⟩;have s0:=ai c8 (.lst (vN []));have e0:upd H n (.lst (vN [])) n=JH (.lst (vN [])):=ae;have ee:upd H n (.lst [])=upd H n (.lst (vN [])):=rfl;rw[ee];clear ee;generalize upd H n (.lst (vN []))=H0 at s0 e0⊢;refine⟨(by show 1<=DO;decide),λp0 a4=>?_⟩;have s1:=s0.trans (ai a4 (.lst [.ref n]));have e1:upd H0 p0 (.lst [.ref n]) p0=JH (.lst [.ref n]):=ae;have a9:=ai a4 (.lst [.ref n]) _ _ e0;generalize upd H0 p0 (.lst [.ref n])=H1 at s1 e1 a9⊢;have b3:PtL NT H1 [.ref n] [[]]:=⟨U,λj p e=>by
  match j,e with
  |0,e=>cases e;exact⟨n,U,trivial,a9⟩
  |j+1,e=>simp at e⟩
 refine⟨_,U,cl,U,⟨_,SqL.of (s1 _ _ a6)⟩,bx (xs:=xs) (λi g o=>ar H o/\∃(G:DF)(D:List V)(c2 c3 I t:Option V),o G=JH (.lst D)/\PtL NT o D (dk ((dc m).take i))/\D.length<=6^i/\g=[JH (.ref cl),JH (.ref G),c2,c3,I,t]) ⟨s1,p0,_,_,_,_,_,e1,b3,by show 1<=6^0;decide,U⟩ (λi g o _ h=>SqL.of (h.1 _ _ a6)) (λi y g o ey hh=>?_) (λg o hh=>?_)⟩
 .obtain⟨sm,G,D,c2,c3,I,t,J,l,a3,rfl⟩:=hh;obtain⟨lc,c,rfl,ec,d2,ts,_,_,g1,g2,g3⟩:=aF.get (a5.same sm) ey;have hi:i<m.length:=(GA.mp ec).1;have ok:=hok c (GB ec);have k6:=ok.few;have a2:=g3.length;have F9:6^i<=216:=by
   have:i<=3:=by lia
   exact vG (Nat.pow_le_pow_right (by decide) this) (by decide)
  refine⟨(by show 0<=DO;decide),λM hM=>?_⟩;have u1:=ai hM (.lst []);have eM:upd o M (.lst []) M=JH (.lst []):=ae;generalize upd o M (.lst [])=H2 at u1 eM⊢;have CD:D.length=(dk ((dc m).take i)).length:=l.1;refine⟨λb1 u=>ar o u/\∃(d:List V)(I t:Option V),u M=JH (.lst d)/\PtL (· ≠ M) u d (grow (dk ((dc m).take i)) c.prs.length)/\b1=[JH (.ref cl),JH (.ref G),JH (.ref lc),JH (.ref M),I,t],?_,?_⟩
  .refine⟨_,U,G,U,⟨_,SqL.of (u1 _ _ J)⟩,bx (xs:=D) (λa g u=>ar o u/\∃(d:List V)(I t:Option V),u M=JH (.lst d)/\PtL (· ≠ M) u d (grow ((dk ((dc m).take i)).take a) c.prs.length)/\g=[JH (.ref cl),JH (.ref G),JH (.ref lc),JH (.ref M),I,t]) ⟨u1,[],_,_,eM,aF.nil,U⟩ (λa g u _ h=>SqL.of (h.1 _ _ J)) (λa y g u T h3=>?_) (λg u h3=>?_)⟩
   .obtain⟨N,d,I,t,B,O,rfl⟩:=h3;obtain⟨r,p,rfl,ep,_,d5⟩:=aF.get (l.same N) T;have ha:a<D.length:=(GA.mp T).1;refine⟨_,U,lc,_,_,_,U,U,SqL.of (N _ _ g1),U,d2,_,U,.inl (SqL.of (N _ _ g2)),_,U,(by show -(2^62)<=((ts.length:Nat):Int);lia),(by show((ts.length:Nat):Int)<2^62;lia),kA (λb g C=>ar o C/\∃(d:List V)(t:Option V),C M=JH (.lst d)/\PtL (· ≠ M) C d (grow ((dk ((dc m).take i)).take a) c.prs.length++(List.range b).map λk=>p++[k])/\g=[JH (.ref cl),JH (.ref G),JH (.ref lc),JH (.ref M),JH (.ref r),t]) ⟨N,d,_,B,by simpa using O,U⟩ (λb g C hb S=>?_) (λg C S=>?_)⟩
    .obtain⟨t4,v,b0,L,x,rfl⟩:=S;have c1:C r=JH (.lst (vN p)):=by
      obtain⟨r',p',d0,a7,_,c6⟩:=aF.get l T;cases d0;rw[ep]at a7;cases a7;exact t4 _ _ c6
     have e3:b<c.prs.length:=by first|lia|(rw[←a2];lia)
     have b4:v.length<=2000:=by
      have h1:=x.1;rw[dg,mG,iD,bo,jJ]at h1;have h2:min a (dk ((dc m).take i)).length*c.prs.length<=216*6:=yt (by lia) k6;lia
     have e2:p.length<=4:=by
      have:=(iZ.iff.mp (GB ep)).1;rw[iD]at this;unfold dc at this;rw[bo]at this;lia
     refine⟨_,U,.inl ⟨U,_,SqL.of L⟩,_,U,_,U,(by show 1<=DO;decide),λX c7=>?_⟩;have Z:=ai c7 (.lst (vN [b]));have f1:upd C X (.lst (vN [b])) X=JH (.lst (vN [b])):=ae;have ee:upd C X (.lst [V.int (0+(b:Int))])=upd C X (.lst (vN [b])):=by rw[Int.zero_add];rfl
     rw[ee];clear ee;generalize upd C X (.lst (vN [b]))=H5 at Z f1⊢;refine⟨r,X,_,_,U,U,Z _ _ c1,f1,v5 (aD (by rw[eK,eK];simp;lia)),λW R=>?_⟩;rw[pY];have v2:=ai R (.lst (vN (p++[b])));have f2:upd H5 W (.lst (vN (p++[b]))) W=JH (.lst (vN (p++[b]))):=ae;have a8:=Z _ _ L;have nk:W≠M:=λz=>by rw[z,a8]at R;cases R
     generalize upd H5 W (.lst (vN (p++[b])))=H6 at v2 f2⊢;have d1:=v2 _ _ a8;refine⟨M,_,_,U,U,d1,o7 b4,?_⟩;have b5:PtL (· ≠ M) H6 (v++[.ref W]) (grow ((dk ((dc m).take i)).take a) c.prs.length++((List.range b).map λk=>p++[k])++[p++[b]]):=aF.snoc (x.same (Z.trans v2)) ⟨nk,f2⟩;refine⟨((t4.trans Z).trans v2).upd hM,v++[.ref W],_,ae,?_,U⟩;rw[lg,fF,List.map_singleton,←tw];exact b5.updN (λz=>z U)
    .obtain⟨t4,v,b0,L,x,rfl⟩:=S;refine⟨t4,v,_,_,L,?_,U⟩;rw[vq ep];rw[a2]at x;exact x
   .obtain⟨N,d,I,t,B,O,rfl⟩:=h3;rw[CD,eU]at O;exact⟨N,d,_,_,B,O,U⟩
  rintro d4 u ⟨N,d,e5,b0,B,O,rfl⟩;have el:(dc m)[i]?=JH c.prs.length:=by unfold dc;rw[eR,ec];rfl
  have a1:=O.1;rw[mG]at a1;refine⟨_,U,sm.trans N,M,d,_,_,_,_,B,?_,?_,U⟩
  .rw[take_snoc el,jx];exact O.any
  .rw[a1,←CD,yl];exact yt a3 k6
 .obtain⟨sm,G,D,c2,c3,I,t,J,l,a3,rfl⟩:=hh;have:(dc m).length=m.length:=by unfold dc;rw[bo]
  rw[b6,←this,eU]at l;exact⟨_,U,q G D o sm J l⟩
theorem Er(F:Fun K "_law_codes" "_law_codes" Y52 f fd) (bl:Bl K mg Y)  : aJ P w K mg base CX0 1 f fd ["columns","point","turn"] (gE K Y):=by
 refine F.okA Z52 λa8 A a5 s H vs Q E hr h=>?_
 obtain⟨cl,pl,xs,O,p,tn,rfl,G,C,hok,h4,B,z,q⟩:=h;refine⟨_,(ag (av (cR (ie U bl.zip_ (aa (pv 0) (aa (pv 1) af))) (dE (N:=["column","k","turn"]) (k:=2) (fr:=[2]) (cl:=[("turn",s.heap.objs.size+1)]) U U (by decide+kernel) (by decide+kernel) U U (hZ.mpr ⟨U,jo _⟩) U) U (λ_ _ _ _=>(jh (K:=K) (n:=2) U U (az (ax (i:=0) (show(["column","k","turn"]:List Str).Nodup by decide+kernel) U (Or.inl U) (Or.inr U)) (az (ax (i:=1) (show(["column","k","turn"]:List Str).Nodup by decide+kernel) U (Or.inl U) (Or.inr U)) aV)))) (λ_ _ _ _=>bQ) (λ_ _ _ _=>(aK (gq (K:=K) U) (aK (fV (K:=K) U) (aK (fV (K:=K) U) (pv 0) aj (λ_ _=>U)) (pv 1) (λ_ _=>U)) (aw aW (aw bH (pv 1) (pv 2)) aj) (λ_ _=>U)))))),?_⟩;have W:xs.length=O.length:=C.1;have Gp:p.length=O.length:=by rw[z.1];unfold dc;rw[bo]
 have ki:min xs.length (vN p).length=O.length:=by rw[eK];lia
 refine⟨_,U,_,U,cl,pl,U,⟨_,SqL.of G⟩,⟨_,SqL.of B⟩,iR (xs:=xs) (ys:=vN p) (λD i ys g=>ar H g/\g D=JH (.lst ys)/\∃d:List Int,ys=d.map V.int/\d.length=i/\∀(j:Nat)(x:Int)(c:Col)(a:Nat),d[j]?=JH x->O[j]?=JH c->p[j]?=JH a->∃r,c.prs[a]?=JH r/\(x=r.1\/x=r.2))
  (λD u=>⟨ai u _,ae,[],U,U,(λj x c a e=>by simp at e)⟩) (λD i ys g u _ h=>⟨SqL.of (h.1 _ _ G),SqL.of (h.1 _ _ B)⟩) (λD j x y ys g T u ex a1 h hT ts X=>?_) (λD ys g u h=>?_)⟩
 .obtain⟨s2,S,d,rfl,b,l⟩:=h;obtain⟨t,c,rfl,ec,a4,a6,_,_,g1,g2,g3⟩:=aF.get (C.same s2) ex;obtain⟨a,rfl,ea⟩:=uu a1;obtain⟨J,I,rfl⟩:∃J I,ts=[J,I]:=by
   match ts,X with
   | [J,I],_=>exact⟨J,I,U⟩
  have o:=ai hT (.tup [.ref t,.int (a:Int)]);have eT:upd g T (.tup [.ref t,.int (a:Int)]) T=JH (.tup [.ref t,.int (a:Int)]):=ae;generalize upd g T (.tup [.ref t,.int (a:Int)])=H3 at o eT⊢;have a7:a<c.prs.length:=z.2 j a _ ea (by unfold dc;rw[eR,ec];rfl);obtain⟨rp,r,e1,e2,e3⟩:=zR g3 (i:=(a:Int)) (by lia) (by rw[g3.length];lia);rw[zj]at e2;obtain⟨x,a2,hx⟩:=Cy (p:=r) (m:=(a:Int)+tn);refine⟨T,_,U,SqT.of eT,U,_,_,U,_,_,U,U,⟨[JH (.ref t),JH (.int (a:Int))],U,U⟩,?_⟩;have hj:j<min xs.length (vN p).length:=by
   have:=(GA.mp ex).1;rw[ki,←W];exact this
  have a3:=o _ _ S;refine⟨_,U,t,_,_,_,U,U,SqL.of (o _ _ g1),U,_,U,a4,_,_,_,U,U,SqL.of (o _ _ g2),e1,_,U,_,U,_,_,U,U,_,_,U,U,(by show(0:Int)<2;decide),rp,_,_,_,U,U,SqT.of (o _ _ e3),a2,cQ.mk hj a3 (aD (by rw[bo];lia)) ⟨(s2.trans o).upd u,ae,d++[x],by simp,by simp[b],λR x' c' a' v M L=>?_⟩⟩;by_cases a0:R<d.length
  .rw[fc a0]at v;exact l R x' c' a' v M L
  .have Z:R=d.length:=by have:=(GA.mp v).1;simp at this;lia
   subst Z;simp at v;subst v;rw[b]at M L;rw[ec]at M;rw[ea]at L;cases M;cases L;exact⟨r,e2,hx⟩
 .obtain⟨s2,S,d,rfl,b,l⟩:=h;rw[ki]at b;exact q D d g s2 S ⟨b,l⟩
theorem Es(F:Fun K "_law_fit" "_law_fit" Y56 f fd) (bl:Bl K mg Y)  : aJ P w K mg base CX0 1 f fd ["bit_row","point"] (jz K Y):=by
 refine F.okA Z56 λa1 A J s H vs Q E hr h=>?_
 obtain⟨r,W,c,p,rfl,⟨I,f1,_,M⟩,l,S,Bj,q⟩:=h;refine⟨_,(ag (av (au (mr U) U bl.all_ PyProof.Rows.boot_all (aa (cR (ie U bl.zip_ (aa (aK bj (pv 0) aj (λ_ _=>U)) (aa (pv 1) af))) (cE (N:=["bit","k"]) (k:=2) U U (by decide+kernel) (by decide+kernel) (by decide+kernel)) U (λ_ _ _ _=>(jh (K:=K) (n:=2) U U (az (ax (i:=0) (show(["bit","k"]:List Str).Nodup by decide+kernel) U (Or.inl U) (Or.inr U)) (az (ax (i:=1) (show(["bit","k"]:List Str).Nodup by decide+kernel) U (Or.inl U) (Or.inr U)) aV)))) (λ_ _ _ _=>bQ) (λ_ _ _ _=>(dY cc (aw pB (aw pA (pv 0) (pv 1)) aj) aj (aI _)))) af)))),?_⟩;have v:min (vN c.1).length (vN p).length=p.length:=by rw[eK,eK];lia
 refine⟨_,U,r,_,_,_,U,U,SqT.of f1,U,_,U,I,W,U,⟨_,SqL.of M⟩,⟨_,SqL.of l⟩,iR (xs:=vN c.1) (ys:=vN p) (λD i ys d=>ar H d/\d D=JH (.lst ys)/\ys=((List.range i).map λj=>(c.1.getD j 0).testBit (p.getD j 0)).map V.bl)
  (λD g=>⟨ai g _,ae,U⟩) (λD i ys d g _ h=>⟨SqL.of (h.1 _ _ M),SqL.of (h.1 _ _ l)⟩) (λD j x y ys d T g ex C h X L B=>?_) (λD ys d g h=>?_)⟩
 .obtain⟨s2,t,rfl⟩:=h;obtain⟨b,rfl,eb⟩:=uu ex;obtain⟨a,rfl,O⟩:=uu C;obtain⟨o,m,rfl⟩:∃o m,L=[o,m]:=by
   match L,B with
   | [o,m],_=>exact⟨o,m,U⟩
  have u:=ai X (.tup [.int (b:Int),.int (a:Int)]);have R:upd d T (.tup [.int (b:Int),.int (a:Int)]) T=JH (.tup [.int (b:Int),.int (a:Int)]):=ae;generalize upd d T (.tup [.int (b:Int),.int (a:Int)])=H3 at u R⊢;refine⟨T,_,U,SqT.of R,U,_,_,U,_,_,U,U,⟨[JH (.int (b:Int)),JH (.int (a:Int))],U,U⟩,?_⟩;have z:j<min (vN c.1).length (vN p).length:=by
   have:=(GA.mp O).1;rw[v];exact this
  have a0:j<p.length:=by rw[v]at z;exact z
  have G:=u _ _ t;refine⟨_,U,_,U,_,_,U,U,(by show(0:Int)<=(a:Int);lia),_,_,U,U,U,cQ.mk z G (aD (by rw[bo,bo,jJ];lia)) ⟨(s2.trans u).upd g,ae,?_⟩⟩;have g1:c.1.getD j 0=b:=by rw[fo,eb];rfl
  have Z:p.getD j 0=a:=by rw[fo,O];rfl
  rw[lg,fF,fF]
  congr 1
  show[V.bl (JL (V.int (G9.bitAnd ((b:Int) / 2^a) 1)=V.int 1))]=[V.bl ((c.1.getD j 0).testBit (p.getD j 0))];rw[pZ,g1,Z]
 .obtain⟨s2,t,rfl⟩:=h;rw[v]at t;refine⟨D,_,U,SqL.of t,?_⟩;have e:(((List.range p.length).map λj=>(c.1.getD j 0).testBit (p.getD j 0)).all id)=mJ c.1 p:=by unfold mJ;rw[vj];rfl
  rw[e];exact q d s2
theorem Et(F:Fun K "_law_way" "_law_way" Y66 f fd) (bl:Bl K mg Y)  : aJ P w K mg base CX0 1 f fd ["turn","out"] (jA K Y):=by
 refine F.okA Z66 λB A n s H C Q E I h=>?_
 obtain⟨b,o,r,rfl,⟨G,D,_,_,v,L,J⟩,q⟩:=h
 refine⟨_,(aL (aH (i:=2) Z66.nd U (Or.inl U) (aK aQ (aX (aa aO (aa aO (aa aO (aa aO (aa aO (aa aO af))))))) (aw aW (pv 0) aj) (λ_ _=>U)))
  (ao (aP (PW.pt (gm (aG cc (pv 2) aO (aI _)) (dX (bG (aK aQ (pv 1) aj (λ_ _=>U))))))
  (ag (aH (i:=2) Z66.nd U (Or.inl U) aO))
  aE)
  (ag (av (pv 2))))),?_⟩
 have u:=zi b (show(6:Int)≠0 by decide);have t:=zh b (show(0:Int)<6 by decide);refine⟨λl x=>ar H x/\∃(a:Str)(i:Nat),six[i]?=JH a/\l=[JH (.int b),JH (.ref o),JH (.str a)],?_,?_⟩
 .refine⟨(by show 6<=DO;decide),λp m=>?_⟩;obtain⟨a,i,d,hi⟩:∃(a:Str)(i:Nat),atI [V.str s!"first",.str s!"only",.str s!"like",.str s!"low",.str s!"high",.str s!"sum"] (b%6)=JH (.str a)/\six[i]?=JH a:=by
   generalize b%6=k at u t⊢;have:k=0\/k=1\/k=2\/k=3\/k=4\/k=5:=by lia
   rcases this with rfl|rfl|rfl|rfl|rfl|rfl
   .exact⟨_,0,U,U⟩
   .exact⟨_,1,U,U⟩
   .exact⟨_,2,U,U⟩
   .exact⟨_,3,U,U⟩
   .exact⟨_,4,U,U⟩
   .exact⟨_,5,U,U⟩
  exact⟨_,U,_,_,U,U,(by show(0:Int)<6;decide),p,_,_,_,U,U,SqL.of ae,d,ai m _,a,i,hi,U⟩
 rintro y j ⟨c,a,i,hi,rfl⟩;refine⟨_,U,U,_,U,?_⟩;by_cases g:a=s!"sum"
 .subst g;refine dD U ?_;refine⟨_,U,o,_,_,_,U,U,SqL.of (c _ _ v),U,_,U,?_⟩;cases d:r.w with
  |true=>exact cZ ⟨_,U,q _ 0 j c U λz=>JP z (by decide)⟩
  |false=>exact bp ⟨_,U,q _ i j c hi λ_=>d⟩
 .exact br (λe=>by injection e with e;exact g e) (bp ⟨_,U,q _ i j c hi λz=>JP z g⟩)
theorem Eu(F:Fun K "_law_same" "_law_same" Y61 f fd) (bl:Bl K mg Y)  : aJ P w K mg base CX0 1 f fd ["found","due"] (iz K Y):=by
 refine F.okA Z61 λi A c s H j Q E e h=>?_
 obtain⟨r,d,p,rfl,a,g,q⟩:=h
 refine⟨_,(ao (aP (PW.pt (fi (bM (bG (au bC U bl.isinstance_ PyProof.Rows.boot_isinstance (aa (pv 0) (aa (dW (v:=.ty "tuple") U bl.tuple_ PyProof.Rows.boot_tuple U) af))))) (fi (aG jd (au aC U bl.len_ JG (aa (pv 0) af)) aj (aI _)) (d8 (bM (bG (au bC U bl.isinstance_ PyProof.Rows.boot_isinstance (aa (aK bj (pv 0) aj (λ_ _=>U)) (aa (dW (v:=.ty "str") U bl.str_ PyProof.Rows.boot_str U) af)))))))))
  (ag (av b8))
  aE)
  (ag (av (gZ (au bC U bl.isinstance_ PyProof.Rows.boot_isinstance (aa (aK bj (pv 0) aj (λ_ _=>U)) (aa (dW (v:=.ty "int") U bl.int_ PyProof.Rows.boot_int U) af))) (gZ (vP (au bC U bl.isinstance_ PyProof.Rows.boot_isinstance (aa (aK bj (pv 0) aj (λ_ _=>U)) (aa (dW (v:=.ty "bool") U bl.bool_ PyProof.Rows.boot_bool U) af)))) (kx (dY (wq e) (pv 0) (pv 1) (aI _)))))))),?_⟩
 refine⟨_,U,_,_,_,_,JJ,U,.ty _,.inr ⟨r,_,U,a,U⟩,(by first|rfl|with_unfolding_all rfl|decide+kernel),_,U,bp ?_⟩;refine⟨_,U,r,_,U,.inr (a),U,_,U,je U ?_⟩;refine⟨_,U,r,_,_,_,U,U,a,U,_,_,_,_,JJ,U,.ty _,.inl (.str _),(by first|rfl|with_unfolding_all rfl|decide+kernel),_,U,bp ?_⟩;refine⟨_,U,r,_,_,_,U,U,a,U,_,_,_,_,JJ,U,.ty _,.inl (.int _),(by first|rfl|with_unfolding_all rfl|decide+kernel),_,U,cZ ?_⟩;refine⟨_,U,r,_,_,_,U,U,a,U,_,_,_,_,JK,U,.ty _,.inl (.int _),(by first|rfl|with_unfolding_all rfl|decide+kernel),_,U,JJ,U,cZ ?_⟩;refine⟨_,U,_,U,?_⟩;refine uV a g (λx b=>?_) q;rcases cf.mp b with rfl|b
 .rfl
 .rw[show x=.int p.2 by simpa using b];rfl
theorem Ew(F:Fun K "_law_are_spans" "_law_are_spans" Y47 f fd) (bl:Bl K mg Y)  : aJ P w K mg base CX0 1 f fd ["spans","domain"] (dA K Y):=by
 refine F.okA Z47 λR A B s H S Q E T h=>?_
 obtain⟨l,a,p,b,rfl,⟨_,I,m,L⟩,⟨C,M,dx,fs,D,O,N,_⟩,Z,X,W,q⟩:=h
 refine⟨_,(ao (aP (PW.pt (fi (bM (bG (au bC U bl.isinstance_ PyProof.Rows.boot_isinstance (aa (pv 0) (aa (dW (v:=.ty "list") U bl.list_ PyProof.Rows.boot_list U) af))))) (d8 (aG cc (au aC U bl.len_ JG (aa (pv 0) af)) aj (aI _)))))
  (ag (av b8))
  aE)
  (ao (aH (i:=2) Z47.nd U (Or.inl U) (aw d9 (aN (pv 1) U) aj))
  (ao (bh G1.never U (aU (pv 0)) (ax (i:=3) Z47.nd U (Or.inl U))
  (ao (aP (PW.pt (fi (bM (bG (au bC U bl.isinstance_ PyProof.Rows.boot_isinstance (aa (pv 3) (aa (dW (v:=.ty "tuple") U bl.tuple_ PyProof.Rows.boot_tuple U) af))))) (fi (aG jd (au aC U bl.len_ JG (aa (pv 3) af)) aj (aI _)) (d8 (aG kY (aK bj (pv 3) aj (λ_ _=>U)) (aw bH (pv 2) aj) (aI _))))))
  (ag (av b8))
  aE)
  (ao (aP (PW.pt (fi (aG gM (aK bj (pv 3) aj (λ_ _=>U)) (aK bj (pv 3) aj (λ_ _=>U)) (aI _)) (d8 (aG gM (aK bj (pv 3) aj (λ_ _=>U)) (aN (pv 1) U) (aI _)))))
  (ag (av b8))
  aE)
  (ag (aH (i:=2) Z47.nd U (Or.inl U) (aK bj (pv 3) aj (λ_ _=>U)))))))
  (ag (av b8))))),?_⟩
 obtain⟨r,rfl,c⟩:∃r,I=[.ref r]/\H r=JH (.tup [.int p.1,.int p.2]):=by
  cases L with
  |cons h t =>
   obtain⟨r,e,z⟩:=h;cases t;exact⟨r,by rw[e],z⟩
 have k:Cls K C/\NoAttr K C s!"low"/\NoAttr K C s!"high":=by
  rcases M with rfl|rfl
  .exact⟨bl.k_Numbers,bl.na_Numbers_low,bl.na_Numbers_high⟩
  .exact⟨bl.k_Words,bl.na_Words_low,bl.na_Words_high⟩
 refine⟨_,U,_,_,_,_,JJ,U,.ty _,.inl (.lst m),(by first|rfl|with_unfolding_all rfl|decide+kernel),_,U,bp ?_⟩;refine⟨_,U,l,_,U,.inl (SqL.of m),U,_,U,br (λz=>by have:=V.int.inj z;simp at this) ?_⟩;refine⟨_,U,a,_,_,_,_,U,D,k.1,k.2.1,O,_,_,U,U,?_⟩;refine⟨_,U,l,U,⟨_,SqL.of m⟩,bx (xs:=[V.ref r]) (λi j n=>n=H/\∃(g:Int)(y:Option V),(i=0->g=b.1-2)/\j=[JH (.ref l),JH (.ref a),JH (.int g),y]) ⟨U,_,_,(λ_=>U),U⟩ (λi j n _ h=>by rw[h.1];exact SqL.of m) (λi x j n G o=>?_) (λj n o=>?_)⟩
 .obtain⟨u,g,y,d,rfl⟩:=o;rw[u];have hi:i=0:=by have:=(GA.mp G).1;simp at this;lia
  subst hi;have d:=d U;have J:V.ref r=x:=by simpa using G
  subst J;refine⟨_,U,_,_,_,_,JJ,U,.ty _,.inl (.tup c),(by first|rfl|with_unfolding_all rfl|decide+kernel),_,U,bp ?_⟩;refine⟨_,U,r,_,U,.inr (SqT.of c),U,_,U,je U ?_⟩;refine⟨_,U,r,_,_,_,U,U,SqT.of c,z0 _ _,_,U,_,_,U,U,_,_,U,U,_,U,br (by show ¬ (p.1<g+2);lia) ?_⟩;refine⟨_,U,r,_,_,_,U,U,SqT.of c,z0 _ _,_,U,r,_,_,_,U,U,SqT.of c,z1 _ _,_,_,U,U,_,U,br (by show ¬ (p.2<p.1);lia) ?_⟩;refine⟨_,U,r,_,_,_,U,U,SqT.of c,z1 _ _,_,U,a,_,_,_,_,U,D,k.1,k.2.2,N,_,_,U,U,_,U,br (by show ¬ (b.2<p.2);lia) ?_⟩;exact⟨_,U,r,_,_,_,U,U,SqT.of c,z1 _ _,U,_,_,(λz=>JP z (by lia)),U⟩
 .obtain⟨u,g,y,d,rfl⟩:=o;rw[u];exact q
theorem Ex(F:Fun K "_law_bits_of" "_law_bits_of" Y50 f fd) (bl:Bl K mg Y)  : aJ P w K mg base CX0 1 f fd ["number"] (eP K Y):=by
 refine F.okA Z50 λx A j s H y Q E B h=>?_
 obtain⟨m,rfl,a,q⟩:=h
 refine⟨_,(ao (aH (i:=1) Z50.nd U (Or.inl U) aj)
  (ao (vQ G1.never (aG gM (pv 0) aj (aI _))
  (ao (aH (i:=1) Z50.nd U (Or.inl U) (aw bH (pv 1) (aw aW (pv 0) aj)))
  (ag (aH (i:=0) Z50.nd U (Or.inl U) (aw bB (pv 0) aj)))))
  (ag (av (pv 1))))),?_⟩
 refine⟨λn l r=>r=H/\∃(m c:Nat),n=m/\(m=0/\c<=1\/c=0/\∃k,m=2^k)/\l=[JH (.int (m:Int)),JH (.int (c:Int))],⟨m,U,m,0,U,?_,U⟩,?_⟩
 .rcases a with a|a
  .exact .inl ⟨a,by lia⟩
  .exact .inr ⟨U,a⟩
 rintro n l r ⟨u,m,c,t,a,rfl⟩;rw[u,t];refine⟨_,U,_,_,U,U,_,U,?_⟩;refine dh (λg=>?_) (λg=>?_)
 .have g:(0:Int)<(m:Int):=JS g;rcases a with⟨z,_⟩|⟨d,k,b⟩
  .lia
  .refine⟨λe p=>p=H/\e=[JH (.int ((m:Int) / 2)),JH (.int ((c:Int)+(m:Int)%2))],?_,⟨_,U,_,U,_,_,U,U,(by show(0:Int)<2;decide),_,_,U,U,_,U,_,_,U,U,⟨by decide,by decide⟩,U,U⟩⟩;rintro v p ⟨o,rfl⟩;subst d;cases k with
   |zero =>
    have b:m=1:=b;subst b;exact⟨0,by lia,o,0,1,U,.inl ⟨U,by lia⟩,U⟩
   |succ k =>
    have C:m=2*2^k:=by rw[b,yl];lia
    refine⟨2^k,by lia,o,2^k,0,U,.inr ⟨U,k,U⟩,?_⟩;rw[show((0:Nat):Int)+(m:Int)%2=((0:Nat):Int) by lia,show(m:Int) / 2=((2^k:Nat):Int) by lia]
 .have g:¬ (0:Int)<(m:Int):=λz=>g (JQ z)
  refine⟨_,U,q _ ?_⟩;rcases a with⟨_,d⟩|⟨d,k,b⟩
  .lia
  .lia
theorem Ey(F:Fun K "__init__" "Way.__init__" Y18 f fd) (bl:Bl K mg Y)  : aJ P w K mg base CX0 1 f fd ["self","called"] (cn K Y):=by
 refine F.okA Z18 λd A a s H e Q E g h=>?_
 obtain⟨x,c,z,rfl,b,q⟩:=h;refine⟨_,(ag (cy (pv 0) (pv 1) U)),?_⟩;exact⟨_,U,_,U,x,_,c,_,U,b,bl.k_First,bl.na_First_called,(by show 0<1000;decide),q⟩
theorem Ez(F:Fun K "__init__" "Way.__init__" Y22 f fd) (bl:Bl K mg Y)  : aJ P w K mg base CX0 1 f fd ["self","called"] (cA K Y):=by
 refine F.okA Z22 λd A a s H e Q E g h=>?_
 obtain⟨x,c,z,rfl,b,q⟩:=h;refine⟨_,(ag (cy (pv 0) (pv 1) U)),?_⟩;exact⟨_,U,_,U,x,_,c,_,U,b,bl.k_Only,bl.na_Only_called,(by show 0<1000;decide),q⟩
theorem EA(F:Fun K "__init__" "Way.__init__" Y20 f fd) (bl:Bl K mg Y)  : aJ P w K mg base CX0 1 f fd ["self","called"] (cB K Y):=by
 refine F.okA Z20 λd A a s H e Q E g h=>?_
 obtain⟨x,c,z,rfl,b,q⟩:=h;refine⟨_,(ag (cy (pv 0) (pv 1) U)),?_⟩;exact⟨_,U,_,U,x,_,c,_,U,b,bl.k_Like,bl.na_Like_called,(by show 0<1000;decide),q⟩
theorem EB(F:Fun K "__init__" "Way.__init__" Y21 f fd) (bl:Bl K mg Y)  : aJ P w K mg base CX0 1 f fd ["self","called"] (cM K Y):=by
 refine F.okA Z21 λd A a s H e Q E g h=>?_
 obtain⟨x,c,z,rfl,b,q⟩:=h;refine⟨_,(ag (cy (pv 0) (pv 1) U)),?_⟩;exact⟨_,U,_,U,x,_,c,_,U,b,bl.k_Low,bl.na_Low_called,(by show 0<1000;decide),q⟩
theorem EC(F:Fun K "__init__" "Way.__init__" Y19 f fd) (bl:Bl K mg Y)  : aJ P w K mg base CX0 1 f fd ["self","called"] (cC K Y):=by
 refine F.okA Z19 λd A a s H e Q E g h=>?_
 obtain⟨x,c,z,rfl,b,q⟩:=h;refine⟨_,(ag (cy (pv 0) (pv 1) U)),?_⟩;exact⟨_,U,_,U,x,_,c,_,U,b,bl.k_High,bl.na_High_called,(by show 0<1000;decide),q⟩
theorem ED(F:Fun K "__init__" "Way.__init__" Y23 f fd) (bl:Bl K mg Y)  : aJ P w K mg base CX0 1 f fd ["self","called"] (cO K Y):=by
 refine F.okA Z23 λd A a s H e Q E g h=>?_
 obtain⟨x,c,z,rfl,b,q⟩:=h;refine⟨_,(ag (cy (pv 0) (pv 1) U)),?_⟩;exact⟨_,U,_,U,x,_,c,_,U,b,bl.k_Sum,bl.na_Sum_called,(by show 0<1000;decide),q⟩
theorem O_0(F:Fun K "__init__" "Domain.__init__" Y0 f fd) (bl:Bl K mg Y)  : aJ P w K mg base CX0 1 f fd ["self","low","high"] (bO K Y):=by
 refine F.okA Z0 λd A b s H e Q E g h=>?_
 obtain⟨x,a,lo,hi,rfl,c,q⟩:=h
 refine⟨_,(ao (cy (pv 0) (pv 1) U)
  (ag (cy (pv 0) (pv 2) U))),?_⟩
 refine⟨_,U,_,U,x,_,a,_,U,c,bl.k_Numbers,bl.na_Numbers_low,(by show 0<1000;decide),_,U,_,U,x,_,a,_,U,ae,bl.k_Numbers,bl.na_Numbers_high,(by show 1<1000;decide),?_⟩;show Q .non (upd (upd H x (.ins Y.o a [("low",.int lo)])) x (.ins Y.o a (bw "high" (.int hi) [("low",.int lo)])));rw[put2];exact q
theorem O_1(F:Fun K "__init__" "Domain.__init__" Y1 f fd) (bl:Bl K mg Y)  : aJ P w K mg base CX0 1 f fd ["self","low","high"] (bY K Y):=by
 refine F.okA Z1 λd A b s H e Q E g h=>?_
 obtain⟨x,a,lo,hi,rfl,c,q⟩:=h
 refine⟨_,(ao (cy (pv 0) (pv 1) U)
  (ag (cy (pv 0) (pv 2) U))),?_⟩
 refine⟨_,U,_,U,x,_,a,_,U,c,bl.k_Words,bl.na_Words_low,(by show 0<1000;decide),_,U,_,U,x,_,a,_,U,ae,bl.k_Words,bl.na_Words_high,(by show 1<1000;decide),?_⟩;show Q .non (upd (upd H x (.ins Y.p a [("low",.int lo)])) x (.ins Y.p a (bw "high" (.int hi) [("low",.int lo)])));rw[put2];exact q
theorem O_5(F:Fun K "chosen" "First.chosen" Y5 f fd) (bl:Bl K mg Y)  : aJ P w K mg base CX0 1 f fd ["self","codes","outcome"] (J1 K Y):=by
 refine F.ok Z5 (λi H Q E h=>?_) (λr A d s H i Q E u h=>?_)
 .obtain⟨x,c,o,n,e,b,rfl,⟨p,z,j⟩,l,a,g,m,q⟩:=h;rfl
 obtain⟨x,c,o,n,e,b,rfl,⟨p,z,j⟩,l,a,g,m,q⟩:=h;refine⟨_,(ag (av (aZ (aa aO (aa (aK aQ (pv 1) aj (λ_ _=>U)) af))))),?_⟩;exact⟨_,U,c,_,_,_,U,U,g,at0 n e,bu,λt k=>q t _ (ai k _) (.inl ae)⟩
theorem EE(F:Fun K "chosen" "Only.chosen" Y14 f fd) (bl:Bl K mg Y)  : aJ P w K mg base CX0 1 f fd ["self","codes","outcome"] (J9 K Y):=by
 refine F.ok Z14 (λl H Q E h=>?_) (λB A k s H l Q E C h=>?_)
 .obtain⟨x,c,o,n,a,b,rfl,⟨y,z,m⟩,r,j,d,u,q⟩:=h;rfl
 obtain⟨x,c,o,n,a,b,rfl,⟨y,z,m⟩,r,j,d,u,q⟩:=h;refine⟨_,(ag (av (qo (aG cc (au aC U bl.len_ JG (aa (pv 1) af)) aj (aI _)) (aZ (aa aO (aa (aK aQ (pv 1) aj (λ_ _=>U)) af))) (bz (v:=.ref Y.s) U bl.CLASH_ U)))),?_⟩;refine⟨_,U,c,_,U,.inl (d),U,_,U,?_⟩;refine dh (λg=>?_) (λg=>?_)
 .have e:wf 1 b.1 b.2 (n :: a)=say n:=by
   have i:=lU g;simp at i;show fA _=_;unfold fA;rw[JO (by rw[gb];lia)];rfl
  rw[e]at q;exact⟨_,U,c,_,_,_,U,U,d,at0 n a,bu,λt p=>q t _ (ai p _) (.inl ae)⟩
 .have e:wf 1 b.1 b.2 (n :: a)=aR:=by
   have i:=tV g;simp at i;show fA _=_;unfold fA;rw[JN (by rw[gb];lia)]
  rw[e]at q;exact q _ _ (ar.refl _) (.inr bl.q_CLASH)
theorem O_9(F:Fun K "chosen" "Like.chosen" Y9 f fd) (bl:Bl K mg Y)  : aJ P w K mg base CX0 1 f fd ["self","codes","outcome"] (J5 K Y):=by
 refine F.ok Z9 (λu H Q E h=>?_) (λJ A m s H u Q E L h=>?_)
 .obtain⟨x,c,o,n,a,b,rfl,⟨I,z,y⟩,C,k,i,D,q⟩:=h;rfl
 obtain⟨x,c,o,n,a,b,rfl,⟨I,z,y⟩,C,k,i,D,q⟩:=h;refine⟨_,(ag (av (qo (aG cc (au nJ U bl.len_ JG (aa (ck (nI U) U bl.set_ PyProof.Rows.boot_set (aa (pv 1) af)) af)) aj (aI _)) (aZ (aa aO (aa (aK aQ (pv 1) aj (λ_ _=>U)) af))) (bz (v:=.ref Y.s) U bl.CLASH_ U)))),?_⟩;refine⟨_,U,c,_,U,i,(by rw[gb];lia),λl G=>?_⟩;refine⟨l,_,U,ae,(by rw[gb];lia),U,_,U,?_⟩;have d:ar H (upd H l (yu P w l (n :: a))):=ai G _;refine dh (λg=>?_) (λg=>?_)
 .have r:V.int _=V.int _:=lU g;have j:cntK (n :: a) (n :: a).length=1:=by injection r with r;lia
  have p:=oM.mp j;have e:wf 2 b.1 b.2 (n :: a)=say n:=by
   show fw _=_;unfold fw;rw[JO (kJ.mp p),oW p]
  rw[e]at q;exact⟨_,U,c,_,_,_,U,U,d.seq i,at0 n a,bu,λt B=>q t _ (d.trans (ai B _)) (.inl ae)⟩
 .have j:¬ cntK (n :: a) (n :: a).length=1:=λz=>(tV g) (by rw[z];rfl)
  have e:wf 2 b.1 b.2 (n :: a)=aR:=by
   show fw _=_;unfold fw;rw[JN λz=>j (oM.mpr (kJ.mpr z))]
  rw[e]at q;exact q _ _ d (.inr bl.q_CLASH)
theorem EF(F:Fun K "chosen" "Low.chosen" Y11 f fd) (bl:Bl K mg Y)  : aJ P w K mg base CX0 1 f fd ["self","codes","outcome"] (J7 K Y):=by
 refine F.ok Z11 (λg H Q E h=>?_) (λy A d s H g Q E B h=>?_)
 .obtain⟨x,c,o,n,i,b,rfl,⟨v,z,j⟩,l,a,e,p,q⟩:=h;rfl
 obtain⟨x,c,o,n,i,b,rfl,⟨v,z,j⟩,l,a,e,p,q⟩:=h;refine⟨_,(ag (av (aZ (aa aO (aa (au (fK U) U bl.min_ PyProof.Rows.boot_min (aa (pv 1) af)) af))))),?_⟩;refine⟨_,U,c,_,U,e,xU _,λm u r=>⟨bu,λt k=>q t _ (ai k _) (.inl ?_)⟩⟩;rw[ae,mD u r];rfl
theorem O_7(F:Fun K "chosen" "High.chosen" Y7 f fd) (bl:Bl K mg Y)  : aJ P w K mg base CX0 1 f fd ["self","codes","outcome"] (J3 K Y):=by
 refine F.ok Z7 (λg H Q E h=>?_) (λy A d s H g Q E B h=>?_)
 .obtain⟨x,c,o,n,i,b,rfl,⟨v,z,j⟩,l,a,e,p,q⟩:=h;rfl
 obtain⟨x,c,o,n,i,b,rfl,⟨v,z,j⟩,l,a,e,p,q⟩:=h;refine⟨_,(ag (av (aZ (aa aO (aa (au (fL U) U bl.max_ PyProof.Rows.boot_max (aa (pv 1) af)) af))))),?_⟩;refine⟨_,U,c,_,U,e,xU _,λm u r=>⟨bu,λt k=>q t _ (ai k _) (.inl ?_)⟩⟩;rw[ae,mE u r];rfl
theorem EG(F:Fun K "chosen" "Sum.chosen" Y16 f fd) (bl:Bl K mg Y)  : aJ P w K mg base CX0 1 f fd ["self","codes","outcome"] (J11 K Y):=by
 refine F.ok Z16 (λr H Q E h=>?_) (λG A l s H r Q E I h=>?_)
 .obtain⟨x,c,o,n,a,b,rfl,⟨D,z,u⟩,⟨C,p,B,fs,j,d,g,_⟩,k,m,y,q⟩:=h;rfl
 obtain⟨x,c,o,n,a,b,rfl,⟨D,z,u⟩,⟨C,p,B,fs,j,d,g,_⟩,k,m,y,q⟩:=h;refine⟨_,(ag (av (aZ (aa aO (aa (au (oh U) U bl.max_ PyProof.Rows.boot_max (aa (aN (pv 2) U) (aa (au (oi U) U bl.min_ PyProof.Rows.boot_min (aa (aN (pv 2) U) (aa (au (fH U) U bl.sum_ PyProof.Rows.boot_sum (aa (pv 1) af)) af))) af))) af))))),?_⟩;have i:Cls K C/\NoAttr K C s!"low"/\NoAttr K C s!"high":=by
  rcases p with rfl|rfl
  .exact⟨bl.k_Numbers,bl.na_Numbers_low,bl.na_Numbers_high⟩
  .exact⟨bl.k_Words,bl.na_Words_low,bl.na_Words_high⟩
 refine⟨_,U,o,_,_,_,_,U,j,i.1,i.2.1,d,_,U,o,_,_,_,_,U,j,i.1,i.2.2,g,_,U,c,_,U,m,_,_,U,_,_,U,?_⟩;refine⟨bu,λt v=>q t _ (ai v _) (.inl ?_)⟩;rw[ae];have e:near b.1 b.2 (n :: a).sum=if (if (n :: a).sum<b.2 then(n :: a).sum else b.2)>b.1 then(if (n :: a).sum<b.2 then(n :: a).sum else b.2)else b.1:=by
  unfold near;generalize (n :: a).sum=t;split <;> split <;> split <;> first|rfl|lia|(split <;> lia)
 show _=JH (HO.tup (tp (say (near b.1 b.2 (n :: a).sum))));rw[e];rfl
theorem EH(F:Fun K "cut_columns" "cut_columns" Y37 f fd) (bl:Bl K mg Y)(rk:Callee P w K mg base 1 "stretches" ["low","high","marks"] (gB K Y)):aJ P w K mg base CX0 2 f fd ["bounds","marks"] (de K Y):=by
 refine F.okA Z37 λc4 A b3 s H vs Q E hr h=>?_
 obtain⟨a,b,ys,ps,as,R,rfl,ha,hP,hb,hM,hok,q⟩:=h;refine⟨_,(ag (av (cR (ie U bl.zip_ (aa (pv 0) (aa (pv 1) af))) (cE (N:=["bound","cuts"]) (k:=2) U U (by decide+kernel) (by decide+kernel) (by decide+kernel)) U (λ_ _ _ _=>(jh (K:=K) (n:=2) U U (az (ax (i:=0) (show(["bound","cuts"]:List Str).Nodup by decide+kernel) U (Or.inl U) (Or.inr U)) (az (ax (i:=1) (show(["bound","cuts"]:List Str).Nodup by decide+kernel) U (Or.inl U) (Or.inr U)) aV)))) (λ_ _ _ _=>bQ) (λ_ _ _ _=>(aM rk hr U (aa (aK (gq (K:=K) U) (pv 0) aj (λ_ _=>U)) (aa (aK (gq (K:=K) U) (pv 0) aj (λ_ _=>U)) (aa (pv 1) af)))))))),?_⟩;obtain⟨b5,b4,a1⟩:=hok;have b6:=hP.length;have c3:=hM.1
 refine⟨_,U,_,U,a,b,U,⟨_,SqL.of ha⟩,⟨_,SqL.of hb⟩,iR (xs:=ys) (ys:=as.map V.ref) (λD i C B=>ar H B/\B D=JH (.lst C)/\∃d:List (List Int),d.length=i/\(∀(j:Nat)(p:Int×Int)(v l:List Int),ps[j]?=JH p->R[j]?=JH v->d[j]?=JH l->l.Pairwise (· < ·)/\(∀c,c∈l↔(c∈v/\p.1<c/\c<=p.2))/\l.length<64)/\aF C (List.zipWith (λp l=>cb p.1 p.2 l) (ps.take i) d) (λr c=>r≠D/\∃g,B r=JH (.lst g)/\PL B g c))
  (λD O=>⟨ai O _,ae,[],U,(λj p v l _ _ e=>by simp at e),aF.nil⟩) (λD i C B O _ h=>⟨SqL.of (h.1 _ _ ha),SqL.of (h.1 _ _ hb)⟩) (λD i x y C B T O ex ey h hT g a5=>?_) (λD C B O h=>?_)⟩
 .obtain⟨sm,eD,d,o,J,M⟩:=h;obtain⟨p,t,ep,rfl,ht⟩:=hP.get ex;obtain⟨r,rfl,er⟩:=xi ey;have hi:i<as.length:=(GA.mp er).1;obtain⟨v,em⟩:∃v,R[i]?=JH v:=⟨_,Gz (by lia)⟩;obtain⟨r',W,hr⟩:=hM.2 i v em;rw[er]at W;cases W;have s2:=sm.trans (ai hT (.tup [.ref t,.ref r]));have eT:upd B T (.tup [.ref t,.ref r]) T=JH (.tup [.ref t,.ref r]):=ae;have Z:=ai hT (.tup [.ref t,.ref r]);have L:=Z _ _ eD;generalize upd B T (.tup [.ref t,.ref r])=H2 at s2 eT L Z⊢;obtain⟨t0,t1,rfl⟩:∃t0 t1,g=[t0,t1]:=by
   match g,a5 with
   | [t0,t1],_=>exact⟨t0,t1,U⟩
  refine⟨T,_,U,SqT.of eT,U,_,_,U,_,_,U,U,⟨[JH (.ref t),JH (.ref r)],U,U⟩,?_⟩;have c1:=a1 v (GB em);refine⟨_,U,t,_,_,_,U,U,SqT.of (s2 _ _ ht),U,_,U,t,_,_,_,U,U,SqT.of (s2 _ _ ht),U,_,U,r,v,v,p.1,p.2,U,SqL.of (s2 _ _ hr),by lia,by lia,λm hm _ _=>hm,λr2 H3 l a0 s3 S b0 a7 a6 kd a9=>?_⟩;have X:=s3 _ _ L;have c2:C.length=i:=by rw[M.1,lz,iD];lia
  have ki:i<min ys.length (as.map V.ref).length:=by rw[bo];lia
  have a2:r2≠D:=λz=>by rw[z,L]at S;cases S
  refine cQ.mk ki X (aD (by lia)) ⟨(s2.trans s3).upd O,ae,d++[l],by rw[dg,o];rfl,λj p' a3 b1 G I u=>?_,?_⟩
  .by_cases hj:j<d.length
   .rw[fc hj]at u;exact J j p' a3 b1 G I u
   .have a8:j=d.length:=by
     have:=(GA.mp u).1;simp at this;lia
    subst a8;simp at u;subst u;rw[o]at G I;rw[ep]at G;cases G;rw[em]at I;cases I;exact⟨a6,kd,a9⟩
  .rw[take_snoc ep,List.zipWith_append (by rw[iD];lia)];have a4:aF (C++[.ref r2]) (List.zipWith (λp l=>cb p.1 p.2 l) (ps.take i) d++[cb p.1 p.2 l]) (λr c=>r≠D/\∃g,H3 r=JH (.lst g)/\PL H3 g c) :=
    aF.snoc (aF.mono M λx c k=>⟨k.1,let ⟨g,e1,e2⟩:=k.2;⟨g,s3 _ _ (Z _ _ e1),PL.mono e2 (Z.trans s3).tups⟩⟩) ⟨a2,a0,b0,a7⟩
   have st:cg H3 (upd H3 D (.lst (C++[.ref r2]))):=aY X;exact aF.mono a4 λx c k=>⟨k.1,let ⟨g,e1,e2⟩:=k.2;⟨g,(ay k.1).trans e1,PL.mono e2 st⟩⟩
 .obtain⟨sm,eD,d,o,J,M⟩:=h;have e:min ys.length (as.map V.ref).length=ps.length:=by rw[bo];lia
  rw[e]at o;rw[e,eU]at M;exact q D C B d sm eD o J (aF.mono M λx c k=>k.2)
theorem EI(F:Fun K "is_word" "is_word" Y44 f fd) (bl:Bl K mg Y)(g:Callee P w K mg base 1 "all_among" ["text","signs"] (gC K Y)):aJ P w K mg base CX0 2 f fd ["text"] (gF K Y):=by
 refine F.okA Z44 λk A d s H l Q E j h=>?_
 obtain⟨z,rfl,i,q⟩:=h;refine⟨_,(ag (av (gZ (lQ fj fj aj (au pG U bl.len_ JG (aa (pv 0) af)) (oz U bl.MOST_SIGNS_)) (gZ (dY jd (pv 0) aO (aI _)) (kx (aM g j U (aa (pv 0) (aa (oz U bl.SMALL_LETTERS_) af)))))))),?_⟩;refine⟨_,U,_,U,big i,_,_,U,U,_,U,?_⟩;refine dh (λc=>?_) (λc=>?_)
 .refine⟨_,_,U,U,_,U,?_⟩;refine dh (λb=>?_) (λb=>?_)
  .refine⟨_,U,U,_,U,?_⟩;refine dh (λa=>?_) (λa=>?_)
   .refine⟨_,U,z,lets,U,?_⟩;have e:isw z=l7 z lets:=by unfold isw;rw[c,b,a];rfl
    rw[e]at q;exact q
   .have e:isw z=false:=by unfold isw;rw[zD.mpr a,Bool.false_and,Bool.and_false,Bool.and_false]
    rw[e]at q;exact q
  .have e:isw z=false:=by unfold isw;rw[zD.mpr b,Bool.false_and,Bool.and_false]
   rw[e]at q;exact q
 .have e:isw z=false:=by unfold isw;rw[zD.mpr c,Bool.false_and]
  rw[e]at q;exact⟨_,U,bp q⟩
theorem EJ(F:Fun K "fits" "fits" Y39 f fd) (bl:Bl K mg Y)(X:Callee P w K mg base 1 "holds" ["spans","number"] (mM K Y)):aJ P w K mg base CX0 2 f fd ["table","k","codes"] (p5 K Y):=by
 refine F.okA Z39 λa1 A G s H vs Q E hr h=>?_
 obtain⟨t,Z,c,dx,fs,xs,a0,k,b,g,rfl,ht,hf,hl,hR,ek,J,W,q⟩:=h
 refine⟨_,(ao (aH (i:=3) Z39.nd U (Or.inl U) (aK bj (aK aQ (aN (pv 0) U) (pv 1) (λ_ _=>U)) aj (λ_ _=>U)))
  (ao (bh G1.never U (ie U bl.zip_ (aa (pv 3) (aa (pv 2) af))) (cm U (az (ax (i:=4) Z39.nd U (Or.inl U)) (az (ax (i:=5) Z39.nd U (Or.inl U)) aV)))
  (ag (aP (bM (bG (aM X hr U (aa (pv 4) (aa (pv 5) af)))))
  (ag (av b8))
  aE)))
  (ag (av b8)))),?_⟩
 obtain⟨r,er,S,cv,e1,_,R,m⟩:=hR.2 k b ek;refine⟨_,U,t,_,_,_,_,U,ht,bl.k_Table,bl.na_Table_rows,hf,_,U,Z,_,_,_,U,U,SqL.of hl,cw er,r,_,_,_,U,U,SqT.of e1,U,?_⟩;refine⟨_,U,_,U,S,c,U,⟨_,SqL.of R⟩,⟨_,J⟩,lJ (xs:=cv) (ys:=g.map V.int) (λi o a=>ar H a/\(∀j,j<i->inP (b.1.getD j []) (g.getD j 0)=JJ)/\∃B z:Option V,o=[JH (.ref t),JH (.int k),JH (.ref c),JH (.ref S),B,z]) ⟨ar.refl _,(λj h=>JP h (yi j)),_,_,U⟩ (λi o a h=>⟨SqL.of (h.1 _ _ R),h.1.seq J⟩) (λi x y o a T ex ey h hT=>?_) (λo a h=>?_)⟩
 .obtain⟨p,v,B,z,rfl⟩:=h;have s2:=p.trans (ai hT (.tup [x,y]));have O:upd a T (.tup [x,y]) T=JH (.tup [x,y]):=ae;generalize upd a T (.tup [x,y])=H2 at s2 O⊢;obtain⟨l,u,rfl,ep,C⟩:=aF.get m ex;obtain⟨_,ys,el,hp⟩:=C.same s2;obtain⟨n,rfl,N⟩:=of_map ey;refine⟨T,_,U,SqT.of O,U,_,_,U,_,_,U,U,?_⟩;refine⟨_,U,_,U,l,ys,u,n,U,SqL.of el,hp,_,U,?_⟩;have M:b.1.getD i []=u:=by rw[fo,ep];rfl
  have L:g.getD i 0=n:=by rw[fo,N];rfl
  cases hin:inP u n with
  |true =>
   refine bp ⟨s2,λj I=>?_,_,_,U⟩;by_cases D:j<i
   .exact v j D
   .have:j=i:=by lia
    subst this;rw[M,L];exact hin
  |false =>
   refine cZ ?_;have e:ir b.1 g=false:=by
    unfold ir;rw[List.all_eq_false];refine⟨i,iv.mpr (GA.mp N).1,?_⟩;rw[M,L,hin];decide
   have d:=q H2 s2;rw[e]at d;exact d
 .obtain⟨p,v,B,z,rfl⟩:=h;have e:ir b.1 g=true:=by
   unfold ir;rw[ik];intro j I;refine v j ?_;have h1:=m.1;rw[bo];have:=iv.mp I;lia
  have d:=q a p;rw[e]at d;exact d
theorem EK(F:Fun K "column_marks" "column_marks" Y36 f fd) (bl:Bl K mg Y)(tj:Callee P w K mg base 1 "gathered" ["lists"] (iw K Y)) (yZ:Callee P w K mg base 1 "edges" ["spans","low","high"] (mO K Y)):aJ P w K mg base CX0 2 f fd ["table","column"] (dN K Y):=by
 refine F.okA Z36 λb3 A a6 s H vs Q E hr h=>?_
 obtain⟨t,c,dv,bs,rws,b,L,rfl,⟨rl,dx,dl,fs,xs,ht,f1,f2,a3,T,B,hR⟩,eb,a9,eZ,hL,X,q⟩:=h
 refine⟨_,(ao (aH (i:=2) Z36.nd U (Or.inr U) (aK aQ (aN (pv 0) U) (pv 1) (λ_ _=>U)))
  (ag (av (aM tj hr U (aa (cR (aU (aN (pv 0) U)) (dE (N:=["cells","code","column","domain"]) (k:=2) (fr:=[1,2]) (cl:=[("domain",s.heap.objs.size+1+1),("column",s.heap.objs.size+1)]) U U (by decide+kernel) (by decide+kernel) U U (hZ.mpr ⟨U,hZ.mpr ⟨U,jo _⟩⟩) U) U (λ_ _ _ _=>(jh (K:=K) (n:=2) U U (az (ax (i:=0) (show(["cells","code","column","domain"]:List Str).Nodup by decide+kernel) U (Or.inl U) (Or.inr U)) (az (ax (i:=1) (show(["cells","code","column","domain"]:List Str).Nodup by decide+kernel) U (Or.inl U) (Or.inr U)) aV)))) (λ_ _ _ _=>bQ) (λ_ _ _ _=>(aM yZ hr U (aa (aK (fV (K:=K) U) (pv 0) (pv 2) (λ_ _=>U)) (aa (lI (K:=K) U (pv 3) U) (aa (lI (K:=K) U (pv 3) U) af)))))) af))))),?_⟩
 obtain⟨da,a4,C,hC,b1,b0,ha,g1,g2,_⟩:=T.2 c b eb;have J:Cls K C/\NoAttr K C s!"low"/\NoAttr K C s!"high":=by
  rcases hC with rfl|rfl
  .exact⟨bl.k_Numbers,bl.na_Numbers_low,bl.na_Numbers_high⟩
  .exact⟨bl.k_Words,bl.na_Words_low,bl.na_Words_high⟩
 have S:xs.length=rws.length:=hR.1;refine⟨_,U,t,_,_,_,_,U,ht,bl.k_Table,bl.na_Table_domains,f2,_,U,dl,_,_,_,U,U,SqL.of a3,cw a4,?_⟩;refine⟨_,U,t,_,_,_,_,U,ht,bl.k_Table,bl.na_Table_rows,f1,rl,U,⟨_,SqL.of B⟩,gs (xs:=xs) (λD i m d=>ar H d/\d D=JH (.lst m)/\∃j:List DF,m=j.map V.ref/\MLs (hide d D) j ((rws.take i).map (rmk c b))) (λD p=>⟨ai p _,ae,[],U,MLs.nil⟩) (λD i m d p _ h=>SqL.of (h.1 _ _ B)) (λD i y m d p e h ts R=>?_) (λD m d p h=>?_)⟩
 .obtain⟨a,M,j,rfl,o⟩:=h;obtain⟨r,x,rfl,ex,ce,cs,k1,_,k2,k3⟩:=aF.get hR e;have hi:i<xs.length:=(GA.mp e).1;obtain⟨v,h6⟩:=eZ x (GB ex);obtain⟨I,G,rfl⟩:∃I G,ts=[I,G]:=by
   match ts,R with
   | [I,G],_=>exact⟨I,G,U⟩
  refine⟨r,_,U,SqT.of (a _ _ k1),U,_,_,U,_,_,U,U,⟨[JH (.ref ce),JH (.int x.2)],U,U⟩,?_⟩;obtain⟨ol,a1,_,yo,Z,g⟩:=k3.2 c _ (Gz v);have hA:x.1[c]=x.1.getD c []:=by rw[fo,Gz v];rfl
  rw[hA]at g;have a7:=g.length;refine⟨_,U,_,U,ce,_,_,_,U,U,SqL.of (a _ _ k2),cw a1,_,U,da,_,_,_,_,U,a _ _ ha,J.1,J.2.1,g1,_,U,da,_,_,_,_,U,a _ _ ha,J.1,J.2.2,g2,?_⟩;refine⟨ol,yo,_,b.1,b.2,U,SqL.of (a _ _ Z),g.mono a.tups,by lia,λr3 H3 es O u a0 a2=>?_⟩;have a5:=O _ _ M;have nD:r3≠D:=λz=>by rw[z,M]at u;cases u
  have W:=o.1;rw[bo,iD]at W;refine cQ.mk hi a5 (aD (by rw[bo];lia)) ⟨(a.trans O).upd p,ae,j++[r3],by rw[fF];rfl,?_⟩;rw[kg,take_snoc ex,fF];exact MLs.snoc (o.same (iU O)) (cH (by rw[a0,a2];rfl) nD)
 .obtain⟨a,M,j,rfl,o⟩:=h;rw[S,eU]at o;have a8:=rb c b (rws:=rws) λw hw=>(eZ w hw).2
  refine⟨D,j,_,L,U,M,o.same (lO d D),by lia,hL,λx hx=>X x (ur.mp hx),λl cs H2 s2 nl el pw hm=>q l cs H2 (a.trans s2) (a.free nl) el pw λx=>(hm x).trans ur⟩
theorem EL(F:Fun K "_law_seeds" "_law_seeds" Y62 f fd) (bl:Bl K mg Y)(bJ:Callee P w K mg base 1 "_law_mixed" ["cell","k"] (cI K Y)):aJ P w K mg base CX0 2 f fd ["cells","most"] (gG K Y):=by
 refine F.okA Z62 λa3 A R s H vs Q E Z h=>?_
 obtain⟨a,S,m,rfl,hS,Gq,a1,a0,q⟩:=h
 refine⟨_,(ao (aH (i:=2) Z62.nd U (Or.inl U) (aX af))
  (ao (bh G1.never U (lK U bl.enumerate_ (aa (pv 0) af)) (cm U (az (ax (i:=3) Z62.nd U (Or.inl U)) (az (ax (i:=4) Z62.nd U (Or.inl U)) aV)))
  (ag (aP (aG kY (pv 3) (pv 1) (aI _))
  (ag (ba (gN PySem.F.plainAttrs_list PySem.F.slot_list_append PySem.F.type_list_append bL (pv 2) (aa (aM bJ Z U (aa (pv 4) (aa (aw aW (pv 3) aj) af))) af))))
  (ao (aH (i:=5) Z62.nd U (Or.inl U) (aw aW (pv 3) (pv 1)))
  (ag (rM (aM bJ Z U (aa (aw bH (aK aQ (pv 2) (pv 5) (λ_ _=>U)) (aw aW (pv 4) (aw kB aj aj))) (aa (aw aW (pv 3) aj) af))) (rL (pv 2) (pv 5) set_list)))))))
  (ag (av (pv 2))))),?_⟩
 refine⟨(by show 0<=DO;decide),λl I=>?_⟩;have D:ar H (upd H l (.lst ([].map V.int))):=ai I _;have e0:upd H l (.lst ([].map V.int)) l=JH (.lst ([].map V.int)):=ae;have ee:upd H l (.lst [])=upd H l (.lst ([].map V.int)):=rfl;rw[ee];clear ee;generalize upd H l (.lst ([].map V.int))=H0 at D e0⊢;refine⟨_,U,a,U,⟨_,D.seq hS⟩,mw (xs:=S.map V.int) (λi B e=>ar H e/\∃(b:List Int)(N M L:Option V),e l=JH (.lst (b.map V.int))/\b.length<=i/\((b.length:Nat):Int)<=m/\((i:Int) ≥ m->((b.length:Nat):Int)=m)/\((i:Int)<m->b.length=i)/\(∀x∈b,0<=x)/\B=[JH (.ref a),JH (.int m),JH (.ref l),N,M,L]) ⟨D,[],_,_,_,e0,vD _,by show((0:Nat):Int)<=m;lia,(λh=>by lia),(λh=>U),(λx h=>by cases h),U⟩ (λi B e p=>p.1.seq hS) (λi y B e T ey p hT=>?_) (λB e p=>?_)⟩
 .obtain⟨C,b,N,M,L,J,o,v,u,t,j,rfl⟩:=p;obtain⟨c,rfl,_⟩:=of_map ey;have a2:i<S.length:=by have:=(GA.mp ey).1;rw[bo]at this;exact this
  have s2:=C.trans (ai hT (.tup [.int (i:Int),.int c]));have eT:upd e T (.tup [.int (i:Int),.int c]) T=JH (.tup [.int (i:Int),.int c]):=ae;have d:upd e T (.tup [.int (i:Int),.int c]) l=JH (.lst (b.map V.int)):=bR J hT;generalize upd e T (.tup [.int (i:Int),.int c])=H2 at s2 eT d⊢;have W:=zi (i:Int) (show(50:Int)≠0 by decide);have k1:=zh (i:Int) (show(0:Int)<50 by decide);refine⟨T,_,U,SqT.of eT,U,_,_,U,_,_,U,U,?_⟩;refine⟨_,U,_,U,_,_,U,U,_,U,?_⟩;refine dh (λg=>?_) (λg=>?_)
  .have g:(i:Int)<m:=JS g;have O:=t g;refine⟨_,U,.inl ⟨U,_,SqL.of d⟩,_,U,_,U,_,_,U,U,(by show(0:Int)<50;decide),c,_,U,W,by lia,λr k=>?_⟩;refine⟨l,_,_,U,U,d,aD (by rw[bo];lia),s2.upd I,b++[r],_,_,_,by rw[ae,fF];rfl,by simp;lia,by simp;lia,(λh=>by simp;lia),(λh=>by simp;lia),(λx G=>(ia.mp G).elim (j x) λz=>by rw[show x=r by simpa using z];exact k),U⟩
  .have g:m<=(i:Int):=by have:¬ ((i:Int)<m):=λz=>g (JQ z);lia
   have O:=u g;have n:(0:Int)<m:=by lia
   have X:=zi (i:Int) (Int.ne_of_gt n);have j1:=zh (i:Int) n;obtain⟨x,ex⟩:∃x,b[((i:Int)%m).toNat]?=JH x:=⟨_,Gz (by lia)⟩;have ix:atI (b.map V.int) ((i:Int)%m)=JH (.int x):=by
    have:=cw (get_map ex);rw[zk X]at this;exact this
   refine⟨_,U,_,U,_,_,U,U,n,?_⟩;refine⟨_,U,_,U,l,_,_,_,U,U,SqL.of d,ix,_,U,_,_,U,U,⟨by decide,by decide,by decide⟩,_,_,U,U,p10 _,_,_,U,U,_,U,_,_,U,U,(by show(0:Int)<50;decide),_,_,U,W,by lia,λr k=>?_⟩;refine⟨_,U,_,U,l,_,_,((i:Int)%m).toNat,U,U,d,?_,?_⟩
   .unfold ixN;rw[JO X,JO (by rw[bo];lia)]
   .refine⟨s2.upd I,b.set ((i:Int)%m).toNat r,_,_,_,by rw[ae,List.map_set],by simp;lia,by simp;lia,(λh=>by simp;lia),(λh=>by lia),(λx G=>(List.mem_or_eq_of_mem_set G).elim (j x) λz=>by rw[z];exact k),U⟩
 .obtain⟨C,b,N,M,L,J,o,v,u,t,j,rfl⟩:=p;rw[bo]at o;exact⟨_,U,q l b e C J v o j⟩
theorem EM(F:Fun K "_law_column" "_law_column" Y53 f fd) (bl:Bl K mg Y)(bJ:Callee P w K mg base 1 "_law_mixed" ["cell","k"] (cI K Y)):aJ P w K mg base CX0 2 f fd ["m","most"] (fN K Y):=by
 refine F.okA Z53 λd0 A a7 s H vs Q E hr h=>?_
 obtain⟨m,b,rfl,c7,c4,q⟩:=h
 refine⟨_,(aL (aH (i:=2) Z53.nd U (Or.inl U) (dY cc (aw aW (pv 0) aj) aj (aI _)))
  (aL (aH (i:=3) Z53.nd U (Or.inl U) (aw d9 (aw aW (aw bB (pv 0) aj) (aw pq aj (aw kB aj aj))) (aw kB aj aj)))
  (aL (aP (aG cc (aw aW (pv 0) aj) aj (aI _))
  (ag (aH (i:=3) Z53.nd U (Or.inl U) (aw d9 aj (aw aW (aw bB (pv 0) aj) aj))))
  aE)
  (aL (aP (bG (pv 2))
  (ag (aH (i:=3) Z53.nd U (Or.inl U) aj))
  aE)
  (aL (aH (i:=4) Z53.nd U (Or.inl U) (aX af))
  (ao (bh G1.never U (cX U bl.range_ (aa (aw bH aj (aw aW (aw bB (pv 0) aj) (pv 1))) af)) (ax (i:=5) Z53.nd U (Or.inl U))
  (aL (aH (i:=0) Z53.nd U (Or.inl U) (aM bJ hr U (aa (pv 0) (aa (aw bH aj (pv 5)) af))))
  (aL (aH (i:=6) Z53.nd U (Or.inl U) (aK aQ (aX (aa aj (aa aj (aa (aw bH aj (aw aW (aw bB (pv 0) aj) aj)) (aa (aw bH aj (aw aW (aw bB (pv 0) aj) (aw kB aj aj))) af))))) (aw aW (pv 0) aj) (λ_ _=>U)))
  (aL (aP (bG (pv 2))
  (ag (aH (i:=6) Z53.nd U (Or.inl U) (aw bH aj (aw aW (pv 0) aj))))
  aE)
  (ao (ba (gN PySem.F.plainAttrs_list PySem.F.slot_list_append PySem.F.type_list_append bL (pv 4) (aa (aZ (aa (pv 3) (aa (aw d9 (aw bH (pv 3) (pv 6)) aj) af))) af)))
  (ag (aH (i:=3) Z53.nd U (Or.inl U) (aw bH (pv 3) (pv 6)))))))))
  (ag (av (aX (aa (pv 4) (aa (pv 2) (aa (aw bB (pv 0) aj) af)))))))))))),?_⟩
 have D:(0:Int)<b:=by lia
 refine⟨λd o=>o=H/\∃w:Bool,d=[JH (.int m),JH (.int b),JH (.bl w),JI,JI,JI,JI],⟨_,U,_,_,U,U,(by show(0:Int)<3;decide),U,U,_,U⟩,?_⟩;rintro c1 H1 ⟨rfl,u,rfl⟩;have EN:(0:Int)<2*10^(59:Int).toNat:=by have:=p10 (59:Int).toNat;lia
 refine⟨λd o=>o=H1/\∃a:Int,d=[JH (.int m),JH (.int b),JH (.bl u),JH (.int a),JI,JI,JI],⟨_,U,_,_,U,U,⟨by decide,by decide⟩,_,_,U,U,⟨by decide,by decide,by decide⟩,_,_,U,U,.inl ⟨by decide,by decide⟩,_,_,U,U,EN,_,_,U,U,⟨by decide,by decide,by decide⟩,_,_,U,U,U,_,U⟩,?_⟩;rintro b6 H2 ⟨rfl,a1,rfl⟩;refine⟨λd o=>o=H2/\∃a:Int,d=[JH (.int m),JH (.int b),JH (.bl u),JH (.int a),JI,JI,JI],⟨_,U,_,_,U,U,(by show(0:Int)<3;decide),U,_,U,dh (λ_=>⟨_,U,_,_,U,U,⟨by decide,by decide⟩,_,_,U,U,(by show(0:Int)<5;decide),_,_,U,U,U,_,U⟩) (λ_=>⟨U,_,U⟩)⟩,?_⟩;rintro b5 H3 ⟨rfl,a2,rfl⟩;refine⟨λd o=>o=H3/\∃a:Int,(u=JJ->a=0)/\d=[JH (.int m),JH (.int b),JH (.bl u),JH (.int a),JI,JI,JI],⟨_,U,_,U,?_⟩,?_⟩
 .cases u with
  |true=>exact cZ ⟨U,0,(λ_=>U),U⟩
  |false=>exact bp ⟨U,a2,(λh=>by cases h),U⟩
 rintro b4 H4 ⟨rfl,a0,O,rfl⟩;refine⟨λd o=>ar H4 o/\∃x:DF,H4 x=JI/\o x=JH (.lst [])/\d=[JH (.int m),JH (.int b),JH (.bl u),JH (.int a0),JH (.ref x),JI,JI],⟨(by show 0<=DO;decide),λl C=>⟨ai C _,l,C,ae,U⟩⟩,?_⟩;rintro b3 H5 ⟨s5,x,L,a6,rfl⟩;have n0:=zi (m / 3) (Int.ne_of_gt D);have n1:=zh (m / 3) D;refine⟨_,U,_,_,U,U,⟨by decide,by decide⟩,_,U,_,_,U,U,D,_,_,U,U,_,U,(by show -(2^62)<=1+m / 3%b;lia),(by show 1+m / 3%b<2^62;lia),kA (λi σ o=>ar H4 o/\∃(X c:Int)(c5 c6:Option V)(z:List V)(g:Prs),o x=JH (.lst z)/\PL o z g/\g.length=i/\Ch g/\(∀p,g[g.length-1]?=JH p->c=p.2+1)/\(u=JJ->(∀p,g[0]?=JH p->p.1=0)/\(i=0->c=0)/\c<=3*(i:Int)/\∀(j:Nat)(p:Int×Int),g[j]?=JH p->p.2<3*(i:Int))/\σ=[JH (.int X),JH (.int b),JH (.bl u),JH (.int c),JH (.ref x),c5,c6]) ⟨s5,m,a0,_,_,[],[],a6,.nil,U,Ch.nil,(λp e=>by simp at e),(λB=>⟨(λp e=>by simp at e),(λ_=>O B),(by rw[O B];decide),(λj p e=>by simp at e)⟩),U⟩ (λi σ o hi h=>?_) (λσ o h=>?_)⟩
 .obtain⟨W,X,c,c5,c6,z,g,es,Z,y,G,zS,B,rfl⟩:=h;have c8:i<6:=by lia
  refine⟨λd H6=>H6=o/\∃n:Int,d=[JH (.int n),JH (.int b),JH (.bl u),JH (.int c),JH (.ref x),JH (.int (0+(i:Int))),c6],⟨_,U,_,U,_,_,U,U,_,_,U,(by show(0:Int)<=10+(0+(i:Int));lia),(by show(10:Int)+(0+(i:Int))<=100;lia),λr _=>⟨U,r,U⟩⟩,?_⟩;rintro b0 H6 ⟨rfl,n,rfl⟩;refine⟨λd H7=>ar H6 H7/\∃J:Int,1<=J/\d=[JH (.int n),JH (.int b),JH (.bl u),JH (.int c),JH (.ref x),JH (.int (0+(i:Int))),JH (.int J)],?_,?_⟩
  .refine⟨_,U,_,_,U,U,⟨by decide,by decide⟩,_,_,U,U,(by show(0:Int)<9;decide),_,_,U,U,_,U,_,_,U,U,⟨by decide,by decide⟩,_,_,U,U,⟨by decide,by decide,by decide⟩,_,_,U,U,p10 _,_,_,U,U,(by show 4<=DO;decide),λp a5=>?_⟩;have h0:=zi n (show(4:Int)≠0 by decide);have h1:=zh n (show(0:Int)<4 by decide);have b1:=zi (n / 4) (show(9:Int)≠0 by decide);have b2:=zi (n / 4) (Int.ne_of_gt (p10 (58:Int).toNat));obtain⟨v,hv,N⟩:∃v:Int,atI [V.int 1,.int 2,.int (1+n / 4%9),.int (1+n / 4%10^(58:Int).toNat)] (n%4)=JH (.int v)/\1<=v:=by
    generalize n%4=k at h0 h1⊢;generalize n / 4%9=T at b1⊢;generalize n / 4%10^(58:Int).toNat=x2 at b2⊢;have:k=0\/k=1\/k=2\/k=3:=by lia
    rcases this with rfl|rfl|rfl|rfl
    .exact⟨_,U,by decide⟩
    .exact⟨_,U,by decide⟩
    .exact⟨_,U,by lia⟩
    .exact⟨_,U,by lia⟩
   exact⟨_,U,_,_,U,U,(by show(0:Int)<4;decide),p,_,_,_,U,U,SqL.of ae,hv,ai a5 _,v,N,U⟩
  rintro a9 H7 ⟨s7,v7,a3,rfl⟩;refine⟨λd I=>I=H7/\∃v:Int,1<=v/\(u=JJ->v<=3)/\d=[JH (.int n),JH (.int b),JH (.bl u),JH (.int c),JH (.ref x),JH (.int (0+(i:Int))),JH (.int v)],⟨_,U,_,U,?_⟩,?_⟩
  .have h0:=zi n (show(3:Int)≠0 by decide);have h1:=zh n (show(0:Int)<3 by decide);cases u with
   |true=>exact cZ ⟨_,U,_,_,U,U,(by show(0:Int)<3;decide),_,_,U,U,U,_,by lia,λ_=>by lia,U⟩
   |false=>exact bp ⟨U,v7,a3,(λh=>by cases h),U⟩
  rintro a8 I ⟨rfl,v,N,a4,rfl⟩;have R:=s7 _ _ es;refine⟨_,U,.inl ⟨U,_,SqL.of R⟩,_,U,_,U,_,U,_,_,U,U,_,_,U,U,bu,λt ht=>?_⟩;have T:upd I t (.tup [.int c,.int (c+v-1)]) x=JH (.lst z):=bR R ht;have c2:z.length=i:=by rw[Z.length,y]
  refine⟨x,_,_,U,U,T,aD (by lia),?_⟩;have st:cg I (upd (upd I t (.tup [.int c,.int (c+v-1)])) x (.lst (z++[.ref t]))):=(iN ht).trans (aY T);have S:∀(j:Nat)(p:Int×Int),(g++[(c,c+v-1)])[j]?=JH p->g[j]?=JH p/\j<g.length\/p=(c,c+v-1)/\j=g.length:=λj p e=>by
   by_cases hj:j<g.length
   .rw[fc hj]at e;exact .inl ⟨e,hj⟩
   .have:j=g.length:=by have:=(GA.mp e).1;simp at this;lia
    subst this;simp at e;exact .inr ⟨e.symm,U⟩
  refine⟨_,U,_,U,_,_,U,U,((W.trans s7).trans (ai ht _)).upd L,n,_,_,_,z++[.ref t],g++[(c,c+v-1)],ae,((Z.mono s7.tups).mono st).snoc (aY T _ _ ae),by simp[y],G.snoc (by lia) zS,?_,λM=>?_,U⟩
  .intro p e;rw[dg,hQ,Nat.add_sub_cancel]at e;simp at e;subst e;show c+v=c+v-1+1;lia
  .obtain⟨w1,w2,w3,w4⟩:=B M;have v3:=a4 M;refine⟨λp e=>?_,λh=>by lia,by lia,λj p e=>?_⟩
   .rcases S 0 p e with⟨e,_⟩|⟨rfl,hz⟩
    .exact w1 p e
    .exact w2 (by lia)
   .rcases S j p e with⟨e,_⟩|⟨rfl,hz⟩
    .have:=w4 j p e;lia
    .show c+v-1<_;lia
 .obtain⟨W,X,c,c5,c6,z,g,es,Z,y,G,zS,B,rfl⟩:=h;have c3:1<=(1+m / 3%b).toNat/\(1+m / 3%b).toNat<=6:=by lia
  refine⟨_,U,_,U,_,U,_,_,U,U,⟨by decide,by decide⟩,(by show 3<=DO;decide),λl C=>q l ⟨g,u,X / 8⟩ _ (W.trans (ai C _)) ⟨x,z,W.free C,L,ae,bR es C,Z.mono (ai C _).tups⟩ ⟨by show 1<=g.length;lia,by show g.length<=6;lia,G,λh=>(B h).1,λh j p e=>?_⟩ (by show((g.length:Nat):Int)<=b;lia)⟩;have:=(B h).2.2.2 j p e;lia
theorem EO(F:Fun K "_law_bit_row" "_law_bit_row" Y48 f fd) (bl:Bl K mg Y)(bJ:Callee P w K mg base 1 "_law_mixed" ["cell","k"] (cI K Y)):aJ P w K mg base CX0 2 f fd ["m","columns","out","last"] (eQ K Y):=by
 refine F.okA Z48 λi1 A g9 s H vs Q E hr h=>?_
 obtain⟨m,z,v,o,xs,S,Z,rfl,a6,d0,hok,h1,h4,⟨a9,e6,_,_,d3,y9,b5⟩,a2,f4,a4,q⟩:=h
 refine⟨_,(aL (aH (i:=4) Z48.nd U (Or.inl U) (aX af))
  (ao (aH (i:=5) Z48.nd U (Or.inl U) (pv 0))
  (aL (bh G1.never U (lK U bl.enumerate_ (aa (pv 1) af)) (cm U (az (ax (i:=6) Z48.nd U (Or.inl U)) (az (ax (i:=7) Z48.nd U (Or.inl U)) aV)))
  (aL (aH (i:=0) Z48.nd U (Or.inl U) (aM bJ hr U (aa (pv 0) (aa (aw bH aj (pv 6)) af))))
  (aL (aH (i:=8) Z48.nd U (Or.inl U) (aw d9 (aw vU aj (au aC U bl.len_ JG (aa (aK aQ (pv 7) aj (λ_ _=>U)) af))) aj))
  (ag (ba (gN PySem.F.plainAttrs_list PySem.F.slot_list_append PySem.F.type_list_append bL (pv 4) (aa (aK aQ (aX (aa (aw aW (aw bB (pv 0) aj) (aw bH (pv 8) aj)) (aa (aw aW (aw bB (pv 0) aj) (aw bH (pv 8) aj)) (aa (pv 8) (aa (aw aW (aw bB (pv 0) aj) (pv 8)) af))))) (aw aW (pv 0) aj) (λ_ _=>U)) af)))))))
  (aL (aH (i:=9) Z48.nd U (Or.inl U) (aK bj (aK aQ (aK aQ (pv 2) aj (λ_ _=>U)) (aw aW (aw bB (pv 0) aj) (au aC U bl.len_ JG (aa (aK aQ (pv 2) aj (λ_ _=>U)) af))) (λ_ _=>U)) (aw aW (aw bB (pv 0) aj) aj) (λ_ _=>U)))
  (aL (aP (PW.pt (gm (aG gM (au aC U bl.len_ JG (aa (pv 3) af)) aj (aI _)) (dX (aG cc (aw aW (pv 5) aj) aj (aI _)))))
  (aL (aH (i:=10) Z48.nd U (Or.inl U) (aw aW (aw bB (pv 5) aj) (au aC U bl.len_ JG (aa (pv 1) af))))
  (ao (aH (i:=4) Z48.nd U (Or.inl U) (aw jt (aw jt (jX lH (aK bj (pv 3) aj (λ_ _=>U)) lF (lG (pv 10))) (aX (aa (aK aQ (pv 4) (pv 10) (λ_ _=>U)) af))) (jX lH (aK bj (pv 3) aj (λ_ _=>U)) (lG (aw bH (pv 10) aj)) lF)))
  (ag (aP (aG gM (aw aW (aw bB (pv 5) aj) aj) aj (aI _))
  (ag (aH (i:=9) Z48.nd U (Or.inl U) (aK bj (pv 3) aj (λ_ _=>U))))
  aE))))
  aE)
  (ag (av (aZ (aa (pv 4) (aa (pv 9) af)))))))))),?_⟩
 have e8:xs.length=S.length:=d0.1;refine⟨λa g=>ar H g/\∃bl:DF,H bl=JI/\g bl=JH (.lst (vN []))/\a=[JH (.int m),JH (.ref z),JH (.ref v),JH (.ref o),JH (.ref bl),JI,JI,JI,JI,JI,JI],⟨(by show 0<=DO;decide),λl hl=>⟨ai hl _,l,hl,ae,U⟩⟩,?_⟩;rintro h6 H1 ⟨s1,bl,b1,g8,rfl⟩;refine⟨_,U,λa g=>ar H g/\∃(m2:Int)(bs:List Nat)(I G C:Option V),0<=m2/\g bl=JH (.lst (vN bs))/\bs.length=S.length/\(∀(j b:Nat)(c:Col),bs[j]?=JH b->S[j]?=JH c->b<2^c.prs.length)/\a=[JH (.int m2),JH (.ref z),JH (.ref v),JH (.ref o),JH (.ref bl),JH (.int m),I,G,C,JI,JI],?_,?_⟩
 .refine⟨_,U,z,U,⟨_,SqL.of (s1 _ _ a6)⟩,mw (xs:=xs) (λi σ g=>ar H g/\∃(m2:Int)(bs:List Nat)(I G C:Option V),0<=m2/\g bl=JH (.lst (vN bs))/\bs.length=i/\(∀(j b:Nat)(c:Col),bs[j]?=JH b->S[j]?=JH c->b<2^c.prs.length)/\σ=[JH (.int m2),JH (.ref z),JH (.ref v),JH (.ref o),JH (.ref bl),JH (.int m),I,G,C,JI,JI]) ⟨s1,m,[],_,_,_,f4,g8,U,(λj b c e=>by simp at e),U⟩ (λi σ g hh=>SqL.of (hh.1 _ _ a6)) (λi y σ g T ey hh hT=>?_) (λσ g hh=>by rw[e8]at hh;exact hh)⟩;obtain⟨sm,m2,bs,I,G,C,h8,eb,t,N,rfl⟩:=hh;obtain⟨l,c,rfl,ec,pl,ts,_,_,el,g7,hp⟩:=aF.get d0 ey;have hi:i<xs.length:=(GA.mp ey).1;have ok:=hok c (GB ec);have k1:=ok.some_;have k6:=ok.few;have s2:=sm.trans (ai hT (.tup [.int (i:Int),.ref l]));have eT:upd g T (.tup [.int (i:Int),.ref l]) T=JH (.tup [.int (i:Int),.ref l]):=ae;have a8:upd g T (.tup [.int (i:Int),.ref l]) bl=JH (.lst (vN bs)):=bR eb hT;generalize upd g T (.tup [.int (i:Int),.ref l])=H2 at s2 eT a8⊢;refine⟨T,_,U,SqT.of eT,U,_,_,U,_,_,U,U,?_⟩;refine⟨λa H3=>H3=H2/\∃m3:Int,0<=m3/\a=[JH (.int m3),JH (.ref z),JH (.ref v),JH (.ref o),JH (.ref bl),JH (.int m),JH (.int (i:Int)),JH (.ref l),C,JI,JI],⟨_,U,_,U,_,_,U,U,_,_,U,(by show(0:Int)<=20+(i:Int);lia),(by show(20:Int)+(i:Int)<=100;lia),λr f3=>⟨U,r,f3,U⟩⟩,?_⟩;rintro h5 H3 ⟨rfl,m3,b6,rfl⟩;have f0:=hp.length;refine⟨λa H4=>H4=H3/\a=[JH (.int m3),JH (.ref z),JH (.ref v),JH (.ref o),JH (.ref bl),JH (.int m),JH (.int (i:Int)),JH (.ref l),JH (.int (((2^c.prs.length:Nat):Int)-1)),JI,JI],?_,?_⟩
  .refine⟨_,U,l,_,_,_,U,U,SqL.of (s2 _ _ el),U,pl,_,U,.inl (SqL.of (s2 _ _ g7)),_,_,U,U,⟨by lia,by lia,by decide⟩,_,_,U,U,U,?_⟩;rw[f0,zj];simp
  rintro h3 H4 ⟨rfl,rfl⟩;have he:(0:Int)<((2^c.prs.length:Nat):Int)-1:=by
   have:=Nat.pow_le_pow_right (show 0<2 by decide) k1;rw[Nat.pow_one]at this;generalize 2^c.prs.length=W at this⊢;lia
  have e9:0<=m3 / 8:=Int.ediv_nonneg b6 (by decide);obtain⟨b,hb,g6⟩:=four he e9 (m:=m3);refine⟨_,U,.inl ⟨U,_,SqL.of a8⟩,_,U,_,_,U,U,⟨by decide,by decide⟩,_,U,_,_,U,U,_,_,U,U,(by lia),_,U,_,_,U,U,⟨by decide,by decide⟩,_,U,_,_,U,U,_,_,U,U,(by lia),_,U,_,U,_,_,U,U,⟨by decide,by decide⟩,_,U,_,_,U,U,he,(by show 4<=DO;decide),λp b4=>?_⟩;refine⟨_,U,_,_,U,U,(by show(0:Int)<4;decide),p,_,_,_,U,U,SqL.of ae,hb,bl,_,_,U,U,bR a8 b4,aD (by rw[eK];lia),?_⟩;refine⟨(s2.trans (ai b4 _)).upd b1,m3,bs++[b],_,_,_,b6,by rw[ae,←pY];rfl,by simp[t],λj b' c' J B=>?_,U⟩;by_cases hj:j<bs.length
  .rw[fc hj]at J;exact N j b' c' J B
  .have f5:j=bs.length:=by have:=(GA.mp J).1;simp at this;lia
   subst f5;simp at J;subst J;rw[t,ec]at B;cases B;generalize 2^c.prs.length=W at g6⊢;lia
 rintro h2 H5 ⟨u,R,bs,I,G,C,h7,eb,t,N,rfl⟩;have Gr:=b5.length;have o1:=a2.some_;have Bm:(0:Int)<((e6.length:Nat):Int):=by lia
 refine⟨λa g=>g=H5/\∃X:Int,Z.lo<=X/\X<=Z.hi/\a=[JH (.int R),JH (.ref z),JH (.ref v),JH (.ref o),JH (.ref bl),JH (.int m),I,G,C,JH (.int X),JI],?_,?_⟩
 .obtain⟨rp,p,J,B,e3⟩:=zR b5 (zi (R / 9) (Int.ne_of_gt Bm)) (zh (R / 9) Bm);obtain⟨x,ex,hx⟩:=Cy (p:=p) (m:=R / 7);have i0:=a2.inn B;have h9:=a2.ch.le _ _ B;refine⟨_,U,v,_,_,_,U,U,SqL.of (u _ _ d3),U,_,U,_,_,U,U,⟨by decide,by decide⟩,_,U,v,_,_,_,U,U,SqL.of (u _ _ d3),U,a9,_,U,.inl (SqL.of (u _ _ y9)),_,_,U,U,Bm,a9,_,_,_,U,U,SqL.of (u _ _ y9),J,_,U,_,_,U,U,⟨by decide,by decide⟩,_,_,U,U,(by show(0:Int)<2;decide),rp,_,_,_,U,U,SqT.of (u _ _ e3),ex,U,x,?_,?_,U⟩
  .rcases hx with rfl|rfl <;> lia
  .rcases hx with rfl|rfl <;> lia
 rintro h0 H6 ⟨rfl,X,e0,d5,rfl⟩;refine⟨λa g=>ar H g/\∃(n:DF)(w:BW)(O:Option V),H n=JI/\g n=JH (.lst (vN w.1))/\dU S Z w/\a=[JH (.int R),JH (.ref z),JH (.ref v),JH (.ref o),JH (.ref n),JH (.int m),I,G,C,JH (.int w.2),O],?_,?_⟩
 .have D:ar H H6/\∃(n:DF)(w:BW)(O:Option V),H n=JI/\H6 n=JH (.lst (vN w.1))/\dU S Z w/\([JH (.int R),JH (.ref z),JH (.ref v),JH (.ref o),JH (.ref bl),JH (.int m),I,G,C,JH (.int X),JI]:St)=[JH (.int R),JH (.ref z),JH (.ref v),JH (.ref o),JH (.ref n),JH (.int m),I,G,C,JH (.int w.2),O]:=⟨u,bl,(bs,X),JI,b1,eb,⟨t,N,e0,d5⟩,U⟩;rcases a4 with a4|⟨d,⟨e4,f1,_,f2⟩,M⟩
  .exact⟨_,U,o,_,U,.inl (SqL.of (u _ _ a4)),_,_,U,U,_,U,br (by simp) (bp D)⟩
  .have a7:=u _ _ f1;have d2:=u _ _ f2;refine⟨_,U,o,_,U,.inr (SqT.of a7),_,_,U,U,_,U,dD (by simp) ?_⟩;refine⟨_,U,_,_,U,U,(by show(0:Int)<2;decide),U,_,U,dh (λ_=>?_) (λ_=>D)⟩;have a3:(0:Int)<((xs.length:Nat):Int):=by lia
   have a0:=zi (m / 2) (Int.ne_of_gt a3);have a1:=zh (m / 2) a3;refine⟨λa g=>g=H6/\∃k:Nat,k<S.length/\a=[JH (.int R),JH (.ref z),JH (.ref v),JH (.ref o),JH (.ref bl),JH (.int m),I,G,C,JH (.int X),JH (.int (k:Int))],⟨_,U,_,_,U,U,⟨by decide,by decide⟩,_,U,z,_,U,.inl (SqL.of (u _ _ a6)),_,_,U,U,a3,U,(m / 2%((xs.length:Nat):Int)).toNat,by lia,by rw[zk a0];rfl⟩,?_⟩;rintro e5 H7 ⟨rfl,k,hk,rfl⟩;obtain⟨b,d4⟩:∃b,bs[k]?=JH b:=⟨_,Gz (by lia)⟩;refine⟨_,U,o,_,_,_,U,U,SqT.of a7,U,_,U,_,U,e4,_,U,SqL.of d2,λc1 g0=>?_⟩;rw[yN,yP];have t1:=ai g0 (.lst (vN (d.1.take k)));have g1:upd H7 c1 (.lst (vN (d.1.take k))) c1=JH (.lst (vN (d.1.take k))):=ae;generalize upd H7 c1 (.lst (vN (d.1.take k)))=H8 at t1 g1⊢;refine⟨_,U,_,U,bl,_,_,_,U,U,SqL.of (t1 _ _ eb),cw (Cw d4),(by show 1<=DO;decide),λc2 f9=>?_⟩;have t2:=ai f9 (.lst (vN [b]));have g2:upd H8 c2 (.lst (vN [b])) c2=JH (.lst (vN [b])):=ae;have ee:upd H8 c2 (.lst [V.int (b:Int)])=upd H8 c2 (.lst (vN [b])):=rfl;rw[ee];clear ee;generalize upd H8 c2 (.lst (vN [b]))=H9 at t2 g2⊢;have lw:=M.len;refine⟨c1,c2,_,_,U,U,t2 _ _ g1,g2,v5 (aD (by rw[eK,eK,iD];simp;lia)),λc3 f8=>?_⟩;rw[pY];have t3:=ai f8 (.lst (vN (d.1.take k++[b])));have g3:upd H9 c3 (.lst (vN (d.1.take k++[b]))) c3=JH (.lst (vN (d.1.take k++[b]))):=ae;generalize upd H9 c3 (.lst (vN (d.1.take k++[b])))=H10 at t3 g3⊢;have L:=(t1.trans t2).trans t3;refine⟨_,U,o,_,_,_,U,U,SqT.of (L _ _ a7),U,_,U,_,_,U,U,_,U,e4,_,U,SqL.of (L _ _ d2),λc4 f6=>?_⟩;rw[show((k:Int)+1)=((k+1:Nat):Int) by lia,yO,yQ];have t4:=ai f6 (.lst (vN (d.1.drop (k+1))));have g4:upd H10 c4 (.lst (vN (d.1.drop (k+1)))) c4=JH (.lst (vN (d.1.drop (k+1)))):=ae;generalize upd H10 c4 (.lst (vN (d.1.drop (k+1))))=H11 at t4 g4⊢;refine⟨c3,c4,_,_,U,U,t4 _ _ g3,g4,v5 (aD (by rw[eK,eK,dg,iD,pf];simp;lia)),λc5 d1=>?_⟩;rw[pY,Be (by lia)];have t5:=ai d1 (.lst (vN (d.1.set k b)));have g5:upd H11 c5 (.lst (vN (d.1.set k b))) c5=JH (.lst (vN (d.1.set k b))):=ae;have n5:H c5=none:=((u.trans L).trans t4).free d1;generalize upd H11 c5 (.lst (vN (d.1.set k b)))=H12 at t5 g5⊢;have sA:=((u.trans L).trans t4).trans t5;have b0:∀x:Int,Z.lo<=x->x<=Z.hi->dU S Z (d.1.set k b,x):=λx x0 x1=>⟨by rw[List.length_set];exact lw,λj b' c' J B=>by
    have e3:(d.1.set k b)[j]?=JH b':=J;rw[List.getElem?_set]at e3;by_cases a5:k=j
    .rw[JO a5,JO (by lia)]at e3;cases e3;subst a5;exact N _ _ _ d4 B
    .rw[JN a5]at e3;exact M.lt j b' c' e3 B,x0,x1⟩
   refine⟨_,U,_,_,U,U,⟨by decide,by decide⟩,_,_,U,U,(by show(0:Int)<4;decide),_,_,U,U,_,U,dh (λ_=>?_) (λ_=>?_)⟩
   .exact⟨_,U,o,_,_,_,U,U,SqT.of (sA _ _ f1),U,sA,c5,(d.1.set k b,d.2),_,n5,g5,b0 _ M.lo M.hi,U⟩
   .exact⟨sA,c5,(d.1.set k b,X),_,n5,g5,b0 _ e0 d5,U⟩
 rintro e5 H7 ⟨s7,n,w_,O,n2,B,e7,rfl⟩;exact⟨_,U,_,U,bu,λr b3=>q r w_ _ (s7.trans (ai b3 _)) ⟨n,ae,n2,bR B b3⟩ e7⟩
theorem ER(F:Fun K "_law_rows" "_law_rows" Y60 f fd) (bl:Bl K mg Y)(p6:Callee P w K mg base 1 "_law_spans" ["pairs","bits"] (gD K Y)):aJ P w K mg base CX0 2 f fd ["bit_rows","columns"] (fD K Y):=by
 refine F.okA Z60 λc7 A c6 s H vs Q E hr h=>?_
 obtain⟨l0,cl,a7,xs,a0,cs,rfl,a2,a1,i0,a4,a3,hok,h4,b5,q⟩:=h
 refine⟨_,(ao (aH (i:=2) Z60.nd U (Or.inl U) (aX af))
  (ao (bh G1.never U (aU (pv 0)) (cm U (az (ax (i:=3) Z60.nd U (Or.inl U)) (az (ax (i:=4) Z60.nd U (Or.inl U)) aV)))
  (ag (ba (gN PySem.F.plainAttrs_list PySem.F.slot_list_append PySem.F.type_list_append bL (pv 2) (aa (aZ (aa (cR (ie U bl.zip_ (aa (pv 1) (aa (pv 3) af))) (cE (N:=["column","bit"]) (k:=2) U U (by decide+kernel) (by decide+kernel) (by decide+kernel)) U (λ_ _ _ _=>(jh (K:=K) (n:=2) U U (az (ax (i:=0) (show(["column","bit"]:List Str).Nodup by decide+kernel) U (Or.inl U) (Or.inr U)) (az (ax (i:=1) (show(["column","bit"]:List Str).Nodup by decide+kernel) U (Or.inl U) (Or.inr U)) aV)))) (λ_ _ _ _=>bQ) (λ_ _ _ _=>(aM p6 hr U (aa (aK (fV (K:=K) U) (pv 0) aj (λ_ _=>U)) (aa (pv 1) af))))) (aa (pv 4) af))) af)))))
  (ag (av (pv 2))))),?_⟩
 have b3:xs.length=cs.length:=a3.1;refine⟨(by show 0<=DO;decide),λl hl=>?_⟩;have s0:ar H (upd H l (.lst [])):=ai hl _;have e0:upd H l (.lst []) l=JH (.lst []):=ae;generalize upd H l (.lst [])=H0 at s0 e0⊢;refine⟨_,U,l0,U,⟨_,SqL.of (s0 _ _ a2)⟩,bx (xs:=a7) (λi σ v=>ar H v/\∃(S:List V)(m:List Rw)(c3 c4:Option V),v l=JH (.lst S)/\RL (Fr H l) v S m/\dF cs (a0.take i) m/\σ=[JH (.ref l0),JH (.ref cl),JH (.ref l),c3,c4]) ⟨s0,[],[],_,_,e0,aF.nil,dF.nil,U⟩ (λi σ v _ h=>SqL.of (h.1 _ _ a2)) (λi y σ v ey X=>?_) (λσ v X=>?_)⟩
 .obtain⟨G,S,m,c3,c4,Z,hz,B,rfl⟩:=X;obtain⟨r,o,rfl,ew,c5,f1,_,f2⟩:=aF.get (a1.same G) ey;have hi:i<a0.length:=(GA.mp ew).1;have lw:=b5 o (GB ew);have ki:min xs.length (vN o.1).length=cs.length:=by rw[eK];lia
  refine⟨r,_,U,SqT.of f1,U,_,_,U,_,_,U,U,?_⟩
  refine⟨_,U,.inl ⟨U,_,SqL.of Z⟩,_,U,_,U,cl,c5,U,⟨_,SqL.of (G _ _ a4)⟩,⟨_,SqL.of f2⟩,iR (xs:=xs) (ys:=vN o.1) (λD i ys C=>ar v C/\C D=JH (.lst ys)/\∃d:List Prs,CL (Fr v D) C ys d/\d.length=i/\∀(j:Nat)(u:Prs)(c:Col)(b:Nat),d[j]?=JH u->cs[j]?=JH c->o.1[j]?=JH b->fb c.prs b c.prs.length u/\u=mrg c.prs b c.prs.length)
   (λD M=>⟨ai M _,ae,[],aF.nil,U,(λj u c b e=>by simp at e)⟩) (λD i ys C M _ h=>⟨SqL.of (h.1 _ _ (G _ _ a4)),SqL.of (h.1 _ _ f2)⟩) (λD j x y ys C T M ex c2 h hT ts b4=>?_) (λD ys C M h=>?_)⟩
  .obtain⟨s2,eD,d,hy,g,L⟩:=h;obtain⟨W,c,rfl,ec,pl,a8,_,_,g1,g2,g3⟩:=aF.get ((a3.same G).same s2) ex;obtain⟨b,rfl,eb⟩:=uu c2;have ok:=hok c (GB ec);obtain⟨t0,t1,rfl⟩:∃t0 t1,ts=[t0,t1]:=by
    match ts,b4 with
    | [t0,t1],_=>exact⟨t0,t1,U⟩
   have I:=ai hT (.tup [.ref W,.int (b:Int)]);have eT:upd C T (.tup [.ref W,.int (b:Int)]) T=JH (.tup [.ref W,.int (b:Int)]):=ae;generalize upd C T (.tup [.ref W,.int (b:Int)])=H3 at I eT⊢;refine⟨T,_,U,SqT.of eT,U,_,_,U,_,_,U,U,⟨[JH (.ref W),JH (.int (b:Int))],U,U⟩,?_⟩;refine⟨_,U,W,_,_,_,U,U,SqL.of (I _ _ g1),U,_,U,pl,a8,c.prs,b,U,I _ _ g2,g3.mono I.tups,ok.ch,ok.few,λl2 u H4 s4 CF CG CH=>?_⟩;have hj:j<min xs.length (vN o.1).length:=by
    have:=(GA.mp ex).1;rw[ki,←b3];exact this
   have a6:=s4 _ _ (I _ _ eD);have n4:H3 l2=none:=CF.1;have nD:l2≠D:=λz=>by rw[z,I _ _ eD]at n4;cases n4
   have n2:v l2=none:=s2.free (I.free n4);have Bo:CL (Fr v D) H4 (ys++[.ref l2]) (d++[u]):=aF.snoc (hy.same (I.trans s4)) ⟨⟨n2,nD⟩,CF.2⟩;refine cQ.mk hj a6 (aD (by rw[hy.1];lia)) ⟨((s2.trans I).trans s4).upd M,ae,d++[u],Bo.updN Fr.out a6,by simp[g],λj' a9 c' b' J R O=>?_⟩;by_cases c1:j'<d.length
   .rw[fc c1]at J;exact L j' a9 c' b' J R O
   .have b6:j'=d.length:=by have:=(GA.mp J).1;simp at this;lia
    subst b6;simp at J;subst J;rw[g]at R O;rw[ec]at R;rw[eb]at O;cases R;cases O;exact⟨CG,CH⟩
  .obtain⟨s2,eD,d,hy,g,L⟩:=h;rw[ki]at g;have b0:D≠l:=λz=>by rw[z,Z]at M;cases M
   refine⟨_,U,bu,λt ht=>?_⟩;have t4:=ai ht (.tup [.ref D,.int o.2]);have a5:=t4 _ _ (s2 _ _ Z);have eZ:gQ (Fr H l) (upd C t (.tup [.ref D,.int o.2])) t (d,o.2):=⟨D,ys,ae,⟨G.free M,b0⟩,t4 _ _ eD,(hy.same t4).wk λa ha=>⟨G.free ha.1,λz=>by have X:=ha.1;rw[z,Z]at X;cases X⟩⟩;refine⟨l,_,_,U,U,a5,aD (by rw[hz.1,B.1,iD];lia),?_⟩;have b1:RL (Fr H l) (upd C t (.tup [.ref D,.int o.2])) (S++[.ref t]) (m++[(d,o.2)]):=aF.snoc (hz.same (s2.trans t4)) eZ;refine⟨((G.trans s2).trans t4).upd hl,S++[.ref t],m++[(d,o.2)],_,_,ae,b1.updN Fr.out a5,?_,U⟩;rw[take_snoc ew];exact B.snoc ⟨U,g,λj u c b J R O=>(L j u c b J R O).1,λj u c b J R O=>(L j u c b J R O).2⟩
 .obtain⟨G,S,m,c3,c4,Z,hz,B,rfl⟩:=X;rw[a1.1,eU]at B;exact⟨_,U,q l S m v G Z (aF.mono hz λ_ _ p=>p.wk λa h=>h.1) B⟩
theorem ES(F:Fun K "_law_due" "_law_due" Y55 f fd) (bl:Bl K mg Y)(tm:Callee P w K mg base 1 "_law_fit" ["bit_row","point"] (jz K Y)):aJ P w K mg base CX0 2 f fd ["way","bit_rows","out","point"] (jB K Y):=by
 refine F.okA Z55 λc5 A b4 s H vs Q E hr h=>?_
 obtain⟨wy,i,X,ol,pl,zs,v,o,p,rfl,b,T,hz,i0,⟨S,C,_,_,b3,y9,a4⟩,G,a3,a1,Bj,q⟩:=h
 refine⟨_,(aL (jZ (i:=4) Z55.nd U (Or.inl U) (aU (pv 1)) (cj (N:=["row","point"]) (fr:=[3]) (cl:=[("point",s.heap.objs.size+1)]) U U (by decide+kernel) (by decide+kernel) U (by decide+kernel) U U U (hZ.mpr ⟨U,jo _⟩) U) U (λ_ _ _ _=>(iO (bG (aM tm hr U (aa (pv 0) (aa (pv 1) af)))))) (λ_ _ _ _=>(aK (gq (K:=K) U) (pv 0) aj (λ_ _=>U))))
  (ao (aP (aG cc (au aC U bl.len_ JG (aa (pv 4) af)) aj (aI _))
  (ag (av (aZ (aa aO (aa aj af)))))
  aE)
  (ao (aP (PW.pt (fi (PW.pt (gm (aG cc (pv 0) aO (aI _)) (dX (aG gM (au aC U bl.len_ JG (aa (pv 4) af)) aj (aI _))))) (d8 (PW.pt (gm (aG cc (pv 0) aO (aI _)) (dX (aG jd (au (fK U) U bl.min_ PyProof.Rows.boot_min (aa (pv 4) af)) (au (fL U) U bl.max_ PyProof.Rows.boot_max (aa (pv 4) af)) (aI _))))))))
  (ag (av (aZ (aa aO (aa aj af)))))
  aE)
  (ao (aP (aG cc (pv 0) aO (aI _))
  (ag (av (aZ (aa aO (aa (au (fK U) U bl.min_ PyProof.Rows.boot_min (aa (pv 4) af)) af)))))
  aE)
  (ao (aP (aG cc (pv 0) aO (aI _))
  (ag (av (aZ (aa aO (aa (au (fL U) U bl.max_ PyProof.Rows.boot_max (aa (pv 4) af)) af)))))
  aE)
  (ao (aP (aG cc (pv 0) aO (aI _))
  (ag (av (aZ (aa aO (aa (au (oh U) U bl.max_ PyProof.Rows.boot_max (aa (aK bj (aK aQ (aK aQ (pv 2) aj (λ_ _=>U)) aj (λ_ _=>U)) aj (λ_ _=>U)) (aa (au (oi U) U bl.min_ PyProof.Rows.boot_min (aa (aK bj (aK aQ (aK aQ (pv 2) aj (λ_ _=>U)) (kX hU aj) (λ_ _=>U)) aj (λ_ _=>U)) (aa (au (fH U) U bl.sum_ PyProof.Rows.boot_sum (aa (pv 4) af)) af))) af))) af)))))
  aE)
  (ag (av (aZ (aa aO (aa (aK aQ (pv 4) aj (λ_ _=>U)) af))))))))))),?_⟩
 refine⟨λa0 l=>ar H l/\∃cl:DF,l cl=JH (.lst ((pc v p).map V.int))/\a0=[JH (.str wy),JH (.ref X),JH (.ref ol),JH (.ref pl),JH (.ref cl)],?_,?_⟩
 .refine⟨_,U,X,U,⟨_,SqL.of T⟩,cY (xs:=zs) (λD i J l=>ar H l/\l D=JH (.lst J)/\J=(pc (v.take i) p).map V.int) (λD O=>⟨ai O _,ae,U⟩) (λD i J l O _ h=>SqL.of (h.1 _ _ T)) (λD k y J l O e h=>?_) (λD J l O h=>?_)⟩
  .obtain⟨B,eD,rfl⟩:=h;obtain⟨r,w_,rfl,ew,eZ⟩:=aF.get hz e;have hk:k<zs.length:=(GA.mp e).1;have c4:k<v.length:=(GA.mp ew).1;refine⟨_,U,_,U,r,pl,w_,p,U,eZ.same B,B _ _ a3,a1 w_ (GB ew),Bj,λH3 Z=>⟨_,U,?_⟩⟩;have W:=Z _ _ eD;have hl:((pc (v.take k) p).map V.int).length<=200:=by
    rw[bo];exact vG (xB _ _) (by rw[iD];lia)
   obtain⟨c6,g1,_,g2⟩:=eZ.same (B.trans Z);cases hb:mJ w_.1 p with
   |true =>
    refine cZ ⟨_,U,r,_,_,_,U,U,SqT.of g1,U,cQ.mk hk W (aD (by lia)) ⟨(B.trans Z).upd O,ae,?_⟩⟩;rw[take_snoc ew,p4,hb,fF];rfl
   |false =>
    refine bp (dC.mk (zs:=(pc (v.take k) p).map V.int) hk ⟨B.trans Z,W,?_⟩);rw[take_snoc ew,p4,hb];simp
  .obtain⟨B,eD,rfl⟩:=h;rw[hz.1,eU]at eD;exact⟨B,D,eD,U⟩
 rintro b5 H1 ⟨M,cl,d,rfl⟩;have Bp:(pc v p).length<=200:=vG (xB v p) i0;have CI:=M _ _ b3;have zT:=M _ _ y9;generalize pc v p=c at d q Bp;have c2:(c.map V.int).length=c.length:=bo _;cases c with
 |nil =>
  refine⟨_,U,cl,_,U,.inl (SqL.of d),U,_,U,dD U ⟨bu,λr a=>q r _ (M.trans (ai a _)) ae⟩⟩
 |cons n c =>
 refine⟨_,U,cl,_,U,.inl (SqL.of d),U,_,U,br (by simp;lia) ?_⟩;have fr:=λ(r:DF)(u:List V)(a:H1 r=JI)=>M.trans (ai a (.tup u))
 match i,b with
 |0,b =>
  cases b;exact⟨_,U,U,_,U,br (sne (by decide)) (bp ⟨_,U,U,_,U,br (sne (by decide)) (bp ⟨_,U,U,_,U,br (sne (by decide)) ⟨_,U,U,_,U,br (sne (by decide)) ⟨_,U,U,_,U,br (sne (by decide)) ⟨_,U,cl,_,_,_,U,U,SqL.of d,at0 n c,bu,λr a=>q r _ (fr r _ a) ae⟩⟩⟩⟩)⟩)⟩
 |1,b =>
  cases b;refine⟨_,U,U,_,U,dD U ⟨_,U,cl,_,U,.inl (SqL.of d),_,_,U,U,_,U,dh (λg=>?_) (λg=>?_)⟩⟩
  .have g:(1:Int)<((((n :: c).map V.int).length:Nat):Int):=JS g;have e:wf 1 o.lo o.hi (n :: c)=aR:=by
    show fA _=_;unfold fA;rw[JN (by rw[bo]at g;lia)]
   have q:∀(r:DF)(l:Hp),ar H l->l r=JH (.tup (tp aR))->Q (.ref r) l:=by rw[←e];exact q
   exact cZ ⟨bu,λr a=>q r _ (fr r _ a) ae⟩
  .have g:¬ (1:Int)<((((n :: c).map V.int).length:Nat):Int):=λz=>g (JQ z)
   have e:wf 1 o.lo o.hi (n :: c)=say n:=by
    show fA _=_;unfold fA;rw[JO (by rw[bo,gb]at g;rw[gb];lia)];rfl
   have q:∀(r:DF)(l:Hp),ar H l->l r=JH (.tup (tp (say n)))->Q (.ref r) l:=by rw[←e];exact q
   exact⟨_,U,U,_,U,br (sne (by decide)) (bp ⟨_,U,U,_,U,br (sne (by decide)) ⟨_,U,U,_,U,br (sne (by decide)) ⟨_,U,U,_,U,br (sne (by decide)) ⟨_,U,cl,_,_,_,U,U,SqL.of d,at0 n c,bu,λr a=>q r _ (fr r _ a) ae⟩⟩⟩⟩)⟩
 |2,b =>
  cases b;refine⟨_,U,U,_,U,br (sne (by decide)) (bp ⟨_,U,U,_,U,dD U ⟨_,U,cl,n :: c,U,SqL.of d,xU _,λm1 I R=>⟨_,U,cl,n :: c,U,SqL.of d,xU _,λm2 h3 h4=>⟨U,_,U,?_⟩⟩⟩⟩)⟩;have e1:=mD I R;have e2:=mE h3 h4;by_cases g:m1=m2
  .have e:wf 2 o.lo o.hi (n :: c)=say n:=by
    show fw _=_;unfold fw;have gg:least (n :: c)=great (n :: c):=by rw[←e1,←e2];exact g
    rw[JO gg,oW (kJ.mpr gg)]
   have q:∀(r:DF)(l:Hp),ar H l->l r=JH (.tup (tp (say n)))->Q (.ref r) l:=by rw[←e];exact q
   exact je (by rw[g]) ⟨_,U,U,_,U,br (sne (by decide)) ⟨_,U,U,_,U,br (sne (by decide)) ⟨_,U,U,_,U,br (sne (by decide)) ⟨_,U,cl,_,_,_,U,U,SqL.of d,at0 n c,bu,λr a=>q r _ (fr r _ a) ae⟩⟩⟩⟩
  .have e:wf 2 o.lo o.hi (n :: c)=aR:=by
    show fw _=_;unfold fw;rw[JN λz=>g (by rw[e1,e2];exact z)]
   have q:∀(r:DF)(l:Hp),ar H l->l r=JH (.tup (tp aR))->Q (.ref r) l:=by rw[←e];exact q
   rw[JR (λz=>g (V.int.inj z))];exact cZ ⟨bu,λr a=>q r _ (fr r _ a) ae⟩
 |3,b =>
  cases b;refine⟨_,U,U,_,U,br (sne (by decide)) (bp ⟨_,U,U,_,U,br (sne (by decide)) (bp ⟨_,U,U,_,U,dD U ⟨_,U,cl,n :: c,U,SqL.of d,xU _,λm I R=>⟨bu,λr a=>q r _ (fr r _ a) ?_⟩⟩⟩)⟩)⟩;rw[ae,mD I R];rfl
 |4,b =>
  cases b;refine⟨_,U,U,_,U,br (sne (by decide)) (bp ⟨_,U,U,_,U,br (sne (by decide)) (bp ⟨_,U,U,_,U,br (sne (by decide)) ⟨_,U,U,_,U,dD U ⟨_,U,cl,n :: c,U,SqL.of d,xU _,λm I R=>⟨bu,λr a=>q r _ (fr r _ a) ?_⟩⟩⟩⟩)⟩)⟩;rw[ae,mE I R];rfl
 |5,b =>
  cases b;have I:=G.some_;have L:=a4.mono M.tups;obtain⟨b6,r1,c1,p1,a7,b0,_,a8⟩:=L.last (by intro z;rw[z]at L;have:=L.length;simp at this;lia);have il:atI C (-1)=JH (.ref r1):=by rw[a7];exact hX _ _
  have a6:o.hi=p1.2:=by unfold Col.hi;rw[b0];simp
  obtain⟨p0,b1,a5⟩:=G.first;obtain⟨r0,a9,a2⟩:∃r0,C[0]?=JH (.ref r0)/\H1 r0=JH (.tup [.int p0.1,.int p0.2]):=by
   obtain⟨x,ex⟩:∃x,C[0]?=JH x:=⟨_,Gz (by rw[L.length];lia)⟩;obtain⟨p2,r2,f1,rfl,f2⟩:=L.get ex;rw[b1]at f1;cases f1;exact⟨r2,ex,f2⟩
  refine⟨_,U,U,_,U,br (sne (by decide)) (bp ⟨_,U,U,_,U,br (sne (by decide)) (bp ⟨_,U,U,_,U,br (sne (by decide)) ⟨_,U,U,_,U,br (sne (by decide)) ⟨_,U,U,_,U,dD U ?_⟩⟩⟩)⟩)⟩;refine⟨_,U,ol,_,_,_,U,U,SqL.of CI,U,S,_,_,_,U,U,SqL.of zT,cw (j:=0) a9,r0,_,_,_,U,U,SqT.of a2,z0 _ _,_,U,ol,_,_,_,U,U,SqL.of CI,U,_,U,S,_,_,_,U,U,SqL.of zT,il,r1,_,_,_,U,U,SqT.of a8,z1 _ _,_,U,cl,n :: c,U,SqL.of d,_,_,U,_,_,U,bu,λr a=>q r _ (fr r _ a) ?_⟩;rw[ae];have c3:=G.le;have e:near o.lo o.hi (n :: c).sum=if (if (n :: c).sum<o.hi then(n :: c).sum else o.hi)>o.lo then(if (n :: c).sum<o.hi then(n :: c).sum else o.hi)else o.lo:=by
   unfold near;generalize (n :: c).sum=t;split <;> split <;> split <;> first|rfl|lia|(split <;> lia)
  show _=JH (HO.tup (tp (say (near o.lo o.hi (n :: c).sum))));rw[e,a6,←a5];rfl
 |k+6,b=>simp[six]at b
theorem ET(F:Fun K "_law_like" "_law_like" Y57 f fd) (bl:Bl K mg Y)(uA:Callee P w K mg base 1 "alike" ["one","other"] (mP K Y)) (kM:Callee P w K mg base 1 "_law_are_spans" ["spans","domain"] (dA K Y)):aJ P w K mg base CX0 2 f fd ["found","table"] (iA K Y):=by
 refine F.okA Z57 λc8 A a7 s H vs Q E hr h=>?_
 obtain⟨f,t,ou,nm,wy,zs,dv,CB,L,cs,oc,rfl,⟨a5,dx,c1,Z,fs,a4,D,f1,f2,f3,f4,f5,f6,EU,Bq,CJ,fR,Gs⟩,⟨b4,tx,b5,B,ts,b0,G,k1,k2,k3,k4,k5,k6,EV,M,Gu,tR,Gv⟩,J,W,a3,b6,q⟩:=h
 refine⟨_,(ao (aP (PW.pt (fi (bM (bG (au bC U bl.isinstance_ PyProof.Rows.boot_isinstance (aa (pv 0) (aa (bz (v:=.ref Y.q) U bl.Table_ U) af))))) (fi (aG jd (aN (pv 0) U) (aN (pv 1) U) (aI _)) (d8 (aG (AF hr) (aN (pv 0) U) (aN (pv 1) U) (aI _))))))
  (ag (av b8))
  aE)
  (ao (aP (PW.pt (fi (aG jd (aN (pv 0) U) aO (aI _)) (d8 (bM (bG (aM uA hr U (aa (aN (pv 0) U) (aa (aN (pv 1) U) af))))))))
  (ag (av b8))
  aE)
  (aL (bh G1.never U (ie U bl.zip_ (aa (aN (pv 0) U) (aa (aN (pv 1) U) af))) (cm U (az (ax (i:=2) Z57.nd U (Or.inl U)) (az (ax (i:=3) Z57.nd U (Or.inl U)) aV)))
  (ag (aP (bM (bG (aM uA hr U (aa (pv 2) (aa (pv 3) af)))))
  (ag (av b8))
  aE)))
  (aL (bh G1.never U (aU (aN (pv 0) U)) (cm U (az (ax (i:=4) Z57.nd U (Or.inl U)) (az (ax (i:=5) Z57.nd U (Or.inl U)) aV)))
  (ao (aP (aG jd (au aC U bl.len_ JG (aa (pv 4) af)) (au aC U bl.len_ JG (aa (aN (pv 1) U) af)) (aI _))
  (ag (av b8))
  aE)
  (ag (bh G1.never U (ie U bl.zip_ (aa (pv 4) (aa (aN (pv 1) U) af))) (cm U (az (ax (i:=6) Z57.nd U (Or.inl U)) (az (ax (i:=7) Z57.nd U (Or.inl U)) aV)))
  (ag (aP (bM (bG (aM kM hr U (aa (pv 6) (aa (pv 7) af)))))
  (ag (av b8))
  aE))))))
  (ag (av (dY cc (au aC U bl.len_ JG (aa (aN (pv 0) U) af)) (au aC U bl.len_ JG (aa (aN (pv 1) U) af)) (aI _)))))))),?_⟩
 have a2:dv.length=cs.length:=J.1;refine⟨_,U,_,_,_,_,JJ,U,.ref _,bl.t_Table.ty D,bl.f_tt,_,U,bp ?_⟩;refine⟨_,U,f,_,_,_,_,U,D,bl.k_Table,bl.na_Table_name,f2,_,U,t,_,_,_,_,U,G,bl.k_Table,bl.na_Table_name,k2,U,_,U,je U ?_⟩;refine⟨_,U,f,_,_,_,_,U,D,bl.k_Table,bl.na_Table_names,f5,_,U,t,_,_,_,_,U,G,bl.k_Table,bl.na_Table_names,k5,uP (SqL.of EU) (SqL.of EV) (λx hx=>.inl (ik.mp (oU zs) x hx)) ⟨_,U,bp ?_⟩⟩;refine⟨_,U,f,_,_,_,_,U,D,bl.k_Table,bl.na_Table_way,f3,U,_,U,je U ?_⟩;refine⟨_,U,f,_,_,_,_,U,D,bl.k_Table,bl.na_Table_outcome,f4,_,U,t,_,_,_,_,U,G,bl.k_Table,bl.na_Table_outcome,k4,ou,ou,oc,U,W,W,_,U,bp ?_⟩;refine⟨λI d=>ar H d/\∃O N:Option V,I=[JH (.ref f),JH (.ref t),O,N,JI,JI,JI,JI],?_,?_⟩
 .refine⟨_,U,f,_,_,_,_,U,D,bl.k_Table,bl.na_Table_domains,f6,_,U,t,_,_,_,_,U,G,bl.k_Table,bl.na_Table_domains,k6,Z,B,U,⟨_,SqL.of Bq⟩,⟨_,SqL.of M⟩,lJ (xs:=dv) (ys:=dv) (λi g d=>ar H d/\∃u o:Option V,g=[JH (.ref f),JH (.ref t),u,o,JI,JI,JI,JI]) ⟨ar.refl _,_,_,U⟩ (λi g d h=>⟨SqL.of (h.1 _ _ Bq),SqL.of (h.1 _ _ M)⟩) (λi x y g d T ex ey h hT=>?_) (λg d h=>h)⟩;obtain⟨k,u,o,rfl⟩:=h;have s2:=k.trans (ai hT (.tup [x,y]));have R:upd d T (.tup [x,y]) T=JH (.tup [x,y]):=ae;generalize upd d T (.tup [x,y])=z at s2 R⊢;rw[ex]at ey;cases ey;obtain⟨a,c,rfl,ec,ha⟩:=aF.get J ex;refine⟨T,_,U,SqT.of R,U,_,_,U,_,_,U,U,?_⟩;exact⟨_,U,_,U,a,a,c,U,ha.same s2,ha.same s2,_,U,bp ⟨s2,_,_,U⟩⟩
 rintro a9 H1 ⟨s1,O,N,rfl⟩;refine⟨λI d=>ar H d/\∃O N u o n m:Option V,I=[JH (.ref f),JH (.ref t),O,N,u,o,n,m],?_,?_⟩
 .refine⟨_,U,f,_,_,_,_,U,s1 _ _ D,bl.k_Table,bl.na_Table_rows,f1,a5,U,⟨_,SqL.of (s1 _ _ CJ)⟩,bx (xs:=a4) (λi g d=>ar H d/\∃u o n m:Option V,g=[JH (.ref f),JH (.ref t),O,N,u,o,n,m]) ⟨s1,_,_,_,_,U⟩ (λi g d _ h=>SqL.of (h.1 _ _ CJ)) (λi y g d ey h=>?_) (λg d h=>by obtain⟨a,u,o,n,m,e⟩:=h;exact⟨a,_,_,_,_,_,_,e⟩)⟩;obtain⟨k,u,o,n,m,rfl⟩:=h;obtain⟨r,w_,rfl,ew,ce,S,g1,_,g2,g3⟩:=aF.get (fR.same k) ey;obtain⟨q_,hq,_,rfl⟩:=kK (GB ew);have hb:=a3 q_ hq;have X:=hb.len;rw[bo]at X;have a0:S.length=cs.length:=by rw[g3.1];show(q_.1.map _).length=_;rw[bo,X]
  refine⟨r,_,U,SqT.of g1,U,_,_,U,_,_,U,U,?_⟩;refine⟨_,U,ce,_,U,.inl (SqL.of g2),_,U,t,_,_,_,_,U,k _ _ G,bl.k_Table,bl.na_Table_domains,k6,B,_,U,.inl (SqL.of (k _ _ M)),U,_,U,je (by rw[a0,a2]) ?_⟩;refine⟨_,U,_,U,t,_,_,_,_,U,k _ _ G,bl.k_Table,bl.na_Table_domains,k6,ce,B,U,⟨_,SqL.of g2⟩,⟨_,SqL.of (k _ _ M)⟩,lJ (xs:=S) (ys:=dv) (λi g z=>ar d z/\∃n m:Option V,g=[JH (.ref f),JH (.ref t),O,N,JH (.ref ce),JH (.int q_.2.2),n,m]) ⟨ar.refl _,_,_,U⟩ (λi g z h=>⟨SqL.of (h.1 _ _ g2),SqL.of (h.1 _ _ (k _ _ M))⟩) (λj x y g z T ex a6 h hT=>?_) (λg z h=>?_)⟩
  .obtain⟨s2,n,m,rfl⟩:=h;have s3:=s2.trans (ai hT (.tup [x,y]));have R:upd z T (.tup [x,y]) T=JH (.tup [x,y]):=ae;generalize upd z T (.tup [x,y])=H3 at s3 R⊢;obtain⟨l,ps,rfl,C,a1⟩:=aF.get g3 ex;obtain⟨a,c,rfl,ec,ha⟩:=aF.get J a6;have C:(q_.1.map λp=>[p])[j]?=JH ps:=C;rw[eR]at C;obtain⟨p,ep,rfl⟩:=Bz.mp C;obtain⟨b1,b2,b3⟩:=hb.get j p c.b ep (by rw[eR,ec];rfl);refine⟨T,_,U,SqT.of R,U,_,_,U,_,_,U,U,?_⟩;exact⟨_,U,_,U,l,a,p,c.b,U,a1.same s3,(ha.dom).same (k.trans s3),b2,b1,b3,_,U,bp ⟨s3,_,_,U⟩⟩
  .obtain⟨s2,n,m,rfl⟩:=h;exact⟨k.trans s2,_,_,_,_,U⟩
 rintro a8 z ⟨s2,d1,d0,u,o,n,m,rfl⟩;refine⟨_,U,f,_,_,_,_,U,s2 _ _ D,bl.k_Table,bl.na_Table_domains,f6,Z,_,U,.inl (SqL.of (s2 _ _ Bq)),_,U,t,_,_,_,_,U,s2 _ _ G,bl.k_Table,bl.na_Table_domains,k6,B,_,U,.inl (SqL.of (s2 _ _ M)),U,?_⟩;rw[JQ U];exact q z s2
theorem O_4(F:Fun K "__init__" "First.__init__" Y4 f fd) (bl:Bl K mg Y)(e:b7 CX0 P w K mg base 1 "Way" "__init__" ["self","called"] (cn K Y)):aJ P w K mg base CX0 2 f fd ["self"] (J0 K Y):=by
 refine F.ok Z4 (λd H Q E h=>?_) (λi A a s H d Q E g h=>?_)
 .obtain⟨x,c,rfl,b,q⟩:=h;rfl
 obtain⟨x,c,rfl,b,q⟩:=h;refine⟨_,(ag (ba (ft e bW g U (aa (pv 0) (aa aO af))))),?_⟩;exact⟨_,U,x,c,_,U,b,q⟩
theorem EW(F:Fun K "__init__" "Only.__init__" Y13 f fd) (bl:Bl K mg Y)(e:b7 CX0 P w K mg base 1 "Way" "__init__" ["self","called"] (cA K Y)):aJ P w K mg base CX0 2 f fd ["self"] (J8 K Y):=by
 refine F.ok Z13 (λd H Q E h=>?_) (λi A a s H d Q E g h=>?_)
 .obtain⟨x,c,rfl,b,q⟩:=h;rfl
 obtain⟨x,c,rfl,b,q⟩:=h;refine⟨_,(ag (ba (ft e bW g U (aa (pv 0) (aa aO af))))),?_⟩;exact⟨_,U,x,c,_,U,b,q⟩
theorem O_8(F:Fun K "__init__" "Like.__init__" Y8 f fd) (bl:Bl K mg Y)(e:b7 CX0 P w K mg base 1 "Way" "__init__" ["self","called"] (cB K Y)):aJ P w K mg base CX0 2 f fd ["self"] (J4 K Y):=by
 refine F.ok Z8 (λd H Q E h=>?_) (λi A a s H d Q E g h=>?_)
 .obtain⟨x,c,rfl,b,q⟩:=h;rfl
 obtain⟨x,c,rfl,b,q⟩:=h;refine⟨_,(ag (ba (ft e bW g U (aa (pv 0) (aa aO af))))),?_⟩;exact⟨_,U,x,c,_,U,b,q⟩
theorem EY(F:Fun K "__init__" "Low.__init__" Y10 f fd) (bl:Bl K mg Y)(e:b7 CX0 P w K mg base 1 "Way" "__init__" ["self","called"] (cM K Y)):aJ P w K mg base CX0 2 f fd ["self"] (J6 K Y):=by
 refine F.ok Z10 (λd H Q E h=>?_) (λi A a s H d Q E g h=>?_)
 .obtain⟨x,c,rfl,b,q⟩:=h;rfl
 obtain⟨x,c,rfl,b,q⟩:=h;refine⟨_,(ag (ba (ft e bW g U (aa (pv 0) (aa aO af))))),?_⟩;exact⟨_,U,x,c,_,U,b,q⟩
theorem O_6(F:Fun K "__init__" "High.__init__" Y6 f fd) (bl:Bl K mg Y)(e:b7 CX0 P w K mg base 1 "Way" "__init__" ["self","called"] (cC K Y)):aJ P w K mg base CX0 2 f fd ["self"] (J2 K Y):=by
 refine F.ok Z6 (λd H Q E h=>?_) (λi A a s H d Q E g h=>?_)
 .obtain⟨x,c,rfl,b,q⟩:=h;rfl
 obtain⟨x,c,rfl,b,q⟩:=h;refine⟨_,(ag (ba (ft e bW g U (aa (pv 0) (aa aO af))))),?_⟩;exact⟨_,U,x,c,_,U,b,q⟩
theorem EZ(F:Fun K "__init__" "Sum.__init__" Y15 f fd) (bl:Bl K mg Y)(e:b7 CX0 P w K mg base 1 "Way" "__init__" ["self","called"] (cO K Y)):aJ P w K mg base CX0 2 f fd ["self"] (J10 K Y):=by
 refine F.ok Z15 (λd H Q E h=>?_) (λi A a s H d Q E g h=>?_)
 .obtain⟨x,c,rfl,b,q⟩:=h;rfl
 obtain⟨x,c,rfl,b,q⟩:=h;refine⟨_,(ag (ba (ft e bW g U (aa (pv 0) (aa aO af))))),?_⟩;exact⟨_,U,x,c,_,U,b,q⟩
theorem O_2(F:Fun K "has_code" "Domain.has_code" Y2 f fd) (bl:Bl K mg Y)(e:Callee P w K mg base 1 "is_whole" ["value"] (fB K Y)):aJ P w K mg base CX0 2 f fd ["self","value"] (bP K Y):=by
 refine F.okA Z2 λn A c s H o Q E g h=>?_
 obtain⟨a,b,i,rfl,⟨p,fs,d,j,k,_⟩,m,l,q⟩:=h;refine⟨_,(ag (av (gZ (aM e g U (aa (pv 1) af)) (kx (lQ fj fj (aN (pv 0) U) (pv 1) (aN (pv 0) U)))))),?_⟩;refine⟨_,U,i,U,_,U,cZ ?_⟩;refine⟨_,U,a,_,_,_,_,U,d,bl.k_Numbers,bl.na_Numbers_low,j,_,U,_,_,U,U,_,U,dD m ?_⟩;refine⟨_,U,a,_,_,_,_,U,d,bl.k_Numbers,bl.na_Numbers_high,k,_,_,U,U,?_⟩;show Q (.bl (JL (i<=b.2))) H;rw[JQ l];exact q
theorem O_3(F:Fun K "has_code" "Domain.has_code" Y3 f fd) (bl:Bl K mg Y)(e:Callee P w K mg base 1 "is_whole" ["value"] (fB K Y)):aJ P w K mg base CX0 2 f fd ["self","value"] (bZ K Y):=by
 refine F.okA Z3 λn A c s H o Q E g h=>?_
 obtain⟨a,b,i,rfl,⟨p,fs,d,j,k,_⟩,m,l,q⟩:=h;refine⟨_,(ag (av (gZ (aM e g U (aa (pv 1) af)) (kx (lQ fj fj (aN (pv 0) U) (pv 1) (aN (pv 0) U)))))),?_⟩;refine⟨_,U,i,U,_,U,cZ ?_⟩;refine⟨_,U,a,_,_,_,_,U,d,bl.k_Words,bl.na_Words_low,j,_,U,_,_,U,U,_,U,dD m ?_⟩;refine⟨_,U,a,_,_,_,_,U,d,bl.k_Words,bl.na_Words_high,k,_,_,U,U,?_⟩;show Q (.bl (JL (i<=b.2))) H;rw[JQ l];exact q
theorem E1(F:Fun K "__init__" "Numbers.__init__" Y12 f fd) (bl:Bl K mg Y)(d:b7 CX0 P w K mg base 1 "Domain" "__init__" ["self","low","high"] (bO K Y)):aJ P w K mg base CX0 2 f fd ["self","low","high"] (bI K Y):=by
 refine F.okA Z12 λi A a s H j Q E c h=>?_
 obtain⟨x,e,lo,hi,rfl,b,g,q⟩:=h
 refine⟨_,(ao (aP (aG gM (pv 1) (pv 2) (aI _))
  (ag bV)
  aE)
  (ag (ba (ft d bW c U (aa (pv 0) (aa (pv 1) (aa (pv 2) af))))))),?_⟩
 exact⟨_,U,_,U,_,_,U,U,_,U,br (by lia) ⟨_,U,_,U,_,U,x,e,lo,hi,U,b,q⟩⟩
theorem E3(F:Fun K "verdict" "Way.verdict" Y24 f fd) (bl:Bl K mg Y)(p:bg CX0 P w K mg base 1 Y.h "chosen" ["self","codes","outcome"] (J1 K Y)):aJ P w K mg base CX0 2 f fd ["self","codes","outcome"] (J12 K Y):=by
 refine F.ok Z24 (λm H Q E h=>?_) (λu A i s H m Q E t h=>?_)
 .obtain⟨x,c,o,a,b,rfl,⟨l,z,e⟩,j,d,g,k,q⟩:=h;rfl
 obtain⟨x,c,o,a,b,rfl,⟨l,z,e⟩,j,d,g,k,q⟩:=h
 refine⟨_,(ao (aP (bM (c0 (pv 1) (by intro _;rfl)))
  (ag (av (bz (v:=.ref Y.r) U bl.NONE_ U)))
  aE)
  (ag (av (oB p bW bl.k_First t (pv 0) (aa (pv 1) (aa (pv 2) af)))))),?_⟩
 refine⟨_,U,!(a.map V.int).isEmpty,.inl ⟨_,g,U⟩,?_⟩;cases a with
 |nil=>exact cZ (q _ _ (ar.refl _) (.inr bl.q_NONE))
 |cons n a=>exact bp ⟨_,U,x,_,_,U,e,U,_,U,_,U,x,c,o,n,a,b,U,⟨l,z,e⟩,j,d,g,x4 k,q⟩
theorem E4(F:Fun K "verdict" "Way.verdict" Y28 f fd) (bl:Bl K mg Y)(t:bg CX0 P w K mg base 1 Y.i "chosen" ["self","codes","outcome"] (J9 K Y)):aJ P w K mg base CX0 2 f fd ["self","codes","outcome"] (J16 K Y):=by
 refine F.ok Z28 (λp H Q E h=>?_) (λy A j s H p Q E u h=>?_)
 .obtain⟨x,c,o,a,b,rfl,⟨m,z,e⟩,k,d,g,l,q⟩:=h;rfl
 obtain⟨x,c,o,a,b,rfl,⟨m,z,e⟩,k,d,g,l,q⟩:=h
 refine⟨_,(ao (aP (bM (c0 (pv 1) (by intro _;rfl)))
  (ag (av (bz (v:=.ref Y.r) U bl.NONE_ U)))
  aE)
  (ag (av (oB t bW bl.k_Only u (pv 0) (aa (pv 1) (aa (pv 2) af)))))),?_⟩
 refine⟨_,U,!(a.map V.int).isEmpty,.inl ⟨_,g,U⟩,?_⟩;cases a with
 |nil=>exact cZ (q _ _ (ar.refl _) (.inr bl.q_NONE))
 |cons n a=>exact bp ⟨_,U,x,_,_,U,e,U,_,U,_,U,x,c,o,n,a,b,U,⟨m,z,e⟩,k,d,g,x4 l,q⟩
theorem E5(F:Fun K "verdict" "Way.verdict" Y26 f fd) (bl:Bl K mg Y)(t:bg CX0 P w K mg base 1 Y.j "chosen" ["self","codes","outcome"] (J5 K Y)):aJ P w K mg base CX0 2 f fd ["self","codes","outcome"] (J14 K Y):=by
 refine F.ok Z26 (λp H Q E h=>?_) (λy A i s H p Q E u h=>?_)
 .obtain⟨x,c,o,a,b,rfl,⟨m,z,e⟩,k,d,g,l,q⟩:=h;rfl
 obtain⟨x,c,o,a,b,rfl,⟨m,z,e⟩,k,d,g,l,q⟩:=h
 refine⟨_,(ao (aP (bM (c0 (pv 1) (by intro _;rfl)))
  (ag (av (bz (v:=.ref Y.r) U bl.NONE_ U)))
  aE)
  (ag (av (oB t bW bl.k_Like u (pv 0) (aa (pv 1) (aa (pv 2) af)))))),?_⟩
 refine⟨_,U,!(a.map V.int).isEmpty,.inl ⟨_,g,U⟩,?_⟩;cases a with
 |nil=>exact cZ (q _ _ (ar.refl _) (.inr bl.q_NONE))
 |cons n a=>exact bp ⟨_,U,x,_,_,U,e,U,_,U,_,U,x,c,o,n,a,b,U,⟨m,z,e⟩,k,d,g,x4 l,q⟩
theorem E6(F:Fun K "verdict" "Way.verdict" Y27 f fd) (bl:Bl K mg Y)(t:bg CX0 P w K mg base 1 Y.k "chosen" ["self","codes","outcome"] (J7 K Y)):aJ P w K mg base CX0 2 f fd ["self","codes","outcome"] (J15 K Y):=by
 refine F.ok Z27 (λp H Q E h=>?_) (λy A i s H p Q E u h=>?_)
 .obtain⟨x,c,o,a,b,rfl,⟨m,z,e⟩,j,d,g,l,q⟩:=h;rfl
 obtain⟨x,c,o,a,b,rfl,⟨m,z,e⟩,j,d,g,l,q⟩:=h
 refine⟨_,(ao (aP (bM (c0 (pv 1) (by intro _;rfl)))
  (ag (av (bz (v:=.ref Y.r) U bl.NONE_ U)))
  aE)
  (ag (av (oB t bW bl.k_Low u (pv 0) (aa (pv 1) (aa (pv 2) af)))))),?_⟩
 refine⟨_,U,!(a.map V.int).isEmpty,.inl ⟨_,g,U⟩,?_⟩;cases a with
 |nil=>exact cZ (q _ _ (ar.refl _) (.inr bl.q_NONE))
 |cons n a=>exact bp ⟨_,U,x,_,_,U,e,U,_,U,_,U,x,c,o,n,a,b,U,⟨m,z,e⟩,j,d,g,x4 l,q⟩
theorem E7(F:Fun K "verdict" "Way.verdict" Y25 f fd) (bl:Bl K mg Y)(t:bg CX0 P w K mg base 1 Y.l "chosen" ["self","codes","outcome"] (J3 K Y)):aJ P w K mg base CX0 2 f fd ["self","codes","outcome"] (J13 K Y):=by
 refine F.ok Z25 (λp H Q E h=>?_) (λy A i s H p Q E u h=>?_)
 .obtain⟨x,c,o,a,b,rfl,⟨m,z,e⟩,j,d,g,k,q⟩:=h;rfl
 obtain⟨x,c,o,a,b,rfl,⟨m,z,e⟩,j,d,g,k,q⟩:=h
 refine⟨_,(ao (aP (bM (c0 (pv 1) (by intro _;rfl)))
  (ag (av (bz (v:=.ref Y.r) U bl.NONE_ U)))
  aE)
  (ag (av (oB t bW bl.k_High u (pv 0) (aa (pv 1) (aa (pv 2) af)))))),?_⟩
 refine⟨_,U,!(a.map V.int).isEmpty,.inl ⟨_,g,U⟩,?_⟩;cases a with
 |nil=>exact cZ (q _ _ (ar.refl _) (.inr bl.q_NONE))
 |cons n a=>exact bp ⟨_,U,x,_,_,U,e,U,_,U,_,U,x,c,o,n,a,b,U,⟨m,z,e⟩,j,d,g,x4 k,q⟩
theorem E8(F:Fun K "verdict" "Way.verdict" Y29 f fd) (bl:Bl K mg Y)(t:bg CX0 P w K mg base 1 Y.m "chosen" ["self","codes","outcome"] (J11 K Y)):aJ P w K mg base CX0 2 f fd ["self","codes","outcome"] (J17 K Y):=by
 refine F.ok Z29 (λp H Q E h=>?_) (λy A i s H p Q E u h=>?_)
 .obtain⟨x,c,o,a,b,rfl,⟨l,z,e⟩,j,d,g,k,q⟩:=h;rfl
 obtain⟨x,c,o,a,b,rfl,⟨l,z,e⟩,j,d,g,k,q⟩:=h
 refine⟨_,(ao (aP (bM (c0 (pv 1) (by intro _;rfl)))
  (ag (av (bz (v:=.ref Y.r) U bl.NONE_ U)))
  aE)
  (ag (av (oB t bW bl.k_Sum u (pv 0) (aa (pv 1) (aa (pv 2) af)))))),?_⟩
 refine⟨_,U,!(a.map V.int).isEmpty,.inl ⟨_,g,U⟩,?_⟩;cases a with
 |nil=>exact cZ (q _ _ (ar.refl _) (.inr bl.q_NONE))
 |cons n a=>exact bp ⟨_,U,x,_,_,U,e,U,_,U,_,U,x,c,o,n,a,b,U,⟨l,z,e⟩,j,d,g,x4 k,q⟩
theorem E9(F:Fun K "grain" "grain" Y41 f fd) (bl:Bl K mg Y)(fS:Callee P w K mg base 2 "cut_columns" ["bounds","marks"] (de K Y)):aJ P w K mg base CX0 3 f fd ["bounds","marks"] (mQ K Y):=by
 refine F.okA Z41 λa3 A G s H vs Q E o h=>?_
 obtain⟨a,b,O,ps,as,c,rfl,ha,hP,Z,hM,hok,q⟩:=h
 refine⟨_,(ao (aH (i:=2) Z41.nd U (Or.inl U) aj)
  (ao (bh G1.never U (aU (aM fS o U (aa (pv 0) (aa (pv 1) af)))) (ax (i:=3) Z41.nd U (Or.inl U))
  (ag (Al (i:=2) Z41.nd U (Or.inl U) (au aC U bl.len_ JG (aa (pv 3) af)) AR)))
  (ag (av (pv 2))))),?_⟩
 refine⟨_,U,_,U,a,b,O,ps,as,c,U,ha,hP,Z,hM,hok,λl xs N D S L a2 C I=>?_⟩;obtain⟨a1,a0,x⟩:=hok;have z:xs.length=ps.length:=by rw[I.1,lz];lia
 refine⟨l,U,⟨_,SqL.of L⟩,bx (xs:=xs) (λi d k=>k=N/\∃v:Option V,d=[JH (.ref a),JH (.ref b),JH (.int ((gr ps c i:Nat):Int)),v]) ⟨U,JI,U⟩ (λi d k _ h=>by rw[h.1];exact SqL.of L) (λi y d k e h=>?_) (λd k h=>?_)⟩
 .obtain⟨u,v,rfl⟩:=h;rw[u];obtain⟨r,n,rfl,g,R,o,W⟩:=aF.get I e;have hi:i<xs.length:=(GA.mp e).1;obtain⟨p,t⟩:∃p,ps[i]?=JH p:=⟨_,Gz (by lia)⟩;obtain⟨j,M⟩:∃j,D[i]?=JH j:=⟨_,Gz (by lia)⟩;obtain⟨m,J⟩:∃m,c[i]?=JH m:=⟨_,Gz (by lia)⟩;obtain⟨B,T,_⟩:=C i p m j t J M;rw[nL,t,M]at g;have g:cb p.1 p.2 j=n:=Option.some.inj g;have X:R.length=gl ps c i:=by
   rw[W.length,←g,iu,A8 B T];unfold gl;rw[fo,t,fo,J];rfl
  have b1:=zO (ps:=ps) x i;have b2:(58:Nat)^i<=58^6:=Nat.pow_le_pow_right (by decide) (by lia);have b3:(58:Nat)^3<2^64:=by decide
  refine⟨_,U,_,U,r,_,U,.inl (SqL.of o),_,_,U,U,ya.ok (.inl ⟨by lia,by lia⟩),U,JH (.ref r),?_⟩;rw[X];show[JH (V.ref a),JH (.ref b),JH (.int (((gr ps c i:Nat):Int)*((gl ps c i:Nat):Int))),JH (.ref r)]=_;rw[show gr ps c (i+1)=gr ps c i*gl ps c i from U,Int.natCast_mul]
 .obtain⟨u,v,rfl⟩:=h;rw[u,z];exact⟨_,U,q N S⟩
theorem Fb(F:Fun K "refuse_names" "refuse_names" Y74 f fd) (bl:Bl K mg Y)(u:Callee P w K mg base 2 "is_word" ["text"] (gF K Y)):aJ P w K mg base CX0 3 f fd ["names"] (dO K Y):=by
 refine F.okA Z74 λL A r s H M Q E B h=>?_
 obtain⟨p,a,rfl,n,x,C,N,q⟩:=h
 refine⟨_,(aL (bh G1.never U (aU (pv 0)) (ax (i:=1) Z74.nd U (Or.inl U))
  (ag (aP (bM (bG (aM u B U (aa (pv 1) af))))
  (ag bV)
  aE)))
  (ag (aP (aG kY (au jk U bl.len_ JG (aa (ck (ji U) U bl.set_ PyProof.Rows.boot_set (aa (pv 0) af)) af)) (au aC U bl.len_ JG (aa (pv 0) af)) (aI _))
  (ag bV)
  aE))),?_⟩
 have k:(a.map V.str).length=a.length:=bo _;refine⟨λo b=>b=H/\∃c:Option V,o=[JH (.ref p),c],?_,?_⟩
 .refine⟨_,U,p,U,⟨_,n⟩,bx (xs:=a.map V.str) (λi m b=>b=H/\∃c:Option V,m=[JH (.ref p),c]) ⟨U,_,U⟩ (λi m b _ h=>by rw[h.1];exact n) (λi y m b e h=>?_) (λm b h=>h)⟩;obtain⟨I,c,rfl⟩:=h;rw[I];obtain⟨z,rfl,D⟩:=qT e;have d:=x z (GB D);have v:z.length<=1000:=by
   have g:=d;unfold isw at g;simp only[zC,decide_eq_true_eq]at g;lia
  refine⟨_,U,z,U,v,_,U,?_⟩;rw[d];exact bp ⟨U,_,U⟩
 rintro J O ⟨G,c,rfl⟩;rw[G];refine⟨_,U,p,a,U,n,by lia,λl j=>⟨l,a,U,ae,by lia,_,U,p,_,U,.inl ((ai j _).seq n),_,_,U,U,_,U,?_⟩⟩;have t:=kE a a.length (vD _);rw[eU]at t;exact br (by rw[k,t.mpr C];lia) (q _ (ai j _))
theorem Fc(F:Fun K "refuse_row" "refuse_row" Y75 f fd) (bl:Bl K mg Y)(fe:bg CX0 P w K mg base 2 Y.o "has_code" ["self","value"] (bP K Y)) (gh:bg CX0 P w K mg base 2 Y.p "has_code" ["self","value"] (bZ K Y)):aJ P w K mg base CX0 3 f fd ["domains","outcome","cells","code"] (fO K Y):=by
 refine F.okA Z75 λa2 A a0 s H vs Q E hr h=>?_
 obtain⟨v,m,z,dv,xs,bs,o,t,rfl,N,G,hO,O,I,ok,q⟩:=h
 refine⟨_,(ao (aP (aG jd (au aC U bl.len_ JG (aa (pv 2) af)) (au aC U bl.len_ JG (aa (pv 0) af)) (aI _))
  (ag bV)
  aE)
  (aL (bh G1.never U (ie U bl.zip_ (aa (pv 0) (aa (pv 2) af))) (cm U (az (ax (i:=4) Z75.nd U (Or.inl U)) (az (ax (i:=5) Z75.nd U (Or.inl U)) aV)))
  (ag (bh G1.never U (aU (pv 5)) (cm U (az (ax (i:=6) Z75.nd U (Or.inl U)) (az (ax (i:=7) Z75.nd U (Or.inl U)) aV)))
  (ag (aP (PW.pt (fi (aG kY (pv 6) (aN (pv 4) U) (aI _)) (d8 (aG gM (pv 7) (aN (pv 4) U) (aI _)))))
  (ag bV)
  aE)))))
  (ag (aP (bM (bG (wG (qJ fe bl.k_Numbers (qJ gh bl.k_Words B8)) bW hr (pv 1) (aa (pv 3) af))))
  (ag bV)
  aE)))),?_⟩
 have Z:∀(C:DF),(C=Y.o\/C=Y.p)->Cls K C/\NoAttr K C s!"low"/\NoAttr K C s!"high":=λC h=>by
  rcases h with rfl|rfl
  .exact⟨bl.k_Numbers,bl.na_Numbers_low,bl.na_Numbers_high⟩
  .exact⟨bl.k_Words,bl.na_Words_low,bl.na_Words_high⟩
 have J:xs.length=dv.length:=by rw[I.1,ok.len,G.1]
 refine⟨_,U,z,_,U,.inl (SqL.of O),_,U,v,_,U,.inl (N),U,_,U,je (by rw[J]) ?_⟩;refine⟨λW c=>ar H c/\∃D B k g:Option V,W=[JH (.ref v),JH (.ref m),JH (.ref z),JH (.int t.2),D,B,k,g],?_,?_⟩
 .refine⟨_,U,_,U,v,z,U,⟨_,N⟩,⟨_,SqL.of O⟩,lJ (xs:=dv) (ys:=xs) (λi d c=>ar H c/\∃D B k g:Option V,d=[JH (.ref v),JH (.ref m),JH (.ref z),JH (.int t.2),D,B,k,g]) ⟨ar.refl _,_,_,_,_,U⟩ (λi d c h=>⟨h.1.seq N,SqL.of (h.1 _ _ O)⟩) (λi x y d c T ex ey h hT=>?_) (λd c h=>h)⟩;obtain⟨sm,D,B,k,g,rfl⟩:=h;have s2:=sm.trans (ai hT (.tup [x,y]));have eT:upd c T (.tup [x,y]) T=JH (.tup [x,y]):=ae;generalize upd c T (.tup [x,y])=H2 at s2 eT⊢;obtain⟨a,b,rfl,eb,hb⟩:=G.get ex;obtain⟨l,ps,rfl,ep,hl⟩:=aF.get I ey;obtain⟨C,n,S,fs,u,f1,f2,_⟩:=hb.same s2;obtain⟨k1,k2,k3⟩:=Z C n;obtain⟨_,ys,el,hp⟩:=hl.same s2;refine⟨T,_,U,SqT.of eT,U,_,_,U,_,_,U,U,?_⟩;refine⟨_,U,l,U,⟨_,SqL.of el⟩,bx (xs:=ys) (λj d c=>c=H2/\∃k g:Option V,d=[JH (.ref v),JH (.ref m),JH (.ref z),JH (.int t.2),JH (.ref a),JH (.ref l),k,g]) ⟨U,_,_,U⟩ (λj d c _ h=>by rw[h.1];exact SqL.of el) (λj y d c e h=>?_) (λd c h=>?_)⟩
  .obtain⟨R,k,g,rfl⟩:=h;rw[R];obtain⟨p,r,e1,rfl,X⟩:=hp.get e;obtain⟨i1,i2⟩:=ok.inn i ps b ep eb p (GB e1);refine⟨r,_,U,SqT.of X,U,_,_,U,_,_,U,U,?_⟩;refine⟨_,U,_,U,a,_,_,_,_,U,u,k1,k2,f1,_,_,U,U,_,U,br (by lia) ?_⟩;exact⟨_,U,_,U,a,_,_,_,_,U,u,k1,k3,f2,_,_,U,U,_,U,br (by lia) ⟨U,_,_,U⟩⟩
  .obtain⟨R,k,g,rfl⟩:=h;rw[R];exact⟨s2,_,_,_,_,U⟩
 rintro a1 H3 ⟨L,D,B,k,g,rfl⟩;obtain⟨C,n,M⟩:=hO.same L;obtain⟨S,fs,u,f1,f2,f3⟩:=id M;rcases n with rfl|rfl
 .exact⟨_,U,m,_,S,fs,U,.head _,u,f3,_,U,m,o,t.2,U,M,ok.lo,ok.hi,_,U,bp (q _ L)⟩
 .exact⟨_,U,m,_,S,fs,U,.tail _ (.head _),u,f3,_,U,m,o,t.2,U,M,ok.lo,ok.hi,_,U,bp (q _ L)⟩
theorem Fd(F:Fun K "mask" "mask" Y70 f fd) (bl:Bl K mg Y)(Br:Callee P w K mg base 2 "fits" ["table","k","codes"] (p5 K Y)):aJ P w K mg base CX0 3 f fd ["table","codes"] (gH K Y):=by
 refine F.okA Z70 λa4 A z s H vs Q E S h=>?_
 obtain⟨t,c,a,wi,o,j,rfl,⟨G,ou,Z,fs,r,wy,J,M,a2,a3,m,O,a0,a1,R,i0⟩,W,p,q⟩:=h;refine⟨_,(ag (av (au (fH U) U bl.sum_ PyProof.Rows.boot_sum (aa (fm (cX U bl.range_ (aa (au aC U bl.len_ JG (aa (aN (pv 0) U) af)) af)) (cj (N:=["k","table","codes"]) (fr:=[0,1]) (cl:=[("table",s.heap.objs.size+1),("codes",s.heap.objs.size+1+1)]) U U (by decide+kernel) (by decide+kernel) U (by decide+kernel) U U U (hZ.mpr ⟨U,hZ.mpr ⟨U,jo _⟩⟩) U) U (λ_ _ _ _=>(iO (bG (aM Br S U (aa (pv 1) (aa (pv 0) (aa (pv 2) af))))))) (λ_ _ _ _=>(aw vU aj (pv 0)))) af)))),?_⟩;have l:r.length=a.length:=O.1
 refine⟨_,U,t,_,_,_,_,U,J,bl.k_Table,bl.na_Table_rows,M,G,_,U,.inl (SqL.of m),_,U,(by show -(2^62)<=((r.length:Nat):Int);lia),(by show((r.length:Nat):Int)<2^62;lia),eB (λD i zs k=>ar H k/\k D=JH (.lst zs)/\∃b:List Int,zs=b.map V.int/\b.sum=((msk (gR a j) i:Nat):Int)/\b.length<=i)
  (λD u=>⟨ai u _,ae,[],U,U,vI _⟩) (λD i zs k u hi h=>?_) (λD zs k u h=>?_)⟩
 .obtain⟨d,x,b,rfl,g,T⟩:=h;have y:i<a.length:=by first|lia|(rw[←l];lia)
  obtain⟨e,v⟩:∃e,a[i]?=JH e:=⟨_,Gz y⟩;have L:a.getD i ([],0)=e:=getD_at v;refine⟨_,U,_,U,_,U,t,G,c,Z,fs,r,a,i,e,j,by rw[Int.zero_add],d _ _ J,M,d _ _ m,O.same d,v,d.seq W,p e (GB v),λH3 C=>⟨_,U,?_⟩⟩;have B:=d.trans C;have n:=C _ _ x;cases hb:ir e.1 j with
  |true =>
   refine cZ ⟨_,U,_,_,U,U,⟨by lia,by lia,by decide⟩,cQ.mk hi n (aD (by rw[bo];lia)) ⟨B.upd u,ae,b++[1*2^(0+(i:Int)).toNat],by simp,?_,by simp;lia⟩⟩;have X:(0+(i:Int)).toNat=i:=by lia
   rw[X,List.sum_append,g,eI,show gR a j i=JJ by unfold gR;rw[L];exact hb];simp;lia
  |false =>
   refine bp (dC.mk (zs:=b.map V.int) hi ⟨B,n,b,U,?_,by lia⟩);rw[g,eI,show gR a j i=JK by unfold gR;rw[L];exact hb];simp
 .obtain⟨d,x,b,rfl,g,T⟩:=h;rw[zj]at g;refine⟨D,b,U,SqL.of x,?_⟩;have I:=q k d;rw[←l,←g]at I;exact I
theorem Fe(F:Fun K "table_marks" "table_marks" Y83 f fd) (bl:Bl K mg Y)(mS:Callee P w K mg base 2 "column_marks" ["table","column"] (dN K Y)):aJ P w K mg base CX0 3 f fd ["table"] (eS K Y):=by
 refine F.okA Z84 λa3 A Z s H vs Q E hr h=>?_
 obtain⟨t,G,bs,o,L,rfl,u,hb,T,eZ,hL,q⟩:=h;refine⟨_,(ag (av (fm (cX U bl.range_ (aa (au aC U bl.len_ JG (aa (aN (pv 0) U) af)) af)) (cj (N:=["column","table"]) (fr:=[0]) (cl:=[("table",s.heap.objs.size+1)]) U U (by decide+kernel) (by decide+kernel) U (by decide+kernel) U U U (hZ.mpr ⟨U,jo _⟩) U) U (λ_ _ _ _=>bQ) (λ_ _ _ _=>(aM mS hr U (aa (pv 1) (aa (pv 0) af))))))),?_⟩;obtain⟨rl,dx,dl,fs,xs,ht,f1,f2,W,M,a2,hR⟩:=id u;have a0:G.length=bs.length:=M.1;refine⟨_,U,t,_,_,_,_,U,ht,bl.k_Table,bl.na_Table_domains,f2,dl,_,U,.inl (SqL.of W),_,U,(by show -(2^62)<=((G.length:Nat):Int);lia),(by show((G.length:Nat):Int)<2^62;lia),eB (λD i v d=>ar H d/\d D=JH (.lst v)/\∃(m:List DF)(a:List (List Int)),v=m.map V.ref/\MLs (hide d D) m a/\a.length=i/\∀(c:Nat)(b:Int×Int)(j:List Int),bs[c]?=JH b->a[c]?=JH j->j.Pairwise (· < ·)/\∀x,x∈j↔MkC o c b x) (λD n=>⟨ai n _,ae,[],[],U,MLs.nil,U,λc b j _ e=>by simp at e⟩) (λD i v d n hi h=>?_) (λD v d n h=>?_)⟩
 .obtain⟨y,C,m,a,rfl,B,p,g⟩:=h;have r:i<bs.length:=by lia
  obtain⟨b,I⟩:∃b,bs[i]?=JH b:=⟨_,Gz r⟩;obtain⟨S,R⟩:=hL i b I;refine⟨_,U,_,U,t,i,G,bs,o,b,L i,by rw[Int.zero_add],u.same y,I,T,λw hw=>⟨by rw[(eZ w hw).1];exact r,(eZ w hw).2 i⟩,S,R,λl cs H2 s2 nl el pw hm=>?_⟩;have X:=s2 _ _ C;have nD:l≠D:=λz=>by rw[z,C]at nl;cases nl
  have a1:=B.1;refine cQ.mk hi X (aD (by rw[bo];lia)) ⟨(y.trans s2).upd n,ae,m++[l],a++[cs],by rw[fF];rfl,?_,by rw[dg,hQ,p],λc b' j J k=>?_⟩
  .rw[kg];exact MLs.snoc (B.same (iU s2)) (cH el nD)
  .by_cases hc:c<a.length
   .rw[fc hc]at k;exact g c b' j J k
   .rw[mu (by lia)]at k;have h0:=(GA.mp k).1;rw[hQ]at h0;have O:c=i:=by lia
    subst O;rw[I]at J;cases J;rw[show c-a.length=0 by lia]at k;cases k;exact⟨pw,hm⟩
 .obtain⟨y,C,m,a,rfl,B,p,g⟩:=h;exact q D m a d y n C (B.same (lO d D)) (by lia) g
theorem Ff(F:Fun K "_law_bit_rows" "_law_bit_rows" Y49 f fd) (bl:Bl K mg Y)(mT:Callee P w K mg base 2 "_law_bit_row" ["m","columns","out","last"] (eQ K Y)):aJ P w K mg base CX0 3 f fd ["seeds","columns","out"] (dP K Y):=by
 refine F.okA Z49 λa5 A a3 s H vs Q E hr h=>?_
 obtain⟨sl,cl,ol,ns,xs,O,I,rfl,u,i0,a0,a2,a1,hok,h1,h4,X,T,q⟩:=h
 refine⟨_,(ao (aH (i:=3) Z49.nd U (Or.inl U) (aX af))
  (ao (aH (i:=4) Z49.nd U (Or.inl U) (aX af))
  (ao (bh G1.never U (aU (pv 0)) (ax (i:=5) Z49.nd U (Or.inl U))
  (ao (aH (i:=4) Z49.nd U (Or.inl U) (aM mT hr U (aa (pv 5) (aa (pv 1) (aa (pv 2) (aa (pv 4) af))))))
  (ag (ba (gN PySem.F.plainAttrs_list PySem.F.slot_list_append PySem.F.type_list_append bL (pv 3) (aa (pv 4) af))))))
  (ag (av (pv 3)))))),?_⟩
 refine⟨(by show 0<=DO;decide),λl hl=>?_⟩;have G:ar H (upd H l (.lst [])):=ai hl _;have N:upd H l (.lst []) l=JH (.lst []):=ae;generalize upd H l (.lst [])=H0 at G N⊢;refine⟨(by show 0<=DO;decide),λd p=>?_⟩;have D:=G.trans (ai p (.lst []));have e1:=ai p (.lst []) _ _ N;have e2:upd H0 d (.lst []) d=JH (.lst []):=ae;have Z:d≠l:=λz=>by rw[z,N]at p;cases p
 have Gw:H d=none:=G.free p;generalize upd H0 d (.lst [])=H1 at D e1 e2⊢;refine⟨_,U,sl,U,⟨_,SqL.of (D _ _ u)⟩,bx (xs:=ns.map V.int) (λi x g=>ar H g/\∃(n:DF)(e:List V)(k:List BW)(R:Option V),g l=JH (.lst e)/\BRL (Fr H l) g e k/\k.length=i/\(∀w∈k,dU O I w)/\(n≠l/\g n=JH (.lst [])\/∃w,dS (Fr H l) g n w/\dU O I w)/\x=[JH (.ref sl),JH (.ref cl),JH (.ref ol),JH (.ref l),JH (.ref n),R]) ⟨D,d,[],[],_,e1,aF.nil,U,(λw h=>by cases h),.inl ⟨Z,e2⟩,U⟩ (λi x g _ h=>SqL.of (h.1 _ _ u)) (λi y x g ey J=>?_) (λx g J=>?_)⟩
 .obtain⟨m,n,e,k,R,C,B,b,M,v,rfl⟩:=J;obtain⟨c,rfl,ec⟩:=of_map ey;have hi:i<ns.length:=(GA.mp ec).1;refine⟨_,U,_,U,_,U,_,U,c,cl,ol,n,xs,O,I,U,m _ _ a2,a1.same m,hok,h1,h4,X.same m,T,a0 c (GB ec),?_,λr o S s2 eZ t=>?_⟩
  .rcases v with⟨_,z⟩|⟨w,z1,z2⟩
   .exact .inl z
   .exact .inr ⟨w,z1.wk λ_ _=>trivial,z2⟩
  have j:=s2 _ _ C;have a4:e.length=i:=by rw[B.1,b]
  refine⟨_,U,.inl ⟨U,_,SqL.of j⟩,_,U,l,_,_,U,U,j,aD (by lia),?_⟩;have zU:dS (Fr H l) S r o:=eZ.wk λa L=>⟨m.free L,λz=>by rw[z,C]at L;cases L⟩
  have CK:dS (Fr H l) (upd S l (.lst (e++[.ref r]))) r o:=zU.updN Fr.out j;have W:BRL (Fr H l) S (e++[.ref r]) (k++[o]):=aF.snoc (B.same s2) zU;refine⟨(m.trans s2).upd hl,r,e++[.ref r],k++[o],_,ae,W.updN Fr.out j,by simp[b],λw h=>?_,.inr ⟨o,CK,t⟩,U⟩;rcases ia.mp h with h|h
  .exact M w h
  .rw[show w=o by simpa using h];exact t
 .obtain⟨m,n,e,k,R,C,B,b,M,v,rfl⟩:=J;rw[bo]at b;exact⟨_,U,q l e k g m C (B.wk λa h=>h.1) b M⟩
theorem Fg(F:Fun K "__init__" "Words.__init__" Y30 f fd) (bl:Bl K mg Y)(gi:b7 CX0 P w K mg base 2 "Domain" "__init__" ["self","low","high"] (bY K Y)) (kP:Callee P w K mg base 2 "is_word" ["text"] (gF K Y)):aJ P w K mg base CX0 3 f fd ["self","words"] (b9 K Y):=by
 refine F.okA Z30 λa2 A O s H vs Q E T h=>?_
 obtain⟨x,d,p,a,rfl,R,J,D,q⟩:=h
 refine⟨_,(ao (aP (bM (hV fj fj aj (au aC U bl.len_ JG (aa (pv 1) af)) (oz U bl.MOST_WORDS_)))
  (ag bV)
  aE)
  (aL (bh G1.never U (aU (pv 1)) (ax (i:=2) Z30.nd U (Or.inl U))
  (ag (aP (bM (bG (aM kP T U (aa (pv 2) af))))
  (ag bV)
  aE)))
  (ao (aP (aG kY (au jk U bl.len_ JG (aa (ck (ji U) U bl.set_ PyProof.Rows.boot_set (aa (pv 1) af)) af)) (au aC U bl.len_ JG (aa (pv 1) af)) (aI _))
  (ag bV)
  aE)
  (ao (ba (ft gi bW T U (aa (pv 0) (aa aj (aa (aw d9 (au aC U bl.len_ JG (aa (pv 1) af)) aj) af)))))
  (ag (cy (pv 0) (ck dZ U bl.list_ PyProof.Rows.boot_list (aa (pv 1) af)) U)))))),?_⟩
 have r:SqL K H p (a.map V.str):=SqL.of J;have v:p≠x:=fT J R (by intro z;cases z);have c:(a.map V.str).length=a.length:=bo _;have h1:=D.some_;have a1:=D.few;refine⟨_,U,p,_,U,.inl r,_,_,U,U,_,U,dD (by rw[c];lia) ?_⟩;refine⟨_,_,U,U,_,U,?_⟩;rw[JQ (show(((a.map V.str).length:Nat):Int)<=40 by rw[c];lia)];refine bp ?_;refine⟨λM k=>k=H/\∃t:Option V,M=[JH (.ref x),JH (.ref p),t],?_,?_⟩
 .refine⟨_,U,p,U,⟨_,r⟩,bx (xs:=a.map V.str) (λi C k=>k=H/\∃t:Option V,C=[JH (.ref x),JH (.ref p),t]) ⟨U,_,U⟩ (λi C k _ h=>by rw[h.1];exact r) (λi y C k e h=>?_) (λC k h=>h)⟩;obtain⟨e0,t,rfl⟩:=h;rw[e0];obtain⟨z,rfl,ez⟩:=qT e;have S:=D.words z (GB ez);have hz:z.length<=1000:=by
   have u:=S;unfold isw at u;simp only[zC,decide_eq_true_eq]at u;lia
  refine⟨_,U,z,U,hz,_,U,?_⟩;rw[S];exact bp ⟨U,_,U⟩
 rintro a0 H2 ⟨G,t,rfl⟩;rw[G];refine⟨_,U,p,a,U,r,by lia,λl W=>⟨l,a,U,ae,by lia,_,U,p,_,U,.inl ((ai W _).seq r),_,_,U,U,_,U,?_⟩⟩;have I:=ai W (nG P w l a);have Z:=kE a a.length (vD _);rw[eU]at Z;refine br (by rw[c,Z.mpr D.once];lia) ?_;have N:=I _ _ R;have B:=I _ _ J;refine⟨_,U,_,U,p,_,U,.inl (SqL.of B),_,_,U,U,x,d,0,_,U,N,?_⟩;have L:mkd Y.p (upd H l (nG P w l a)) x d 0 ((((a.map V.str).length:Nat):Int)-1) x=JH (.ins Y.p d [("low",.int 0),("high",.int ((((a.map V.str).length:Nat):Int)-1))]):=ae;have G:mkd Y.p (upd H l (nG P w l a)) x d 0 ((((a.map V.str).length:Nat):Int)-1) p=JH (.lst (a.map V.str)):=by unfold mkd;rw[ay v,ay v];exact B
 have X:∀b o,b≠x->H b=JH o->mkd Y.p (upd H l (nG P w l a)) x d 0 ((((a.map V.str).length:Nat):Int)-1) b=JH o:=λb o n h=>by unfold mkd;rw[ay n,ay n];exact I b o h
 have eh:(((a.map V.str).length:Nat):Int)-1=hiW a:=by rw[c];rfl
 refine⟨_,U,p,_,U,.inl (SqL.of G),λm j=>⟨_,U,x,_,d,_,U,bR L j,bl.k_Words,bl.na_Words_words,(by show 2<1000;decide),?_⟩⟩;show Q .non (upd (upd (mkd Y.p (upd H l (nG P w l a)) x d 0 ((((a.map V.str).length:Nat):Int)-1)) m (.lst (a.map V.str))) x (.ins Y.p d (bw s!"words" (.ref m) [(s!"low",.int 0),(s!"high",.int ((((a.map V.str).length:Nat):Int)-1))])));rw[put3];have g:mkd Y.p (upd H l (nG P w l a)) x d 0 ((((a.map V.str).length:Nat):Int)-1) m=none:=j;clear j;generalize mkd Y.p (upd H l (nG P w l a)) x d 0 ((((a.map V.str).length:Nat):Int)-1)=H2 at L G X g⊢;rw[eh];have nl:m≠x:=(bc L g).symm;exact q _ m (λb o n h=>(ay n).trans (bR (X b o n h) g)) ae ((ay nl).trans ae)
theorem Fh(F:Fun K "way_by" "way_by" Y86 f fd) (bl:Bl K mg Y)(k_First:bq CX0 P w K mg base 2 "First" Y.h ["self"] (J0 K Y)) (k_Only:bq CX0 P w K mg base 2 "Only" Y.i ["self"] (J8 K Y)) (k_Like:bq CX0 P w K mg base 2 "Like" Y.j ["self"] (J4 K Y)) (k_Low:bq CX0 P w K mg base 2 "Low" Y.k ["self"] (J6 K Y)) (k_High:bq CX0 P w K mg base 2 "High" Y.l ["self"] (J2 K Y)) (k_Sum:bq CX0 P w K mg base 2 "Sum" Y.m ["self"] (J10 K Y)):aJ P w K mg base CX0 4 f fd ["name"] (iX K Y):=by
 refine F.okA Z88 λa3 A a2 s H vs Q E Z h=>?_
 obtain⟨z,rfl,hz,q⟩:=h
 refine⟨_,(ao (bh G1.never U (aU (aX (aa (kH k_First bW Z U) (aa (kH k_Only bW Z U) (aa (kH k_Like bW Z U) (aa (kH k_Low bW Z U) (aa (kH k_High bW Z U) (aa (kH k_Sum bW Z U) af)))))))) (ax (i:=1) Z88.nd U (Or.inl U))
  (ag (aP (aG cc (aN (pv 1) U) (pv 0) (aI _))
  (ag (av (pv 1)))
  aE)))
  (ag bV)),?_⟩
 refine λu M c b d=>⟨u,M,U,ae,U,?_⟩
 have t0:ar H (upd (upd (upd H M (.own u)) u (.ins Y.h M [])) u (.ins Y.h M [("called",.str s!"first")])):=((ai b _).upd c).upd c;have v:WyN Y.h (upd (upd (upd H M (.own u)) u (.ins Y.h M [])) u (.ins Y.h M [("called",.str s!"first")])) u s!"first":=⟨M,ae⟩;generalize upd (upd (upd H M (.own u)) u (.ins Y.h M [])) u (.ins Y.h M [("called",.str s!"first")])=H0 at t0 v⊢;clear c b d;refine λt L c b d=>⟨t,L,U,ae,U,?_⟩
 have t1:ar H0 (upd (upd (upd H0 L (.own t)) t (.ins Y.i L [])) t (.ins Y.i L [("called",.str s!"only")])):=((ai b _).upd c).upd c;have B:WyN Y.i (upd (upd (upd H0 L (.own t)) t (.ins Y.i L [])) t (.ins Y.i L [("called",.str s!"only")])) t s!"only":=⟨L,ae⟩;generalize upd (upd (upd H0 L (.own t)) t (.ins Y.i L [])) t (.ins Y.i L [("called",.str s!"only")])=H1 at t1 B⊢;clear c b d;have v:=v.same t1;refine λr J c b d=>⟨r,J,U,ae,U,?_⟩
 have t2:ar H1 (upd (upd (upd H1 J (.own r)) r (.ins Y.j J [])) r (.ins Y.j J [("called",.str s!"like")])):=((ai b _).upd c).upd c;have N:WyN Y.j (upd (upd (upd H1 J (.own r)) r (.ins Y.j J [])) r (.ins Y.j J [("called",.str s!"like")])) r s!"like":=⟨J,ae⟩;generalize upd (upd (upd H1 J (.own r)) r (.ins Y.j J [])) r (.ins Y.j J [("called",.str s!"like")])=H2 at t2 N⊢;clear c b d;have v:=v.same t2;have B:=B.same t2;refine λw3 I c b d=>⟨w3,I,U,ae,U,?_⟩
 have t3:ar H2 (upd (upd (upd H2 I (.own w3)) w3 (.ins Y.k I [])) w3 (.ins Y.k I [("called",.str s!"low")])):=((ai b _).upd c).upd c;have O:WyN Y.k (upd (upd (upd H2 I (.own w3)) w3 (.ins Y.k I [])) w3 (.ins Y.k I [("called",.str s!"low")])) w3 s!"low":=⟨I,ae⟩;generalize upd (upd (upd H2 I (.own w3)) w3 (.ins Y.k I [])) w3 (.ins Y.k I [("called",.str s!"low")])=H3 at t3 O⊢;clear c b d;have v:=v.same t3;have B:=B.same t3;have N:=N.same t3;refine λp G c b d=>⟨p,G,U,ae,U,?_⟩
 have X:ar H3 (upd (upd (upd H3 G (.own p)) p (.ins Y.l G [])) p (.ins Y.l G [("called",.str s!"high")])):=((ai b _).upd c).upd c;have W:WyN Y.l (upd (upd (upd H3 G (.own p)) p (.ins Y.l G [])) p (.ins Y.l G [("called",.str s!"high")])) p s!"high":=⟨G,ae⟩;generalize upd (upd (upd H3 G (.own p)) p (.ins Y.l G [])) p (.ins Y.l G [("called",.str s!"high")])=H4 at X W⊢;clear c b d;have v:=v.same X;have B:=B.same X;have N:=N.same X;have O:=O.same X;refine λo D c b d=>⟨o,D,U,ae,U,?_⟩
 have S:ar H4 (upd (upd (upd H4 D (.own o)) o (.ins Y.m D [])) o (.ins Y.m D [("called",.str s!"sum")])):=((ai b _).upd c).upd c;have y5:WyN Y.m (upd (upd (upd H4 D (.own o)) o (.ins Y.m D [])) o (.ins Y.m D [("called",.str s!"sum")])) o s!"sum":=⟨D,ae⟩;generalize upd (upd (upd H4 D (.own o)) o (.ins Y.m D [])) o (.ins Y.m D [("called",.str s!"sum")])=H5 at S y5⊢;clear c b d;have v:=v.same S;have B:=B.same S;have N:=N.same S;have O:=O.same S;have W:=W.same S;have s5:ar H H5:=((((t0.trans t1).trans t2).trans t3).trans X).trans S;refine⟨(by show 6<=DO;decide),λl hl=>?_⟩;have R:ar H5 (upd H5 l (.lst [V.ref u,.ref t,.ref r,.ref w3,.ref p,.ref o])):=ai hl _;have el:upd H5 l (.lst [V.ref u,.ref t,.ref r,.ref w3,.ref p,.ref o]) l=JH (.lst [V.ref u,.ref t,.ref r,.ref w3,.ref p,.ref o]):=ae;generalize upd H5 l (.lst [V.ref u,.ref t,.ref r,.ref w3,.ref p,.ref o])=H6 at R el⊢;have v:=v.same R;have B:=B.same R;have N:=N.same R;have O:=O.same R;have W:=W.same R;have y5:=y5.same R;have sA:=s5.trans R;have a0:∀(i:Nat)(x:V),[V.ref u,.ref t,.ref r,.ref w3,.ref p,.ref o][i]?=JH x->∃(a C:DF)(y:Str),x=.ref a/\(cl6 Y.h Y.i Y.j Y.k Y.l Y.m)[i]?=JH C/\six[i]?=JH y/\WyN C H6 a y/\Cls K C/\NoAttr K C s!"called":=λi x e=>by
  match i,e with
  |0,e=>cases e;exact⟨u,Y.h,_,U,U,U,v,bl.k_First,bl.na_First_called⟩
  |1,e=>cases e;exact⟨t,Y.i,_,U,U,U,B,bl.k_Only,bl.na_Only_called⟩
  |2,e=>cases e;exact⟨r,Y.j,_,U,U,U,N,bl.k_Like,bl.na_Like_called⟩
  |3,e=>cases e;exact⟨w3,Y.k,_,U,U,U,O,bl.k_Low,bl.na_Low_called⟩
  |4,e=>cases e;exact⟨p,Y.l,_,U,U,U,W,bl.k_High,bl.na_High_called⟩
  |5,e=>cases e;exact⟨o,Y.m,_,U,U,U,y5,bl.k_Sum,bl.na_Sum_called⟩
  |n+6,e=>simp at e
 refine⟨l,U,⟨_,SqL.of el⟩,bx (xs:=[V.ref u,.ref t,.ref r,.ref w3,.ref p,.ref o]) (λi σ H'=>(∃c1:Option V,σ=[JH (.str z),c1])/\H'=H6/\∀j:Nat,j<i->six[j]?≠JH z) ⟨⟨_,U⟩,U,(λj h=>JP h (yi j))⟩ (λi σ H' _ h=>by rw[h.2.1];exact SqL.of el) (λi x σ H' e h=>?_) (λσ H' h=>?_)⟩
 .obtain⟨⟨c1,rfl⟩,e0,T⟩:=h;rw[e0];obtain⟨a,C,y,rfl,eC,ey,⟨dx,ha⟩,hc,hn⟩:=a0 i x e;refine⟨_,U,a,_,_,_,_,U,ha,hc,hn,U,_,U,U,_,U,?_⟩;refine dh (λg=>?_) (λg=>?_)
  .have g':V.str y=V.str z:=lU g;injection g' with g';subst g';exact⟨_,U,q i ey a C H6 sA eC ⟨dx,ha⟩⟩
  .refine⟨⟨_,U⟩,U,λj hj=>?_⟩;by_cases a1:j<i
   .exact T j a1
   .have:j=i:=by lia
    subst this;rw[ey];intro q2;exact(tV g) (by injection q2 with q2;rw[q2])
 .obtain⟨⟨c1,rfl⟩,e0,T⟩:=h;rw[e0];obtain⟨j,hj,ej⟩:=List.getElem_of_mem hz;exact JP (by rw[Gz hj,ej]) (T j hj)
theorem Fi(F:Fun K "refuse_way" "refuse_way" Y76 f fd) (bl:Bl K mg Y)(k:Callee P w K mg base 4 "way_by" ["name"] (iX K Y)):aJ P w K mg base CX0 5 f fd ["way","outcome"] (fP K Y):=by
 refine F.okA Z76 λu A g s H y Q E r h=>?_
 obtain⟨z,B,rfl,l,d,q⟩:=h
 refine⟨_,(ag (aP (PW.pt (gm (aG cc (aN (aM k r U (aa (pv 0) af)) U) aO (aI _)) (dX (bG (au bC U bl.isinstance_ PyProof.Rows.boot_isinstance (aa (pv 1) (aa (bz (v:=.ref Y.p) U bl.Words_ U) af)))))))
  (ag bV)
  aE)),?_⟩
 refine⟨_,U,z,U,l,λi D x C J b a o=>?_⟩;have j:Cls K C/\NoAttr K C s!"called":=by
  match i,a with
  |0,a=>cases a;exact⟨bl.k_First,bl.na_First_called⟩
  |1,a=>cases a;exact⟨bl.k_Only,bl.na_Only_called⟩
  |2,a=>cases a;exact⟨bl.k_Like,bl.na_Like_called⟩
  |3,a=>cases a;exact⟨bl.k_Low,bl.na_Low_called⟩
  |4,a=>cases a;exact⟨bl.k_High,bl.na_High_called⟩
  |5,a=>cases a;exact⟨bl.k_Sum,bl.na_Sum_called⟩
  |n+6,a=>simp[cl6]at a
 obtain⟨I,m⟩:=o;refine⟨x,_,_,_,_,U,m,j.1,j.2,U,U,_,U,?_⟩;by_cases c:z=s!"sum"
 .obtain⟨G,fs,t⟩:=d c;exact dD (by rw[c]) ⟨_,U,_,_,_,_,JK,U,.ref _,bl.t_Numbers.ty (b _ _ t),bl.f_nw,_,U,bp (q _ b)⟩
 .exact br (λe=>by injection e with e;exact c e) (bp (q _ b))
theorem Fj(F:Fun K "judged" "judged" Y45 f fd) (bl:Bl K mg Y)(i6:bg CX0 P w K mg base 4 Y.h "verdict" ["self","codes","outcome"] (J12 K Y)) (jK:bg CX0 P w K mg base 4 Y.i "verdict" ["self","codes","outcome"] (J16 K Y)) (jL:bg CX0 P w K mg base 4 Y.j "verdict" ["self","codes","outcome"] (J14 K Y)) (kj:bg CX0 P w K mg base 4 Y.k "verdict" ["self","codes","outcome"] (J15 K Y)) (jM:bg CX0 P w K mg base 4 Y.l "verdict" ["self","codes","outcome"] (J13 K Y)) (km:bg CX0 P w K mg base 4 Y.m "verdict" ["self","codes","outcome"] (J17 K Y)) (mU:Callee P w K mg base 4 "way_by" ["name"] (iX K Y)):aJ P w K mg base CX0 5 f fd ["table","rows"] (d7 K Y):=by
 refine F.okA Z45 λa4 A a3 s H vs Q E hr h=>?_
 obtain⟨t,a,wi,o,m,rfl,⟨rl,ou,dx,fs,xs,wy,M,hf,a0,a1,v,hR,u,Z,y,i0⟩,q⟩:=h
 refine⟨_,(ao (wM (i:=2) Z45.nd U (Or.inl U) (lK U bl.enumerate_ (aa (aN (pv 0) U) af)) (dE (N:=["k","row","rows"]) (k:=2) (fr:=[1]) (cl:=[("rows",s.heap.objs.size+1)]) U U (by decide+kernel) (by decide+kernel) U U (hZ.mpr ⟨U,jo _⟩) U) U (λ_ _ _ _=>(jh (K:=K) (n:=2) U U (az (ax (i:=0) (show(["k","row","rows"]:List Str).Nodup by decide+kernel) U (Or.inl U) (Or.inr U)) (az (ax (i:=1) (show(["k","row","rows"]:List Str).Nodup by decide+kernel) U (Or.inl U) (Or.inr U)) aV)))) (λ_ _ _ _=>(iO (vh (K:=K) U (aw pB (aw pA (pv 2) (pv 0)) aj)))) (λ_ _ _ _=>(aK (gq (K:=K) U) (pv 1) aj (λ_ _=>U))))
  (ag (av (wG (qJ i6 bl.k_First (qJ jK bl.k_Only (qJ jL bl.k_Like (qJ kj bl.k_Low (qJ jM bl.k_High (qJ km bl.k_Sum B8)))))) bW hr (aM mU hr U (aa (aN (pv 0) U) af)) (aa (pv 2) (aa (aN (pv 0) U) af)))))),?_⟩
 have R:xs.length=a.length:=hR.1
 refine⟨_,U,t,_,_,_,_,U,M,bl.k_Table,bl.na_Table_rows,hf,rl,U,⟨_,SqL.of v⟩,sN (xs:=xs) (λD i zs c=>ar H c/\c D=JH (.lst zs)/\zs=(pkF a (f7 m) i).map V.int)
  (λD g=>⟨ai g _,ae,U⟩) (λD i zs c g _ h=>SqL.of (h.1 _ _ v)) (λD i x zs c T g ex h hT ts W=>?_) (λD zs c g h=>?_)⟩
 .obtain⟨G,J,rfl⟩:=h;have s2:=G.trans (ai hT (.tup [.int i,x]));have eT:upd c T (.tup [.int i,x]) T=JH (.tup [.int i,x]):=ae;have d:=ai hT (.tup [.int i,x]) _ _ J;generalize upd c T (.tup [.int i,x])=H2 at s2 eT d⊢;obtain⟨r,w_,rfl,ew,ce,cv,g1,_,g2,g3⟩:=aF.get (hR.same s2) ex;have hi:i<xs.length:=(GA.mp ex).1;have hg:a.getD i ([],0)=w_:=getD_at ew;have X:=ui a (f7 m) i;obtain⟨B,z,rfl⟩:∃B z,ts=[B,z]:=by
   match ts,W with
   | [B,z],_=>exact⟨B,z,U⟩
  refine⟨T,_,U,SqT.of eT,U,_,_,U,_,_,U,U,⟨[JH (.int i),JH (.ref r)],U,U⟩,?_⟩;refine⟨_,U,_,U,_,_,U,U,Int.natCast_nonneg _,_,_,U,U,f7 m i,U,?_⟩;have e:=qV a (f7 m) i;rw[hg]at e;cases hb:f7 m i with
  |true =>
   rw[hb]at e;refine cZ ⟨_,U,r,_,_,_,U,U,SqT.of g1,U,cQ.mk hi d (aD (by rw[bo];lia)) ⟨s2.upd g,ae,?_⟩⟩;rw[e,fF];rfl
  |false =>
   rw[hb]at e;refine bp (dC.mk (zs:=(pkF a (f7 m) i).map V.int) hi ⟨s2,d,?_⟩);rw[e];simp
 .obtain⟨G,J,rfl⟩:=h;rw[R]at J;have S:wy∈six:=GB u;refine⟨_,U,t,_,_,_,_,U,G _ _ M,bl.k_Table,bl.na_Table_way,a0,wy,U,S,λI a2 x C H2 s2 b hw=>?_⟩;have ii:I=wi:=yy a2 u;subst ii;have L:=G.trans s2;obtain⟨dw,hx⟩:=hw;have X:=ui a (f7 m) a.length;have O:(C,kf K C Y.o Y.p I)∈[(Y.h,kf K Y.h Y.o Y.p 0),(Y.i,kf K Y.i Y.o Y.p 1),(Y.j,kf K Y.j Y.o Y.p 2),(Y.k,kf K Y.k Y.o Y.p 3),(Y.l,kf K Y.l Y.o Y.p 4),(Y.m,kf K Y.m Y.o Y.p 5)]:=by
   match I,b with
   |0,b=>cases b;exact .head _
   |1,b=>cases b;exact .tail _ (.head _)
   |2,b=>cases b;exact .tail _ (.tail _ (.head _))
   |3,b=>cases b;exact .tail _ (.tail _ (.tail _ (.head _)))
   |4,b=>cases b;exact .tail _ (.tail _ (.tail _ (.tail _ (.head _))))
   |5,b=>cases b;exact .tail _ (.tail _ (.tail _ (.tail _ (.tail _ (.head _)))))
   |n+6,b=>simp[cl6]at b
  refine⟨x,(C,kf K C Y.o Y.p I),dw,_,U,O,hx,U,_,U,_,U,t,_,_,_,_,U,L _ _ M,bl.k_Table,bl.na_Table_outcome,a1,x,D,ou,_,o,U,⟨dw,_,hx⟩,Z.same L,y,SqL.of (s2 _ _ J),by lia,λr H3 s3 h3=>q r H3 (L.trans s3) h3⟩
theorem Fl(F:Fun K "_law_domain" "_law_domain" Y54 f fd) (bl:Bl K mg Y)(a:bq CX0 P w K mg base 3 "Numbers" Y.o ["self","low","high"] (bI K Y)) (d:bq CX0 P w K mg base 3 "Words" Y.p ["self","words"] (b9 K Y)) (fE:Callee P w K mg base 4 "_law_word" ["cell","k"] (fC K Y)):aJ P w K mg base CX0 5 f fd ["column"] (fQ K Y):=by
 refine F.okA Z54 λb1 A a4 s H vs Q E S h=>?_
 obtain⟨l,c,rfl,⟨R,O,_,_,C,m,B⟩,ok,q⟩:=h
 refine⟨_,(ao (aP (bG (aK aQ (pv 0) aj (λ_ _=>U)))
  (ag (av (ua d bW S U (aa (fm (cX U bl.range_ (aa (aw bH (aK bj (aK aQ (aK aQ (pv 0) aj (λ_ _=>U)) (kX hU aj) (λ_ _=>U)) aj (λ_ _=>U)) aj) af)) (cj (N:=["k","column"]) (fr:=[0]) (cl:=[("column",s.heap.objs.size+1)]) U U (by decide+kernel) (by decide+kernel) U (by decide+kernel) U U U (hZ.mpr ⟨U,jo _⟩) U) U (λ_ _ _ _=>bQ) (λ_ _ _ _=>(aM fE S U (aa (aK (fV (K:=K) U) (pv 1) aj (λ_ _=>U)) (aa (pv 0) af))))) af))))
  aE)
  (ag (av (ua a bW S U (aa (aK bj (aK aQ (aK aQ (pv 0) aj (λ_ _=>U)) aj (λ_ _=>U)) aj (λ_ _=>U)) (aa (aK bj (aK aQ (aK aQ (pv 0) aj (λ_ _=>U)) (kX hU aj) (λ_ _=>U)) aj (λ_ _=>U)) af)))))),?_⟩
 have h1:=ok.some_;obtain⟨a7,r,a8,p,a1,a3,b0,er⟩:=B.last (by intro z;rw[z]at B;have:=B.length;simp at this;lia);have il:atI O (-1)=JH (.ref r):=by rw[a1];exact hX _ _
 have g:c.hi=p.2:=by unfold Col.hi;rw[a3];simp
 obtain⟨y,I,G⟩:=ok.first;obtain⟨L,a2,W⟩:∃L,O[0]?=JH (.ref L)/\H L=JH (.tup [.int y.1,.int y.2]):=by
  obtain⟨x,ex⟩:∃x,O[0]?=JH x:=⟨_,Gz (by rw[B.length];lia)⟩;obtain⟨p2,r2,f1,rfl,f2⟩:=B.get ex;rw[I]at f1;cases f1;exact⟨r2,ex,f2⟩
 have a0:=ok.le;refine⟨_,U,l,_,_,_,U,U,SqL.of C,U,_,U,?_⟩;cases hw:c.w with
 |false =>
  refine bp ?_;refine⟨_,U,l,_,_,_,U,U,SqL.of C,U,R,_,_,_,U,U,SqL.of m,cw (j:=0) a2,L,_,_,_,U,U,SqT.of W,z0 _ _,_,U,l,_,_,_,U,U,SqL.of C,U,_,U,R,_,_,_,U,U,SqL.of m,il,r,_,_,_,U,U,SqT.of er,z1 _ _,λx k t n X=>⟨x,k,y.1,p.2,U,ae,by rw[G,←g];exact a0,U,?_⟩⟩;refine q x _ ?_ (.inl ⟨hw,k,_,ae,?_,?_,U⟩)
  .unfold mkd;exact(((ai n _).upd t).upd t).upd t
  .show JH (V.int y.1)=JH (V.int c.lo);rw[G]
  .show JH (V.int p.2)=JH (V.int c.hi);rw[g]
 |true =>
  refine cZ ?_;have a6:=ok.w0 hw y I;have a5:p.2<40:=by
   obtain⟨a9,e1,e2⟩:=ok.last;have:=ok.wl hw _ _ e1;lia
  have Fn:c.lo=0:=by lia
  have hb:0<=p.2:=by lia
  refine⟨_,U,l,_,_,_,U,U,SqL.of C,U,_,U,R,_,_,_,U,U,SqL.of m,il,r,_,_,_,U,U,SqT.of er,z1 _ _,_,_,U,U,_,U,(by show -(2^62)<=p.2+1;lia),(by show p.2+1<2^62;lia),eB (λD i J u=>ar H u/\u D=JH (.lst J)/\J=(wds c.sd i).map V.str) (λD M=>⟨ai M _,ae,U⟩) (λD i J u M hi h=>?_) (λD J u M h=>?_)⟩
  .obtain⟨v,T,rfl⟩:=h;have Z:((wds c.sd i).map V.str).length=i:=by unfold wds;simp
   refine⟨_,U,l,_,_,_,U,U,SqL.of (v _ _ C),U,_,U,_,_,U,cQ.mk hi T (aD (by rw[Z];lia)) ⟨v.upd M,ae,?_⟩⟩;rw[xf,fF,Int.zero_add];rfl
  .obtain⟨v,T,rfl⟩:=h;intro x k t n X;have s3:ar u (upd (upd u k (.own x)) x (.ins Y.p k [])):=(ai n _).upd t;have wl:(wds c.sd (p.2+1).toNat).length=(p.2+1).toNat:=by unfold wds;simp
   refine⟨x,k,D,wds c.sd (p.2+1).toNat,U,ae,s3 _ _ T,xg (by lia) (by lia),λH4 l4 k1 k2 k3=>⟨U,q x H4 (λb o e=>k1 b o (bc (v _ _ e) t) (s3 _ _ (v _ _ e))) ?_⟩⟩;refine .inr ⟨hw,k,_,l4,k2,?_,?_,U,U,by rw[k3,g]⟩
   .show JH (V.int 0)=JH (V.int c.lo);rw[Fn]
   .show JH (V.int (hiW (wds c.sd (p.2+1).toNat)))=JH (V.int c.hi);rw[g];unfold hiW;rw[wl,zk (by lia)]
    congr 2
    lia
theorem Fo(F:Fun K "verdict" "verdict" Y84 f fd) (bl:Bl K mg Y)(l:Callee P w K mg base 5 "judged" ["table","rows"] (d7 K Y)) (m:Callee P w K mg base 5 "mask" ["table","codes"] (gH K Y)):aJ P w K mg base CX0 6 f fd ["table","codes"] (jC K Y):=by
 refine F.okA Z85 λv A d s H x Q E g h=>?_
 obtain⟨t,c,a,e,o,p,rfl,i,n,b,q⟩:=h;refine⟨_,(ag (av (aM l g U (aa (pv 0) (aa (aM m g U (aa (pv 0) (aa (pv 1) af))) af))))),?_⟩;refine⟨_,U,_,U,_,U,t,c,a,e,o,p,U,i,n,b,λy s2=>?_⟩;refine⟨t,a,e,o,_,U,i.same s2,λr u k j=>q r u (s2.trans k) ?_⟩;rw[uj]at j;exact j.sq
theorem Fp(F:Fun K "__init__" "Table.__init__" Y17 f fd) (bl:Bl K mg Y)(mV:Callee P w K mg base 5 "refuse_names" ["names"] (dO K Y)) (lA:Callee P w K mg base 5 "refuse_counts" ["names","rows"] (dz K Y)) (p8:Callee P w K mg base 5 "refuse_way" ["way","outcome"] (fP K Y)) (p9:Callee P w K mg base 5 "refuse_row" ["domains","outcome","cells","code"] (fO K Y)) (vy:Callee P w K mg base 5 "own_row" ["cells","code"] (jy K Y)):aJ P w K mg base CX0 6 f fd ["self","name","names","domains","outcome","way","rows"] (bE K Y):=by
 refine F.okA Z17 λd4 A c6 s H vs Q E hr h=>?_
 obtain⟨x,g,na,dl,m,rl,c,B,l,C,rx,bs,o,a1,rfl,hx,S,hw,b5,h1,h4,b0,b1,a0,c2,b4,J,hR,i0,d3,hok,q⟩:=h
 refine⟨_,(ao (ba (aM mV hr U (aa (aw jt (aX (aa (pv 1) af)) (pv 2)) af)))
  (ao (ba (aM lA hr U (aa (pv 2) (aa (pv 6) af))))
  (ao (ba (aM p8 hr U (aa (pv 5) (aa (pv 4) af))))
  (aL (bh G1.never U (aU (pv 6)) (cm U (az (ax (i:=7) Z17.nd U (Or.inl U)) (az (ax (i:=8) Z17.nd U (Or.inl U)) aV)))
  (ag (ba (aM p9 hr U (aa (pv 3) (aa (pv 4) (aa (pv 7) (aa (pv 8) af))))))))
  (ao (cy (pv 0) (pv 1) U)
  (ao (cy (pv 0) (ck dZ U bl.list_ PyProof.Rows.boot_list (aa (pv 2) af)) U)
  (ao (cy (pv 0) (ck dZ U bl.list_ PyProof.Rows.boot_list (aa (pv 3) af)) U)
  (ao (cy (pv 0) (pv 4) U)
  (ao (cy (pv 0) (pv 5) U)
  (ag (cy (pv 0) (cR (aU (pv 6)) (cE (N:=["cells","code"]) (k:=2) U U (by decide+kernel) (by decide+kernel) (by decide+kernel)) U (λ_ _ _ _=>(jh (K:=K) (n:=2) U U (az (ax (i:=0) (show(["cells","code"]:List Str).Nodup by decide+kernel) U (Or.inl U) (Or.inr U)) (az (ax (i:=1) (show(["cells","code"]:List Str).Nodup by decide+kernel) U (Or.inl U) (Or.inr U)) aV)))) (λ_ _ _ _=>bQ) (λ_ _ _ _=>(aM vy hr U (aa (pv 0) (aa (pv 1) af))))) U))))))))))),?_⟩
 have Z:(l.map V.str).length=l.length:=bo _;refine⟨_,U,(by show 1<=DO;decide),λl1 c1=>?_⟩;have s1:=ai c1 (.lst [.str c]);have e1:upd H l1 (.lst [.str c]) l1=JH (.lst [.str c]):=ae;generalize upd H l1 (.lst [.str c])=H1 at s1 e1⊢;refine⟨_,U,l1,na,_,_,U,U,e1,s1 _ _ S,(by rw[Z];show 1+l.length<=DO;exact big (by lia)),λl2 b6=>?_⟩;have s2:=s1.trans (ai b6 (.lst ([V.str c]++l.map V.str)));have e2:upd H1 l2 (.lst ([V.str c]++l.map V.str)) l2=JH (.lst ((c :: l).map V.str)):=ae;generalize upd H1 l2 (.lst ([V.str c]++l.map V.str))=H2 at s2 e2⊢;refine⟨l2,c :: l,U,SqL.of e2,hw,b5,by rw[gb];lia,λH3 t3=>?_⟩;have s3:=s2.trans t3;refine⟨_,U,_,U,na,rl,_,_,U,SqL.of (s3 _ _ S),SqL.of (s3 _ _ J),by rw[Z];exact h1,by rw[Z];exact h4,i0,?_⟩;refine⟨_,U,_,U,B,m,U,b0,(λz=>let ⟨dx',fs',e'⟩:=b1 z;⟨dx',fs',s3 _ _ e'⟩),λH4 t4=>?_⟩;have s4:=s3.trans t4;refine⟨λa6 v=>ar H v/\∃c7 c8:Option V,a6=[JH (.ref x),JH (.str c),JH (.ref na),JH (.ref dl),JH (.ref m),JH (.str B),JH (.ref rl),c7,c8],?_,?_⟩
 .refine⟨_,U,rl,U,⟨_,SqL.of (s4 _ _ J)⟩,bx (xs:=rx) (λi σ v=>ar H v/\∃c7 c8:Option V,σ=[JH (.ref x),JH (.str c),JH (.ref na),JH (.ref dl),JH (.ref m),JH (.str B),JH (.ref rl),c7,c8]) ⟨s4,_,_,U⟩ (λi σ v _ h=>SqL.of (h.1 _ _ J)) (λi y σ v e h=>?_) (λσ v h=>h)⟩;obtain⟨u,c7,c8,rfl⟩:=h;obtain⟨r,w_,rfl,ew,ce,cv,g1,_,g2,g3⟩:=aF.get (hR.same u) e;refine⟨r,_,U,SqT.of g1,U,_,_,U,_,_,U,U,?_⟩;exact⟨_,U,_,U,_,U,_,U,dl,m,ce,C,cv,bs,o,w_,U,SqL.of (u _ _ a0),aF.mono c2 λ_ _ p=>p.same u,b4.same u,g2,g3,hok w_ (GB ew),λH2 t2=>⟨u.trans t2,_,_,U⟩⟩
 rintro d0 G ⟨W,c7,c8,rfl⟩;have x5:=W _ _ hx;have a8:na≠x:=fT S hx (by intro z;cases z);have c4:dl≠x:=fT a0 hx (by intro z;cases z);have a7:rl≠x:=fT J hx (by intro z;cases z);have k5:∀b o,b≠x->H b=JH o->G b=JH o:=λb o _ e=>W b o e
 have R5:=RL.hide x5 (hR.same W);refine⟨_,U,_,U,x,_,g,_,U,x5,bl.k_Table,bl.na_Table_name,(by show 0<1000;decide),?_⟩;have k6:∀b o,b≠x->G b=JH o->upd G x (.ins Y.q g [(s!"name",.str c)]) b=JH o:=λb o t e=>(ay t).trans e
 have x6:upd G x (.ins Y.q g [(s!"name",.str c)]) x=JH (.ins Y.q g [(s!"name",.str c)]):=ae;have g6:upd G x (.ins Y.q g (bw s!"name" (.str c) []))=upd G x (.ins Y.q g [(s!"name",.str c)]):=rfl;rw[g6];clear g6;generalize upd G x (.ins Y.q g [(s!"name",.str c)])=H6 at k6 x6⊢;refine⟨_,U,na,_,U,.inl (SqL.of (k6 _ _ a8 (W _ _ S))),λd T=>⟨_,U,x,_,g,_,U,bR x6 T,bl.k_Table,bl.na_Table_names,(by show 1<1000;decide),?_⟩⟩;have g7:upd (upd H6 d (.lst (l.map V.str))) x (.ins Y.q g (bw s!"names" (V.ref d) [(s!"name",V.str c)]))=upd (upd H6 d (.lst (l.map V.str))) x (.ins Y.q g [(s!"name",V.str c),(s!"names",V.ref d)]):=by rw[pf1]
 rw[g7];clear g7;have k7:∀b o,b≠x->G b=JH o->upd (upd H6 d (.lst (l.map V.str))) x (.ins Y.q g [(s!"name",V.str c),(s!"names",V.ref d)]) b=JH o:=λb o t e=>(ay t).trans (bR (k6 b o t e) T)
 have x7:upd (upd H6 d (.lst (l.map V.str))) x (.ins Y.q g [(s!"name",V.str c),(s!"names",V.ref d)]) x=JH (.ins Y.q g [(s!"name",V.str c),(s!"names",V.ref d)]):=ae;have I:d≠x:=λz=>by rw[z,x6]at T;cases T
 have j7:upd (upd H6 d (.lst (l.map V.str))) x (.ins Y.q g [(s!"name",V.str c),(s!"names",V.ref d)]) d=JH (.lst (l.map V.str)):=(ay I).trans ae;generalize upd (upd H6 d (.lst (l.map V.str))) x (.ins Y.q g [(s!"name",V.str c),(s!"names",V.ref d)])=H7 at k7 x7 j7⊢;refine⟨_,U,dl,_,U,.inl (SqL.of (k7 _ _ c4 (W _ _ a0))),λj L=>⟨_,U,x,_,g,_,U,bR x7 L,bl.k_Table,bl.na_Table_domains,(by show 2<1000;decide),?_⟩⟩;have g8:upd (upd H7 j (.lst C)) x (.ins Y.q g (bw s!"domains" (V.ref j) [(s!"name",V.str c),(s!"names",V.ref d)]))=upd (upd H7 j (.lst C)) x (.ins Y.q g [(s!"name",V.str c),(s!"names",V.ref d),(s!"domains",V.ref j)]):=by rw[pf2]
 rw[g8];clear g8;have k8:∀b o,b≠x->G b=JH o->upd (upd H7 j (.lst C)) x (.ins Y.q g [(s!"name",V.str c),(s!"names",V.ref d),(s!"domains",V.ref j)]) b=JH o:=λb o t e=>(ay t).trans (bR (k7 b o t e) L)
 have x8:upd (upd H7 j (.lst C)) x (.ins Y.q g [(s!"name",V.str c),(s!"names",V.ref d),(s!"domains",V.ref j)]) x=JH (.ins Y.q g [(s!"name",V.str c),(s!"names",V.ref d),(s!"domains",V.ref j)]):=ae;have O:j≠x:=λz=>by rw[z,x7]at L;cases L
 have j8:upd (upd H7 j (.lst C)) x (.ins Y.q g [(s!"name",V.str c),(s!"names",V.ref d),(s!"domains",V.ref j)]) d=JH (.lst (l.map V.str)):=(ay I).trans (bR j7 L);have i8:upd (upd H7 j (.lst C)) x (.ins Y.q g [(s!"name",V.str c),(s!"names",V.ref d),(s!"domains",V.ref j)]) j=JH (.lst C):=(ay O).trans ae;generalize upd (upd H7 j (.lst C)) x (.ins Y.q g [(s!"name",V.str c),(s!"names",V.ref d),(s!"domains",V.ref j)])=H8 at k8 x8 j8 i8⊢;refine⟨_,U,_,U,x,_,g,_,U,x8,bl.k_Table,bl.na_Table_outcome,(by show 3<1000;decide),?_⟩;have g9:upd H8 x (.ins Y.q g (bw s!"outcome" (V.ref m) [(s!"name",V.str c),(s!"names",V.ref d),(s!"domains",V.ref j)]))=upd H8 x (.ins Y.q g [(s!"name",V.str c),(s!"names",V.ref d),(s!"domains",V.ref j),(s!"outcome",V.ref m)]):=by rw[pf3]
 rw[g9];clear g9;have k9:∀b o,b≠x->G b=JH o->upd H8 x (.ins Y.q g [(s!"name",V.str c),(s!"names",V.ref d),(s!"domains",V.ref j),(s!"outcome",V.ref m)]) b=JH o:=λb o t e=>(ay t).trans (k8 b o t e)
 have x9:upd H8 x (.ins Y.q g [(s!"name",V.str c),(s!"names",V.ref d),(s!"domains",V.ref j),(s!"outcome",V.ref m)]) x=JH (.ins Y.q g [(s!"name",V.str c),(s!"names",V.ref d),(s!"domains",V.ref j),(s!"outcome",V.ref m)]):=ae;have j9:upd H8 x (.ins Y.q g [(s!"name",V.str c),(s!"names",V.ref d),(s!"domains",V.ref j),(s!"outcome",V.ref m)]) d=JH (.lst (l.map V.str)):=(ay I).trans j8;have i9:upd H8 x (.ins Y.q g [(s!"name",V.str c),(s!"names",V.ref d),(s!"domains",V.ref j),(s!"outcome",V.ref m)]) j=JH (.lst C):=(ay O).trans i8;generalize upd H8 x (.ins Y.q g [(s!"name",V.str c),(s!"names",V.ref d),(s!"domains",V.ref j),(s!"outcome",V.ref m)])=H9 at k9 x9 j9 i9⊢;refine⟨_,U,_,U,x,_,g,_,U,x9,bl.k_Table,bl.na_Table_way,(by show 4<1000;decide),?_⟩;have a4:upd H9 x (.ins Y.q g (bw s!"way" (V.str B) [(s!"name",V.str c),(s!"names",V.ref d),(s!"domains",V.ref j),(s!"outcome",V.ref m)]))=upd H9 x (.ins Y.q g [(s!"name",V.str c),(s!"names",V.ref d),(s!"domains",V.ref j),(s!"outcome",V.ref m),(s!"way",V.str B)]):=by rw[pf4]
 rw[a4];clear a4;have R:∀b o,b≠x->G b=JH o->upd H9 x (.ins Y.q g [(s!"name",V.str c),(s!"names",V.ref d),(s!"domains",V.ref j),(s!"outcome",V.ref m),(s!"way",V.str B)]) b=JH o:=λb o t e=>(ay t).trans (k9 b o t e)
 have M:upd H9 x (.ins Y.q g [(s!"name",V.str c),(s!"names",V.ref d),(s!"domains",V.ref j),(s!"outcome",V.ref m),(s!"way",V.str B)]) x=JH (.ins Y.q g [(s!"name",V.str c),(s!"names",V.ref d),(s!"domains",V.ref j),(s!"outcome",V.ref m),(s!"way",V.str B)]):=ae;have a2:upd H9 x (.ins Y.q g [(s!"name",V.str c),(s!"names",V.ref d),(s!"domains",V.ref j),(s!"outcome",V.ref m),(s!"way",V.str B)]) d=JH (.lst (l.map V.str)):=(ay I).trans j9;have a3:upd H9 x (.ins Y.q g [(s!"name",V.str c),(s!"names",V.ref d),(s!"domains",V.ref j),(s!"outcome",V.ref m),(s!"way",V.str B)]) j=JH (.lst C):=(ay O).trans i9;generalize upd H9 x (.ins Y.q g [(s!"name",V.str c),(s!"names",V.ref d),(s!"domains",V.ref j),(s!"outcome",V.ref m),(s!"way",V.str B)])=H10 at R M a2 a3⊢;have c5:RL NT H10 rx a1:=RL.same R5 (hide_same R);have zV:=R _ _ a7 (W _ _ J)
 refine⟨_,U,rl,U,⟨_,SqL.of zV⟩,gs (xs:=rx) (λD i l v=>ar H10 v/\v D=JH (.lst l)/\RL (Fr H10 D) v l (a1.take i))
  (λD X=>⟨ai X _,ae,aF.nil⟩) (λD i l v X _ h=>SqL.of (h.1 _ _ zV)) (λD i y l v X e h ts b3=>?_) (λD l v X h=>?_)⟩
 .obtain⟨u,eD,hz⟩:=h;obtain⟨r,w_,rfl,ew,ce,cv,g1,_,g2,g3⟩:=aF.get (c5.same u) e;have hi:i<rx.length:=(GA.mp e).1;obtain⟨t0,t1,rfl⟩:∃t0 t1,ts=[t0,t1]:=by
   match ts,b3 with
   | [t0,t1],_=>exact⟨t0,t1,U⟩
  refine⟨r,_,U,SqT.of g1,U,_,_,U,_,_,U,U,⟨[JH (.ref ce),JH (.int w_.2)],U,U⟩,?_⟩;refine⟨_,U,_,U,ce,cv,w_,U,g2,g3,by rw[(hok w_ (GB ew)).len];lia,λr2 H2 t2 d1 eZ=>?_⟩;have a5:=t2 _ _ eD;have d2:l.length<=200:=by
   have:=hz.1;rw[iD]at this;lia
  refine cQ.mk hi a5 (aD (by lia)) ⟨(u.trans t2).upd X,ae,?_⟩;rw[take_snoc ew];exact RL.updN (aF.snoc (hz.same t2) (eZ.wk λa h=>⟨u.free h,λz=>by rw[z,eD]at h;cases h⟩)) Fr.out a5
 .obtain⟨u,eD,hz⟩:=h;rw[hR.1,eU]at hz;refine⟨_,U,x,_,g,_,U,u _ _ M,bl.k_Table,bl.na_Table_rows,(by show 5<1000;decide),?_⟩;have c3:upd v x (.ins Y.q g (bw s!"rows" (V.ref D) [(s!"name",V.str c),(s!"names",V.ref d),(s!"domains",V.ref j),(s!"outcome",V.ref m),(s!"way",V.str B)]))=upd v x (.ins Y.q g [(s!"name",V.str c),(s!"names",V.ref d),(s!"domains",V.ref j),(s!"outcome",V.ref m),(s!"way",V.str B),(s!"rows",V.ref D)]):=by rw[pf5]
  rw[c3];have a9:D≠x:=λz=>by rw[z,M]at X;cases X
  refine q _ _ D l (λb o t e=>(ay t).trans (u _ _ (R b o t (W _ _ e)))) ae U U U U ⟨d,j,U,U,(ay I).trans (u _ _ a2),(ay O).trans (u _ _ a3)⟩ ((ay a9).trans eD) ?_;exact RL.same (RL.hide (u _ _ M) hz.any) (hide_same λb o t e=>(ay t).trans e)
theorem Fq{k n:Nat}(F:Fun K "boxes" "boxes" Y33 f fd) (bl:Bl K mg Y)(ko:Callee P w K mg base k "boxes" ["form","deep"] (gc K Y n)):aJ P w K mg base CX0 (k+1) f fd ["form","deep"] (gc K Y (n+1)):=by
 refine F.okA Z33 λd4 A d1 s H vs Q E hr h=>?_
 obtain⟨g,a7,a,d,f_,v,rfl,hf,hn,J,h6,q⟩:=h
 refine⟨_,(ao (aP (aG cc (pv 1) aj (aI _))
  (ag (av (aX (aa (aZ (aa (aZ af) (aa (pv 0) af))) af))))
  aE)
  (ao (aH (i:=2) Z33.nd U (Or.inl U) (aX af))
  (ao (bh G1.never U (rP (pv 0)) (cm U (az (ax (i:=3) Z33.nd U (Or.inl U)) (az (ax (i:=4) Z33.nd U (Or.inl U)) (az (ax (i:=5) Z33.nd U (Or.inl U)) aV))))
  (ag (bh G1.never U (aU (aM ko hr U (aa (pv 5) (aa (aw d9 (pv 1) aj) af)))) (cm U (az (ax (i:=6) Z33.nd U (Or.inl U)) (az (ax (i:=7) Z33.nd U (Or.inl U)) aV)))
  (ag (ba (gN PySem.F.plainAttrs_list PySem.F.slot_list_append PySem.F.type_list_append bL (pv 2) (aa (aZ (aa (aw wu (aZ (aa (aZ (aa (pv 3) (aa (pv 4) af))) af)) (pv 6)) (aa (pv 7) af))) af)))))))
  (ag (av (pv 2)))))),?_⟩
 cases d with
 |zero =>
  have hf:a.R H f_ v:=hf;refine⟨_,U,U,_,U,dD U ?_⟩;refine⟨(by show 0<=DO;decide),λb hb=>?_⟩;have s1:=ai hb (.tup []);have e1:upd H b (.tup []) b=JH (.tup []):=ae;generalize upd H b (.tup [])=H1 at s1 e1⊢;refine⟨_,U,bu,λt ht=>?_⟩;have s2:=ai ht (.tup [.ref b,v]);have e2:upd H1 t (.tup [.ref b,v]) t=JH (.tup [.ref b,v]):=ae;generalize upd H1 t (.tup [.ref b,v])=H2 at s2 e2⊢;refine⟨(by show 1<=DO;decide),λl X=>?_⟩;have s3:=ai X (.lst [V.ref t]);have s:=(s1.trans s2).trans s3;exact q l _ _ s ((s1.trans s2).free X) ae (.cons ⟨t,b,v,U,s3 _ _ e2,⟨[],s3 _ _ (s2 _ _ e1),.nil⟩,a.mono s.tups hf⟩ .nil)
 |succ d =>
  obtain⟨r,xs,rfl,er,hp⟩:=hf;obtain⟨L,hL⟩:∃L:List (T3a (Fm g d)),L=f_:=⟨f_,U⟩;have hp:FmL (FmV a H d) H L xs:=by rw[hL];exact hp
  have J:(bxs (d+1) (show Fm g (d+1)from L)).length<=2000:=by rw[hL];exact J
  have h6:∀q∈bxs (d+1) (show Fm g (d+1)from L),q.1.length<=6:=by rw[hL];exact h6
  have q:∀(l:DF)(xs:List V)(o:Hp),ar H o->H l=JI->o l=JH (.lst xs)->BxG a o xs (bxs (d+1) (show Fm g (d+1)from L))->Q (.ref l) o:=by rw[hL];exact q
  have a8:xs.length=L.length:=hp.1;refine⟨_,U,U,_,U,br (λz=>by have:=V.int.inj z;lia) ?_⟩;refine⟨(by show 0<=DO;decide),λl X=>?_⟩;have s0:ar H (upd H l (.lst [])):=ai X _;have e0:upd H l (.lst []) l=JH (.lst []):=ae;generalize upd H l (.lst [])=H0 at s0 e0⊢;refine⟨_,U,r,U,⟨_,SqT.of (s0 _ _ er)⟩,xZ (xs:=xs) (λi C o=>ar H o/\∃(D:List V)(c3 c4 c5 O N:Option V),o l=JH (.lst D)/\BxG a o D (bxs (d+1) (show Fm g (d+1)from L.take i))/\C=[JH (.ref r),JH (.int ((d+1:Nat):Int)),JH (.ref l),c3,c4,c5,O,N]) ⟨s0,[],_,_,_,_,_,e0,.nil,U⟩ (λi C o _ h=>SqT.of (h.1 _ _ er)) (λi x C o ex M=>?_) (λC o M=>?_)⟩
  .obtain⟨sm,D,c3,c4,c5,O,N,el,hy,rfl⟩:=M;obtain⟨e,ee⟩:∃e,L[i]?=JH e:=⟨_,Gz (by have:=(GA.mp ex).1;lia)⟩;obtain⟨t,u,a3,et,hu⟩:=hp.2 i e ee;rw[ex]at a3;cases a3;have es:bxs (d+1) (show Fm g (d+1)from L.take (i+1))=bxs (d+1) (show Fm g (d+1)from L.take i)++((bxs d e.2.2).map λq=>((e.1,e.2.1) :: q.1,q.2)):=by
    rw[take_snoc ee,uq,yF]
   have j4:∀q∈(bxs d e.2.2).map (λq=>((e.1,e.2.1) :: q.1,q.2)),q∈bxs (d+1) (show Fm g (d+1)from L):=λq hq=>qk.mpr ⟨e,GB ee,hq⟩
   have d3:(bxs (d+1) (show Fm g (d+1)from L.take i)).length+(bxs d e.2.2).length<=2000:=by
    have e3:bxs (d+1) (show Fm g (d+1)from L)=bxs (d+1) (show Fm g (d+1)from L.take (i+1))++bxs (d+1) (show Fm g (d+1)from L.drop (i+1)):=by rw[←uq,List.take_append_drop]
    have:=JT List.length e3;rw[es,dg,dg,bo]at this;lia
   have b5:∀q∈bxs d e.2.2,q.1.length<=6:=λq hq=>by
    have:=h6 _ (j4 _ (dy.mpr ⟨q,hq,U⟩));have:q.1.length+1<=6:=this;lia
   have b6:∀q∈bxs d e.2.2,q.1.length<=5:=λq hq=>by
    have:=h6 _ (j4 _ (dy.mpr ⟨q,hq,U⟩));have:q.1.length+1<=6:=this;lia
   refine⟨t,_,U,SqT.of (sm _ _ et),U,_,_,U,_,_,U,_,_,U,U,?_⟩;refine⟨_,U,_,U,_,_,U,U,g,a7,a,d,e.2.2,u,(by show[u,V.int (((d+1:Nat):Int)-1)]=[u,V.int (d:Int)];rw[show((d+1:Nat):Int)-1=(d:Int) by lia]),FmV.mono sm.tups hu,by lia,by lia,b5,λl2 zs H2 s2 f2 e2 hz=>?_⟩;have c8:=s2 _ _ el;have nl:l≠l2:=λz=>by rw[←z,el]at f2;cases f2
   refine⟨l2,U,⟨_,SqL.of e2⟩,bx (xs:=zs) (λk C B=>ar H B/\cg H2 B/\B l2=JH (.lst zs)/\∃(D:List V)(O N:Option V),B l=JH (.lst D)/\BxG a B D (bxs (d+1) (show Fm g (d+1)from L.take i)++((bxs d e.2.2).take k).map λq=>((e.1,e.2.1) :: q.1,q.2))/\C=[JH (.ref r),JH (.int ((d+1:Nat):Int)),JH (.ref l),JH (.int e.1),JH (.int e.2.1),JH u,O,N]) ⟨sm.trans s2,(λ_ _ h=>h),e2,D,_,_,c8,by rw[List.take_zero,rC,jH];exact hy.mono s2.tups,U⟩ (λk C B _ h=>SqL.of h.2.2.1) (λk x C B c1 M=>?_) (λC B M=>?_)⟩
   .obtain⟨T,S,a4,G,O,N,I,y,rfl⟩:=M;obtain⟨q2,W,t2,b2,Z,rfl,c2,b4,a9⟩:=gA (hz.mono S) c1;have hk:k<(bxs d e.2.2).length:=(GA.mp W).1;have d2:=b6 q2 (GB W);refine⟨t2,_,U,SqT.of c2,U,_,_,U,_,_,U,U,?_⟩;refine⟨_,U,.inl ⟨U,_,SqL.of I⟩,_,U,_,U,bu,λp b1=>?_⟩;have u1:=ai b1 (.tup [.int e.1,.int e.2.1]);have g1:upd B p (.tup [.int e.1,.int e.2.1]) p=JH (.tup [.int e.1,.int e.2.1]):=ae;generalize upd B p (.tup [.int e.1,.int e.2.1])=H4 at u1 g1⊢;refine⟨(by show 1<=DO;decide),λp2 b3=>?_⟩;have u2:=ai b3 (.tup [V.ref p]);have g2:upd H4 p2 (.tup [V.ref p]) p2=JH (.tup [V.ref p]):=ae;generalize upd H4 p2 (.tup [V.ref p])=H5 at u2 g2⊢;obtain⟨bs,d0,a1⟩:=b4;have a0:=u1.trans u2;refine⟨_,U,xm g2 (a0 _ _ d0) (v5 (aD (by rw[a1.length,hQ];lia))) λp3 H6 u3 g3=>?_⟩;have a5:=a0.trans u3;refine⟨_,U,bu,λj b0=>?_⟩;have u4:=ai b0 (.tup [.ref p3,Z]);have g4:upd H6 j (.tup [.ref p3,Z]) j=JH (.tup [.ref p3,Z]):=ae;generalize upd H6 j (.tup [.ref p3,Z])=H7 at u4 g4⊢;have c:=a5.trans u4;have a2:=c _ _ I;refine⟨l,_,_,U,U,a2,o7 (by rw[y.length,dg,bo,iD];lia),?_⟩;have m:cg H7 (upd H7 l (.lst (G++[.ref j]))):=aY a2;refine⟨(T.trans c).upd X,(S.trans c.tups).trans m,(ay nl.symm).trans (c _ _ a4),G++[.ref j],_,_,ae,?_,U⟩;rw[take_snoc W,fF,←tw];refine sW (y.mono (c.tups.trans m)) (.cons ⟨j,p3,Z,U,m _ _ g4,⟨_,m _ _ (u4 _ _ g3),?_⟩,a.mono (c.tups.trans m) a9⟩ .nil);have a6:PL H7 [V.ref p] [(e.1,e.2.1)]:=.cons ⟨p,U,u4 _ _ (u3 _ _ (u2 _ _ g1))⟩ .nil;exact(PL.app a6 (a1.mono c.tups)).mono m
   .obtain⟨T,S,a4,G,O,N,I,y,rfl⟩:=M;rw[hz.length,eU]at y;exact⟨T,G,_,_,_,_,_,I,by rw[es];exact y,U⟩
  .obtain⟨sm,D,c3,c4,c5,O,N,el,hy,rfl⟩:=M;rw[a8,eU]at hy;exact⟨_,U,q l D o sm X el hy⟩
theorem Fs(F:Fun K "rows_of" "rows_of" Y78 f fd) (bl:Bl K mg Y)(ko:Callee P w K mg base 7 "boxes" ["form","deep"] (gc K Y 7)):aJ P w K mg base CX0 8 f fd ["form","deep"] (jD K Y):=by
 refine F.okA Z79 λc2 A b3 s H vs Q E G h=>?_
 obtain⟨d,f_,v,rfl,hf,hd,b4,h4,q⟩:=h;refine⟨_,(ag (av (cR (aU (aM ko G U (aa (pv 0) (aa (pv 1) af)))) (cE (N:=["box","leaf"]) (k:=2) U U (by decide+kernel) (by decide+kernel) (by decide+kernel)) U (λ_ C1 _ _=>(jh (K:=K) (n:=2) U U (az (ax (i:=0) (show(["box","leaf"]:List Str).Nodup by decide+kernel) U (Or.inl U) (Or.inr U)) (az (ax (i:=1) (show(["box","leaf"]:List Str).Nodup by decide+kernel) U (Or.inl U) (Or.inr U)) aV)))) (λ_ C1 _ _=>(iO (aG cc (aK (gq (K:=K) U) (pv 1) aj (λ_ _=>U)) aO (aI _)))) (λ_ C1 _ _=>(aZ (aa (cR (yw (K:=K) U (pv 0)) (cE (N:=["pair"]) (k:=1) U U (by decide+kernel) (by decide+kernel) (by decide+kernel)) U (λ_ C2 _ _=>(ax (i:=0) (show(["pair"]:List Str).Nodup by decide+kernel) U (Or.inl U) (Or.inr U))) (λ_ C2 _ _=>bQ) (λ_ C2 _ _=>(aX (aa (pv 0) af)))) (aa (aK (gq (K:=K) U) (pv 1) aj (λ_ _=>U)) af))))))),?_⟩;refine⟨_,U,_,U,_,_,LVd,d,f_,v,U,hf,by lia,by lia,h4,λl0 zs H1 s1 _ e1 hz=>?_⟩;refine⟨l0,U,⟨_,SqL.of e1⟩,gs (xs:=zs) (λD i B g=>ar H1 g/\g D=JH (.lst B)/\RL NT (hide g D) B (bX ((bxs d f_).take i))) (λD hD=>⟨ai hD _,ae,aF.nil⟩) (λD i B g hD _ h=>SqL.of (h.1 _ _ e1)) (λD i y B g hD e J ts a7=>?_) (λD B g hD J=>?_)⟩
 .obtain⟨o,L,G⟩:=J;obtain⟨c,O,t2,b2,w2,rfl,a9,⟨bs,b1,a4⟩,a6⟩:=gA hz e;obtain⟨r2,rfl,a3⟩:∃r,w2=.ref r/\Vd K H1 r c.2:=a6;have hi:i<zs.length:=(GA.mp e).1;have b6:=h4 c (GB O);have b5:B.length<=300:=by
   have a1:=G.1;have a2:=pe ((bxs d f_).take i);rw[iD]at a2;lia
  obtain⟨t0,t1,rfl⟩:∃t0 t1,ts=[t0,t1]:=by
   match ts,a7 with
   | [t0,t1],_=>exact⟨t0,t1,U⟩
  refine⟨t2,_,U,SqT.of (o _ _ a9),U,_,_,U,_,_,U,U,⟨[JH (.ref b2),JH (.ref r2)],U,U⟩,?_⟩;refine⟨_,U,r2,_,_,_,U,U,(a3.mono o.tups).sq,U,U,_,U,?_⟩;have sn:=sX ((bxs d f_).take i) c;by_cases hs:c.2.1=mK
  .refine dD (by rw[hs];rfl) ?_;rw[JQ hs,JO U]at sn;have CM:=o _ _ b1;refine⟨_,U,b2,U,⟨_,SqT.of CM⟩,oQ (xs:=bs) (λb j C m=>ar g m/\m b=JH (.lst C)/\CL (Fr g b) m C ((c.1.take j).map λp=>[p])) (λb a=>⟨ai a _,ae,aF.nil⟩) (λb j C m a _ h=>SqT.of (h.1 _ _ CM)) (λb j y2 C m a e2 J a0 Ft=>?_) (λb C m a J=>?_)⟩
   .obtain⟨t,x,Z⟩:=J;obtain⟨p,I,ep,rfl,b0⟩:=a4.get e2;have hj:j<bs.length:=(GA.mp e2).1;obtain⟨u0,rfl⟩:∃u0,a0=[u0]:=by
     match a0,Ft with
     | [u0],_=>exact⟨u0,U⟩
    refine⟨⟨[JH (.ref I)],U,U⟩,?_⟩;refine⟨_,U,(by show 1<=DO;decide),λW u=>?_⟩;have X:=ai u (.lst [V.ref I]);have g1:upd m W (.lst [V.ref I]) W=JH (.lst [V.ref I]):=ae;have S:=X _ _ x;have nc:W≠b:=λz=>by rw[z,x]at u;cases u
    have nf:g W=none:=t.free u;generalize upd m W (.lst [V.ref I])=H4 at X g1 S⊢;have Fu:H4 I=JH (.tup [.int p.1,.int p.2]):=X _ _ (t _ _ (o _ _ b0));have Bo:CL (Fr g b) H4 (C++[.ref W]) (((c.1.take j).map λp=>[p])++[[p]]):=aF.snoc (CL.same Z X) ⟨⟨nf,nc⟩,_,g1,.cons ⟨I,U,Fu⟩ .nil⟩;refine cQ.mk hj S (aD (by have:=Z.1;rw[bo,iD]at this;lia)) ⟨(t.trans X).upd a,ae,?_⟩;rw[take_snoc ep,fF];exact Bo.updN Fr.out S
   .obtain⟨t,x,Z⟩:=J;rw[a4.length,eU]at Z;have a5:b≠D:=λz=>by rw[z,L]at a;cases a
    refine⟨_,U,r2,_,_,_,U,U,(a3.mono (o.trans t).tups).sq,U,bu,λl M=>?_⟩;have T:=ai M (.tup [.ref b,.int c.2.2]);have eT:upd m l (.tup [.ref b,.int c.2.2]) l=JH (.tup [.ref b,.int c.2.2]):=ae;have R:=T _ _ (t _ _ L);have nT:l≠D:=λz=>by rw[z,t _ _ L]at M;cases M
    generalize upd m l (.tup [.ref b,.int c.2.2])=H4 at T eT R⊢;have a8:CL NT (hide H4 D) C (c.1.map λp=>[p]):=CL.hideN (CL.same Z T) (λz=>by have:=z.1;rw[L]at this;cases this) R;have eZ:gQ NT (hide H4 D) l (c.1.map λp=>[p],c.2.2):=⟨b,C,cH eT nT,trivial,cH (T _ _ x) a5,a8⟩;have sB:=(o.trans t).trans T;refine cQ.mk hi R (aD (by lia)) ⟨sB.upd hD,ae,?_⟩;rw[kg,take_snoc O,sn];exact aF.snoc (aF.mono G λ_ _ p=>p.same (iU (t.trans T))) eZ
  .refine br (λz=>hs (by injection z)) ?_;rw[JR hs,JN (by decide),jH]at sn;refine dC.mk (zs:=B) hi ⟨o,L,?_⟩;rw[take_snoc O,sn];exact G
 .obtain⟨o,L,G⟩:=J;rw[hz.length,eU]at G;exact q D B g (s1.trans o) L (aF.mono G λ_ _ p=>p.same (lO g D))
theorem Fv(F:Fun K "refuse_clashes" "refuse_clashes" Y72 f fd) (bl:Bl K mg Y)(T:Callee P w K mg base 7 "boxes" ["form","deep"] (gc K Y 7)):aJ P w K mg base (CX1 P w) 8 f fd ["form","deep"] (df K Y):=by
 refine F.okEA Z72 λa1 A G s H vs Q E o h=>?_
 obtain⟨d,p,v,rfl,Z,hd,N,h6,q,S⟩:=h
 refine⟨_,(ag (bh (vb U U U) U (aU (aM T o U (aa (pv 0) (aa (pv 1) af)))) (cm U (az (ax (i:=2) Z72.nd U (Or.inl U)) (az (ax (i:=3) Z72.nd U (Or.inl U)) aV)))
  (ag (aP (aG (wq o) (pv 3) (bz (v:=.ref Y.s) U bl.CLASH_ U) (aI _))
  (ag (vd bl.x_Clash o.hd U bl.Clash_ (aa aO af)))
  aE)))),?_⟩
 refine⟨_,U,_,U,_,_,LVd,d,p,v,U,Z,by lia,by lia,h6,λl I k J _ M L=>?_⟩;have C:I.length=(bxs d p).length:=L.length;refine⟨l,U,⟨_,SqL.of M⟩,bx (xs:=I) (λi j m=>m=k/\(∀q∈(bxs d p).take i,q.2≠aR)/\∃B x:Option V,j=[JH v,JH (.int (d:Int)),B,x]) ⟨U,(λq b=>by simp at b),_,_,U⟩ (λi j m _ h=>by rw[h.1];exact SqL.of M) (λi y j m e h=>?_) (λj m h=>?_)⟩
 .obtain⟨t,a,B,x,rfl⟩:=h;rw[t];obtain⟨n,c,R,b2,O,rfl,D,a0,W⟩:=gA L e;obtain⟨r2,rfl,X⟩:∃r,O=.ref r/\Vd K k r n.2:=W;refine⟨R,_,U,SqT.of D,U,_,_,U,_,_,U,U,?_⟩;refine⟨_,U,yL (v:=n.2) (u:=aR) X.sq (bl.q_CLASH.sq _) ⟨_,U,?_⟩⟩;refine dh (λg=>?_) (λg=>?_)
  .exact⟨(by show 1<=DO;decide),S ⟨n,GB c,JS g⟩ k J⟩
  .refine⟨U,λq b=>?_,_,_,U⟩;rw[take_snoc c]at b;rcases ia.mp b with b|b
   .exact a q b
   .rw[iE.mp b];exact λz=>g (JQ z)
 .obtain⟨t,a,B,x,rfl⟩:=h;rw[C,eU]at a;rw[t];exact q a k J
theorem Fw(F:Fun K "_law_table" "_law_table" Y64 f fd) (bl:Bl K mg Y)(B:bq CX0 P w K mg base 6 "Table" Y.q ["self","name","names","domains","outcome","way","rows"] (bE K Y)) (fE:Callee P w K mg base 7 "_law_word" ["cell","k"] (fC K Y)) (jm:Callee P w K mg base 7 "_law_domain" ["column"] (fQ K Y)) (iF:Callee P w K mg base 7 "_law_rows" ["bit_rows","columns"] (fD K Y)):aJ P w K mg base CX0 8 f fd ["head","columns","out","way","bit_rows"] (gI K Y):=by
 refine F.okA Z64 λf0 A e5 s H vs Q E hr h=>?_
 obtain⟨h,cl,ol,a3,wy,xs,k,g,oc,ws,wi,rfl,a0,Z,hok,b3,J,d1,c1,a6,p7,Fx,m,i0,b0,q⟩:=h
 refine⟨_,(aL (jZ (i:=5) Z64.nd U (Or.inl U) (cX U bl.range_ (aa (au aC U bl.len_ JG (aa (pv 1) af)) af)) (cj (N:=["j","head"]) (fr:=[0]) (cl:=[("head",s.heap.objs.size+1)]) U U (by decide+kernel) (by decide+kernel) U (by decide+kernel) U U U (hZ.mpr ⟨U,jo _⟩) U) U (λ_ _ _ _=>bQ) (λ_ _ _ _=>(aM fE hr U (aa (aw bB (pv 1) aj) (aa (aw bH aj (pv 0)) af)))))
  (aL (jZ (i:=6) Z64.nd U (Or.inl U) (aU (pv 1)) (fk U (by decide+kernel) (by decide+kernel) (by decide+kernel) U) U (λ_ _ _ _=>bQ) (λ_ _ _ _=>(aM jm hr U (aa (pv 0) af))))
  (ag (av (ua B bW hr U (aa (aM fE hr U (aa (aw bB (pv 0) aj) (aa aj af))) (aa (pv 5) (aa (pv 6) (aa (aM jm hr U (aa (pv 2) af)) (aa (pv 3) (aa (aM iF hr U (aa (pv 4) (aa (pv 1) af))) af))))))))))),?_⟩
 have a5:xs.length=g.length:=Z.1;refine⟨λT a=>ar H a/\∃na:DF,a na=JH (.lst (((List.range g.length).map λj:Nat=>wd (h / 16) (1+(0+(j:Int)))).map V.str))/\T=[JH (.int h),JH (.ref cl),JH (.ref ol),JH (.str wy),JH (.ref a3),JH (.ref na),JI],?_,?_⟩
 .refine⟨_,U,cl,_,U,.inl (SqL.of a0),_,U,(by show -(2^62)<=((xs.length:Nat):Int);lia),(by show((xs.length:Nat):Int)<2^62;lia),eB (λD i k a=>ar H a/\a D=JH (.lst k)/\k=((List.range i).map λj:Nat=>wd (h / 16) (1+(0+(j:Int)))).map V.str) (λD C=>⟨ai C _,ae,U⟩) (λD i k a C hi G=>?_) (λD k a C G=>?_)⟩
  .obtain⟨L,S,rfl⟩:=G;refine⟨_,U,_,_,U,U,⟨by decide,by decide⟩,_,U,_,_,U,U,_,_,U,cQ.mk hi S (aD (by rw[bo,bo,jJ];lia)) ⟨L.upd C,ae,?_⟩⟩;rw[lg,fF,fF];rfl
  .obtain⟨L,S,rfl⟩:=G;refine⟨L,D,?_,U⟩;rw[S,←a5];rfl
 rintro e7 H5 ⟨t5,na,d5,rfl⟩;have za:=t5 _ _ a0;have Bs:=Z.same t5;refine⟨λT a=>ar H5 a/\∃(dl:DF)(dv:List V),a dl=JH (.lst dv)/\aF dv g (dG Y.o Y.p a)/\T=[JH (.int h),JH (.ref cl),JH (.ref ol),JH (.str wy),JH (.ref a3),JH (.ref na),JH (.ref dl)],?_,?_⟩
 .refine⟨_,U,cl,U,⟨_,SqL.of za⟩,cY (xs:=xs) (λD i k a=>ar H5 a/\a D=JH (.lst k)/\aF k (g.take i) (dG Y.o Y.p (hide a D))) (λD C=>⟨ai C _,ae,aF.nil⟩) (λD i k a C _ G=>SqL.of (G.1 _ _ za)) (λD i y k a C e G=>?_) (λD k a C G=>?_)⟩
  .obtain⟨L,S,m⟩:=G;obtain⟨l,c,rfl,R,hc⟩:=aF.get (Bs.same L) e;have hi:i<xs.length:=(GA.mp e).1;have ok:=hok c (GB R);refine⟨_,U,l,c,U,hc,hok c (GB R),λd H2 s' hd=>?_⟩;have b4:=s' _ _ S;have e9:k.length<=4:=by have:=m.1;rw[iD]at this;lia
   have d3:dG Y.o Y.p (hide H2 D) d c:=hd.hide b4 (λx hx=>by
    obtain⟨j,ej⟩:=jF hx;obtain⟨r,_,er,_⟩:=aF.get m ej;exact⟨r,er⟩) (λhw=>by
    obtain⟨p0,e0,l0⟩:=ok.first;have:=ok.w0 hw p0 e0;have:=ok.le;lia)
   refine cQ.mk hi b4 (aD (by lia)) ⟨(L.trans s').upd C,ae,?_⟩;rw[take_snoc R,kg];exact aF.snoc (aF.mono m λ_ _ p=>p.same (iU s')) d3
  .obtain⟨L,S,m⟩:=G;rw[a5,eU]at m;exact⟨L,D,k,S,aF.mono m λ_ _ p=>p.same (lO a D),U⟩
 rintro e6 H6 ⟨t6,dl,dv,e3,X,rfl⟩;have s6:=t5.trans t6;have Fy:=t6 _ _ d5;have qc:(∀z∈wd (h / 16) 0 :: (List.range g.length).map (λj:Nat=>wd (h / 16) (1+(0+(j:Int)))),isw z=JJ)/\(wd (h / 16) 0 :: (List.range g.length).map (λj:Nat=>wd (h / 16) (1+(0+(j:Int))))).Nodup:=by
  constructor
  .intro z m;rcases cf.mp m with rfl|m
   .exact sS _ _
   .obtain⟨j,_,rfl⟩:=dy.mp m;exact sS _ _
  .have nd:=oV (c:=h / 16) (n:=g.length+1) (by lia) (λj:Nat=>(j:Int)) (λj hj=>⟨by lia,by lia⟩) λi j e=>by lia
   have e:((List.range (g.length+1)).map λj:Nat=>wd (h / 16) (j:Int))=wd (h / 16) 0 :: (List.range g.length).map λj:Nat=>wd (h / 16) (1+(0+(j:Int))):=by
    rw[List.range_succ_eq_map,kO,vr]
    congr 1
    apply List.map_congr_left
    intro j _;show wd (h / 16) ((j+1:Nat):Int)=_
    congr 1
    lia
   rw[e]at nd;exact nd
 have v:((List.range g.length).map λj:Nat=>wd (h / 16) (1+(0+(j:Int)))).length=g.length:=by simp
 have b1:(g.map Col.b).length=g.length:=bo _;refine⟨_,U,_,_,U,U,⟨by decide,by decide⟩,_,_,U,_,U,_,U,_,U,ol,oc,U,d1.same s6,c1,λou H7 s7 Bt=>?_⟩;have a9:=Bt.dom;have sA:=s6.trans s7;refine⟨_,U,_,U,_,U,a3,cl,k,xs,ws,g,U,sA _ _ Fx,m.same sA,i0,sA _ _ a0,Z.same sA,hok,J,λw hw=>(b0 w hw).len,λrl rx I H8 M d4 a7 W=>?_⟩;intro x O hx d2 e8;have s9:ar H8 (upd (upd H8 O (.own x)) x (.ins Y.q O [])):=(ai d2 _).upd hx;have u9:=s7.trans (M.trans s9);have a8:=W.rowOk b0 hok;have Gx:rx.length=I.length:=a7.1;have zW:I.length<=200:=by rw[W.1];exact i0
 have CN:aF dv (g.map Col.b) (Dom Y.o Y.p H6):=⟨by rw[bo];exact X.1,λj b e=>by
  rw[eR]at e;cases R:g[j]? with
  |none=>rw[R]at e;cases e
  |some c =>
   rw[R]at e;cases e;obtain⟨r,e1,p⟩:=X.2 j c R;exact⟨r,e1,p.dom⟩⟩
 have zX:wy=s!"sum" -> ∃O fs,H7 ou=JH (.ins Y.o O fs):=λz=>by
  rcases Bt with⟨_,O,fs,e,_⟩|⟨hw,_⟩
  .exact⟨O,fs,e⟩
  .rw[p7 z]at hw;cases hw
 refine⟨x,O,na,dl,ou,rl,_,_,(List.range g.length).map λj:Nat=>wd (h / 16) (1+(0+(j:Int))),dv,rx,g.map Col.b,oc.b,I,U,ae,u9 _ _ Fy,qc.1,qc.2,by rw[v];exact b3,by rw[v];exact J,GB a6,λz=>?_,u9 _ _ e3,aF.mono CN λ_ _ p=>p.same u9,a9.same (M.trans s9),s9 _ _ d4,(RL.any a7).same s9,by lia,by rw[b1];exact J,a8,λa fs b6 b5 k1 k2 k3 d0 c8 c7 ⟨c2,e4,c6,c5,c4,c3⟩ k4 k5=>?_⟩
 .obtain⟨a2,a1,e2⟩:=zX z;exact⟨a2,a1,s9 _ _ (M _ _ e2)⟩
 .have t:ar H8 a:=λb u e=>k1 b u (bc e hx) (s9 _ _ e)
  have a4:ar H6 a:=(s7.trans M).trans t;refine⟨U,q x ou dv I a ((s6.trans s7).trans (M.trans t)) ⟨b6,O,c2,e4,fs,b5,k2,k3,c7,d0,c8,c6,c5,c4,c3,k4,k5,by rw[k5.1];exact zW⟩ ⟨qc.1,qc.2,by rw[v];exact b3,by rw[v];exact J,GB a6,λz=>?_,aF.mono CN λ_ _ p=>p.same a4,a9.same (M.trans t),by rw[b1,v],a8,zW⟩ (aF.mono X λ_ _ p=>p.same a4) (Bt.same (M.trans t)) W⟩;obtain⟨a2,a1,e2⟩:=zX z;exact⟨a2,a1,t _ _ (M _ _ e2)⟩
theorem Fz(F:Fun K "spread_form" "spread_form" Y80 f fd) (bl:Bl K mg Y)(kR:cS P w K mg base 8 "refuse_clashes" ["form","deep"] (df K Y)) (d:bq CX0 P w K mg base 7 "Table" Y.q ["self","name","names","domains","outcome","way","rows"] (bE K Y)) (vz:Callee P w K mg base 8 "rows_of" ["form","deep"] (jD K Y)):aJ P w K mg base (CX1 P w) 9 f fd ["name","names","domains","outcome","form"] (eV K Y):=by
 refine F.okEA Z81 λb0 A a6 s H vs Q E B h=>?_
 obtain⟨y,dl,ou,nm,g,dv,l,v,bs,o,rfl,p,a4,D,i0,G,ok,q,qE⟩:=h
 refine⟨_,(ao (aH (i:=5) Z81.nd U (Or.inl U) (au aC U bl.len_ JG (aa (pv 1) af)))
  (aL (ba (wF kR zF B U (aa (pv 4) (aa (pv 5) af))))
  (ag (av (ua d bW B U (aa (pv 0) (aa (pv 1) (aa (pv 2) (aa (pv 3) (aa aO (aa (aM vz B U (aa (pv 4) (aa (pv 5) af))) af))))))))))),?_⟩
 have a8:=ok.four;have a0:(g.map V.str).length=g.length:=bo _;refine⟨_,U,y,_,U,.inl (SqL.of p),?_⟩;rw[a0];refine⟨λJ j=>ar H j/\(∀q∈bxs g.length l,q.2≠aR)/\J=[JH (.str nm),JH (.ref y),JH (.ref dl),JH (.ref ou),JH v,JH (.int ((g.length:Nat):Int))],?_,?_⟩
 .by_cases C:∃q∈bxs g.length l,q.2=aR
  .exact⟨_,U,_,U,g.length,l,v,U,D,by lia,by lia,G,(λh j t=>by obtain⟨q_,hq,e⟩:=C;exact JP e (h q_ hq)),λ_ j t=>qE C j t⟩
  .exact⟨_,U,_,U,g.length,l,v,U,D,by lia,by lia,G,(λh j t=>⟨t,h,U⟩),λh=>JP h C⟩
 rintro a7 H1 ⟨s1,a1,rfl⟩;refine⟨_,U,_,U,_,U,_,U,_,U,_,U,g.length,l,v,U,D.mono s1.tups,by lia,by lia,G,λrl rx I s2 a3 hR=>?_⟩;have k:=s1.trans s2;refine λx c z n a9=>?_
 have r:ar H (upd (upd I c (.own x)) x (.ins Y.q c [])):=(k.trans (ai n _)).upd (k.free z);have m:ar I (upd (upd I c (.own x)) x (.ins Y.q c [])):=(ai n _).upd z;have a:=ok.same r;refine⟨x,c,y,dl,ou,rl,nm,s!"only",g,dv,rx,bs,o,bX (bxs g.length l),U,ae,r _ _ p,a.words,a.once,a.one,a.four,a.way,a.sum,r _ _ a4,a.doms,a.out,m _ _ a3,hR.same m,by rw[hR.1];exact ok.few,by rw[a.len];exact a.four,a.rows,λj a2 M L k1 k2 k3 Z X W ⟨N,a5,T,S,R,O⟩ k4 k5=>⟨U,q a1 x j (λb u e=>k1 b u (bc e (k.free z)) (r _ _ e)) ⟨M,c,N,a5,a2,L,k2,k3,W,Z,X,T,S,R,O,k4,k5,by rw[k5.1];exact ok.few⟩⟩⟩
theorem FA{k n:Nat}(F:Fun K "layered" "layered" Y68 f fd) (bl:Bl K mg Y)(mW:Callee P w K mg base k "closed" ["triples"] (iW K Y)) (kS:Callee P w K mg base k "layered" ["columns","ahead","leaf"] (eW K Y P w mg base n)) (hk:8<=k):aJ P w K mg base CX0 (k+1) f fd ["columns","ahead","leaf"] (eW K Y P w mg base (n+1)):=by
 refine F.okA Z68 λc1 A b5 s H vs Q E hr h=>?_
 obtain⟨c,b,f_,xs,a,M,m,L,iL,A,g,J,rfl,hn,hc,hC,hb,a1,b3,b0,hm,Z,hJ,q⟩:=h
 refine⟨_,(ao (aP (bM (c0 (pv 0) (by intro _;rfl)))
  (ag (av (uc (k:=8) (i:=2) (hr.mono hk) U (Or.inr (Or.inl U)) (aa (pv 1) af))))
  aE)
  (ag (av (aM mW hr U (aa (cR (aU (aK aQ (pv 0) aj (λ_ _=>U))) (dE (N:=["low","high","columns","ahead","leaf"]) (k:=2) (fr:=[0,1,2]) (cl:=[("leaf",s.heap.objs.size+1+1+1),("columns",s.heap.objs.size+1),("ahead",s.heap.objs.size+1+1)]) U U (by decide+kernel) (by decide+kernel) U U (hZ.mpr ⟨U,hZ.mpr ⟨U,hZ.mpr ⟨U,jo _⟩⟩⟩) U) U (λ_ _ _ _=>(jh (K:=K) (n:=2) U U (az (ax (i:=0) (show(["low","high","columns","ahead","leaf"]:List Str).Nodup by decide+kernel) U (Or.inl U) (Or.inr U)) (az (ax (i:=1) (show(["low","high","columns","ahead","leaf"]:List Str).Nodup by decide+kernel) U (Or.inl U) (Or.inr U)) aV)))) (λ_ _ _ _=>bQ) (λ_ _ _ _=>(aZ (aa (pv 0) (aa (pv 1) (aa (aM kS hr U (aa (jX (wN (K:=K) U) (pv 2) (lG aj) lF) (aa (aw jt (pv 3) (aX (aa (pv 0) af))) (aa (pv 4) af)))) af)))))) af))))),?_⟩
 cases a with
 |nil =>
  have hx:xs=[]:=List.eq_nil_of_length_eq_zero hC.1;subst hx;obtain⟨sp,hF,a9⟩:=Z.fn;refine⟨_,U,_,.inl ⟨_,SqL.of hc,U⟩,cZ ?_⟩;exact⟨f_,sp,U,Z.ob H hJ,hF,_,U,Z.ob H hJ,a9 H b M _ hJ (by rw[hm];rfl) hb λv u h' hv=>q v u h' hv⟩
 |cons y a =>
  obtain⟨r,ex,ts,er,hp⟩:=hC.2 0 y U;obtain⟨l,rfl⟩:∃l,xs=.ref r :: l:=by
   cases xs with
   |nil=>cases ex
   |cons x l=>cases ex;exact⟨l,U⟩
  have b4:CoL H l a:=⟨by simpa using hC.1,λj c e=>by simpa using hC.2 (j+1) c (by simpa using e)⟩;have b6:y.length<=64:=a1 y dt;have a5:ts.length=y.length:=hp.length;have Gy:a.length<=5:=by rw[gb]at b0;lia
  refine⟨_,U,_,.inl ⟨_,SqL.of hc,U⟩,bp ?_⟩
  refine⟨_,U,c,_,_,_,U,U,SqL.of hc,cw (j:=0) U,r,U,⟨_,SqL.of er⟩,gs (xs:=ts) (λD i G u=>ar H u/\u D=JH (.lst G)/\FmL (FmV A u a.length) u ((y.take i).map λp=>(p.1,p.2,lay g a (M++[p.1]))) G/\G.length<=i)
   (λD hD=>⟨ai hD _,ae,FmL.nil,vI _⟩) (λD i G u hD _ h=>SqL.of (h.1 _ _ er)) (λD i x G u hD e h ss a8=>?_) (λD G u hD h=>?_)⟩
  .obtain⟨I,eD,S,a4⟩:=h;obtain⟨p,t,ep,rfl,ht⟩:=hp.get e;have hi:i<ts.length:=(GA.mp e).1;obtain⟨t0,B,rfl⟩:∃t0 B,ss=[t0,B]:=by
    match ss,a8 with
    | [t0,B],_=>exact⟨t0,B,U⟩
   refine⟨t,_,U,SqT.of (I _ _ ht),U,_,_,U,_,_,U,U,⟨[JH (.int p.1),JH (.int p.2)],U,U⟩,?_⟩;refine⟨_,U,_,U,_,U,_,U,c,_,U,SqL.of (I _ _ hc),λc2 b1=>?_⟩;rw[xh];have s2:ar u (upd u c2 (.lst l)):=ai b1 _;have a2:upd u c2 (.lst l) c2=JH (.lst l):=ae;generalize upd u c2 (.lst l)=T at s2 a2⊢;refine⟨_,U,_,U,(by show 1<=DO;decide),λB a7=>?_⟩;have X:ar T (upd T B (.lst [.int p.1])):=ai a7 _;have e1:upd T B (.lst [.int p.1]) B=JH (.lst [.int p.1]):=ae;generalize upd T B (.lst [.int p.1])=H3 at X e1⊢;refine⟨b,B,_,_,U,U,X _ _ (s2 _ _ (I _ _ hb)),e1,v5 (aD (by rw[bo];show M.length+1<=1000;lia)),λR a0=>?_⟩;have s4:ar H3 (upd H3 R (.lst (M.map V.int++[.int p.1]))):=ai a0 _;have e2:upd H3 R (.lst (M.map V.int++[.int p.1])) R=JH (.lst ((M++[p.1]).map V.int)):=by rw[fF];exact ae
   generalize upd H3 R (.lst (M.map V.int++[.int p.1]))=H4 at s4 e2⊢;have O:ar u H4:=(s2.trans X).trans s4;have f2:u R=none:=(s2.trans X).free a0;refine⟨_,U,c2,R,f_,l,a,M++[p.1],m,L,iL,A,g,J,U,by rw[gb]at hn;lia,s4 _ _ (X _ _ a2),b4.same (I.trans O),e2,λz S=>a1 z (fG _ S),by rw[dg,hQ];rw[gb]at b3;lia,by lia,by rw[dg,hQ];rw[gb]at hm;lia,Z,Z.st _ _ hJ (I.trans O),λv H5 h5 hv=>?_⟩;have s5:ar u H5:=λd o ed=>h5 d o (λz=>by rw[z,f2]at ed;cases ed) (O _ _ ed)
   refine⟨(by show 3<=DO;decide),λW a6=>?_⟩;have s6:ar H5 (upd H5 W (.tup [.int p.1,.int p.2,v])):=ai a6 _;have e3:upd H5 W (.tup [.int p.1,.int p.2,v]) W=JH (.tup [.int p.1,.int p.2,v]):=ae;generalize upd H5 W (.tup [.int p.1,.int p.2,v])=H6 at s6 e3⊢;have C:=s5.trans s6;have a3:=C _ _ eD;refine cQ.mk hi a3 (aD (by lia)) ⟨(I.trans C).upd hD,ae,?_,by rw[dg,hQ];lia⟩;have st:cg H6 (upd H6 D (.lst (G++[.ref W]))):=aY a3;rw[take_snoc ep,fF];exact(S.mono (λ_ _ z=>FmV.mono (C.tups.trans st) z) (C.tups.trans st)).snoc (st _ _ e3) (FmV.mono (s6.tups.trans st) hv)
  .obtain⟨I,eD,S,a4⟩:=h;rw[a5,eU]at S;refine⟨L,iL,A,a.length,D,G,_,U,by lia,eD,S,by rw[bo];lia,λr2 T s2 hf=>?_⟩;exact q _ T (λd o _ ed=>(I.trans s2) _ _ ed) hf
theorem FC{k n:Nat}(F:Fun K "mapped" "mapped" Y69 f fd) (bl:Bl K mg Y)(mW:Callee P w K mg base k "closed" ["triples"] (iW K Y)) (mX:Callee P w K mg base k "mapped" ["form","deep","change"] (gd K Y P w mg base n)) (hk:8<=k):aJ P w K mg base CX0 (k+1) f fd ["form","deep","change"] (gd K Y P w mg base (n+1)):=by
 refine F.okA Z69 λb1 A a8 s H vs Q E Z h=>?_
 obtain⟨L,M,iL,iM,A,B,h_,J,d,F_,v,f_,rfl,hn,b0,R,a6,m,S,q⟩:=h
 refine⟨_,(ao (aP (aG cc (pv 1) aj (aI _))
  (ag (av (uc (k:=8) (i:=2) (Z.mono hk) U (Or.inr (Or.inl U)) (aa (pv 0) af))))
  aE)
  (ag (av (aM mW Z U (aa (cR (rP (pv 0)) (dE (N:=["low","high","beneath","deep","change"]) (k:=3) (fr:=[1,2]) (cl:=[("deep",s.heap.objs.size+1),("change",s.heap.objs.size+1+1)]) U U (by decide+kernel) (by decide+kernel) U U (hZ.mpr ⟨U,hZ.mpr ⟨U,jo _⟩⟩) U) U (λ_ _ _ _=>(jh (K:=K) (n:=3) U U (az (ax (i:=0) (show(["low","high","beneath","deep","change"]:List Str).Nodup by decide+kernel) U (Or.inl U) (Or.inr U)) (az (ax (i:=1) (show(["low","high","beneath","deep","change"]:List Str).Nodup by decide+kernel) U (Or.inl U) (Or.inr U)) (az (ax (i:=2) (show(["low","high","beneath","deep","change"]:List Str).Nodup by decide+kernel) U (Or.inl U) (Or.inr U)) aV))))) (λ_ _ _ _=>bQ) (λ_ _ _ _=>(aZ (aa (pv 0) (aa (pv 1) (aa (aM mX Z U (aa (pv 2) (aa (aw d9 (pv 3) aj) (aa (pv 4) af)))) af)))))) af))))),?_⟩
 cases d with
 |zero =>
  obtain⟨sp,hF,a5⟩:=m.fn;refine⟨_,U,U,_,U,dD U ?_⟩;exact⟨f_,sp,U,m.ob H S,hF,_,U,m.ob H S,a5 H v F_ _ S R λu b s' X=>q u b s' X⟩
 |succ d =>
  obtain⟨G,rfl⟩:∃G:List (T3a (Fm L d)),(G:Fm L (d+1))=F_:=⟨F_,U⟩;obtain⟨a9,FD⟩:SmS 300 (SmF 300 d) G:=a6;obtain⟨a,xs,rfl,ha,hG⟩:∃(a:DF)(xs:List V),v=.ref a/\H a=JH (.tup xs)/\FmL (FmV A H d) H G xs:=R;have a1:=hG.1;refine⟨_,U,U,_,U,br (λz=>by have:=V.int.inj z;lia) ?_⟩
  refine⟨_,U,a,U,⟨_,SqT.of ha⟩,oQ (xs:=xs) (λD i g b=>ar H b/\b D=JH (.lst g)/\FmL (FmV B b d) b ((G.take i).map λt=>(t.1,t.2.1,nP h_ d t.2.2)) g/\g.length<=i)
   (λD o=>⟨ai o _,ae,FmL.nil,vI _⟩) (λD i g b o _ h=>SqT.of (h.1 _ _ ha)) (λD i x g b o e h ss a4=>?_) (λD g b o h=>?_)⟩
  .obtain⟨j,eD,O,a0⟩:=h;have hi:i<xs.length:=(GA.mp e).1;obtain⟨t,et⟩:∃t,G[i]?=JH t:=⟨_,Gz (by lia)⟩;obtain⟨r,u,ex,er,X⟩:=hG.2 i t et;rw[e]at ex;cases ex;obtain⟨I,C,y,rfl⟩:∃I C y,ss=[I,C,y]:=by
    match ss,a4 with
    | [I,C,y],_=>exact⟨I,C,y,U⟩
   have a7:=j _ _ er;have a2:=FmV.mono j.tups X;refine⟨r,_,U,SqT.of a7,U,_,_,U,_,_,U,_,_,U,U,⟨[JH (.int t.1),JH (.int t.2.1),JH u],U,U⟩,?_⟩;refine⟨_,U,_,U,_,U,_,U,_,_,U,U,_,U,L,M,iL,iM,A,B,h_,J,d,t.2.2,u,f_,by simp,by lia,by lia,a2,FD t (GB et),m,m.st _ _ S j,λv T s5 R=>?_⟩;refine⟨(by show 3<=DO;decide),λl a3=>?_⟩;have W:ar T (upd T l (.tup [.int t.1,.int t.2.1,v])):=ai a3 _;have e3:upd T l (.tup [.int t.1,.int t.2.1,v]) l=JH (.tup [.int t.1,.int t.2.1,v]):=ae;generalize upd T l (.tup [.int t.1,.int t.2.1,v])=H6 at W e3⊢;have c:=s5.trans W;have p:=c _ _ eD;refine cQ.mk hi p (aD (by lia)) ⟨(j.trans c).upd o,ae,?_,by rw[dg,hQ];lia⟩;have st:cg H6 (upd H6 D (.lst (g++[.ref l]))):=aY p;rw[take_snoc et,fF];exact(O.mono (λ_ _ z=>FmV.mono (c.tups.trans st) z) (c.tups.trans st)).snoc (st _ _ e3) (FmV.mono (W.tups.trans st) R)
  .obtain⟨j,eD,O,a0⟩:=h;rw[a1,eU]at O;refine⟨M,iM,B,d,D,g,_,U,by lia,eD,O,by rw[bo];lia,λr2 H2 s2 hf=>?_⟩;exact q _ H2 (j.trans s2) hf
theorem FE(F:Fun K "built" "built" Y34 f fd) (bl:Bl K mg Y)(kS:Callee P w K mg base 15 "layered" ["columns","ahead","leaf"] (eW K Y P w mg base 7)) (zc:Callee P w K mg base 15 "grain" ["bounds","marks"] (mQ K Y)) (fS:Callee P w K mg base 15 "cut_columns" ["bounds","marks"] (de K Y)):aJ P w K mg base CX0 16 f fd ["bounds","marks","leaf"] (mR K Y P w mg base):=by
 refine F.okA Z34 λa1 A T s H vs Q E M h=>?_
 obtain⟨a,b,f_,V,c,as,k,L,iL,A,g,J,rfl,Z,N,X,hM,hok,hg,hL,hJ,q⟩:=h
 refine⟨_,(ao (aP (aG gM (aM zc M U (aa (pv 0) (aa (pv 1) af))) (oz U bl.MOST_GRAIN_) (aI _))
  (ag bV)
  aE)
  (ag (av (aM kS M U (aa (aM fS M U (aa (pv 0) (aa (pv 1) af))) (aa (aX af) (aa (pv 2) af))))))),?_⟩
 have a0:=N.length;obtain⟨y,x,u⟩:=hok;refine⟨_,U,_,U,a,b,V,c,as,k,U,Z,N,X,hM,⟨y,x,u⟩,λH1 m=>?_⟩;refine⟨_,_,U,U,_,U,?_⟩;refine dh (λg=>JP (lU g) (by lia)) (λ_=>?_);refine⟨_,U,_,U,a,b,V,c,as,k,U,m _ _ Z,N.mono m.tups,m _ _ X,hM.same m,⟨y,x,u⟩,λl xs G e s2 el R C hx=>?_⟩;refine⟨(by show 0<=DO;decide),λt W=>?_⟩;have D:ar G (upd G t (.lst [])):=ai W _;have et:upd G t (.lst []) t=JH (.lst []):=ae;generalize upd G t (.lst [])=H3 at D et⊢;have r:=(m.trans s2).trans D;have B:(List.zipWith (λp i=>cb p.1 p.2 i) c e).length=c.length:=by rw[lz];lia
 refine⟨_,U,l,t,f_,xs,_,[],c.length,L,iL,A,g,J,U,by lia,D _ _ el,hx.same D,et,λS FG=>?_,by rw[B];show 0+c.length<=6;lia,by lia,by rw[B];show c.length=0+c.length;lia,hL,hL.st _ _ hJ r,λv H4 h4 hv=>?_⟩
 .obtain⟨j,n⟩:=jF FG;have hj:j<(List.zipWith (λp i=>cb p.1 p.2 i) c e).length:=(GA.mp n).1;obtain⟨p,ep⟩:∃p,c[j]?=JH p:=⟨_,Gz (by lia)⟩;obtain⟨i,ec⟩:∃i,e[j]?=JH i:=⟨_,Gz (by lia)⟩;obtain⟨I,em⟩:∃I,k[j]?=JH I:=⟨_,Gz (by lia)⟩;rw[nL,ep,ec]at n;have n:cb p.1 p.2 i=S:=Option.some.inj n;rw[←n,iu];have:=(C j p I i ep em ec).2.2;lia
 .exact q v H4 e (λd o O=>h4 d o (λz=>by have f:=(m.trans s2).free W;rw[z,f]at O;cases O) (r _ _ O)) R C hv
theorem kq{c' c_0:DF}{doc pm ctv:Ct}(bl:Bl K mg Y)(u:Callee P w K mg base 7 "mask" ["table","codes"] (gH K Y)) (inj:∀x y c,([("table",c_0)]:List (Str×DF)).lookup x=JH c->([("table",c_0)]:List (Str×DF)).lookup y=JH c->x=y):HFn P w K mg base 8 f (gf K Y f c' c_0 doc pm ctv):=by
 have Z78:=@Z78 c_0;refine xa (qual := "row_form.<locals>.<lambda>") (e:=Y77) (c':=c') (cl:=[("table",c_0)]) (pm:=pm) (ctv:=ctv) Z78 inj (λp v=>match p,v with | [D],_=>rfl) (λn H Q E h=>?_) (λA g s H n Q E z h=>?_)
 .obtain⟨a,t,m,b,i,o,rfl,d,l,k,j,q⟩:=h;rfl
 obtain⟨a,t,m,b,i,o,rfl,d,l,k,j,q⟩:=h;refine⟨_,d,ud U,λC=>⟨_,(aM u z U (aa (pv 1) (aa (pv 0) af))),?_⟩⟩;have B:=d.2.2.fzs;have so:=So.hide B;exact⟨_,U,_,U,t,a,b,i,o,m,U,Tbl.so so l,SqL.of (so.lst k),j,λF r _=>q _ (my r)⟩
theorem FH(F:Fun K "row_form" "row_form" s_row_form f fd) (bl:Bl K mg Y)(zd:Callee P w K mg base 16 "built" ["bounds","marks","leaf"] (mR K Y P w mg base)) (mZ:Callee P w K mg base 16 "table_bounds" ["table"] (dM K Y)) (nU:Callee P w K mg base 16 "table_marks" ["table"] (eS K Y)) (kQ:Callee P w K mg base 16 "mask" ["table","codes"] (gH K Y)) {cL tP:DF}(a4:fd.code=.ref cL)(ht:W.tabIn K "row_form" = JH (cL,tP)) (hT:W.CodeHd base cL tP/\base.BuiltinsAt mg tP)(Bu:Callee P w K mg base 7 "mask" ["table","codes"] (gH K Y)):aJ P w K mg base CX0 17 f fd ["table"] (iB K Y):=by
 refine F.okT a4 Z77 (λvs H Q E h=>?_) (λA b6 s H vs Q E hr h=>?_)
 .obtain⟨t,dv,bs,g,L,i,o,rfl,G,T,h4,V,eZ,J,S,O,q⟩:=h;rfl
 obtain⟨t,dv,bs,g,L,i,o,rfl,G,T,h4,V,eZ,J,S,O,q⟩:=h;refine⟨_,(ag (av (wO (zs:=[("table",0,s.heap.objs.size+1)]) zd hr U (aa (aM mZ hr U (aa (pv 0) af)) (aa (aM nU hr U (aa (pv 0) af)) (aa (w6 (clos:=[("table",s.heap.objs.size+1)]) U hT.1 hT.2 U (hZ.mpr ⟨U,jo _⟩)) af))) (hZ.mpr ⟨⟨U,Or.inl U,U,Or.inl U⟩,jo _⟩)))),?_⟩;have a6:∀(c:Nat)(b:Int×Int),bs[c]?=JH b->(L c).length<64/\∀x,MkC g c b x->x∈L c:=λc b e=>⟨Nat.lt_of_le_of_lt (J c b e).1 (by decide),(J c b e).2⟩
 refine⟨_,U,t,dv,bs,g,U,G,by lia,λl1 ys H1 s1 n1 e1 a5=>?_⟩;refine⟨_,U,t,dv,bs,g,L,U,G.same s1,by lia,V,eZ,a6,λl2 as r H2 s2 n2 e2 hM R y=>?_⟩;have n:=s1.trans s2;have CO:=(O _ ht).same n;obtain⟨c1,b0,_⟩:=id CO;refine⟨[(qQ Y77,"row_form.<locals>.<lambda>")],dt,?_,CO,λZ c' oc pm ctv M hf kp ef ec a2 wR inj=>?_⟩
 .intro p hp _ _;rw[iE.mp hp];rfl
 have m:So H2 M:=λd o p e=>kp d o (λz=>by rw[z,b0]at e;cases e;exact p) e
 refine λos u hz ho=>?_
 have l:=mC u hz;have a8:∃o,ip M ((([("table",0,s.heap.objs.size+1)]:List (Str×Nat×DF)).map (·.2.2)).zip os) (s.heap.objs.size+1)=JH (.frz o TTh):=by
  obtain⟨o,_,e⟩:=gy (H:=M) (fz:=(([("table",0,s.heap.objs.size+1)]:List (Str×Nat×DF)).map (·.2.2)).zip os) (b:=s.heap.objs.size+1) (by rw[mB u];exact dt);exact⟨o,e⟩
 have a3:=qO (H:=M) (cl:=[("table",s.heap.objs.size+1)]) (ws:=[("table",.ref t)]) u (by simp) ho (λc hc=>by
  simp only[kO,rC,cf,jG,or_false]at hc;exact⟨_,dt,hc.symm⟩) (λx v e=>by
  unfold List.lookup at e;split at e
  .rename_i C
   cases e;rw[eq_of_beq C];exact⟨_,dt,U,U⟩
  .cases e)
 have mY:jl (ip M ((([("table",0,s.heap.objs.size+1)]:List (Str×Nat×DF)).map (·.2.2)).zip os)) Z c' (W.kla_obj "<lambda>" "row_form.<locals>.<lambda>" (pQ Y77) (nO Y77) (ke Y77) [("table",s.heap.objs.size+1)] pm c' ctv) "row_form.<locals>.<lambda>" [("table",s.heap.objs.size+1)] [("table",.ref t)]:=⟨l _ _ ef,⟨oc,l _ _ ec,a2⟩,a3⟩;have hN:A9 (K':=K) wZ P w K mg base Z bs.length (λcd=>((msk (gR g cd) g.length:Nat):Int)) (λN=>jl N Z c' (W.kla_obj "<lambda>" "row_form.<locals>.<lambda>" (pQ Y77) (nO Y77) (ke Y77) [("table",s.heap.objs.size+1)] pm c' ctv) "row_form.<locals>.<lambda>" [("table",s.heap.objs.size+1)] [("table",.ref t)]/\Tbl Y.q Y.o Y.p N t g i o) :=
  ⟨⟨_,kq (doc:=.none) (pm:=pm) (ctv:=ctv) (c':=c') (c_0:=s.heap.objs.size+1) bl Bu inj,λN a cd Q0 D hl ha k=>⟨a,t,cd,g,i,o,U,D.1,D.2,ha,(λx C=>by rw[(eZ x C).1,hl]),λb5 X=>k _ _ (λb o _ e=>X b o e) U⟩⟩,λN D=>⟨_,_,D.1.1,U⟩,λN b5 D X=>⟨D.1.same X,Tbl.same D.2 X⟩⟩
 have FI:MOK bs r:=⟨R.symm,by lia,λB a0=>by
  obtain⟨c,ec⟩:=jF a0;have hc:=(GA.mp ec).1;obtain⟨b,eb⟩:∃b,bs[c]?=JH b:=⟨_,Gz (by lia)⟩;obtain⟨pw,hm⟩:=y c b B eb ec;exact vG (xt pw λx C=>(J c b eb).2 x ((hm x).mp C)) (J c b eb).1⟩
 refine⟨l1,l2,Z,ys,bs,as,r,Int,inferInstance,wZ,_,_,U,(So.lst m (s2 _ _ e1) |> λe=>l _ _ e),((a5.mono s2.tups).mono m.tups).mono l.tups,l _ _ (m.lst e2),(MLs.so m hM).same l,FI,S r R y,hN,⟨mY,Tbl.same (Tbl.so m (Tbl.same T n)) l⟩,λv H4 b4 s4 FJ a1 a7=>?_⟩;have hs:=L2.hide_same u hz s4;obtain⟨o2,b1⟩:=a8;have a9:Fzs H4 [s.heap.objs.size+1]:=λd hd=>by rw[iE.mp hd];exact⟨o2,s4 _ _ b1⟩
 refine q v _ b4 (((So.of n).trans m).trans (So.of hs)) (λz ez=>?_) ⟨_,ht⟩ FJ (λj p cs ep b3=>?_) (a7.mono (So.hide a9).tups)
 .rw[ht]at ez;cases ez;exact⟨wR.same hs,λd o hd e=>hs _ _ (kp d o hd (n _ _ e))⟩
 .obtain⟨B,I⟩:∃B,r[j]?=JH B:=⟨_,Gz (by have:=(GA.mp ep).1;lia)⟩;obtain⟨pw,hm,_⟩:=a1 j p B cs ep I b3;refine⟨pw,λx=>(hm x).trans ⟨λh=>((y j p B ep I).2 x).mp h.1,λh=>⟨((y j p B ep I).2 x).mpr h,?_⟩⟩⟩;obtain⟨w_,_,C⟩:=h;have:=(kl.mp C).2;rw[zC,JU,JU]at this;exact this
theorem gW{c' c_0:DF}{doc pm ctv:Ct}(bl:Bl K mg Y)(u:Callee P w K mg base 7 "judged" ["table","rows"] (d7 K Y)) (inj:∀x y c,([("table",c_0)]:List (Str×DF)).lookup x=JH c->([("table",c_0)]:List (Str×DF)).lookup y=JH c->x=y):HFn P w K mg base 8 f (dH K Y f c' c_0 doc pm ctv):=by
 have Z87:=@Z87 c_0;refine xa (qual := "verdict_form.<locals>.<lambda>") (e:=Y85) (c':=c') (cl:=[("table",c_0)]) (pm:=pm) (ctv:=ctv) Z87 inj (λl v=>match l,v with | [F],_=>rfl) (λk H Q E h=>?_) (λA g s H k Q E z h=>?_)
 .obtain⟨m,t,a,i,o,rfl,b,j,q⟩:=h;rfl
 obtain⟨m,t,a,i,o,rfl,b,j,q⟩:=h;refine⟨_,b,ud U,λD=>⟨_,(aM u z U (aa (pv 1) (aa (pv 0) af))),?_⟩⟩;have C:=b.2.2.fzs;have so:=So.hide C;refine⟨_,U,_,U,t,a,i,o,m,U,Tbl.so so j,λr G n d p=>q r _ (my n) ?_⟩;rcases d with e|e
 .exact .inl ((cG λB=>by have:=p r B;rw[e]at this;cases this).trans e)
 .exact .inr e
theorem FK(F:Fun K "verdict_form" "verdict_form" s_verdict_form f fd) (bl:Bl K mg Y)(mX:Callee P w K mg base 17 "mapped" ["form","deep","change"] (gd K Y P w mg base 7)) (tq:Callee P w K mg base 17 "row_form" ["table"] (iB K Y)) (kn:Callee P w K mg base 17 "judged" ["table","rows"] (d7 K Y)) {cL tP:DF}(c3:fd.code=.ref cL)(ht:W.tabIn K "verdict_form" = JH (cL,tP)) (hT:W.CodeHd base cL tP/\base.BuiltinsAt mg tP)(xN:Callee P w K mg base 7 "judged" ["table","rows"] (d7 K Y)):aJ P w K mg base CX0 18 f fd ["table"] (dQ K Y):=by
 refine F.okT c3 Z86 (λvs H Q E h=>?_) (λA e3 s H vs Q E hr h=>?_)
 .obtain⟨t,dv,bs,a,L,kk,i,o,rfl,h,N,a0,q⟩:=h;rfl
 obtain⟨t,dv,bs,a,L,kk,i,o,rfl,h,N,a0,q⟩:=h;refine⟨_,(ag (av (wO (zs:=[("table",0,s.heap.objs.size+1)]) mX hr U (aa (aM tq hr U (aa (pv 0) af)) (aa (au aC U bl.len_ JG (aa (aN (pv 0) U) af)) (aa (w6 (clos:=[("table",s.heap.objs.size+1)]) U hT.1 hT.2 U (hZ.mpr ⟨U,jo _⟩)) af))) (hZ.mpr ⟨⟨U,Or.inl U,U,Or.inl U⟩,jo _⟩)))),?_⟩;have e5:=h.b4;obtain⟨rl,dx,dl,fs,xs,b1,f1,f2,d5,b6,e6,hR⟩:=id h.td;have c1:dv.length=bs.length:=b6.1;refine⟨_,U,t,dv,bs,a,L,i,o,U,h.td,h.tb,h.b4,h.r60,h.row,(λc b e=>⟨vG (h.mrk c b e).1 h.k57,(h.mrk c b e).2⟩),h.gr,N,λv H1 O B b3 a8 a3 G a4=>?_⟩;generalize uB:List.zipWith (λp l=>cb p.1 p.2 l) bs O=cols at a4;have hok:iq cols bs:=by
  rw[←uB];exact xj a3 h.le λj p l e1 e2=>⟨(G j p l e1 e2).1,λc y=>xu (((G j p l e1 e2).2 c).mp y)⟩
 have a2:cols.length=bs.length:=by rw[←uB,lz];lia
 have m:∀c∈cols,c.length<=kk+1:=λc y=>by
  rw[←uB]at y;obtain⟨j,T⟩:=jF y;have r:=(GA.mp T).1;rw[lz]at r;obtain⟨p,ep⟩:∃p,bs[j]?=JH p:=⟨_,Gz (by lia)⟩;obtain⟨l,ec⟩:∃l,O[j]?=JH l:=⟨_,Gz (by lia)⟩;rw[nL,ep,ec]at T;have T:cb p.1 p.2 l=c:=Option.some.inj T;rw[←T,iu];obtain⟨pw,hm⟩:=G j p l ep ec;have:=xt pw λx S=>(h.mrk j p ep).2 x ((hm x).mp S)
  have:=(h.mrk j p ep).1;lia
 have y:Cv bs a cols:=⟨hok,O,a3,uB.symm,G⟩;refine⟨_,U,t,_,_,_,_,U,B.ins b1,bl.k_Table,bl.na_Table_domains,f2,dl,_,U,.inl (SqL.of (B.lst d5)),?_⟩;obtain⟨z_,I⟩:=a8;obtain⟨b0,b5⟩:=b3 z_ I;have X:=bl.nt0 z_ _ I ht;have a1:dj H1 tP [(qQ Y85,"verdict_form.<locals>.<lambda>")]:=by
  obtain⟨pz,d3,_⟩:=N z_ I;exact tab_keep (a0 _ ht) X.symm d3 b5
 obtain⟨e4,a6,_⟩:=id a1;refine⟨[(qQ Y85,"verdict_form.<locals>.<lambda>")],dt,?_,a1,λf_ c' oc pm ctv R hf kp ef ec c2 wR inj=>?_⟩
 .intro p hp _ _;rw[iE.mp hp];rfl
 have J:So H1 R:=λd o p e=>kp d o (λz=>by rw[z,a6]at e;cases e;exact p) e
 have FL:dj R z_.2 [(qQ Y77,"row_form.<locals>.<lambda>")]:=tab_keep b0 X a6 kp;refine λos C hz ho=>?_
 have D:=mC C hz;have c5:∃o,ip R ((([("table",0,s.heap.objs.size+1)]:List (Str×Nat×DF)).map (·.2.2)).zip os) (s.heap.objs.size+1)=JH (.frz o TTh):=by
  obtain⟨o,_,e⟩:=gy (H:=R) (fz:=(([("table",0,s.heap.objs.size+1)]:List (Str×Nat×DF)).map (·.2.2)).zip os) (b:=s.heap.objs.size+1) (by rw[mB C];exact dt);exact⟨o,e⟩
 have FN:=qO (H:=R) (cl:=[("table",s.heap.objs.size+1)]) (ws:=[("table",.ref t)]) C (by simp) ho (λc y=>by
  simp only[kO,rC,cf,jG,or_false]at y;exact⟨_,dt,y.symm⟩) (λx v e=>by
  unfold List.lookup at e;split at e
  .rename_i S
   cases e;rw[eq_of_beq S];exact⟨_,dt,U,U⟩
  .cases e)
 have mY:jl (ip R ((([("table",0,s.heap.objs.size+1)]:List (Str×Nat×DF)).map (·.2.2)).zip os)) f_ c' (W.kla_obj "<lambda>" "verdict_form.<locals>.<lambda>" (pQ Y85) (nO Y85) (ke Y85) [("table",s.heap.objs.size+1)] pm c' ctv) "verdict_form.<locals>.<lambda>" [("table",s.heap.objs.size+1)] [("table",.ref t)]:=⟨D _ _ ef,⟨oc,D _ _ ec,c2⟩,FN⟩;have hN:Cs (K':=K) wZ LVd P w K mg base f_ (vdm a i o) (λV=>jl V f_ c' (W.kla_obj "<lambda>" "verdict_form.<locals>.<lambda>" (pQ Y85) (nO Y85) (ke Y85) [("table",s.heap.objs.size+1)] pm c' ctv) "verdict_form.<locals>.<lambda>" [("table",s.heap.objs.size+1)] [("table",.ref t)]/\Tbl Y.q Y.o Y.p V t a i o) :=
  ⟨⟨_,gW (doc:=.none) (pm:=pm) (ctv:=ctv) (c':=c') (c_0:=s.heap.objs.size+1) bl xN inj,λV v x Q0 r hv k=>by
   have hv:v=.int x:=hv;subst hv;exact⟨x,t,a,i,o,U,r.1,r.2,λr_ e0 s0 a9=>k _ _ s0 ⟨r_,U,a9⟩⟩⟩,λV r=>⟨_,_,r.1.1,U⟩,λV e0 r s0=>⟨r.1.same s0,Tbl.same r.2 s0⟩⟩
 refine⟨Int,SI,inferInstance,inferInstance,wZ,LVd,vdm a i o,_,cols.length,lay (mkg a) cols [],v,f_,?_,by lia,by lia,?_,?_,hN,⟨mY,Tbl.same (Tbl.so J (Tbl.so B h.tb)) D⟩,λu H4 s4 a5=>?_⟩
 .rw[c1,←a2]
 .exact(a4.mono J.tups).mono D.tups
 .exact(sV hok m []).le (by have:=h.few;have:=h.k57;lia)
 rw[yK hok]at a5;have M:=L2.hide_same C hz s4;obtain⟨o2,d4⟩:=c5;have c6:Fzs H4 [s.heap.objs.size+1]:=λd hd=>by rw[iE.mp hd];exact⟨o2,s4 _ _ d4⟩
 have c4:=a5.mono (So.hide c6).tups;have a7:So H (hideL H4 [s.heap.objs.size+1]):=(B.trans J).trans (So.of M);obtain⟨F',d2,d1,d0,c8,c7⟩:=zQ a2 (lay (λcd=>vdm a i o (mkg a cd)) cols []) (λn F=>FmV (K:=K) LVd (hideL H4 [s.heap.objs.size+1]) n F u/\dI n F bs/\SmF 300 n F/\(∀l,InB l bs->Tel n F l (vdm a i o (mkg a l)))/\(bxs n F).length<=(kk+1)^n) ⟨c4,pN hok [],(sV hok m []).le (by have:=h.few;have:=h.k57;lia),(λl Z=>by
  have:=pO (g:=λcd=>vdm a i o (mkg a cd)) hok [] l Z;rw[List.nil_append,yJ y (λx S=>(h.row x S).1) Z]at this;exact this),xr hok m []⟩
 refine q u F' _ a7 (λz e=>?_) (λz e=>?_) d2 d1 d0 c8 c7
 .rw[I]at e;cases e;exact FL.same M
 .rw[ht]at e;cases e;exact wR.same M
theorem FO(F:Fun K "spread" "spread" Y79 f fd) (bl:Bl K mg Y)(nV:cS P w K mg base 18 "spread_form" ["name","names","domains","outcome","form"] (eV K Y)) (m4:Callee P w K mg base 18 "verdict_form" ["table"] (dQ K Y)):aJ P w K mg base (CX1 P w) 19 f fd ["table"] (kL K Y):=by
 refine F.okEA Z80 λa3 A Z s H vs Q E hr h=>?_
 obtain⟨t,ou,nm,wy,r,N,d,bs,o,L,kk,i,rfl,hT,ok,a0,D,i0,rt,vt,vA,q,qE⟩:=h;refine⟨_,(ag (av (wF nV zF hr U (aa (aN (pv 0) U) (aa (aN (pv 0) U) (aa (aN (pv 0) U) (aa (aN (pv 0) U) (aa (aM m4 hr U (aa (pv 0) af)) af)))))))),?_⟩;obtain⟨rl,dx,na,dl,fs,xs,G,f1,f2,f3,f4,f5,f6,W,X,a2,hR,Ga⟩:=id hT;refine⟨_,U,t,_,_,_,_,U,G,bl.k_Table,bl.na_Table_name,f2,_,U,t,_,_,_,_,U,G,bl.k_Table,bl.na_Table_names,f5,_,U,t,_,_,_,_,U,G,bl.k_Table,bl.na_Table_domains,f6,_,U,t,_,_,_,_,U,G,bl.k_Table,bl.na_Table_outcome,f4,?_⟩;refine⟨_,U,t,N,bs,d,L,kk,i,o,U,D,rt,vt,λv F0 H1 c y x g1 g2 g3 g4 g5=>?_⟩;obtain⟨F,h1,I,h3,C⟩:=zQ ok.len F0 (λn F=>FmV (K:=K) LVd H1 n F v/\dI n F bs/\(∀k,InB k bs->Tel n F k (vdm d i o (mkg d k)))/\(bxs n F).length<=200) ⟨g1,g2,g4,vG g5 i0⟩;have a1:=D.b4;have S:∀q∈bxs r.length F,q.1.length=bs.length:=λa g=>(o8 I a g).1.len
 have xO:∀a∈bxs r.length F,∃k,InB k bs/\a.2=vdm d i o (mkg d k):=λa g=>by
  obtain⟨u,b2,_⟩:=o8 I a g;exact⟨_,u.lows,pV b2 (h3 _ u.lows)⟩
 have B:TOk Y.o Y.p H1 nm s!"only" ou r N (bX (bxs r.length F)) bs o:=by
  refine⟨ok.words,ok.once,ok.one,ok.four,by decide,(λz=>JP z (by decide)),aF.mono ok.doms λ_ _ p=>Dom.so c p,Dom.so c ok.out,ok.len,λw hw=>?_,vG (pe _) C⟩;obtain⟨a,g,hs,rfl⟩:=kK hw;obtain⟨u,_,_⟩:=o8 I a g;obtain⟨k,m,M⟩:=xO a g;have hc:=vA k m a.2.2 (by rw[←M];exact Prod.ext hs U);refine⟨by show(a.1.map _).length=_;rw[bo,u.len],λj ps b J e2 p hp=>?_,hc.1,hc.2⟩;have J:(a.1.map λp=>[p])[j]?=JH ps:=J;rw[eR]at J;obtain⟨p0,ep,rfl⟩:=Bz.mp J;rw[iE.mp hp];have:=u.get j p0 b ep e2;exact⟨this.1,this.2.2⟩
 refine⟨na,dl,ou,nm,r,N,F,v,bs,o,U,c.lst W,c.lst X,h1,C,(λa g=>by rw[S a g];lia),B,λR t' O l V=>?_,λT O l=>?_⟩
 .exact q t' F O (c.trans (So.of l)) (y.same l) (x.same l) I h3 R V (B.same l)
 .obtain⟨a,g,e⟩:=T;obtain⟨k,m,M⟩:=xO a g;exact qE ⟨k,m,by rw[←M];exact e⟩ O (c.trans (So.of l)) (y.same l) (x.same l)
theorem FP(F:Fun K "_law_told" "_law_told" Y65 f fd) (bl:Bl K mg Y)(xP:cS P w K mg base 19 "spread" ["table"] (kL K Y)):aJ P w K mg base CX0 20 f fd ["table"] (iC K Y):=by
 refine F.okA Z65 λa5 A a3 s H vs Q E k h=>?_
 obtain⟨t,T,W,wy,j,dv,a,bs,o,L,kk,i,rfl,hT,ok,a1,a2,i0,rt,vt,vA,q,qE⟩:=h
 refine⟨_,(ao (aH (i:=1) Z65.nd U (Or.inl U) rK)
  (ao (aH (i:=2) Z65.nd U (Or.inl U) (aX af))
  (aL (AK (G:=λC=>j5 K C) (i:=3) (yk (i:=1) Z65.nd U (Or.inl U) (AJ xP k U U (aa (pv 0) af))) U U U U bl.TableError_ Z65.nd U U (λC e oe D g=>(ag (aH (i:=2) Z65.nd U (Or.inl U) (aX (aa (au (d6 g D) U bl.isinstance_ PyProof.Rows.boot_isinstance (aa (pv 3) (aa (dW (v:=.ty "ValueError") U bl.ValueError_ PyProof.Rows.Boot.ValueError U) af))) (aa (au (d6 g D) U bl.isinstance_ PyProof.Rows.boot_isinstance (aa (pv 3) (aa (bz (v:=.ref Y.b) U bl.Clash_ U) af))) (aa (au (d6 g D) U bl.isinstance_ PyProof.Rows.boot_isinstance (aa (pv 3) (aa (bz (v:=.ref Y.c) U bl.TooMany_ U) af))) (aa (au (d6 g D) U bl.isinstance_ PyProof.Rows.boot_isinstance (aa (pv 3) (aa (bz (v:=.ref Y.d) U bl.TooFine_ U) af))) (aa (au (d6 g D) U bl.isinstance_ PyProof.Rows.boot_isinstance (aa (pv 3) (aa (bz (v:=.ref Y.e) U bl.Unlike_ U) af))) (aa (au (d6 g D) U bl.isinstance_ PyProof.Rows.boot_isinstance (aa (pv 3) (aa (bz (v:=.ref Y.f) U bl.Hole_ U) af))) af)))))))))))
  (ao (aP (aG (sh k) (pv 2) (aX af) (aI _))
  (ag (av (aZ (aa aO (aa (pv 1) af)))))
  aE)
  (ao (aP (aG (sh k) (pv 2) (aX (aa b8 (aa b8 (aa b8 (aa b8 (aa b8 (aa b8 af))))))) (aI _))
  (ag (av (aZ (aa aO (aa rK af)))))
  aE)
  (ag (av (aZ (aa aO (aa rK af)))))))))),?_⟩
 refine⟨(by show 0<=DO;decide),λl hl=>?_⟩;have B:=ai hl (.lst []);have el:upd H l (.lst []) l=JH (.lst []):=ae;generalize upd H l (.lst [])=H1 at B el⊢;have u:=So.of B;refine⟨λa0 J=>So H J/\∃(X:V)(O:DF),a0=[JH (.ref t),JH X,JH (.ref O),JI]/\((∃(z:DF)(F:Fm SI j.length),X=.ref z/\dI j.length F bs/\(∀I,InB I bs->Tel j.length F I (vdm a i o (mkg a I)))/\(∀q∈bxs j.length F,q.2≠aR)/\TF Y.q J z W s!"only" T j dv (bX (bxs j.length F))/\TOk Y.o Y.p J W s!"only" T j dv (bX (bxs j.length F)) bs o/\J O=JH (.lst []))\/((∃I,InB I bs/\vdm a i o (mkg a I)=aR)/\J O=JH (.lst ([JJ,JJ,JK,JK,JK,JK].map V.bl)))),?_,?_⟩
 .refine⟨_,U,t,T,W,wy,j,dv,a,bs,o,L,kk,i,U,hT.same B,ok.same B,a1,a2.so u,i0,rt.same B,vt.same B,vA,λz F H2 n _ _ h1 h2 Z y x=>?_,λg H2 n _ _=>?_⟩
  .exact⟨u.trans n,_,l,U,.inl ⟨z,F,U,h1,h2,Z,y,x,n.lst el⟩⟩
  .refine⟨_,U,bl.e_Clash,bl.l_Clash,λe=>?_⟩;refine⟨_,U,_,JJ,U,.inr (.inl ⟨_,U,bl.v_Clash⟩),_,U,_,JJ,U,.inl ⟨_,U,bl.g_Clash_Clash⟩,_,U,_,JK,U,.inl ⟨_,U,bl.g_Clash_TooMany⟩,_,U,_,JK,U,.inl ⟨_,U,bl.g_Clash_TooFine⟩,_,U,_,JK,U,.inl ⟨_,U,bl.g_Clash_Unlike⟩,_,U,_,JK,U,.inl ⟨_,U,bl.g_Clash_Hole⟩,(by show 6<=DO;decide),λp m=>?_⟩;exact⟨(u.trans n).trans (So.of (ai m _)),.non,p,U,.inr ⟨g,ae⟩⟩
 rintro a4 H2 ⟨s2,X,O,rfl,hk⟩;rcases hk with⟨z,F_,rfl,h1,h2,Z,y,x,R⟩|⟨g,R⟩
 .refine⟨_,U,(by show 0<=DO;decide),λp m=>mL (xs:=[]) (ys:=[]) (r:=JJ) (SqL.of (ai m _ _ _ R)) (SqL.of ae) (by simp) ⟨_,U,cZ ?_⟩⟩;exact⟨_,U,bu,λr k=>q r z F_ _ ((s2.trans (So.of (ai m _))).trans (So.of (ai k _))) h1 h2 Z (y.same ((ai m _).trans (ai k _))) (x.same ((ai m _).trans (ai k _))) ae⟩
 .refine⟨_,U,(by show 0<=DO;decide),λp m=>mL (xs:=[JJ,JJ,JK,JK,JK,JK]) (ys:=[]) (r:=JK) (SqL.of (ai m _ _ _ R)) (SqL.of ae) (by simp) ⟨_,U,bp ?_⟩⟩;have S:=ai m (.lst []);have N:=S _ _ R;generalize upd H2 p (.lst [])=H3 at S N⊢;refine⟨_,U,(by show 6<=DO;decide),λp2 M=>mL (xs:=[JJ,JJ,JK,JK,JK,JK]) (ys:=[JJ,JJ,JK,JK,JK,JK]) (r:=JJ) (SqL.of (ai M _ _ _ N)) (SqL.of ae) (by simp) ⟨_,U,cZ ?_⟩⟩;exact⟨bu,λr k=>qE g r _ (((s2.trans (So.of S)).trans (So.of (ai M _))).trans (So.of (ai k _))) ae⟩
theorem FQ(F:Fun K "law" "law" Y46 f fd) (bl:Bl K mg Y)(eX:Callee P w K mg base 20 "_law_cell_at" ["script","k"] (eO K Y)) (jn:Callee P w K mg base 20 "_law_column" ["m","most"] (fN K Y)) (tD:Callee P w K mg base 20 "_law_way" ["turn","out"] (jA K Y)) (lB:Callee P w K mg base 20 "_law_bit_rows" ["seeds","columns","out"] (dP K Y)) (qd:Callee P w K mg base 20 "_law_table" ["head","columns","out","way","bit_rows"] (gI K Y)) (nW:Callee P w K mg base 20 "_law_points" ["columns"] (fM K Y)) (rn:Callee P w K mg base 20 "_law_told" ["table"] (iC K Y)) (bJ:Callee P w K mg base 20 "_law_mixed" ["cell","k"] (cI K Y)) (qe:Callee P w K mg base 20 "_law_seeds" ["cells","most"] (gG K Y)) (tE:Callee P w K mg base 20 "_law_due" ["way","bit_rows","out","point"] (jB K Y)) (qf:Callee P w K mg base 20 "_law_codes" ["columns","point","turn"] (gE K Y)) (iF:Callee P w K mg base 20 "_law_rows" ["bit_rows","columns"] (fD K Y)) (rq:Callee P w K mg base 20 "_law_like" ["found","table"] (iA K Y)) (rz:Callee P w K mg base 20 "_law_same" ["found","due"] (iz K Y)) (m6:Callee P w K mg base 20 "_law_bits_of" ["number"] (eP K Y)) (vB:Callee P w K mg base 20 "verdict" ["table","codes"] (jC K Y)) (kQ:Callee P w K mg base 20 "mask" ["table","codes"] (gH K Y)):aJ P w K mg base CX0 21 f fd ["script"] (J18 K):=by
 refine F.ok Z46 (λvs H Q E h=>?_) (λq3 A n9 s H vs Q E O h=>?_)
 .obtain⟨a,ns,rfl,hS,n4,f9,f8,q⟩:=h;rfl
 obtain⟨a,ns,rfl,hS,n4,f9,f8,q⟩:=h;refine'⟨?tt,?r0,?rd⟩
 case' r0=>refine' aL ?st0 ?r1
 case' r1=>refine' aL ?st1 ?r2
 case' r2=>refine' aL ?st2 ?r3
 case' r3=>refine' aL ?st3 ?r4
 case' r4=>refine' aL ?st4 ?r5
 case' r5=>refine' aL ?st5 ?r6
 case' r6=>refine' aL ?st6 ?r7
 case' r7=>refine' aL ?st7 ?r8
 case' r8=>refine' aL ?st8 ?r9
 case' r9=>refine' aL ?st9 ?r10
 case' r10=>refine' aL ?st10 ?r11
 case' r11=>refine' aL ?st11 ?r12
 case' r12=>refine' aL ?st12 ?r13
 case' r13=>refine' aL ?st13 ?r14
 case' r14=>refine' ao ?st14 ?r15
 case' r15=>refine' ag ?st15
 case' st0 =>
  refine' aH (i:=1) ?u2a ?u2b ?u2c ?h1 ?u2d ?u2e
  case' u2a=>exact Z46.nd
  case' u2b=>exact U
  case' u2c=>exact(Or.inr U)
  case' h1=>refine' aM eX O U ?h3
  case' h3=>refine' aa ?h4 ?h5 ?h6
  case' h4=>exact(pv 0)
  case' h5=>refine' aa ?h7 ?h8 ?h9
  case' h7=>exact aj
  case' h8=>exact af
  case' h9=>exact U
  case' h6=>exact U
  case' u2d=>exact U
  case' u2e=>first|exact .inl U|exact .inr U
 case' st1=>exact(aH (i:=2) Z46.nd U (Or.inl U) (aM eX O U (aa (pv 0) (aa aj af))))
 case' st2=>exact(aH (i:=3) Z46.nd U (Or.inr U) (aw bH aj (aw aW (pv 1) aj)))
 case' st3=>exact(jZ (i:=4) Z46.nd U (Or.inl U) (cX U bl.range_ (aa (pv 3) af)) (cj (N:=["j","head","count"]) (fr:=[1,3]) (cl:=[("head",s.heap.objs.size+1),("count",s.heap.objs.size+1+1)]) U U (by decide+kernel) (by decide+kernel) U (by decide+kernel) U U U (hZ.mpr ⟨U,hZ.mpr ⟨U,jo _⟩⟩) U) U (λ_ _ _ _=>bQ) (λ_ _ _ _=>(aM jn O U (aa (aM bJ O U (aa (pv 1) (aa (aw bH aj (pv 0)) af))) (aa (aK (fV (K:=K) U) (aX (aa aj (aa aj (aa aj (aa aj af))))) (aw d9 (pv 2) aj) (λ_ _=>U)) af)))))
 case' st4=>exact(aH (i:=5) Z46.nd U (Or.inr U) (aM jn O U (aa (aM bJ O U (aa (aM eX O U (aa (pv 0) (aa aj af))) (aa aj af))) (aa aj af))))
 case' st5=>exact(aH (i:=6) Z46.nd U (Or.inr U) (aM tD O U (aa (pv 2) (aa (pv 5) af))))
 case' st6=>exact(aH (i:=7) Z46.nd U (Or.inr U) (aM lB O U (aa (aM qe O U (aa (jX lH (pv 0) (lG aj) lF) (aa aj af))) (aa (pv 4) (aa (pv 5) af)))))
 case' st7=>exact(aH (i:=8) Z46.nd U (Or.inl U) (aM qd O U (aa (pv 1) (aa (pv 4) (aa (pv 5) (aa (pv 6) (aa (pv 7) af)))))))
 case' st8=>exact(aH (i:=9) Z46.nd U (Or.inl U) (aM nW O U (aa (pv 4) af)))
 case' st9=>exact(jZ (i:=10) Z46.nd U (Or.inl U) (aU (pv 9)) (cj (N:=["point","out","way","bit_rows"]) (fr:=[5,6,7]) (cl:=[("way",s.heap.objs.size+1+1+1+1),("out",s.heap.objs.size+1+1+1),("bit_rows",s.heap.objs.size+1+1+1+1+1)]) U U (by decide+kernel) (by decide+kernel) U (by decide+kernel) U U U (hZ.mpr ⟨U,hZ.mpr ⟨U,hZ.mpr ⟨U,jo _⟩⟩⟩) U) U (λ_ _ _ _=>bQ) (λ_ _ _ _=>(aM tE O U (aa (pv 2) (aa (pv 3) (aa (pv 1) (aa (pv 0) af)))))))
 case' st10=>exact(aH (i:=11) Z46.nd U (Or.inl U) (aM rn O U (aa (pv 8) af)))
 case' st11=>exact(aP (PW.pt (fi (aG (yq O) (aN (pv 8) U) (aM iF O U (aa (pv 7) (aa (pv 4) af))) (aI _)) (d8 (aG jd (aN (pv 8) U) (pv 6) (aI _)))))
 (ag (av b8))
 aE)
 case' st12=>exact(aP (aG (AL O) (aZ (aa aO (aa aj af))) (pv 10) (by with_unfolding_all rfl))
 (ag (av (dY cc (aK bj (pv 11) aj (λ_ _=>U)) aO (aI _))))
 aE)
 case' st13=>exact(aP (PW.pt (fi (aG jd (aK bj (pv 11) aj (λ_ _=>U)) aO (aI _)) (d8 (bM (bG (aM rq O U (aa (aK bj (pv 11) aj (λ_ _=>U)) (aa (pv 8) af))))))))
 (ag (av b8))
 aE)
 case' st14=>exact(bh G1.never U (cX U bl.range_ (aa (au aC U bl.len_ JG (aa (pv 9) af)) af)) (ax (i:=12) Z46.nd U (Or.inl U))
 (aL (aH (i:=13) Z46.nd U (Or.inl U) (aM qf O U (aa (pv 4) (aa (aK aQ (pv 9) (pv 12) (λ_ _=>U)) (aa (aw bB (pv 2) aj) af)))))
 (ag (aP (PW.pt (fi (bM (bG (aM rz O U (aa (aM vB O U (aa (aK bj (pv 11) aj (λ_ _=>U)) (aa (pv 13) af))) (aa (aK aQ (pv 10) (pv 12) (λ_ _=>U)) af))))) (d8 (aG gM (aM m6 O U (aa (aM kQ O U (aa (aK bj (pv 11) aj (λ_ _=>U)) (aa (pv 13) af))) af)) aj (aI _)))))
 (ag (av b8))
 aE))))
 case' st15=>exact(av b8)
 case rd =>
  refine⟨λk d=>d=H/\∃h:Int,k=[JH (.ref a),JH (.int h),JI,JI,JI,JI,JI,JI,JI,JI,JI,JI,JI,JI],⟨_,U,a,ns,0,U,hS,Int.le_refl _,λr=>⟨U,r,U⟩⟩,?_⟩;rintro p6 H1 ⟨rfl,h,rfl⟩;refine⟨λk d=>d=H1/\∃T:Int,k=[JH (.ref a),JH (.int h),JH (.int T),JI,JI,JI,JI,JI,JI,JI,JI,JI,JI,JI],⟨_,U,a,ns,2,U,hS,by decide,λr=>⟨U,r,U⟩⟩,?_⟩;rintro k1 H2 ⟨rfl,T,rfl⟩;refine⟨λk d=>d=H2/\k=[JH (.ref a),JH (.int h),JH (.int T),JH (.int (1+h%4)),JI,JI,JI,JI,JI,JI,JI,JI,JI,JI],⟨_,U,_,_,U,U,(by show(0:Int)<4;decide),_,_,U,U,U,U⟩,?_⟩;rintro p3 H3 ⟨rfl,rfl⟩;have h0:=zi h (show(4:Int)≠0 by decide);have h1:=zh h (show(0:Int)<4 by decide);obtain⟨v4,l6,m0,l5,uC⟩:=Bh (h:=h);refine⟨λk d=>ar H3 d/\∃(R:DF)(xs:List V)(m:List Col),d R=JH (.lst xs)/\c9 NT d xs m/\(∀c∈m,bD c)/\(∀c∈m,((c.prs.length:Nat):Int)<=v4)/\m.length=(1+h%4).toNat/\k=[JH (.ref a),JH (.int h),JH (.int T),JH (.int (1+h%4)),JH (.ref R),JI,JI,JI,JI,JI,JI,JI,JI,JI],?_,?_⟩
  .refine⟨_,U,_,U,(by show -(2^62)<=1+h%4;lia),(by show 1+h%4<2^62;lia),eB (λD i Z d=>ar H3 d/\d D=JH (.lst Z)/\∃m:List Col,c9 (· ≠ D) d Z m/\m.length=i/\∀c∈m,bD c/\((c.prs.length:Nat):Int)<=v4) (λD hD=>⟨ai hD _,ae,[],aF.nil,U,(λc hc=>by cases hc)⟩) (λD i Z d hD hi hh=>?_) (λD Z d hD hh=>?_)⟩
   .obtain⟨sm,eD,m,hz,hl,hok⟩:=hh;refine⟨_,U,_,U,_,_,U,U,_,_,U,(by show 0<=1+(0+(i:Int));lia),(by show 1+(0+(i:Int))<=100;lia),λr _=>?_⟩;refine⟨(by show 4<=DO;decide),λp hp=>?_⟩;have u1:=ai hp (.lst [V.int 6,.int 4,.int 3,.int 2]);have e1:upd d p (.lst [V.int 6,.int 4,.int 3,.int 2]) p=JH (.lst [V.int 6,.int 4,.int 3,.int 2]):=ae;generalize upd d p (.lst [V.int 6,.int 4,.int 3,.int 2])=H5 at u1 e1⊢;refine⟨_,U,_,_,U,U,p,_,_,_,U,U,SqL.of e1,l6,r,v4,U,m0,l5,λl c H6 s6 hc ok m5=>?_⟩;have j1:=u1 _ _ eD;have j0:=s6 _ _ j1;have q0:Z.length=i:=by rw[hz.1,hl]
    have n2:dJ (· ≠ D) H6 l c:=hc.wk λx hx z=>by rw[z,j1]at hx;cases hx
    have l1:c9 (· ≠ D) H6 (Z++[.ref l]) (m++[c]):=aF.snoc (hz.same (u1.trans s6)) n2;refine cQ.mk hi j0 (aD (by lia)) ⟨((sm.trans u1).trans s6).upd hD,ae,m++[c],l1.updN (λz=>z U) j0,by rw[dg,hQ,hl],λc' b3=>?_⟩;rcases ia.mp b3 with b3 | b3
    .exact hok c' b3
    .rw[show c'=c by simpa using b3];exact⟨ok,m5⟩
   .obtain⟨sm,eD,m,hz,hl,hok⟩:=hh;exact⟨sm,D,Z,m,eD,hz.any,(λc hc=>(hok c hc).1),(λc hc=>(hok c hc).2),hl,U⟩
  rintro p2 H4 ⟨s4,R,xs,m,n8,n1,hok,i4,c5,rfl⟩;have i6:1<=m.length:=by lia
  have a3:m.length<=4:=by lia
  have q1:(1+h%4)=(m.length:Int):=by lia
  refine⟨λk d=>ar H4 d/\∃(S:DF)(G:Col),dJ NT d S G/\bD G/\k=[JH (.ref a),JH (.int h),JH (.int T),JH (.int (1+h%4)),JH (.ref R),JH (.ref S),JI,JI,JI,JI,JI,JI,JI,JI],⟨_,U,a,ns,1,U,s4.seq hS,by decide,λr=>⟨r,0,U,by decide,by decide,λr2 _=>⟨r2,3,U,by decide,by decide,λl c H5 s5 hc ok _=>⟨s5,l,c,hc.any,ok,U⟩⟩⟩⟩,?_⟩;rintro p1 H5 ⟨t5,S,G,i0,b1,rfl⟩;have s5:=s4.trans t5;have za:=t5 _ _ n8;have Bs:=n1.same t5;refine⟨λk d=>ar H5 d/\∃(M:Str)(wi:Nat),six[wi]?=JH M/\(M=s!"sum" -> G.w=JK)/\k=[JH (.ref a),JH (.int h),JH (.int T),JH (.int (1+h%4)),JH (.ref R),JH (.ref S),JH (.str M),JI,JI,JI,JI,JI,JI,JI],⟨_,U,_,U,T,S,G,U,i0,λM i H6 s6 hi hs=>⟨s6,M,i,hi,hs,U⟩⟩,?_⟩;rintro p0 H6 ⟨t6,M,wi,c3,p7,rfl⟩;have s6:=s5.trans t6;have CP:=t6 _ _ za;have CQ:=Bs.same t6;have CS:=i0.same t6;refine⟨λk d=>ar H6 d/\∃(v:DF)(Z:List V)(ws:List BW),d v=JH (.lst Z)/\BRL NT d Z ws/\ws.length<=16/\(∀w∈ws,dU m G w)/\k=[JH (.ref a),JH (.int h),JH (.int T),JH (.int (1+h%4)),JH (.ref R),JH (.ref S),JH (.str M),JH (.ref v),JI,JI,JI,JI,JI,JI],?_,?_⟩
  .obtain⟨ms,em,lm⟩:=xb ns 3 JI;refine⟨_,U,_,U,a,_,U,s6.seq hS,λc1 FR=>?_⟩;rw[show(JH (3:Int))=JH ((3:Nat):Int)from U,em];have u1:=ai FR (.lst (ms.map V.int));have e1:upd H6 c1 (.lst (ms.map V.int)) c1=JH (.lst (ms.map V.int)):=ae;generalize upd H6 c1 (.lst (ms.map V.int))=H7 at u1 e1⊢;refine⟨c1,ms,16,U,SqL.of e1,by lia,by decide,by decide,λl ss H8 s8 e8 p8 _ m4=>?_⟩;have u8:=u1.trans s8;exact⟨_,U,_,U,l,R,S,ss,xs,m,G,U,e8,by lia,m4,u8 _ _ CP,CQ.same u8,hok,i6,a3,CS.same u8,b1,λv Z ws H9 s9 e9 hz l3 X=>⟨u8.trans s9,v,Z,ws,e9,hz.wk λ_ _=>trivial,by lia,X,U⟩⟩
  rintro o5 H7 ⟨t7,v,Z,ws,i9,hz,l3,X,rfl⟩;have CT:=t7 _ _ CP;have CU:=CQ.same t7;have CV:=CS.same t7;have m7:∀w∈ws,w.1.length=m.length:=λw hw=>(X w hw).len
  refine⟨λk d=>ar H7 d/\∃(t ou:DF)(dv:List V)(C:List Rw),TF Y.q d t (wd (h / 16) 0) M ou ((List.range m.length).map λj:Nat=>wd (h / 16) (1+(0+(j:Int)))) dv C/\TOk Y.o Y.p d (wd (h / 16) 0) M ou ((List.range m.length).map λj:Nat=>wd (h / 16) (1+(0+(j:Int)))) dv C (m.map Col.b) G.b/\aF dv m (dG Y.o Y.p d)/\dG Y.o Y.p d ou G/\dF m ws C/\k=[JH (.ref a),JH (.int h),JH (.int T),JH (.int (1+h%4)),JH (.ref R),JH (.ref S),JH (.str M),JH (.ref v),JH (.ref t),JI,JI,JI,JI,JI],⟨_,U,_,U,_,U,_,U,_,U,h,R,S,v,M,xs,Z,m,G,ws,wi,U,CT,CU,hok,i6,a3,CV,b1,c3,p7,i9,hz,by lia,X,λt ou dv C H8 s8 hT a9 e0 d4 a0=>⟨s8,t,ou,dv,C,hT,a9,e0,d4,a0,U⟩⟩,?_⟩;rintro o4 H8 ⟨t8,t,ou,dv,C,hT,a9,e0,d4,a0,rfl⟩;generalize n3:((List.range m.length).map λj:Nat=>wd (h / 16) (1+(0+(j:Int))))=NZ at hT a9;have s8:=((s6.trans t7).trans t8);have ze:=t8 _ _ CT;have zf:=CU.same t8;have FT:=CV.same t8;have Bv:=t8 _ _ i9;have d2:=hz.same t8;have CW:wi<6:=(GA.mp c3).1;have c4:=b1.le;have q2:NZ.length=m.length:=by rw[←n3,bo,jJ]
  refine⟨λk d=>ar H8 d/\∃(pl:DF)(pz:List V),d pl=JH (.lst pz)/\PtL NT d pz (dk (dc m))/\k=[JH (.ref a),JH (.int h),JH (.int T),JH (.int (1+h%4)),JH (.ref R),JH (.ref S),JH (.str M),JH (.ref v),JH (.ref t),JH (.ref pl),JI,JI,JI,JI],⟨_,U,R,xs,m,U,ze,zf,hok,a3,λpl pz H9 s9 e9 a7=>⟨s9,pl,pz,e9,a7,U⟩⟩,?_⟩;rintro o3 H9 ⟨t9,pl,pz,f1,a7,rfl⟩;obtain⟨PS,b4⟩:∃PS,PS=dk (dc m):=⟨_,U⟩;rw[←b4]at a7;have m2:pz.length=PS.length:=a7.1;have kd:∀{j:Nat}{p:List Nat},PS[j]?=JH p->iZ (dc m) p:=λe=>iZ.iff.mp (by rw[←b4];exact GB e)
  have p9:PS.length<=300:=by
   rw[b4];refine vG (pd (b:=v4.toNat+1) U λn hn=>?_) (by rw[eN,c5];exact vG uC (by decide));obtain⟨c,hc,rfl⟩:=dy.mp hn;have:=i4 c hc;lia
  have FU:=t9 _ _ Bv;have l0:=d2.same t9;have FV:=FT.same t9;obtain⟨dV,i3⟩:∃dV:List Nat->SI,dV=λp=>ver (wf wi G.lo G.hi) (pc ws p):=⟨_,U⟩
  have tF:∀p,ver (wf wi G.lo G.hi) (pc ws p)=dV p:=λp=>by rw[i3]
  refine⟨λk d=>ar H9 d/\∃(du:DF)(dx:List V),d du=JH (.lst dx)/\aF dx (PS.map dV) (λr x=>d r=JH (.tup (tp x)))/\k=[JH (.ref a),JH (.int h),JH (.int T),JH (.int (1+h%4)),JH (.ref R),JH (.ref S),JH (.str M),JH (.ref v),JH (.ref t),JH (.ref pl),JH (.ref du),JI,JI,JI],?_,?_⟩
  .refine⟨_,U,pl,U,⟨_,SqL.of f1⟩,cY (xs:=pz) (λD i ys d=>ar H9 d/\d D=JH (.lst ys)/\aF ys ((PS.take i).map dV) (λr x=>d r=JH (.tup (tp x)))) (λD hD=>⟨ai hD _,ae,aF.nil⟩) (λD i ys d hD _ hh=>SqL.of (hh.1 _ _ f1)) (λD i y ys d hD e hh=>?_) (λD ys d hD hh=>?_)⟩
   .obtain⟨sm,eD,hy⟩:=hh;obtain⟨r,p,rfl,ep,_,m1⟩:=aF.get a7 e;have hi:i<pz.length:=(GA.mp e).1;have lp:p.length=m.length:=by rw[(kd ep).1,eN]
    have l2:=hy.1;rw[bo,iD]at l2;refine⟨_,U,_,U,_,U,_,U,M,wi,v,S,r,Z,ws,G,p,U,c3,sm _ _ FU,l0.same sm,by lia,FV.same sm,b1,sm _ _ m1,(λw hw=>by rw[m7 w hw,lp]),by lia,λr2 j8 d1 e2=>?_⟩;rw[tF]at e2;have j2:=d1 _ _ eD;have st:cg j8 (upd j8 D (.lst (ys++[.ref r2]))):=aY j2;refine cQ.mk hi j2 (aD (by lia)) ⟨(sm.trans d1).upd hD,ae,?_⟩;rw[take_snoc ep,fF];exact aF.snoc (aF.mono hy λ_ _ e=>st _ _ (d1 _ _ e)) (st _ _ e2)
   .obtain⟨sm,eD,hy⟩:=hh;rw[m2,eU]at hy;exact⟨sm,D,ys,eD,hy,U⟩
  rintro o2 c8 ⟨d0,du,dx,f2,e3,rfl⟩;have vC:=t9.trans d0;have f6:=s8.trans vC;obtain⟨bs,a8⟩:∃bs,bs=m.map Col.b:=⟨_,U⟩;have e6:bs.length=m.length:=by rw[a8,bo]
  have e7:=(Bg hT a9 c3 a0 X hok b1 a3 (by lia) (kk:=v4.toNat) (λc hc=>by have:=i4 c hc;lia) (by rw[c5];exact vG uC (by decide)) (by lia)).so (So.of vC);rw[←a8]at e7 a9;have zg:=hT.same vC;have zY:=a9.same vC;have CY:nQ K c8:=λz e=>(dj.new (f9 z e)).same f6
  have CZ:nR K c8:=λz e=>(dj.new (f8 z e)).same f6
  have xO:∀I,InB I bs->∃p∈PS,vdm C wi G.b (mkg C I)=dV p:=λI L=>by
   obtain⟨p,hp,hi⟩:=yW (by rw[←a8];exact L) hok;exact⟨p,by rw[b4];exact hp,by rw[sY a0 X hok (iZ.iff.mp hp) hi,tF]⟩
  have FW:∀p x,x∈pc ws p->G.lo<=x/\x<=G.hi:=λp x hx=>by
   obtain⟨w,hw,rfl⟩:=dy.mp hx;have:=X w (kl.mp hw).1;exact⟨this.lo,this.hi⟩
  have vA:∀I,InB I bs->∀c,vdm C wi G.b (mkg C I)=say c->G.b.1<=c/\c<=G.b.2:=λI L c e=>by
   obtain⟨p,_,ep⟩:=xO I L;rw[ep,i3]at e;exact Bi CW (FW p) c4 e
  by_cases e5:∃p∈PS,dV p=aR
  .obtain⟨p,hp,ec⟩:=e5;have a4:iZ (dc m) p:=iZ.iff.mp (by rw[←b4];exact hp);have lp:p.length=m.length:=by rw[a4.1,eN]
   obtain⟨I,i5⟩:=yX hok a4;refine⟨λk d=>So c8 d/\∃r:DF,d r=JH (.tup [.str s!"clash",.non])/\k=[JH (.ref a),JH (.int h),JH (.int T),JH (.int (1+h%4)),JH (.ref R),JH (.ref S),JH (.str M),JH (.ref v),JH (.ref t),JH (.ref pl),JH (.ref du),JH (.ref r),JI,JI],⟨_,U,t,ou,_,M,NZ,dv,C,bs,G.b,_,_,wi,U,zg,zY,c4,e7,by rw[e6,c5];exact uC,CY,CZ,vA,(λr t' F d so h1 h2 h3 _ _ _=>?_),λ_ r d so e=>⟨so,r,e,U⟩⟩,?_⟩
   .have L:=i5.inb lp hok;rw[←a8]at L;obtain⟨q_,hq,e,_⟩:=uv (h2 I L) h1 L;refine JP ?_ (h3 q_ hq);rw[e,sY a0 X hok a4 i5,tF];exact ec
   rintro k0 f4 ⟨rA,r,er,rfl⟩;refine⟨λk d=>ar f4 d/\k=[JH (.ref a),JH (.int h),JH (.int T),JH (.int (1+h%4)),JH (.ref R),JH (.ref S),JH (.str M),JH (.ref v),JH (.ref t),JH (.ref pl),JH (.ref du),JH (.ref r),JI,JI],?_,?_⟩
   .obtain⟨k3,k6,k4,k7,k5,k2,g1,g2,g3,g4,g5,g6,g7,g8,g9,f0,b5,n5⟩:=zg.so rA;have gP:=(So.of vC).trans rA;refine⟨_,U,t,_,_,_,_,U,g1,bl.k_Table,bl.na_Table_rows,g2,_,U,_,U,v,R,Z,xs,ws,m,U,gP.lst Bv,(aF.mono d2 λ_ _ ⟨b,e,n,f⟩=>⟨b,gP.tp e,n,gP.lst f⟩),by lia,gP.lst ze,(aF.mono zf λ_ _ p=>p.so gP),hok,a3,m7,λrl k9 FX J W f3 hR Bw=>?_⟩;rw[Bw.rwo m7,←a0.rwo m7]at hR;refine oX (SqL.of (W _ _ f0)) (SqL.of f3) (by rw[b5.1,hR.1]) (qX (b5.same W) (RL.any hR)) ⟨_,U,bp ?_⟩;exact⟨_,U,t,_,_,_,_,U,W _ _ g1,bl.k_Table,bl.na_Table_way,g4,_,U,U,_,U,je U ⟨W,U⟩⟩
   rintro j9 J ⟨a6,rfl⟩;have m8:=rA.trans (So.of a6);have xQ:=m8.lst f2;have xR:aF dx (PS.map dV) (λr x=>J r=JH (.tup (tp x))):=aF.mono e3 λ_ _ e=>m8.tp e
   refine⟨λk d=>False,⟨bu,λct e4=>?_⟩,λk d z=>z.elim⟩;have u:=ai e4 (.tup (tp aR));have b6:upd J ct (.tup (tp aR)) ct=JH (.tup (tp aR)):=ae;have ee:upd J ct (.tup [.str "clash",.int 0])=upd J ct (.tup (tp aR)):=rfl;rw[ee];generalize upd J ct (.tup (tp aR))=c7 at u b6⊢;clear ee;obtain⟨f_,d5,ha⟩:=xI (K:=K) (aF.mono xR λ_ _ e=>u _ _ e) b6;refine⟨_,U,du,dx,f_,U,SqL.of (u _ _ xQ),d5,_,U,?_⟩;rw[ha.mpr ⟨p,hp,ec⟩];refine cZ ⟨_,U,r,_,_,_,U,U,SqT.of (u _ _ (a6 _ _ er)),U,U,?_⟩;rw[JQ U];exact q _
  have i1:∀p∈PS,dV p≠aR:=λp hp e=>e5 ⟨p,hp,e⟩
  refine⟨λk d=>So c8 d/\∃(r t':DF)(F:Fm SI NZ.length),dI NZ.length F bs/\(∀I,InB I bs->Tel NZ.length F I (vdm C wi G.b (mkg C I)))/\TF Y.q d t' (wd (h / 16) 0) s!"only" ou NZ dv (bX (bxs NZ.length F))/\d r=JH (.tup [.str s!"made",.ref t'])/\k=[JH (.ref a),JH (.int h),JH (.int T),JH (.int (1+h%4)),JH (.ref R),JH (.ref S),JH (.str M),JH (.ref v),JH (.ref t),JH (.ref pl),JH (.ref du),JH (.ref r),JI,JI],⟨_,U,t,ou,_,M,NZ,dv,C,bs,G.b,_,_,wi,U,zg,zY,c4,e7,by rw[e6,c5];exact uC,CY,CZ,vA,(λr t' F d so h1 h2 h3 h4 _ e=>⟨so,r,t',F,h1,h2,h4,e,U⟩),(λhc r d so e=>?_)⟩,?_⟩
  .obtain⟨I,L,ec⟩:=hc;obtain⟨p,hp,ep⟩:=xO I L;exact JP (ep.symm.trans ec) (i1 p hp)
  rintro k0 f4 ⟨rA,r,t',F_,d3,FY,hF,er,rfl⟩;have gP:=(So.of vC).trans rA;have C0:=zg.so rA;refine⟨λk d=>ar f4 d/\k=[JH (.ref a),JH (.int h),JH (.int T),JH (.int (1+h%4)),JH (.ref R),JH (.ref S),JH (.str M),JH (.ref v),JH (.ref t),JH (.ref pl),JH (.ref du),JH (.ref r),JI,JI],?_,?_⟩
  .obtain⟨k3,k6,k4,k7,k5,k2,g1,g2,g3,g4,g5,g6,g7,g8,g9,f0,b5,n5⟩:=id C0;refine⟨_,U,t,_,_,_,_,U,g1,bl.k_Table,bl.na_Table_rows,g2,_,U,_,U,v,R,Z,xs,ws,m,U,gP.lst Bv,(aF.mono d2 λ_ _ ⟨b,e,n,f⟩=>⟨b,gP.tp e,n,gP.lst f⟩),by lia,gP.lst ze,(aF.mono zf λ_ _ p=>p.so gP),hok,a3,m7,λrl k9 FX J W f3 hR Bw=>?_⟩;rw[Bw.rwo m7,←a0.rwo m7]at hR;refine oX (SqL.of (W _ _ f0)) (SqL.of f3) (by rw[b5.1,hR.1]) (qX (b5.same W) (RL.any hR)) ⟨_,U,bp ?_⟩;exact⟨_,U,t,_,_,_,_,U,W _ _ g1,bl.k_Table,bl.na_Table_way,g4,_,U,U,_,U,je U ⟨W,U⟩⟩
  rintro j9 J ⟨a6,rfl⟩;have m8:=rA.trans (So.of a6);have C3:=gP.trans (So.of a6);have xQ:=m8.lst f2;have xR:aF dx (PS.map dV) (λr x=>J r=JH (.tup (tp x))):=aF.mono e3 λ_ _ e=>m8.tp e
  refine⟨λk d=>ar J d/\k=[JH (.ref a),JH (.int h),JH (.int T),JH (.int (1+h%4)),JH (.ref R),JH (.ref S),JH (.str M),JH (.ref v),JH (.ref t),JH (.ref pl),JH (.ref du),JH (.ref r),JI,JI],⟨bu,λct e4=>?_⟩,?_⟩
  .have u:=ai e4 (.tup (tp aR));have b6:upd J ct (.tup (tp aR)) ct=JH (.tup (tp aR)):=ae;have ee:upd J ct (.tup [.str "clash",.int 0])=upd J ct (.tup (tp aR)):=rfl;rw[ee];generalize upd J ct (.tup (tp aR))=c7 at u b6⊢;clear ee;obtain⟨f_,d5,ha⟩:=xI (K:=K) (aF.mono xR λ_ _ e=>u _ _ e) b6;refine⟨_,U,du,dx,f_,U,SqL.of (u _ _ xQ),d5,_,U,?_⟩;exact dh (λg=>JP (ha.mp g) e5) (λ_=>⟨u,U⟩)
  rintro o1 c7 ⟨f5,rfl⟩;have uD:=a6.trans f5;have xS:=C3.trans (So.of f5);have C4:=uD _ _ er;have C5:=hF.same uD;have FZ:=C0.same uD;have C6:aF dv m (dG Y.o Y.p c7):=aF.mono e0 λ_ _ p=>dG.so p xS
  have zZ:=dG.so d4 xS;have C7:∀q_∈bxs NZ.length F_,q_.1.length=m.length:=λq_ hq=>by rw[(o8 d3 q_ hq).1.len,e6]
  refine⟨λk d=>ar c7 d/\k=[JH (.ref a),JH (.int h),JH (.int T),JH (.int (1+h%4)),JH (.ref R),JH (.ref S),JH (.str M),JH (.ref v),JH (.ref t),JH (.ref pl),JH (.ref du),JH (.ref r),JI,JI],?_,?_⟩
  .refine⟨_,U,r,_,_,_,U,U,SqT.of C4,U,U,_,U,je U ?_⟩;exact⟨_,U,r,_,_,_,U,U,SqT.of C4,U,_,U,t',t,ou,_,M,NZ,dv,C,bxs NZ.length F_,m,G,U,C5,FZ,C6,zZ,(λq_ hq=>by rw[←a8];exact(o8 d3 q_ hq).1),a3,λa5 k8=>⟨_,U,bp ⟨k8,U⟩⟩⟩
  rintro o0 a5 ⟨c2,rfl⟩;have Aa:=uD.trans c2;have Ab:=xS.trans (So.of c2);have qg:=rA.trans (So.of Aa);have Ac:=qg.lst (d0 _ _ f1);have C8:PtL NT a5 pz PS:=aF.mono a7 λ_ _ ⟨z,e⟩=>⟨z,qg.lst (d0 _ _ e)⟩
  have C9:=qg.lst f2;have Dc:aF dx (PS.map dV) (λr x=>a5 r=JH (.tup (tp x))):=aF.mono e3 λ_ _ e=>qg.tp e
  have Dd:=Ab.lst ze;have De:c9 NT a5 xs m:=aF.mono zf λ_ _ p=>p.so Ab
  have Df:=Aa _ _ er;have F4:=C5.same c2;have Dg:=zZ.same c2;refine⟨_,U,pl,_,U,.inl (SqL.of Ac),_,U,(by show -(2^62)<=((pz.length:Nat):Int);lia),(by show((pz.length:Nat):Int)<2^62;lia),kA (λi σ d=>ar a5 d/\∃j7 j4:Option V,σ=[JH (.ref a),JH (.int h),JH (.int T),JH (.int (1+h%4)),JH (.ref R),JH (.ref S),JH (.str M),JH (.ref v),JH (.ref t),JH (.ref pl),JH (.ref du),JH (.ref r),j7,j4]) ⟨ar.refl _,_,_,U⟩ (λi σ d hi hh=>?_) (λσ d hh=>?_)⟩
  .obtain⟨sm,j7,j4,rfl⟩:=hh;have hi':i<PS.length:=by lia
   have ep:=Gz hi';generalize PS[i]=p at ep;have a4:=kd ep;have lp:p.length=m.length:=by rw[a4.1,eN]
   obtain⟨pa,n6,_,m3⟩:=C8.2 i p ep;obtain⟨da,n7,n0⟩:=Dc.2 i (dV p) (by rw[eR,ep];rfl);have a1:atI pz (0+(i:Int))=JH (.ref pa):=by rw[Int.zero_add];exact cw n6
   have a2:atI dx (0+(i:Int))=JH (.ref da):=by rw[Int.zero_add];exact cw n7
   refine⟨λk H2=>ar a5 H2/\∃(cl:DF)(I:List Int),H2 cl=JH (.lst (I.map V.int))/\AtP m p I/\k=[JH (.ref a),JH (.int h),JH (.int T),JH (.int (1+h%4)),JH (.ref R),JH (.ref S),JH (.str M),JH (.ref v),JH (.ref t),JH (.ref pl),JH (.ref du),JH (.ref r),JH (.int (0+(i:Int))),JH (.ref cl)],⟨_,U,_,U,_,U,pl,_,_,_,U,U,SqL.of (sm _ _ Ac),a1,_,U,_,_,U,U,⟨by decide,by decide⟩,R,pa,xs,m,p,_,U,sm _ _ Dd,De.same sm,hok,a3,sm _ _ m3,a4,λcl I H2 s2 e2 c6=>⟨sm.trans s2,cl,I,e2,c6,U⟩⟩,?_⟩;rintro k1 H2 ⟨s2,cl,I,i8,c6,rfl⟩;have Dh:=c6.inpr hok;have L:=Dh.inb lp hok;rw[←a8]at L;have Di:I.length=m.length:=c6.1;have l4:vdm C wi G.b (mkg C I)=dV p:=by rw[sY a0 X hok a4 Dh,tF]
   have ht:=FY I L;rw[l4]at ht;obtain⟨B,hB⟩:=xC d3 L ht;have i2:fl (bX (bxs NZ.length F_)) I=([(B,dV p)].filter λq=>decide (q.2.1=mK)).map λq:Prs×SI=>q.2.2:=by
    rw[xE (λq_ hq=>by rw[C7 q_ hq,Di]),hB]
   have Dj:dV p=yB\/∃c,dV p=say c:=by
    rcases xF CW (lo:=G.lo) (hi':=G.hi) (pc ws p)with e|e|e
    .exact .inl (by rw[←tF];exact e)
    .exact JP (by rw[←tF];exact e) (i1 p (GB ep))
    .exact .inr (by rw[←tF];exact e)
   have Dk:∀w∈bX (bxs NZ.length F_),w.1.length=I.length:=λw hw=>by
    obtain⟨q_,hq,_,rfl⟩:=kK hw;show(q_.1.map _).length=_;rw[bo,C7 q_ hq,Di]
   have i7:∀{Hx:Hp},ar a5 Hx->Tbl Y.q Y.o Y.p Hx t' (bX (bxs NZ.length F_)) 1 G.b:=λs=>(F4.same s).tbl U (Dg.same s).dom c4
   refine⟨_,U,r,_,_,_,U,U,SqT.of (s2 _ _ Df),U,_,U,t',cl,_,1,G.b,I,U,i7 s2,SqL.of i8,Dk,λr1 H3 s3 g0=>?_⟩;rw[sU,i2,yU Dj]at g0;have b0:=s2.trans s3;refine⟨_,U,_,U,du,_,_,_,U,U,SqL.of (b0 _ _ C9),a2,r1,da,dV p,U,g0,SqT.of (b0 _ _ n0),_,U,bp ?_⟩;refine⟨_,U,r,_,_,_,U,U,SqT.of (b0 _ _ Df),U,_,U,t',cl,_,1,G.b,I,U,i7 b0,SqL.of (s3 _ _ i8),Dk,λH4 s4=>?_⟩;have m9:((List.range (bX (bxs NZ.length F_)).length).filter (gR (bX (bxs NZ.length F_)) I)).length<=1:=by
    have e1:=sU (bX (bxs NZ.length F_)) I;have:=JT List.length e1;rw[i2]at this;unfold pkF at this;rw[bo]at this;rw[this];exact yV
   refine⟨_,U,uy m9,λc hc=>⟨_,_,U,U,_,U,dh (λg=>?_) (λ_=>⟨b0.trans s4,_,_,U⟩)⟩⟩;have:(1:Int)<c:=JS g;lia
  .exact q d
end
structure FF(K:W.Frag)(Y:AD):Prop where
 (h0:GF K "holds" "holds" Y42)
 (h1:GF K "edges" "edges" Y38)
 (h2:GF K "stretches" "stretches" Y81)
 (h3:GF K "grain" "grain" Y41)
 (h4:GF K "cut_columns" "cut_columns" Y37)
 (h5:GF K "built" "built" Y34)
 (h6:GF K "layered" "layered" Y68)
 (h7:GF K "closed" "closed" Y35)
 (h8:GF K "mapped" "mapped" Y69)
 (h9:GF K "boxes" "boxes" Y33)
 (h10:GF K "gathered" "gathered" Y40)
 (h11:GF K "all_among" "all_among" Y32)
 (h12:GF K "is_word" "is_word" Y44)
 (h13:GF K "is_whole" "is_whole" Y43)
 (h14:GF K "alike" "alike" Y31)
 (h15:GF K "way_by" "way_by" Y86)
 (h16:GF K "refuse_names" "refuse_names" Y74)
 (h17:GF K "refuse_counts" "refuse_counts" Y73)
 (h18:GF K "refuse_way" "refuse_way" Y76)
 (h19:GF K "refuse_row" "refuse_row" Y75)
 (h20:GF K "own_row" "own_row" Y71)
 (h21:GF K "fits" "fits" Y39)
 (h22:GF K "mask" "mask" Y70)
 (h23:GF K "judged" "judged" Y45)
 (h24:GF K "verdict" "verdict" Y84)
 (h25:GF K "table_bounds" "table_bounds" Y82)
 (h26:GF K "table_marks" "table_marks" Y83)
 (h27:GF K "column_marks" "column_marks" Y36)
 (h30:GF K "rows_of" "rows_of" Y78)
 (h31:GF K "spread" "spread" Y79)
 (h32:GF K "spread_form" "spread_form" Y80)
 (h33:GF K "refuse_clashes" "refuse_clashes" Y72)
 (h34:GF K "_law_cell_at" "_law_cell_at" Y51)
 (h35:GF K "_law_mixed" "_law_mixed" Y58)
 (h36:GF K "_law_seeds" "_law_seeds" Y62)
 (h37:GF K "_law_word" "_law_word" Y67)
 (h38:GF K "_law_column" "_law_column" Y53)
 (h39:GF K "_law_domain" "_law_domain" Y54)
 (h40:GF K "_law_spans" "_law_spans" Y63)
 (h41:GF K "_law_bit_row" "_law_bit_row" Y48)
 (h42:GF K "_law_bit_rows" "_law_bit_rows" Y49)
 (h43:GF K "_law_rows" "_law_rows" Y60)
 (h44:GF K "_law_table" "_law_table" Y64)
 (h45:GF K "_law_points" "_law_points" Y59)
 (h46:GF K "_law_codes" "_law_codes" Y52)
 (h47:GF K "_law_fit" "_law_fit" Y56)
 (h48:GF K "_law_way" "_law_way" Y66)
 (h49:GF K "_law_due" "_law_due" Y55)
 (h50:GF K "_law_same" "_law_same" Y61)
 (h51:GF K "_law_told" "_law_told" Y65)
 (h52:GF K "_law_are_spans" "_law_are_spans" Y47)
 (h53:GF K "_law_like" "_law_like" Y57)
 (h54:GF K "_law_bits_of" "_law_bits_of" Y50)
 (h86:GF K "law" "law" Y46)
 (m68:MF K Y.o "has_code" "Domain.has_code" Y2)
 (m69:MF K Y.p "has_code" "Domain.has_code" Y3)
 (m74:MF K Y.h "verdict" "Way.verdict" Y24)
 (m75:MF K Y.h "chosen" "First.chosen" Y5)
 (m76:MF K Y.i "verdict" "Way.verdict" Y28)
 (m77:MF K Y.i "chosen" "Only.chosen" Y14)
 (m78:MF K Y.j "verdict" "Way.verdict" Y26)
 (m79:MF K Y.j "chosen" "Like.chosen" Y9)
 (m80:MF K Y.k "verdict" "Way.verdict" Y27)
 (m81:MF K Y.k "chosen" "Low.chosen" Y11)
 (m82:MF K Y.l "verdict" "Way.verdict" Y25)
 (m83:MF K Y.l "chosen" "High.chosen" Y7)
 (m84:MF K Y.m "verdict" "Way.verdict" Y29)
 (m85:MF K Y.m "chosen" "Sum.chosen" Y16)
 (k55:KF K Y.q "Table" "Table.__init__" Y17)
 (k56:KF K Y.h "First" "First.__init__" Y4)
 (k58:KF K Y.i "Only" "Only.__init__" Y13)
 (k60:KF K Y.j "Like" "Like.__init__" Y8)
 (k62:KF K Y.k "Low" "Low.__init__" Y10)
 (k64:KF K Y.l "High" "High.__init__" Y6)
 (k66:KF K Y.m "Sum" "Sum.__init__" Y15)
 (k70:KF K Y.o "Numbers" "Numbers.__init__" Y12)
 (k72:KF K Y.p "Words" "Words.__init__" Y30)
 (b57:BF K Y.g "Way" "__init__" "Way.__init__" Y18)
 (b59:BF K Y.g "Way" "__init__" "Way.__init__" Y22)
 (b61:BF K Y.g "Way" "__init__" "Way.__init__" Y20)
 (b63:BF K Y.g "Way" "__init__" "Way.__init__" Y21)
 (b65:BF K Y.g "Way" "__init__" "Way.__init__" Y19)
 (b67:BF K Y.g "Way" "__init__" "Way.__init__" Y23)
 (b71:BF K Y.n "Domain" "__init__" "Domain.__init__" Y0)
 (b73:BF K Y.n "Domain" "__init__" "Domain.__init__" Y1)
 (t28:TFn K "row_form" s_row_form)
 (t29:TFn K "verdict_form" s_verdict_form)
 (z0:W.nsIn K D0 "sorted" = JH JI)
 (z1:W.nsIn K D0 "list" = JH JI)
 (z2:W.nsIn K D0 "set" = JH JI)
 (z3:W.nsIn K D0 "zip" = JH JI)
 (z4:W.nsIn K D0 "len" = JH JI)
 (z5:W.nsIn K D0 "tuple" = JH JI)
 (z6:W.nsIn K D0 "isinstance" = JH JI)
 (z7:W.nsIn K D0 "int" = JH JI)
 (z8:W.nsIn K D0 "bool" = JH JI)
 (z9:W.nsIn K D0 "sum" = JH JI)
 (z10:W.nsIn K D0 "range" = JH JI)
 (z11:W.nsIn K D0 "enumerate" = JH JI)
 (z12:W.nsIn K D0 "all" = JH JI)
 (z13:W.nsIn K D0 "min" = JH JI)
 (z14:W.nsIn K D0 "max" = JH JI)
 (z15:W.nsIn K D0 "str" = JH JI)
 (z16:W.nsIn K D0 "ValueError" = JH JI)
 (y0:∃u,W.nsIn K D0 "MOST_GRAIN" = JH (JH u)/\RelV (V.int 300) u)
 (y1:∃u,W.nsIn K D0 "MOST_SIGNS" = JH (JH u)/\RelV (V.int 12) u)
 (y2:∃u,W.nsIn K D0 "SMALL_LETTERS" = JH (JH u)/\RelV (V.str "abcdefghijklmnopqrstuvwxyz") u)
 (y3:∃u,W.nsIn K D0 "MOST_ROWS" = JH (JH u)/\RelV (V.int 200) u)
 (y4:∃u,W.nsIn K D0 "MOST_COLUMNS" = JH (JH u)/\RelV (V.int 4) u)
 (y5:∃u,W.nsIn K D0 "MOST_WORDS" = JH (JH u)/\RelV (V.int 40) u)
local macro_rules|`(tactic|trivial)=>`(tactic|exact λF=>F.binds λ_ _ _ _ _ _=>by first|exact L2.lb0 rfl|exact L2.lb1 λ_=>U|exact L2.lb2 λ_ _=>U|exact L2.lb3 λ_ _ _=>U|exact L2.lb4 λ_ _ _ _=>U|exact L2.lb5 λ_ _ _ _ _=>U|exact L2.lb6 λ_ _ _ _ _ _=>U|exact L2.lb7 λ_ _ _ _ _ _ _=>U|exact L2.lb8 λ_ _ _ _ _ _ _ _=>U|exact L2.lb9 λ_ _ _ _ _ _ _ _ _=>U)
theorem all_mk{l:W.OpenLaw}{w:Cu}{K:W.Frag}{h:DG}{mg:Str->Option Ct}{D:DF}{Y:AD}(X:K.In h)(G:h.Ns D0 mg)(j:mg "law" = JH (.ref D)) (b:Bk K Y)(u:FF K Y)
  : ∃f:Hq,(∀(s:F7)(v:Ct),Hr s f ⟨[v],[]⟩ [("script",v)])/\∀base:DG,K.In base->base.Ns D0 mg->(∀q∈(W.tabIn K "row_form").toList++(W.tabIn K "verdict_form").toList,W.CodeHd base q.1 q.2/\base.BuiltinsAt mg q.2)->aJ l.prog w K mg base CX0 21 D f ["script"] (J18 K):=by
 cases u.h86 with | @mk _ f a F =>
 cases j.symm.trans (W.mg_of X G a);have bl:Bl K mg Y:=⟨b,W.mg_of X G b.n_TableError,W.mg_of X G b.n_Clash,W.mg_of X G b.n_TooMany,W.mg_of X G b.n_TooFine,W.mg_of X G b.n_Unlike,W.mg_of X G b.n_Hole,W.mg_of X G b.n_Way,W.mg_of X G b.n_First,W.mg_of X G b.n_Only,W.mg_of X G b.n_Like,W.mg_of X G b.n_Low,W.mg_of X G b.n_High,W.mg_of X G b.n_Sum,W.mg_of X G b.n_Domain,W.mg_of X G b.n_Numbers,W.mg_of X G b.n_Words,W.mg_of X G b.n_Table,W.mg_of X G b.n_NONE,W.mg_of X G b.n_CLASH,W.mg_none_of X G u.z0,W.mg_none_of X G u.z1,W.mg_none_of X G u.z2,W.mg_none_of X G u.z3,W.mg_none_of X G u.z4,W.mg_none_of X G u.z5,W.mg_none_of X G u.z6,W.mg_none_of X G u.z7,W.mg_none_of X G u.z8,W.mg_none_of X G u.z9,W.mg_none_of X G u.z10,W.mg_none_of X G u.z11,W.mg_none_of X G u.z12,W.mg_none_of X G u.z13,W.mg_none_of X G u.z14,W.mg_none_of X G u.z15,W.mg_none_of X G u.z16,(let ⟨_,y,x⟩:=u.y0;⟨_,W.mg_of X G y,x⟩),(let ⟨_,y,x⟩:=u.y1;⟨_,W.mg_of X G y,x⟩),(let ⟨_,y,x⟩:=u.y2;⟨_,W.mg_of X G y,x⟩),(let ⟨_,y,x⟩:=u.y3;⟨_,W.mg_of X G y,x⟩),(let ⟨_,y,x⟩:=u.y4;⟨_,W.mg_of X G y,x⟩),(let ⟨_,y,x⟩:=u.y5;⟨_,W.mg_of X G y,x⟩)⟩;refine⟨f,λs v=>by obtain⟨_,_,_,_,_,_,_,_,_,e,_,_⟩:=F.ex;rw[e];exact .of_eq U,λbase _ _ C=>?_⟩;have z:Zb l.prog w K mg base:=⟨X,G⟩;have M:=mkC z u.h0 λF=>D8 F bl
 have L:=mkC z u.h1 λF=>Ea F bl
 have rB:=mkC z u.h2 λF=>Eb F bl
 have o:=mkC z u.h7 λF=>Ed F bl
 have tG:=mkC z u.h10 λF=>Ee F bl
 have rD:=mkC z u.h11 λF=>Ef F bl
 have A:=mkC z u.h13 λF=>Eg F bl
 have J:=mkC z u.h14 λF=>Eh F bl
 have lC:=mkC z u.h17 λF=>Ei F bl
 have Z:=mkC z u.h20 λF=>Ej F bl
 have nh:=mkC z u.h25 λF=>Ek F bl
 have nX:=mkC z u.h34 λF=>El F bl
 have g:=mkC z u.h35 λF=>Em F bl
 have t:=mkC z u.h37 λF=>En F bl
 have rE:=mkC z u.h40 λF=>Eo F bl
 have qh:=mkC z u.h45 λF=>Ep F bl
 have rF:=mkC z u.h46 λF=>Er F bl
 have V:=mkC z u.h47 λF=>Es F bl
 have T:=mkC z u.h48 λF=>Et F bl
 have tH:=mkC z u.h50 λF=>Eu F bl
 have lD:=mkC z u.h52 λF=>Ew F bl
 have nZ:=mkC z u.h54 λF=>Ex F bl
 have iG:=mkB z u.b57 λF=>Ey F bl
 have i7:=mkB z u.b59 λF=>Ez F bl
 have ja:=mkB z u.b61 λF=>EA F bl
 have jN:=mkB z u.b63 λF=>EB F bl
 have jb:=mkB z u.b65 λF=>EC F bl
 have jO:=mkB z u.b67 λF=>ED F bl
 have fg:=mkB z u.b71 λF=>O_0 F bl
 have gj:=mkB z u.b73 λF=>O_1 F bl
 have iH:=mkM z u.m75 λF=>O_5 F bl
 have jP:=mkM z u.m77 λF=>EE F bl
 have jQ:=mkM z u.m79 λF=>O_9 F bl
 have kT:=mkM z u.m81 λF=>EF F bl
 have jR:=mkM z u.m83 λF=>O_7 F bl
 have kU:=mkM z u.m85 λF=>EG F bl
 have B:=mkC z u.h4 λF=>EH F bl rB.up
 have p:=mkC z u.h12 λF=>EI F bl rD.up
 have Bx:=mkC z u.h21 λF=>EJ F bl M.up
 have nj:=mkC z u.h27 λF=>EK F bl tG.up L.up
 have rG:=mkC z u.h36 λF=>EL F bl g.up
 have qi:=mkC z u.h38 λF=>EM F bl g.up
 have n6:=mkC z u.h41 λF=>EO F bl g.up
 have r:=mkC z u.h43 λF=>ER F bl rE.up
 have S:=mkC z u.h49 λF=>ES F bl V.up
 have tI:=mkC z u.h53 λF=>ET F bl J.up lD.up
 have gJ:=mkK z u.k56 λF=>O_4 F bl iG.up
 have iI:=mkK z u.k58 λF=>EW F bl i7.up
 have iJ:=mkK z u.k60 λF=>O_8 F bl ja.up
 have jS:=mkK z u.k62 λF=>EY F bl jN.up
 have iK:=mkK z u.k64 λF=>O_6 F bl jb.up
 have jT:=mkK z u.k66 λF=>EZ F bl jO.up
 have fh:=mkM z u.m68 λF=>O_2 F bl A.up
 have gk:=mkM z u.m69 λF=>O_3 F bl A.up
 have eY:=mkK z u.k70 λF=>E1 F bl fg.up
 have jc:=mkM z u.m74 λF=>E3 F bl iH.up
 have jU:=mkM z u.m76 λF=>E4 F bl jP.up
 have jV:=mkM z u.m78 λF=>E5 F bl jQ.up
 have kr:=mkM z u.m80 λF=>E6 F bl kT.up
 have jW:=mkM z u.m82 λF=>E7 F bl jR.up
 have ku:=mkM z u.m84 λF=>E8 F bl kU.up
 have I:=mkC z u.h3 λF=>E9 F bl B.up
 have nr:=mkC z u.h16 λF=>Fb F bl p.up
 have qj:=mkC z u.h19 λF=>Fc F bl fh.up gk.up
 have d:=mkC z u.h22 λF=>Fd F bl Bx.up
 have n8:=mkC z u.h26 λF=>Fe F bl nj.up
 have nt:=mkC z u.h42 λF=>Ff F bl n6.up
 have gK:=mkK z u.k72 λF=>Fg F bl gj.up p.up
 have m:=mkC z u.h15 λF=>Fh F bl gJ.up iI.up iJ.up jS.up iK.up jT.up
 have ql:=mkC z u.h18 λF=>Fi F bl m.up
 have i:=mkC z u.h23 λF=>Fj F bl jc.up jU.up jV.up kr.up jW.up ku.up m.up
 have qm:=mkC z u.h39 λF=>Fl F bl eY.up gK.up t.up
 have R:=mkC z u.h24 λF=>Fo F bl i.up d.up
 have E:=mkK z u.k55 λF=>Fp F bl nr.up lC.up ql.up qj.up Z.up
 have k:=mkR z u.h9 0 7 xJ λn F c=>Fq F bl c
 have Q:=mkC z u.h30 λF=>Fs F bl k.up
 have kW:=mkX z u.h33 λF=>Fv F bl k.up
 have rJ:=mkC z u.h44 λF=>Fw F bl E.up t.up qm.up r.up
 have n9:=mkX z u.h32 λF=>Fz F bl kW.up E.up Q.up
 have P:=mkR z u.h6 8 7 sZ λn F c=>FA F bl (o.mono (by lia)) c (by lia)
 have O:=mkR z u.h8 8 7 vw λn F c=>FC F bl (o.mono (by lia)) c (by lia)
 have H:=mkC z u.h5 λF=>FE F bl P.up I.up B.up
 have tJ:=mkT z u.t28 (λq h=>C q (by simp only[ia];simp[h])) λF h1 h2 h3=>FH F bl H.up nh.up n8.up d.up h1 h2 h3 d.up
 have nv:=mkT z u.t29 (λq h=>C q (by simp only[ia];simp[h])) λF h1 h2 h3=>FK F bl O.up tJ.up i.up h1 h2 h3 i.up
 have N:=mkX z u.h31 λF=>FO F bl n9.up nv.up
 have tK:=mkC z u.h51 λF=>FP F bl N.up
 exact FQ F bl nX.up qi.up T.up nt.up rJ.up qh.up tK.up g.up rG.up S.up rF.up r.up tI.up tH.up nZ.up R.up d.up
theorem walk{l:W.OpenLaw}{q:Dn}{b:List Str}{XP:(Str->Option Ct)->DG->Prop}{r:Cu->DG->Prop}{d:DefRec}{K:HN->W.Frag}(y:l.most=JH 63)(i:d.params.defaults=[])
  (B:∀(w:Cu)(h:DG),r w h->(K w.params).In h)(g:∀p:HN,W.noTabs (K p)=JJ)(c:∃d',(PyProof.Rows.recsOf q).find? (λe=>e.name == ("row_form" : Str))=JH d') (D:∃d',(PyProof.Rows.recsOf q).find? (λe=>e.name == ("verdict_form" : Str))=JH d')
  (F:∀(w:Cu)(mg:Str->Option Ct)(o:DF)(h:DG),(K w.params).In h->h.Ns D0 mg->mg d.name=JH (.ref o) ->
   ∃m:Hq,(∀(s:F7)(u:Ct),Hr s m ⟨[u],[]⟩ [("script",u)])/\∀base:DG,(K w.params).In base->base.Ns D0 mg->(∀q∈(W.tabIn (K w.params) "row_form").toList++(W.tabIn (K w.params) "verdict_form").toList,W.CodeHd base q.1 q.2/\base.BuiltinsAt mg q.2)->aJ l.prog w (K w.params) mg base CX0 21 o m ["script"] (J18 (K w.params))) :
  W.WalkO q b XP r l.row.toRowW d [] (λf vs=>PySem.call f vs) :=
 L2.walk_ofT (n:=63) (k:=21) (x := "script") (CX:=λ_=>CX0) (sp:=λw=>J18 (K w.params)) (tabs:=λp=>(W.tabIn (K p) "row_form").toList++(W.tabIn (K p) "verdict_form").toList) (xs:=["row_form","verdict_form"]) y (by decide) i ⟨U,by decide,by decide⟩ B g (hZ.mpr ⟨c,hZ.mpr ⟨D,jo _⟩⟩)
  (λp t h=>(ia.mp h).elim (λh=>⟨_,dt,uf h⟩) λh=>⟨_,(fG _ dt),uf h⟩) F
  (λw H a v A _ C j=>⟨a,v,U,C,A,λz e=>j z (ia.mpr (.inl (by rw[e];exact dt))),λz e=>j z (ia.mpr (.inr (by rw[e];exact dt))),λ_=>U⟩) λ_ _ _ _ _ z=>z
end My
set_option genSizeOf false in
set_option genInjectivity false in
structure PySem.W.Fast:Prop where (tw9783761379199886480 tw4617646707670416989 tw14771242441602241708 tw1083691985405230575 tw7358690275881780372 tw16168686179782771028 tw10826835508125530227 tw1481101067418553445 tw14266217741935981442 tw61503049997763351 tw3587668870885617033 tw5650681200702297421 tw2616887484188778892 tw17729230540031431209 tw17734382529933114015 tw7221389620352524944 tw6283964594902040610 tw8261217443679810021 tw13823031764002791583 tw9502511785146618759 tw7959645790608718190 tw4076089169384901123 tw7572720534619851964 tw2855646299116384200 tw9487614821326321252 tw15153611014931730122 tw6033044563208700489 tw9178001180837411746 tw1921524489542968628 tw7527102397475517690 tw4253046312158822349 tw4195788984990893497 tw15952524698978538526 tw12093801061505651344 tw17735846208784267932 tw14944448680062731089 tw9551399592557185779 tw473719887233628639 tw11527998963293625354 tw3751397914999074848 tw4898715687500705362 tw14712377660998548694 tw14772956609092422407 tw15205922318268203612 tw5901498911070771063 tw1775141891273533778 tw280596673337831164 tw12927827060150161906 tw4464243364794334336 tw5370837398929293283 tw10228544830960909061 tw1912476499551067093 tw14556840236704811343 tw787757658625425192 tw623931095307262675 tw12368014598085345845 tw7783117934166484447 tw4127631798116708116 tw158270551395814291 tw8565118177119656214 tw15909335123154910354 tw11295600726157523727 tw2931487594797823514 tw15694147492614515610 tw16702751967457693944 tw12025812485010082790 tw1815659612524566843 tw3114505805183653669 tw2077546318522807966 tw13923022716554606655 tw11665428549685503552 tw9840440059326268963 tw8552557126050295674 tw1964782510878381534 tw14025233867268776324 tw8226021969682754873 tw8214903289947817554 tw13517134408995579825 tw7584403730056983234 tw1803512531854164541 tw15621153969971019315 tw14145399340983516789 tw11589204489466529117 tw2020820876675062923 tw2052453251760218599 tw6609317372875007522 tw17539997105978245981 tw15501111859496842980 tw6971520714611083764 tw13756774742033417875 tw4291599606727774138 tw12066634227591114601 tw4735230073151164501 tw1492320141590248105 tw2714744395233223761 tw8990698844052285709 tw4286023950434801858 tw9036404491961118354 tw12157485193422550671 tw6398985455713398889 tw17837210586112083513 tw13476163760627246559 tw16424593341908481596 tw12456918710450242433 tw8027054124653854728 tw14314630005066742540 tw15173216279570316848 tw9347915405646516596 tw9993991826712354638 tw1814866362294393082 tw3753973797140286805 tw16150691539232023249 tw11247004181499177868 tw863396956520196273 tw14624786906464235796 tw6125349424177395475 tw16019451479264511805 tw9177587476393755977 tw8420538813469692085 tw18405336287886052835 tw17845029558303338048 tw11286070874517410091 tw9293297727144677468 tw2686877280916729958 tw14157292784821443940 tw3169291510501415849 tw13775628588303674459 tw16276436566169511441 tw829290796926709625 tw9849082883199234903 tw15198036675847129966 tw4412644248015977119 tw5074994584656071592 tw10983207388027555359 tw16310933613182583221 tw3763078829432481328 tw9298885350331841981 tw13465177143597953250 tw10501328140040133611 tw6479858772788382099 tw11095300360972782382 tw18028621624809277545 tw3175724848201306978 tw6599074490208510117 tw17483212192685646646 tw15280827067589249513 tw7860132467887621158 tw16148900691093969982 tw7629980211397069030 tw6015980094468470693 tw10921309031246488835 tw928048425424180120 tw9072214909657790869 tw10809146741328547280 tw4314905654857873277 tw1067436102035239788 tw17899074248663804693 tw4899354614053732950 tw8546561564255915753 tw3014048854731713491 tw16412420685252162538 tw1351140895369089618 tw15462140805531459669 tw2340031392418114953 tw9019303385875717154 tw544429074296320186 tw12428940169531434456 tw7924175144350716253 tw12734533945915064118 tw13229165318274131519 tw48836730455104190 tw7554934464333252545 tw12849413555555457248 tw17127991160470687728 tw12749625458983968476 tw5451074399541783995 tw16184059106602891279 tw5240050556715233811 tw8422719264169829423 tw12920009685919090696 tw15361410131031528937 tw2049114810221135455 tw9867862534586282943 tw9961816241353947173 tw8124144350925293473 tw7538718114170975851 tw8895849573036005637 tw3084044875740671323 tw16355916029578490432 tw12048508375210350911 tw4728283666071431627 tw8072963649347862514 tw5592535689321250010 tw3294351889555400441 tw17363594292546990014 tw18098311085174480203 tw396058457892585230 tw13672496714000090285 tw1891284947264338775 tw13144749996822102865 tw17075593773097940148 tw7486563287889839094 tw5870403195470772436 tw12867687629935463924 tw6066471119546794629 tw17711767716433365771 tw1536308379995172918 tw2836942841409878914 tw1362709555651295635 tw11790798501571602598 tw14021100811935114053 tw4164173207308704280 tw6661761782359460775 tw617711199934837296 tw1157724789436668708 tw6733849375669258857 tw18199773368523556790 tw6602900903107688956 tw2254816639279433206 tw14872726915343792129 tw4509547468299782972 tw13244025571577237826 tw10822699305401597069 tw14828690075721404373 tw3546904717056368351 tw1911722277289301497 tw3662222059674906168 tw6484561789106426564 tw1551440094951640652 tw15165964764781836750 tw7788694076227870533 tw9673376157588462484 tw8154679815185978453 tw17776319198219883405 tw12189960795042447749 tw8892895018906730791 tw4535689376851512122 tw1149699794946733041 tw18108845989462567755 tw6673784476737835584 tw16399089571152331068 tw3005181691229599393 tw6283073666219299504 tw11722126212265124053 tw15000388811843856417 tw15756958738704937202 tw17175697457633443847 tw1041019838830339370 tw6144471346779780093 tw14506401156001385582 tw1663846218316256992 tw2880455878979222368 tw9310217764294000382 tw3426649602053197886 tw9307829759323773618 tw17428388000632138386 tw13236168011109658549 tw10929674334349930292 tw9793449354122259905 tw13695492425190292954 tw14583392403019052671 tw10416824584701654213 tw15853902910445229653 tw17412966554421448541 tw15521544612673542310 tw14872513653011307350 tw4495046114357607917 tw10203374585286515447 tw4374148083867236121 tw17259961439951895052 tw15880278170593682816 tw15915689175401933321 tw11288232296352150674 tw2446105489495327812 tw17902506456411685329 tw8998271765062312755 tw2789071883008794437 tw14928368237962126677 tw7785146944565124978 tw1114484073686009983 tw12795361939332998382 tw10715517763749572240 tw13669838695309659204 tw7511336021851934011 tw13311474279819648314 tw10614043337435922234 tw7544873093853092776 tw14985985478920433519 tw15174006303663610704 tw13414226534670297792 tw6024889254295763908 tw9501041541111711024 tw161411203334484746 tw901599149938398937 tw17381322195339200337 tw8717164186723396866 tw3889326617228506936 tw5857138196274121210 tw17833948781407234043 tw9381136056743678675 tw2061930662944075822 tw263566786518749303 tw11737667713413546610 tw15585888797855765592 tw25204064453501975 tw16065883329836845599 tw4397104949641125742 tw4933282648424589347 tw2025142269840601099 tw7400348565315668500 tw15937091454968303317 tw16863907879538426299 tw6229879721538552334 tw9939716561624779104 tw5407835954292510628 tw13027128183487204046 tw9411237734061318293 tw11492727988773140078 tw11617279886296749111 tw9841502203135917680 tw2027903837318425018 tw8184903228009427487 tw2564398527775141796 tw10777285258476553422 tw4077400983775841321 tw13499553858238959024 tw6977893991066927014 tw4919014477692806787 tw15649995674288810735 tw5841727407618954128 tw3800534348900319946 tw13805106914833917120 tw12292515475520115779 tw2169410451097483888 tw15042127341904328800 tw12442183077981462782 tw10667453899538759370 tw11810666457911376732 tw13322129302140934743 tw13395144873730177106 tw1284536633679095767 tw10798782736113390505 tw5480139426860408346 tw17856797044695811744 tw7397517136758237131 tw5000814343910847345 tw4645183972435473312 tw18386659399435234883 tw7631584881451422662 tw2827182037258111612 tw4064210803432914440 tw751820218584690533 tw4615123677549695272 tw3898596272155772924 tw13697611495309821544 tw11147515698365363580 tw18109336082601857022 tw18046898619734435699 tw8297386086319329603 tw3414133655930777639 tw4029363937396946144 tw8153104784294085648 tw12843690118540432203 tw10662578033113662830 tw3075536634659530996 tw8796344033035542691 tw667137506231757402 tw5293148823476389247 tw10996869079352560829 tw4149767780315766199 tw1580159054088039268 tw290186554073697685 tw7688134711879932411 tw13029178734634834227 tw12143598366804859424 tw3344825388549268157 tw11785751808830386493 tw14444954682208733497 tw16507642285933570348 tw5744195064187335802 tw18072076819580788218 tw1866842699293666003 tw6112670356382970279 tw5022742791451322549 tw15771774950054843337 tw6008448559717735696 tw7711887861840983219 tw372909284588353268 tw7944812493507014788 tw4180036493919931612 tw10229288503108832361 tw738531573842829576 tw17679438894947747247 tw4173280199223086393 tw17053288968284723951 tw5124901640348971254 tw2181128427565148630 tw16949897259559403429 tw14941664961081400404 tw7403847816245605955 tw16637937836172480021 tw15916840198971496059 tw14230965930177780106 tw703174274890398715 tw18387409853763504420 tw11446984662476190 tw15039103037309418423 tw2304262526271712863 tw2502028552989344688 tw18306185054311901191 tw8394277282027841667 tw10058175791088040110 tw14691905106503322465 tw15789360239006632824 tw3792409085989057199 tw2227512129750905318 tw9463805578812887256 tw13354830675750238551 tw1462011797973202215 tw12958111327087401249 tw13529839330691015430 tw9141913344122316395 tw8766122457151528768 tw107194446987816009 tw3184117187287251764 tw4339461591130273621 tw7226883198621261568 tw2678076141160044205 tw4753297419407983159 tw669262723504269437 tw884724700057796067 tw12677976695253018759 tw8061642824433564501 tw2196086624556902963 tw10886240415881061690 tw757449149922717203 tw4193203132437003015 tw5908252231682532745 tw11479457668455561540 tw17335734851340654346 tw5223443952543976225 tw15607670869289095715 tw7228494154115689367 tw8994924071383907321 tw8858610970570900704 tw9430551708100929764 tw5106832049729299482 tw17276766832405637877 tw9116561837476531173 tw15992511051826356459 tw11871858533148496448 tw8024203710745204919 tw11824206438271342251 tw2635844847623726735 tw16607702182092981560 tw12123375447750567137 tw11862152365812216029 tw8442769125131718771 tw3365346425983841874 tw15482280635925542520:True)
open PySem PySem.W PyProof.Rows
set_option maxRecDepth 100000 in
set_option maxHeartbeats 0 in
theorem PySem.Challenge.cw_rowjudge_k68_spread_holds : PySem.Challenge.rw_rowjudge_k68_spread.Holds := by
 w_on;o_law;k_head;(case hw=>w_witness2)
 k_fill
 refine My.walk (l:=PySem.Challenge.rw_rowjudge_k68_spread) rfl rfl (λw h Y=>PySem.W.km_in_of Y) ?hnK ?hxs ?By ?F
 case hnK=>intro p;first|rfl|decide+kernel|with_unfolding_all rfl
 case hxs=>exact⟨_,rfl⟩
 case By=>exact⟨_,rfl⟩
 case F =>
  intro w mg fa h KX G hmg;refine' My.all_mk (Y:=.mk ..) KX G hmg ?b ?u
  case b =>
   constructor
   all_goals try dsimp only
   iterate 19 (k_is)
   iterate 1 (exact L2.ExcCls.value (by first|rfl|with_unfolding_all rfl))
   iterate 1 (constructor <;> first|k_is|rfl|with_unfolding_all rfl)
   iterate 9 (constructor <;> first|k_is|rfl|with_unfolding_all rfl)
   iterate 9 (refine'⟨⟨?_,?_,?_,?_⟩,?_,?_,?_,?_⟩ <;> first|k_is|rfl|with_unfolding_all rfl)
   refine' L2.ModT.mk ?lk ?sz ?vs
   (case lk=>k_is)
   (case sz=>decide)
   (case vs=>exact(.cons ⟨_,rfl⟩ (.cons ⟨_,rfl⟩ .nil)))
   refine' L2.ModT.mk ?lk ?sz ?vs
   (case lk=>k_is)
   (case sz=>decide)
   (case vs=>exact(.cons ⟨_,rfl⟩ (.cons ⟨_,rfl⟩ .nil)))
   iterate 18 (delta L2.NoAttr;k_is)
   iterate 12 (first|k_is|rfl|with_unfolding_all rfl)
   refine' My.tab_ne (L2.tab_mk (qual := "row_form") (st:=My.s_row_form) ?a1 ?l1 ?c1 ?e1) (L2.tab_mk (qual := "verdict_form") (st:=My.s_verdict_form) ?a2 ?l2 ?c2 ?e2) ?ne
   (case a1|l1|c1=>k_is)
   (case e1=>rfl)
   (case a2|l2|c2=>k_is)
   (case e2=>rfl)
   (case ne=>first|decide|(intro h;cases h))
  case u =>
   constructor
   all_goals try dsimp only
   iterate 54 (refine' L2.GF.mk ?a1 (L2.fun_mk ?l ?c ?k);(case a1=>k_is);(case l=>k_is);(case c=>k_is);(case k=>k_is))
   iterate 14 (refine' L2.MF.mk ?a1 ?a2 (L2.fun_mk ?l ?c ?k);(case a1=>k_is);(case a2=>k_is);(case l=>k_is);(case c=>k_is);(case k=>k_is))
   iterate 9 (refine' L2.KF.mk ?a1 ?a2 ?a3 ?a4 ?a5 (L2.fun_mk ?l ?c ?k);(case a1=>k_is);(case a2=>k_is);(case a3=>k_is);(case a4=>k_is);(case a5=>k_is);(case l=>k_is);(case c=>k_is);(case k=>k_is))
   iterate 8 (refine' L2.BF.mk ?a1 ?a2 ?a3 ?a4 (L2.fun_mk ?l ?c ?k);(case a1=>k_is);(case a2=>k_is);(case a3=>k_is);(case a4=>k_is);(case l=>k_is);(case c=>k_is);(case k=>k_is))
   iterate 2 (refine' L2.tfn_mk ?l1 ?l2 ?l3 ?l4 ?l5 ?l6;(case l1=>k_is);(case l2=>k_is);(case l3=>k_is);(case l4=>k_is);(case l5=>k_is);(case l6=>rfl))
   iterate 17 (k_is)
   iterate 6 (refine' L2.gv_mk ?a1 ?a2;(case a1=>k_is);(case a2=>exact⟨_,rfl⟩))
