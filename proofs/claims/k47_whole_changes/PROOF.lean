import PyProof.Rows.All
import Wide.All
import OpenK.AllK
import Wide.FinOn
import Lean
import PyProof.EqAt
import PyProof.EqKinds
import PyProof.TupleCall
import KE.KIntText
import PyProof.NeKinds
import KE.KTryMore
import KE.KIsAll
import PyProof.ZipIter
import KE.KRevIter
import PyProof.CollectIter
import PyProof.FactsAll.range_2
import PyProof.FactsAll.range_iterator_1
import KE.KNest
import KE.KLam
import PySem.Challenge.RW_rowjudge_k47_whole_changes
open List renaming length_map→bx,length_append→dt,getD_eq_getElem?_getD→dO,mem_cons→dV,size_toArray→en,mem_map→eK,mem_cons_self→fw,getElem?_map→gg,length_singleton→gy,map_append→gI,take_length→hE,forall_mem_cons→hZ,mem_append→ik,mem_singleton→iv,length_take→iP,length_cons→iQ,getElem?_append_left→je,mem_cons_of_mem→jf,forall_mem_nil→jg,mem_append_right→jy,mem_range→jN,all_eq_true→jO,getElem?_of_mem→jP,append_nil→jQ,length_zipWith→jR,map_cons→jS,not_mem_nil→jY,mem_filter→jZ,length_drop→ki,getElem?_zipWith→kM,mem_append_left→lg,getElem?_append_right→lh,range_succ→ll,getElem_mem→lq,length_range→lz,length_filter_le→lG,find?_cons_of_pos→lH,find?_cons_of_neg→lI,filter_append→md,reverse_reverse→mu,nodup_cons→mv,take_add_one→nS,getElem?_eq_none→ot,filter_cons_of_pos→ow,filter_cons_of_neg→oD,sum_cons→oT,length_replicate→oU,getElem?_zip_eq_some→pk,pairwise_append→qd,map_nil→qf,reverse_cons→qg,all_cons→ri,mem_flatMap→ro,pairwise_iff_getElem→rr,append_assoc→rF,foldl_cons→sG,mem_of_mem_take→sU,mem_of_mem_drop→sV,pairwise_singleton→ui,filterMap_cons→uQ,of_mem_zip→uR,take_sublist→vl,getElem?_drop→vr,length_nil→wh,nodup_append→wj,pairwise_cons→xb,nodup_nil→xc,ext_getElem?→xf,map_fst_zip→xg,eq_nil_or_concat→xh,concat_eq_append→xi,foldl_append→xF,getElem?_take→xG,length_reverse→xO,getElem_inj→yl,length_set→zb,any_eq_true→zx,nil_append→zy
open Nat renaming le_refl→zz,ne_of_lt→zA,le_trans→zQ,lt_of_lt_of_le→zW,zero_le→Az,ne_of_gt→AS,lt_succ_of_lt→A6,le_of_lt→BA,lt_succ_self→BO,le_succ→B5,lt_irrefl→CD,not_lt_zero→CQ,le_add_right→Df,succ_pos→Dk,lt_of_succ_lt→Dl,lt_of_le_of_lt→D0,mul_le_mul→EB,mod_lt→EW,pow_succ→EX,sub_self→E6,lt_or_ge→E9,not_lt→Fd
open Array renaming getElem?_eq_getElem→Fg,length_toList→Io,toList_push→Iw,getElem?_toList→IE
open Bool renaming eq_false_iff→IY,and_eq_true→IZ,false_eq_true→I0
open Int renaming zero_add→I1,emod_nonneg→Ja,emod_lt_of_pos→Jb,toNat_natCast→Jc,one_mul→Jd,pow_pos→Je,add_assoc→Jf,add_zero→Jg,mul_one→Jh,mul_zero→Ji
open Option renaming isSome_iff_exists→Jj,getD_none→Jk
open PySem renaming wpAny_bind→Jl,wpAny_pure→Jm,wpAny_holding→Jn,wpAny_Call_Name_kw→Jo,Value→Jp,World→Jq,Program→Jr,Addr→Js,Heap→Jt,sizeLine→Ju,sysModules→Jv,intKind→Jw,mainGlobals→Jx,builtinsNs→Jy,bootBuiltins→Jz,Around→JA,Shared→JB,Scope→JC,GenState→JD,Model→JE,wpAny→JF,storeName→JG,Expr→JH,isTrue→JI,backTo→JJ,starEach→JK,Stmt→JL,wpAny_mono→JM,wpAny_Name→JN,wpAny_loadName_local→JO,wpAny_loadName_cell→JP,standAt→JQ,wpAny_truthy_bool→JR,wpAny_execs_nil→JS,wpAny_execs_cons→JT,swapsWith→JU,assignEach→JV,Operator→JW,wpAny_assign_Name→JX,wpAny_standAt→JY,PassesOwn→JZ,wpAny_passesOwn→Ka,pyNext→Kb,letOwnedTupleGo→Kc,pyIter→Kd,rawInt→Ke,Walks→Kf,wpAny_pyIter_list→Kg,Builtin→Kh,foldedSetIterable→Ki,binaryOp→Kj,IntMulOk→Kk,intBits_le_64→Kl,compareOp→Km,CmpOp→Kn,behindInMarks→Ko,sizeLine_eq→Kp,getMethod→Kq,Result→Kr,codeAny→Ks,attributeBase→Kt,recursionLimit→Ku,cLine→Kv,Code→Kw,FuncData→Kx,BindsTo→Ky,bindArgs→Kz,wpAny_call→KA,codeAny_mono→KC,NameKind→KD,bindL→KG,bindC→KH,cellsFrom→KI,Arguments→KJ,concat_meets→KL,noFill_tuple_add→KN,seq_tuple_add→KO,IsPart→KP,evalPart_none→KQ,typeLookup→KR,seqIndex_of→KS,slot_list_getitem→KU,typeIs_str→KW,sliceBounds→KY,call_list_seq→KZ,backToKw→K0,keywordEach→K1,call_meets→K2,Params→K3,callerA→K4,compEnvC→K5,closureFor→K6,closureFor_none→K7,newList→K8,newFunctionEnv→K9,wpAny_newObj_type→La,wpAny_newFunctionEnv→Lb,codeAny_compStart_list→Lc,eval_ListComp→Ld,wpAny_comprehension_free→Le,compPost→Lf,exec_Assign_Name_used→Lg,callWith→Lh,richCompare_meets_room→Li,WalksS→Lj,scanBound→Lk,Moved→Ll,codeAny_builtin→Lm,setAdd→Ln,plainId_quiet→Lo,codeAny_call_builtin→Lp,check_set_init_1→Lq,wpAny_runValue→Lr,codeAny_of_tree→Ls,weight_type_call_type→Lu,SetTable→Lv,layNew→Lw,relayAll→Lx,pickOrder→Ly,intKind_is→Lz,wpAny_storeSet_of→LA,fits_of_scanBound→LB,wpAny_setState_of→LC,wpAny_rule→LD,wpAny_of_eq→LF,wpAny_askSetting→LG,typeLookup_type→LH,builtinLookup_eq_fast→LI,isSubtype_type→LJ,entryFor→LK,entryFor_alias→LL,argsOk→LM,drawOrder→LN,setNext→LO,wpAny_attempt→LP,wpAny_callSpecial?_slot→LQ,wpAny_call_entry→LR,slotArgs→LS,wpAny_fieldsOf→LU,wpAny_setEntries_of→LV,wpAny_setField_rec→LW,wpAny_setField→LX,newExc→LY,firstArgMember→LZ,wpAny_handled→L0,wpAny_isInstance→L1,isSubtype_stop→L3,wpAny_seqItems→L4,wpAny_pyIter_slot→L5,Setting→L6,setsByText→L7,wpAny_newTuple→L8,wpAny_setEpoch_of→L9,wpAny_typeOf→Ma,wpAny_specialOf→Mb,updateSeq→Mc,wpAny_updateSeq→Md,codeAny_extend_loopS→Me,intItems→Mf,numAt_eq→Mg,IsPair→Mh,ZipApart→Mi,wpAny_pyNext_zip_item→Mj,wpAny_pyNext_zip_end→Ml,wpAny_pyIter_zip→Mm,wpAny_field→Mn,wpAny_nextOf_list_item→Mo,wpAny_nextOf_list_end→Mp,callType_codes→Mq,code_list_new→Mr,wpAny_pyIter_enum→Ms,revObj→Mt,codeAmong→Mu,boot_len→Mv
open Option renaming some→Mw,none→Mx
open Bool renaming true→Mz,false→MA
open Decidable renaming decide→MB
set_option Elab.async false
set_option linter.all false
set_option bootstrap.genMatcherCode false
set_option maxRecDepth 100000
abbrev MD:=@if_neg
abbrev ME:=@if_pos
abbrev MG:=@absurd
abbrev MH:=@decide_eq_true
abbrev MI:=@decide_eq_false
abbrev MJ:=@of_decide_eq_true
abbrev MK:=@congrArg
abbrev ML:=@decide_eq_true_iff
local macro_rules|`(term|s!$x)=>do
 let some t:=x.raw.getArgs[0]? | Lean.Macro.throwUnsupported
 let some v:=t.isInterpolatedStrLit? | Lean.Macro.throwUnsupported
 `(PySem.Str.ofString $(Lean.quote v))
theorem IV{α:Type _}{l:List α}{i:Nat}(h:i<l.length):l[i]?=Mw l[i]:=List.getElem?_eq_getElem h
theorem IW{α:Type _}{a:α}{l:List α}{i:Nat}:l[i]?=Mw a ↔ ∃h:i<l.length, l[i]=a:=List.getElem?_eq_some_iff
theorem IX{α:Type _}{l:List α}{i:Nat}{a:α}(e:l[i]?=Mw a):a∈l:=List.mem_of_getElem? e
namespace L2
theorem U{α:Sort _}{a:α}:a=a:=rfl
open PySem PySem.Spec PyProof.Rows
abbrev Key:=Sum Int Str
def AR:Key->Jp->Bool
 | .inl k,v=>Jp.isInt k v
 | .inr x,v=>Jp.isStrOf x v
def EA(w:Jq):Key->Int
 | .inl k=>hashInt k
 | .inr x=>hashStr w x
theorem b9:∀{k:Key}{v:Jp},AR k v=Mz->(∃i t,k=Sum.inl i/\v=Jp.int i t)\/(∃x t,k=Sum.inr x/\v=Jp.str x t)
 | .inl i,v,h=>by
  obtain⟨t,e⟩:=Jp.isInt_shape (k:=i) (v:=v) h;exact .inl ⟨i,t,U,e⟩
 | .inr x,v,h=>by
  obtain⟨t,e⟩:=Jp.isStrOf_shape (x:=x) (v:=v) h;exact .inr ⟨x,t,U,e⟩
theorem Bs(a b:Int):decide ((Sum.inl a:Key)=Sum.inl b)=(a == b):=by
 by_cases e:a=b
 .subst e;simp
 .have h:¬ (Sum.inl a:Key)=Sum.inl b:=λq=>e (Sum.inl.inj q)
  rw[MI h];exact(beq_eq_false_iff_ne.mpr e).symm
theorem Bt(a b:Str):decide ((Sum.inr a:Key)=Sum.inr b)=MB (a=b):=by
 by_cases e:a=b
 .subst e;simp
 .have h:¬ (Sum.inr a:Key)=Sum.inr b:=λq=>e (Sum.inr.inj q)
  rw[MI h,MI e]
theorem Bu(a:Int)(b:Str):decide ((Sum.inl a:Key)=Sum.inr b)=false:=MI (λq=>nomatch q)
theorem Bv(a:Str)(b:Int):decide ((Sum.inr a:Key)=Sum.inl b)=false:=MI (λq=>nomatch q)
def qh(prog:Jr)(w:Jq):PySem.KeyKind prog w Key where
 is:=AR
 hash:=EA w
 inj:=λv a b l f=>by
  rcases b9 l with⟨i,t,rfl,rfl⟩|⟨x,t,rfl,rfl⟩
  .rcases b9 f with⟨j,u,rfl,e⟩|⟨y,u,rfl,e⟩
   .injection e with c _;rw[c]
   .exact nomatch e
  .rcases b9 f with⟨j,u,rfl,e⟩|⟨y,u,rfl,e⟩
   .exact nomatch e
   .injection e with c _;rw[c]
 byValue:=λk v h=>by
  rcases b9 h with⟨i,t,rfl,rfl⟩|⟨x,t,rfl,rfl⟩ <;> rfl
 pyHash:=λd h=>by
  rcases b9 d with⟨i,t,rfl,rfl⟩|⟨x,t,rfl,rfl⟩
  .exact wpAny_pyHash_int h
  .exact wpAny_pyHash_str h
 eqBool:=λg d h=>by
  rcases b9 g with⟨i,t,rfl,rfl⟩|⟨x,t,rfl,rfl⟩
  .rcases b9 d with⟨j,u,rfl,rfl⟩|⟨y,u,rfl,rfl⟩
   .rw[Bs]at h;exact wpAny_eqBool_int h
   .rw[Bu]at h;exact SeqAt.EqAt.int_str i t y u _ _ _ _ h
  .rcases b9 d with⟨j,u,rfl,rfl⟩|⟨y,u,rfl,rfl⟩
   .rw[Bv]at h;exact SeqAt.EqAt.str_int x t j u _ _ _ _ h
   .rw[Bt]at h;exact wpAny_eqBool_str h
 «strs»:=λk x t v h=>by
  rcases b9 h with⟨i,u,rfl,e⟩|⟨y,u,rfl,e⟩
  .exact nomatch e
  .injection e with c _;subst c;cases v <;> rfl
inductive V where
 |non|bl (b:Bool)|int (i:Int)|str (x:Str)|byt (b:Array UInt8)|flt (b:UInt64)|ref (a:Js)|ty (n:String)
 deriving DecidableEq
def RelV:V->Jp->Prop
 | .non,u=>u=Jp.none
 | .bl b,u=>u=Jp.bool b
 | .int i,u=>∃t,u=Jp.int i t
 | .str x,u=>∃t,u=Jp.str x t
 | .byt b,u=>∃t,u=Jp.bytes b t
 | .flt b,u=>∃t,u=Jp.float b t
 | .ref a,u=>u=Jp.ref a
 | .ty n,u=>u=Jp.type n
abbrev Vals:List V->List Jp->Prop:=Paired RelV
theorem Vals.length{xs:List V}{us:List Jp}(r:Vals xs us):xs.length=us.length:=Paired.length r
theorem Vals.get:∀{xs:List V}{us:List Jp}{i:Nat}{x:V},Vals xs us->xs[i]?=Mw x->∃u,us[i]?=Mw u/\RelV x u
 |_,_,_,_,.nil,e=>by simp at e
 |_,_,0,_,.cons r _,e=>by simp at e;subst e;exact⟨_,U,r⟩
 |_,_,i+1,x,.cons _ t,e=>by
  obtain⟨u,b,a⟩:=Vals.get (i:=i) (x:=x) t (by simpa using e);exact⟨u,by simpa using b,a⟩
theorem Vals.set{x:V}{u:Jp}(r:RelV x u):∀{xs:List V}{us:List Jp}(i:Nat),Vals xs us->Vals (xs.set i x) (us.set i u)
 |_,_,_,.nil=>.nil
 |_,_,0,.cons _ t=>.cons r t
 |_,_,i+1,.cons q t=>.cons q (Vals.set r i t)
theorem Vals.append:∀{xs ys:List V}{us ws:List Jp},Vals xs us->Vals ys ws->Vals (xs++ys) (us++ws)
 |_,_,_,_,.nil,s=>s
 |_,_,_,_,.cons r t,s=>.cons r (Vals.append t s)
theorem Vals.take:∀{xs:List V}{us:List Jp}(n:Nat),Vals xs us->Vals (xs.take n) (us.take n)
 |_,_,0,_=>.nil
 |_,_,_+1,.nil=>.nil
 |_,_,n+1,.cons r t=>.cons r (Vals.take n t)
theorem Vals.drop:∀{xs:List V}{us:List Jp}(n:Nat),Vals xs us->Vals (xs.drop n) (us.drop n)
 |_,_,0,r=>r
 |_,_,_+1,.nil=>.nil
 |_,_,n+1,.cons _ t=>Vals.drop n t
def oB:Option V->Option Jp->Prop
 |some v,Mw u=>RelV v u
 |none,Mx=>True
 |_,_=>False
def KV{a:Type}:List (a×V)->List (a×Jp)->Prop:=Paired λ(p:a×V)(q:a×Jp)=>p.1=q.1/\RelV p.2 q.2
def kV:Key->V
 | .inl i=>.int i
 | .inr x=>.str x
inductive HO where
 |lst (xs:List V)
 |tup (xs:List V)
 |dK (kvs:List (Key×V))|dT (kvs:List (List Key×V))
 |set (S:Int->Bool)(n:Nat)
 |ins (C dx:Js)(fs:List (Str×V))
 |own (x:Js)
 |xd (fs:List (Str×V))
 |met (f x:Js)
 |rng (lo hi:Int)
 |frz (o:Obj)(u:HO)
 |tbl (ps:Array Jp)
 |ext (φ:Jt->Prop)
abbrev Hp:=Js->Option HO
def upd(H:Hp)(a:Js)(o:HO):Hp:=λb=>if b=a then Mw o else H b
theorem ab{H:Hp}{a:Js}{o:HO}:upd H a o a=Mw o:=by unfold upd;rw[ME U]
theorem az{H:Hp}{a b:Js}{o:HO}(h:b≠a):upd H a o b=H b:=by unfold upd;rw[MD h]
theorem zB{H:Hp}{a:Js}{o u:HO}:upd (upd H a o) a u=upd H a u:=by
 funext b;unfold upd;split <;> rfl
theorem dG{H:Hp}{a b:Js}{o u:HO}(h:H a=Mw o)(h':H b=Mw u)(d:o≠u):a≠b:=by
 intro e;subst e;rw[h]at h';exact d (Option.some.inj h')
theorem bp{H:Hp}{a b:Js}{o:HO}(h:H a=Mw o)(h':H b=Mx):a≠b:=by
 intro e;subst e;rw[h]at h';cases h'
section
variable(P:Jr)(w:Jq)
def df(H:Hp)(h:Jt)(a:Js):HO->Prop
 | .lst xs=>xs.length<=Ju/\∃(b:List Jp)(n:Nat),Vals xs b/\h.get? a=Mw { cls:=.type "list",data:=.seq b.toArray n }
 | .tup xs=>xs.length<=Ju/\∃b:List Jp,Vals xs b/\IsTup h a b.toArray
 | .dK kvs=>kvs.length<=Ju/\(a == Jv)=MA/\∃vs,KV kvs vs/\h.DictOf (qh P w) a vs
 | .dT kvs=>kvs.length<=Ju/\(a == Jv)=MA/\∃xs:List (List Key×Js×Jp),
   Paired (λ(p:List Key×V)(q:List Key×Js×Jp)=>p.1=q.1/\H q.2.1=Mw (.tup (p.1.map kV))/\RelV p.2 q.2.2) kvs xs /\
   ∃o g i,h.get? a=Mw o/\o.ExactDict/\o.data=.dict g i/\g.toList=xs.map (entryOfKey (tupleKind (qh P w)))/\(xs.map (·.1)).Nodup
 | .set S n=>h.SetOf (Jw P w) a S n
 | .ins C dx fs=>H dx=Mw (.own a)/\fs.length<=1000/\dx≠a/\h.get? a=Mw (W.instObj C dx) /\
   ∃c,h.Ns1 dx c/\(∀f,oB (fs.lookup f) (c f))/\PySem.Within c (fs.map (·.1))
 | .own _=>∃o,h.get? a=Mw o
 | .xd fs=>∃c,h.Ns1 a c/\∀f,oB (fs.lookup f) (c f)
 | .rng lo hi=>∃t u v,h.get? a=Mw { cls:=.type "range",data:=.fields #[.int lo t,.int hi u,.int 1 v] }
 | .frz o u=>h.get? a=Mw o/\df H h a u
 | .tbl ps=>h.get? a=Mw { cls:=.none,data:=.fields ps }
 | .met f x=>h.get? a=Mw (W.methodObj (.ref f) (.ref x))
 | .ext φ=>φ h/\(∃o,h.get? a=Mw o)/\∀e d:Jt,φ e->(∀o,e.get? a=Mw o->d.get? a=Mw o)->φ d
def HOk(H:Hp)(h:Jt):Prop:=∀a o,H a=Mw o->df P w H h a o
end
variable{P:Jr}{w:Jq}{H H':Hp}{h h':Jt}{a:Js}
section
variable{o:HO}
theorem df.lt(x:df P w H h a o):a<h.objs.size:=by
 cases o with
 |lst c=>obtain⟨_,_,_,_,e⟩:=x;exact Jt.lt_size e
 |tup c=>obtain⟨_,_,_,p⟩:=x;exact p.lt
 |dK b=>obtain⟨_,_,_,_,o,_,_,e,_⟩:=x;exact Jt.lt_size e
 |dT b=>obtain⟨_,_,_,_,o,_,_,e,_⟩:=x;exact Jt.lt_size e
 |set S n=>obtain⟨o,_,_,_,e,_⟩:=x;exact Jt.lt_size e
 |ins C j fs=>obtain⟨_,_,_,e,_⟩:=x;exact Jt.lt_size e
 |own y=>obtain⟨_,e⟩:=x;exact Jt.lt_size e
 |xd fs=>obtain⟨_,⟨_,_,_,e,_⟩,_⟩:=x;exact Jt.lt_size e
 |rng lo hi=>obtain⟨_,_,_,e⟩:=x;exact Jt.lt_size e
 |frz i u=>obtain⟨e,_⟩:=x;exact Jt.lt_size e
 |tbl g=>exact Jt.lt_size (show h.get? a=Mw _ from x)
 |met f y=>exact Jt.lt_size (show h.get? a=Mw _ from x)
 |ext d=>obtain⟨_,⟨_,e⟩,_⟩:=x;exact Jt.lt_size e
theorem Paired.mapP{α e:Type}{F G:α->e->Prop}:∀{d:List α}{c:List e},Paired F d c->(∀a b,F a b->G a b)->Paired G d c
 |_,_,.nil,_=>.nil
 |_,_,.cons r t,f=>.cons (f _ _ r) (Paired.mapP t f)
theorem df.stay(x:df P w H h a o)(k:∀b u,(b=a\/H b=Mw (.own a))->h.get? b=Mw u->h'.get? b=Mw u)
  (I:∀b,H b=Mw (.own a)->H' b=Mw (.own a))(G:∀b xs,H b=Mw (.tup xs)->H' b=Mw (.tup xs)):df P w H' h' a o:=by
 induction o with
 |lst xs=>obtain⟨z,l,n,r,e⟩:=x;exact⟨z,l,n,r,k _ _ (.inl U) e⟩
 |tup xs=>obtain⟨z,l,r,g,e,c⟩:=x;exact⟨z,l,r,g,k _ _ (.inl U) e,c⟩
 |dK A=>obtain⟨z,y,E,r,g,i,j,e,c⟩:=x;exact⟨z,y,E,r,g,i,j,k _ _ (.inl U) e,c⟩
 |dT A =>
  obtain⟨z,y,xs,r,g,i,j,e,c⟩:=x;exact⟨z,y,xs,Paired.mapP r λp q z=>⟨z.1,G _ _ z.2.1,z.2.2⟩,g,i,j,k _ _ (.inl U) e,c⟩
 |set S n=>obtain⟨g,i,j,t,e,c⟩:=x;exact⟨g,i,j,t,k _ _ (.inl U) e,c⟩
 |ins C L fs =>
  obtain⟨d,z,ne,e,s,⟨m,i,j,J,c⟩,r⟩:=x;exact⟨I _ d,z,ne,k _ _ (.inl U) e,s,⟨m,i,j,k _ _ (.inr d) J,c⟩,r⟩
 |own y=>obtain⟨g,e⟩:=x;exact⟨g,k _ _ (.inl U) e⟩
 |xd fs=>obtain⟨s,⟨m,i,j,e,c⟩,r⟩:=x;exact⟨s,⟨m,i,j,k _ _ (.inl U) e,c⟩,r⟩
 |rng lo hi=>obtain⟨t,u,v,e⟩:=x;exact⟨t,u,v,k _ _ (.inl U) e⟩
 |frz g u F=>obtain⟨e,q⟩:=x;exact⟨k _ _ (.inl U) e,F q⟩
 |tbl D =>
  have e:h.get? a=Mw { cls:=.none,data:=.fields D }:=x;show h'.get? a=Mw { cls:=.none,data:=.fields D };exact k a _ (.inl U) e
 |met f y =>
  have e:h.get? a=Mw (W.methodObj (.ref f) (.ref y)):=x;show h'.get? a=Mw (W.methodObj (.ref f) (.ref y));exact k a _ (.inl U) e
 |ext K=>obtain⟨p,⟨o,e⟩,B⟩:=x;exact⟨B _ _ p λo q=>k _ _ (.inl U) q,⟨o,k _ _ (.inl U) e⟩,B⟩
theorem HOk.lt(x:HOk P w H h)(e:H a=Mw o):a<h.objs.size:=(x a o e).lt
theorem HOk.fresh(x:HOk P w H h)(e:h.objs.size<=a):H a=none:=by
 cases q:H a with
 |none=>rfl
 |some u=>exact MG (zW (x.lt q) e) (CD _)
theorem HOk.kept(x:HOk P w H h)(k:∀b u,h.get? b=Mw u->h'.get? b=Mw u):HOk P w H h':=λa o e =>
 (x a o e).stay (λb u _ q=>k b u q) (λ_ q=>q) λ_ _ q=>q
theorem HOk.laid(x:HOk P w H h)(k:∀b u,h.get? b=Mw u->h'.get? b=Mw u)(g:h.objs.size<=a)(new:df P w (upd H a o) h' a o):HOk P w (upd H a o) h':=λb u e=>by
 have d:=x.fresh g;by_cases f:b=a
 .subst f;rw[ab]at e;cases e;exact new
 .rw[az f]at e;exact(x b u e).stay (λc v _ q=>k c v q) (λc q=>by rw[az (bp q d)];exact q) λc i q=>by rw[az (bp q d)];exact q
end
def Rd(H:Hp)(a:Js)(u:HO):Prop:=H a=Mw u\/∃o,H a=Mw (.frz o u)
theorem Rd.ok{P:Jr}{w:Jq}{H:Hp}{h:Jt}{a:Js}{u:HO}(r:Rd H a u)(x:HOk P w H h):df P w H h a u:=by
 rcases r with r|⟨o,r⟩
 .exact x a u r
 .obtain⟨_,q⟩:=x a _ r;exact q
def Mut:Option HO->Prop
 |some (.lst _)=>True
 |some (.dK _)=>True
 |some (.dT _)=>True
 |some (.set _ _)=>True
 |some (.ins _ _ _)=>True
 |some (.ext _)=>True
 |_=>False
variable{x:Js}
section
variable{e:Js}{o':HO}
theorem HOk.write(ok:HOk P w H h)(f:Mut (H x))(m:e=x\/H e=Mw (.own x))(k:∀b u,b≠e->h.get? b=Mw u->h'.get? b=Mw u)(j:∃u,h'.get? e=Mw u)
  (new:df P w (upd H x o') h' x o'):HOk P w (upd H x o') h':=λb u q=>by
 have n:∀c y,H c=Mw (.own y)->c≠x:=λc y r z=>by subst z;rw[r]at f;exact f
 have p:∀c d,H c=Mw (.tup d)->c≠x:=λc d r z=>by subst z;rw[r]at f;exact f
 by_cases i:b=x
 .subst i;rw[ab]at q;cases q;exact new
 .rw[az i]at q;by_cases a:b=e
  .have l:H b=Mw (.own x):=by
    rcases m with z|z
    .exact MG (a.trans z) i
    .rw[a];exact z
   rw[q]at l;cases l;obtain⟨v,o⟩:=j;exact⟨v,by rw[a];exact o⟩
  .refine(ok b u q).stay (λc v g r=>k c v ?_ r) (λc r=>by rw[az (n c b r)];exact r) λc d r=>by rw[az (p c d r)];exact r
   rcases g with rfl|g
   .exact a
   .rintro rfl;rcases m with z|z
    .exact n c b g z
    .rw[g]at z;cases z;exact i U
end
structure Un(fs ex:List Js)(H H':Hp)(h h':Jt):Prop where
 keep:∀b o,h.get? b=Mw o->H b=Mx->b ∉ fs->b ∉ ex->h'.get? b=Mw o
 slot:∀b o,h.get? b=Mw o->H b=Mx->b∈fs->b ∉ ex->∃sl,h'.get? b=Mw { o with slots:=sl }
 free:∀b o,h.get? b=Mw o->H b=Mx->b ∉ ex->H' b=Mx
 there:∀b o,h.get? b=Mw o->b ∉ ex->∃o',h'.get? b=Mw o'
 tups:∀b xs,H b=Mw (.tup xs)->H' b=Mw (.tup xs)
 frzs:∀b o u,H b=Mw (.frz o u)->H' b=Mw (.frz o u)
 tbls:∀b ps,H b=Mw (.tbl ps)->∃more,H' b=Mw (.tbl (ps++more))
section
variable{fs fs' ex ex':List Js}{H1 H2:Hp}{h1 h2:Jt}{e:Js}{o:HO}
theorem Un.any(u:Un fs ex H H1 h h1){b:Js}{a:Obj}(q:h.get? b=Mw a)(n:H b=Mx)(c:b ∉ ex):∃e,h1.get? b=Mw { a with slots:=e }:=by
 by_cases d:b∈fs
 .exact u.slot b a q n d c
 .exact⟨a.slots,u.keep b a q n d c⟩
theorem Un.kept(k:∀b u,h.get? b=Mw u->h'.get? b=Mw u):Un fs ex H H h h' :=
 ⟨λb a q _ _ _=>k b a q,λb a q _ _ _=>⟨a.slots,k b a q⟩,λ_ _ _ n _=>n,λb a q _=>⟨a,k b a q⟩,λ_ _ q=>q,λ_ _ _ q=>q,λ_ c q=>⟨#[],by rw[q];simp⟩⟩
theorem Un.refl:Un fs ex H H h h:=Un.kept λ_ _ q=>q
theorem Un.laid(k:∀b u,h.get? b=Mw u->h'.get? b=Mw u)(e:h.objs.size<=a)(c:H a=Mx):Un fs ex H (upd H a o) h h' where
 keep:=λb u q _ _ _=>k b u q
 slot:=λb u q _ _ _=>⟨u.slots,k b u q⟩
 free:=λb u q n _=>by rw[az (zA (zW (Jt.lt_size q) e))];exact n
 there:=λb u q _=>⟨u,k b u q⟩
 tups:=λb d q=>by rw[az (bp q c)];exact q
 frzs:=λb u d q=>by rw[az (bp q c)];exact q
 tbls:=λb f q=>⟨#[],by rw[az (bp q c),q];simp⟩
theorem Un.write(c:Mut (H x))(m:e=x\/H e=Mw (.own x))(k:∀b u,b≠e->h.get? b=Mw u->h'.get? b=Mw u)(f:∃u,h'.get? e=Mw u):Un fs ex H (upd H x o) h h':=by
 have g:∀b,H b=Mx->b≠x:=λb n z=>by subst z;rw[n]at c;exact c
 have i:∀b,H b=Mx->b≠e:=λb n z=>by
  subst z;rcases m with r|r
  .exact g b n r
  .rw[n]at r;cases r
 have d:∀b u,H b=Mw u->¬ Mut (Mw u)->b≠x:=λb u q l z=>by subst z;rw[q]at c;exact l c
 refine⟨λb u q n _ _=>k b u (i b n) q,λb u q n _ _=>⟨u.slots,k b u (i b n) q⟩,λb u q n _=>by rw[az (g b n)];exact n,λb u q _=>?_,
  λb j q=>by rw[az (d b _ q λz=>z)];exact q,λb u j q=>by rw[az (d b _ q λz=>z)];exact q,λb p q=>⟨#[],by rw[az (d b _ q λz=>z),q];simp⟩⟩
 by_cases a:b=e
 .subst a;exact f
 .exact⟨u,k b u a q⟩
end
def trk(h:Jt)(H:Hp):List Js:=(List.range h.objs.size).filter λa=>(H a).isSome
def mG(h:Jt)(H:Hp):Jt:=W.hideAll h (trk h H)
theorem vF(h:Jt)(H:Hp):(mG h H).objs.size=h.objs.size:=W.hideAll_size _ _
theorem xj{h:Jt}{H:Hp}{b:Js}{o:Obj}(e:h.get? b=Mw o)(n:H b=Mx):(mG h H).get? b=Mw o :=
 W.hideAll_get _ e λa=>by
  have q:(H b).isSome=true:=(jZ.mp a).2;rw[n]at q;simp at q
theorem zC{h:Jt}{H:Hp}{b:Js}{o:Obj}(e:(mG h H).get? b=Mw o):h.get? b=Mw o/\H b=none:=by
 have a:h.get? b=Mw o:=W.of_hideAll (trk h H) e;refine⟨a,?_⟩;cases q:H b with
 |none=>rfl
 |some x =>
  have c:b∈trk h H:=jZ.mpr ⟨jN.mpr (Jt.lt_size a),by simp[q]⟩;have z:(mG h H).get? b=none:=W.hideAll_none (trk h H) c;rw[z]at e;cases e
def zD(g h:Jt)(L:Js):List (Js×Obj):=(List.range h.objs.size).filterMap λa=>if a=L\/(g.get? a).isSome=Mz then Mx else(h.get? a).map λo=>(a,o)
def rest(g h:Jt)(L d:Js):List (Js×Obj):=(zD g h L).filter λp=>decide (p.1≠d)
structure Mod(K:W.Frag)(mg:Str->Option Jp)(base:Jt):Prop where
 kin:K.In base
 glob:base.Ns Jx mg
 blt:∃mb,base.Ns Jy mb/\∀x:Str,x ≠ "__name__" -> mb x=Jz x
 nolimit:base.NoLimit
structure Cx where
 prog:Jr
 w:Jq
 K:W.Frag
 mg:Str->Option Jp
 base:Jt
 A:JA
 N:List Str
 s₀:JB
 H₀:Hp
 env:Env
 outer:List Env
 stack:List Env
 ex:List Js
 fn:Str->Bool
 calm:Bool
 pn:List (Js×Obj)
 xe:Jp->JB->Prop
def frs(l:List Env):List Js:=l.filterMap (·.frame)
abbrev Cx.fs(X:Cx):List Js:=frs X.outer
def Vis(a:JC)(x:Str):Prop:=a.names.lookup x=Mw .local\/a.names.lookup x=Mw .cell\/a.names.lookup x=Mw .free
def Loc(a:JC)(x:Str):Prop:=a.names.lookup x=Mw .local\/a.names.lookup x=Mw .cell
def Look(a:Env)(h:Jt)(m:Str->Option Jp)(x:Str)(u:Jp):Prop :=
 (a.kindOf x=Mw .local/\m x=Mw u)\/((a.kindOf x=Mw .cell\/a.kindOf x=Mw .free)/\∃c,a.cells.lookup x=Mw c/\h.IsCell c (Mw u))
structure Cx.Ok(X:Cx):Prop where
 mod:Mod X.K X.mg X.base
 kind:X.env.scope.kind=.function
 glob:X.env.globals=Jx
 blt:X.env.builtins=Jy
 above:X.s₀.heap.objs.size<=X.env.locals
 inj:∀x y c,X.env.cells.lookup x=Mw c->X.env.cells.lookup y=Mw c->x=y
 has:∀x,(X.env.kindOf x=Mw .cell\/X.env.kindOf x=Mw .free)->∃c,X.env.cells.lookup x=Mw c
 cab:∀x c,X.fn x=Mz->X.env.cells.lookup x=Mw c->X.s₀.heap.objs.size<=c
 hd:X.calm=Mz->X.A.handled=Mx
 frames:X.A.frames=Mw X.stack
 stk:X.stack=X.outer\/(X.stack=X.env :: X.outer/\X.env.frame=Mw X.env.locals)
 exf:∀b∈X.ex,b≠X.env.locals/\∀x c,X.env.cells.lookup x=Mw c->c≠b
 bs:∀b o,X.base.get? b=Mw o->X.s₀.heap.get? b=Mw o/\X.H₀ b=Mx
 bsz:X.base.objs.size<=X.s₀.heap.objs.size
 noex:∀b o,X.base.get? b=Mw o->b ∉ X.ex
 exfs:∀b∈X.ex,b ∉ X.fs
 funs:X.s₀.heap.FunFrames X.base X.outer
 frf:∀b∈X.fs,X.H₀ b=Mx
structure Inv(X:Cx)(MC:List (Js×Obj))(σ:List (Option V))(H:Hp)(s:JB):Prop where
 ok:X.Ok
 os:s.os=X.s₀.os
 bare:AllBare s.gens
 base:Un X.fs X.ex X.H₀ H X.s₀.heap s.heap
 loc:∃m,s.heap.Ns X.env.locals m/\∀(i:Nat)(x:Str)(v:V),X.N[i]?=Mw x->σ[i]?=Mw (Mw v)->Vis X.env.scope x->∃u,RelV v u/\Look X.env s.heap m x u
 cell:∀x c,X.env.cells.lookup x=Mw c->∃v,s.heap.IsCell c v
 free:H X.env.locals=Mx
 freeC:∀x c,X.env.cells.lookup x=Mw c->H c=Mx
 pin:∀p∈X.pn++MC,s.heap.get? p.1=Mw p.2/\H p.1=Mx/\p.1≠X.env.locals/\p.1 ∉ X.fs/\∀v,p.2.data≠.cell v
 hok:HOk X.prog X.w H s.heap
 len:σ.length=X.N.length
variable{X:Cx}{MC:List (Js×Obj)}{s:JB}
section
variable{σ:List (Option V)}
theorem Cx.Ok.nofr(ok:X.Ok){b:Js}{o:Obj}(e:X.base.get? b=Mw o):b ∉ X.fs:=λa=>by
 have:=(ok.funs.mem a).1;rw[e]at this;cases this
theorem Inv.bs(I:Inv X MC σ H s):∀b o,X.base.get? b=Mw o->s.heap.get? b=Mw o/\H b=none:=λb o e =>
 ⟨I.base.keep b o (I.ok.bs b o e).1 (I.ok.bs b o e).2 (I.ok.nofr e) (I.ok.noex b o e),I.base.free b o (I.ok.bs b o e).1 (I.ok.bs b o e).2 (I.ok.noex b o e)⟩
theorem Inv.bk(I:Inv X MC σ H s):∀b o,X.base.get? b=Mw o->s.heap.get? b=Mw o:=λb o e=>(I.bs b o e).1
theorem Inv.mod(I:Inv X MC σ H s):Mod X.K X.mg X.base:=I.ok.mod
theorem Inv.kIn(I:Inv X MC σ H s):X.K.In s.heap:=I.ok.mod.kin.keeps I.bk
theorem Inv.lt(I:Inv X MC σ H s):X.env.locals<s.heap.objs.size:=by obtain⟨_,a,_⟩:=I.loc;exact a.lt
theorem Inv.sz(I:Inv X MC σ H s):X.s₀.heap.objs.size<=s.heap.objs.size:=zQ I.ok.above (BA I.lt)
theorem Inv.nofs(I:Inv X MC σ H s){a:Js}(h:s.heap.objs.size<=a):a ∉ X.fs:=λc=>by
 obtain⟨_,o,b,_⟩:=I.ok.funs.mem c;exact MG (zW (Jt.lt_size b) (zQ I.sz h)) (CD _)
theorem Inv.cne(I:Inv X MC σ H s):∀x c,X.env.cells.lookup x=Mw c->c≠X.env.locals:=λx c e z=>by
 obtain⟨v,o,d,f⟩:=I.cell x c e;obtain⟨m,⟨g,h,i,a,b,_⟩,_⟩:=I.loc;rw[z,a]at d;cases d;rw[b]at f;cases f
theorem Inv.funs(I:Inv X MC σ H s):s.heap.FunFrames X.base X.outer:=by
 have all:∀(l:List Env),(∀b∈frs l,b∈X.fs)->X.s₀.heap.FunFrames X.base l->s.heap.FunFrames X.base l:=by
  intro l;induction l with
  |nil=>intro _ _;trivial
  |cons p r g =>
   intro f k;obtain⟨m,⟨L,o,a,j,i,n⟩,h⟩:=k;have d:L∈X.fs:=f L (by unfold frs;rw[uQ,a];exact fw);obtain⟨q,e⟩:=I.base.slot L o i (I.ok.frf L d) d λz=>I.ok.exfs L z d
   exact⟨m,⟨L,_,a,j,e,n⟩,g (λb c=>f b (by unfold frs;rw[uQ,a];exact jf _ c)) h⟩
 exact all X.outer (λ_ c=>c) I.ok.funs
theorem Inv.stack(I:Inv X MC σ H s):s.heap.FunFrames X.base X.stack:=by
 rcases I.ok.stk with e|⟨e,b⟩
 .rw[e];exact I.funs
 .rw[e];obtain⟨m,a,_⟩:=I.loc;refine .cons (by rw[I.ok.kind];decide) b a ?_ I.funs;exact Jt.get?_none_of_le (zQ I.ok.bsz I.ok.above)
theorem Inv.stkSub(I:Inv X MC σ H s):∀b∈frs X.stack,b∈X.env.locals :: X.fs:=λb a=>by
 rcases I.ok.stk with e|⟨e,c⟩
 .rw[e]at a;exact jf _ a
 .rw[e]at a;unfold frs at a;rw[uQ,c]at a;exact a
theorem Inv.stkFree(I:Inv X MC σ H s):∀b∈frs X.stack,H b=none:=λb a=>by
 rcases dV.mp (I.stkSub b a)with e|a
 .rw[e];exact I.free
 .obtain⟨_,o,c,_⟩:=I.ok.funs.mem a;exact I.base.free b o c (I.ok.frf b a) λz=>I.ok.exfs b z a
theorem Inv.step{g':Array JD}{t':Nat}{d':Drawn}{ch:List Js}(I:Inv X MC σ H s)
  (g:∀b∈ch,(b∈X.ex\/X.s₀.heap.objs.size<=b)/\b≠X.env.locals/\(∀x c,X.env.cells.lookup x=Mw c->c≠b)/\∀p∈X.pn++MC,p.1≠b)
  (keep:∀b o,b≠X.env.locals->b ∉ X.fs->b ∉ ch->s.heap.get? b=Mw o->H b=Mx->h'.get? b=Mw o)
  (slot:∀b o,b≠X.env.locals->b∈X.fs->b ∉ ch->s.heap.get? b=Mw o->H b=Mx->∃F,h'.get? b=Mw { o with slots:=F })(free:∀b o,b ∉ ch->s.heap.get? b=Mw o->H b=Mx->H' b=Mx)
  (there:∀b o,b ∉ ch->s.heap.get? b=Mw o->∃B,h'.get? b=Mw B)
  (tups:∀b xs,H b=Mw (.tup xs)->H' b=Mw (.tup xs))(frzs:∀b o u,H b=Mw (.frz o u)->H' b=Mw (.frz o u))(tbls:∀b ps,H b=Mw (.tbl ps)->∃E,H' b=Mw (.tbl (ps++E)))
  (ns:∀m,s.heap.Ns X.env.locals m->h'.Ns X.env.locals m)(hok:HOk X.prog X.w H' h')(R:AllBare g') :
  Inv X MC σ H' { s with heap:=h',gens:=g',drawn:=d',toks:=t' }:=by
 have D:∀b o,X.s₀.heap.get? b=Mw o->b≠X.env.locals:=λb o e=>zA (zW (Jt.lt_size e) I.ok.above)
 have t:∀b o,X.s₀.heap.get? b=Mw o->b ∉ X.ex->b ∉ ch:=λb o e a y=>by
  rcases(g b y).1 with z|z
  .exact a z
  .exact MG (zW (Jt.lt_size e) z) (CD _)
 have h:∀x c,X.env.cells.lookup x=Mw c->∀v,s.heap.IsCell c v->h'.IsCell c v:=λx c e v ⟨o,A,G⟩=>by
  have f:c ∉ ch:=λz=>(g c z).2.2.1 x c e U
  by_cases M:c∈X.fs
  .obtain⟨F,q⟩:=slot c o (I.cne x c e) M f A (I.freeC x c e);exact⟨_,q,G⟩
  .exact⟨o,keep c o (I.cne x c e) M f A (I.freeC x c e),G⟩
 refine⟨I.ok,I.os,R,⟨λb o e n y a=>?_,λb o e n y a=>?_,λb o e n a=>?_,λb o e a=>?_,λb xs e=>tups b xs (I.base.tups b xs e),λb o xs e=>frzs b o xs (I.base.frzs b o xs e),λb ps e=>?_⟩,?_,λx c e=>?_,?_,λx c e=>?_,λp L=>?_,hok,I.len⟩
 .exact keep b o (D b o e) y (t b o e a) (I.base.keep b o e n y a) (I.base.free b o e n a)
 .obtain⟨F,j⟩:=I.base.slot b o e n y a;obtain⟨J,C⟩:=slot b _ (D b o e) y (t b o e a) j (I.base.free b o e n a);exact⟨J,C⟩
 .obtain⟨B,j⟩:=I.base.there b o e a;exact free b B (t b o e a) j (I.base.free b o e n a)
 .obtain⟨B,j⟩:=I.base.there b o e a;exact there b B (t b o e a) j
 .obtain⟨O,j⟩:=I.base.tbls b ps e;obtain⟨N,C⟩:=tbls b _ j;exact⟨O++N,by rw[C,Array.append_assoc]⟩
 .obtain⟨m,P,Q⟩:=I.loc;refine⟨m,ns m P,λi x v j C S=>?_⟩;obtain⟨u,r,l⟩:=Q i x v j C S;refine⟨u,r,?_⟩;rcases l with l|⟨k,c,e,z⟩
  .exact .inl l
  .exact .inr ⟨k,c,e,h x c e _ z⟩
 .obtain⟨v,z⟩:=I.cell x c e;exact⟨v,h x c e v z⟩
 .obtain⟨m,⟨o,_,_,A,_⟩,_⟩:=I.loc;exact free _ o (λz=>(g _ z).2.1 U) A I.free
 .obtain⟨v,o,A,G⟩:=I.cell x c e;exact free c o (λz=>(g c z).2.2.1 x c e U) A (I.freeC x c e)
 .obtain⟨e,n,ne,K,d⟩:=I.pin p L;have f:p.1 ∉ ch:=λz=>(g p.1 z).2.2.2 p L U
  exact⟨keep p.1 p.2 ne K f e n,free p.1 p.2 f e n,ne,K,d⟩
theorem Inv.un{t':Nat}(I:Inv X MC σ H s)(u:Un X.fs [] H H' s.heap h')(hok:HOk X.prog X.w H' h'):Inv X MC σ H' { s with heap:=h',toks:=t' }:=by
 obtain⟨m,⟨o,q,t,g,r⟩,_⟩:=id I.loc;obtain⟨k,j⟩:=u.any g I.free (by simp);exact I.step (g':=s.gens) (d':=s.drawn) (ch:=[]) (λ_ z=>nomatch z) (λb o _ c _ e n=>u.keep b o e n c (by simp)) (λb o _ c _ e n=>u.slot b o e n c (by simp)) (λb o _ e n=>u.free b o e n (by simp)) (λb o _ e=>u.there b o e (by simp)) u.tups u.frzs u.tbls (λp i=>by
  obtain⟨l,d,f,a,h⟩:=i;rw[g]at a;cases a;exact⟨_,d,f,j,h⟩) hok I.bare
theorem Inv.call{g':Array JD}{t':Nat}{d':Drawn}{ch:List Js}(I:Inv X MC σ H s)(u:Un (frs X.stack) ch H H' s.heap h')(hok:HOk X.prog X.w H' h')(q:AllBare g')
  (f:∀b∈ch,(b∈X.ex\/X.s₀.heap.objs.size<=b)/\b≠X.env.locals/\(∀x c,X.env.cells.lookup x=Mw c->c≠b)/\∀p∈X.pn++MC,p.1≠b) :
  Inv X MC σ H' { s with heap:=h',gens:=g',drawn:=d',toks:=t' }:=by
 obtain⟨m,⟨o,B,C,j,r⟩,_⟩:=id I.loc;obtain⟨v,g⟩:=u.any j I.free λz=>(f _ z).2.1 U
 exact I.step (ch:=ch) f (λb o g t a e n=>u.keep b o e n (λz=>(dV.mp (I.stkSub b z)).elim g t) a) (λb o _ _ a e n=>u.any e n a) (λb o a e n=>u.free b o e n a) (λb o a e=>u.there b o e a) u.tups u.frzs u.tbls (λA l=>by
  obtain⟨y,h,i,d,k⟩:=l;rw[j]at d;cases d;exact⟨_,h,i,g,k⟩) hok q
theorem Inv.turned{t':Nat}{it:Js}(I:Inv X MC σ H s)(k:∀b o,b≠it->s.heap.get? b=Mw o->h'.get? b=Mw o)(h:H it=Mx)(f:it≠X.env.locals)
  (w:it∈X.ex\/X.s₀.heap.objs.size<=it)(t:∀x c,X.env.cells.lookup x=Mw c->c≠it)(l:∀p∈X.pn++MC,p.1≠it):Inv X MC σ H { s with heap:=h',toks:=t' }:=by
 have d:∀b u,H b=Mw u->b≠it:=λb u e z=>by rw[z,h]at e;cases e
 refine I.step (g':=s.gens) (d':=s.drawn) (ch:=[it]) (λb j=>?_) (λb o _ _ a e _=>k b o (λz=>a (by simp[z])) e) (λb o _ _ a e _=>⟨o.slots,k b o (λz=>a (by simp[z])) e⟩) (λ_ _ _ _ n=>n)
  (λb o a e=>⟨o,k b o (λz=>a (by simp[z])) e⟩) (λ_ _ e=>e) (λ_ _ _ e=>e) (λb B e=>⟨#[],by rw[e];simp⟩) (λm i=>?_) (λb u e=>?_) I.bare
 .have e:b=it:=by simpa using j
  subst e;exact⟨w,f,t,l⟩
 .obtain⟨o,y,A,g,r⟩:=i;exact⟨o,y,A,k _ o (Ne.symm f) g,r⟩
 .refine(I.hok b u e).stay (λc v a q=>k c v ?_ q) (λ_ q=>q) λ_ _ q=>q
  rcases a with z|z
  .rw[z];exact d b u e
  .exact d c _ z
theorem Inv.tok(I:Inv X MC σ H s)(t:Nat):Inv X MC σ H { s with toks:=t }:=I.un (h':=s.heap) (t':=t) Un.refl I.hok
theorem Inv.kept{t':Nat}(I:Inv X MC σ H s)(k:∀b u,s.heap.get? b=Mw u->h'.get? b=Mw u):Inv X MC σ H { s with heap:=h',toks:=t' }:=I.un (Un.kept k) (I.hok.kept k)
theorem Inv.laid{a:Js}{o:HO}{t':Nat}(I:Inv X MC σ H s)(k:∀b u,s.heap.get? b=Mw u->h'.get? b=Mw u)(c:s.heap.objs.size<=a)(new:df X.prog X.w (upd H a o) h' a o) :
  Inv X MC σ (upd H a o) { s with heap:=h',toks:=t' }:=I.un (Un.laid k c (I.hok.fresh c)) (I.hok.laid k c new)
theorem Inv.write{x e:Js}{o:HO}{t':Nat}(I:Inv X MC σ H s)(c:Mut (H x))(d:e=x\/H e=Mw (.own x))(k:∀b u,b≠e->s.heap.get? b=Mw u->h'.get? b=Mw u)(a:∃u,h'.get? e=Mw u)
  (new:df X.prog X.w (upd H x o) h' x o):Inv X MC σ (upd H x o) { s with heap:=h',toks:=t' }:=I.un (Un.write c d k a) (I.hok.write c d k a new)
theorem Inv.pins_of{a:List (Js×Obj)}(I:Inv X MC σ H s)(h:∀p∈a,s.heap.get? p.1=Mw p.2/\H p.1=Mx/\p.1≠X.env.locals/\p.1 ∉ X.fs/\∀v,p.2.data≠.cell v):Inv X a σ H s :=
 ⟨I.ok,I.os,I.bare,I.base,I.loc,I.cell,I.free,I.freeC,λp b=>(ik.mp b).elim (λz=>I.pin p (lg _ z)) (h p),I.hok,I.len⟩
theorem kh{N:List Str}(c:N.Nodup){i j:Nat}{x:Str}(a:N[i]?=Mw x)(b:N[j]?=Mw x):i=j:=by
 obtain⟨g,e⟩:=IW.mp a;obtain⟨f,d⟩:=IW.mp b;exact(yl c).mp (e.trans d.symm)
theorem kR{M:JE}{A:JA}{E:Jp->JB->Prop}{i:Nat}{x:Str}{v:V}{u:Jp}{Q:Unit->JB->Prop}(I:Inv X MC σ H s)(hN:X.N.Nodup)(hi:X.N[i]?=Mw x)(B:Loc X.env.scope x)(r:RelV v u)
  (h:∀s',Inv X MC (σ.set i (Mw v)) H s'->(∃a,Jt.SameBut a s.heap s'.heap/\(a=X.env.locals\/X.env.cells.lookup x=Mw a))->Q () s')(hf:X.fn x=Mz\/X.env.scope.names.lookup x=Mw .local:=by first|exact .inl U|exact .inr U|assumption):JF M A (JG X.env x u) Q E s:=by
 obtain⟨m,hn,hl⟩:=id I.loc;have EC:(X.env.scope.kind == .class || (X.env.scope.kind == .module && X.env.locals != X.env.globals))=false:=by rw[I.ok.kind];rfl
 have F:i<σ.length:=by rw[I.len];exact(IW.mp hi).1
 have cne:=I.cne;have l:∀{a:Js}{h':Jt},(∃o,s.heap.get? a=Mw o/\H a=Mx)->Jt.SameBut a s.heap h'->HOk X.prog X.w H h':=λ{a h'} ha f b ob e=>by
  obtain⟨_,_,uS⟩:=ha;refine(I.hok b ob e).stay (λc R t q=>(f.2 c ?_).trans q) (λ_ q=>q) λ_ _ q=>q
  rintro rfl;rcases t with rfl|t
  .rw[uS]at e;cases e
  .rw[uS]at t;cases t
 rcases B with D|D
 .refine wpAny_storeName_local D hn (λh' a1 f=>?_) EC;obtain⟨oL,_,_,a0,_⟩:=id hn;refine h _ ⟨I.ok,I.os,I.bare,⟨λb o e n J B=>?_,λb o e n J B=>?_,I.base.free,λb o e B=>?_,I.base.tups,I.base.frzs,I.base.tbls⟩,⟨_,a1,λj y T g C e3=>?_⟩,λy c e=>?_,I.free,I.freeC,λp hp=>?_,l ⟨oL,a0,I.free⟩ f,by simpa using I.len⟩ ⟨_,f,.inl U⟩
  .exact(f.2 b (zA (zW (Jt.lt_size e) I.ok.above))).trans (I.base.keep b o e n J B)
  .obtain⟨Y,g⟩:=I.base.slot b o e n J B;exact⟨Y,(f.2 b (zA (zW (Jt.lt_size e) I.ok.above))).trans g⟩
  .obtain⟨o',g⟩:=I.base.there b o e B;exact⟨o',(f.2 b (zA (zW (Jt.lt_size e) I.ok.above))).trans g⟩
  .by_cases G:j=i
   .subst G;rw[hi]at g;cases g;rw[List.getElem?_set_self F]at C;cases C;exact⟨u,r,.inl ⟨D,by simp⟩⟩
   .rw[List.getElem?_set_ne (Ne.symm G)]at C;obtain⟨W,Z,q⟩:=hl j y T g C e3;refine⟨W,Z,?_⟩;rcases q with⟨k,e⟩|⟨k,c,e,z⟩
    .refine .inl ⟨k,?_⟩;have:y≠x:=λe=>G (kh hN g (e ▸ hi))
     simp[this,e]
    .exact .inr ⟨k,c,e,z.sameBut f (cne y c e)⟩
  .obtain⟨R,z⟩:=I.cell y c e;exact⟨R,z.sameBut f (cne y c e)⟩
  .obtain⟨e,n,ne,nf,d⟩:=I.pin p hp;exact⟨(f.2 p.1 ne).trans e,n,ne,nf,d⟩
 .have K:X.fn x=true:=by
   rcases hf with z|z
   .exact z
   .rw[z]at D;cases D
  obtain⟨c,t⟩:=I.ok.has x (.inl D);obtain⟨R,z⟩:=I.cell x c t;refine wpAny_storeName_cell I.ok.kind D t z (λh' P f=>?_);obtain⟨oc,L,ED⟩:=id z;refine h { s with heap:=h' } ⟨I.ok,I.os,I.bare,⟨λb o e n J B=>?_,λb o e n J B=>?_,I.base.free,λb o e B=>?_,I.base.tups,I.base.frzs,I.base.tbls⟩,⟨m,hn.sameBut f (Ne.symm (cne x c t)),λj y T g C e3=>?_⟩,λy S e=>?_,I.free,I.freeC,λp hp=>?_,l ⟨oc,L,I.freeC x c t⟩ f,by simpa using I.len⟩ ⟨c,f,.inr t⟩
  .exact(f.2 b (zA (zW (Jt.lt_size e) (I.ok.cab x c K t)))).trans (I.base.keep b o e n J B)
  .obtain⟨Y,g⟩:=I.base.slot b o e n J B;exact⟨Y,(f.2 b (zA (zW (Jt.lt_size e) (I.ok.cab x c K t)))).trans g⟩
  .obtain⟨o',g⟩:=I.base.there b o e B;exact⟨o',(f.2 b (zA (zW (Jt.lt_size e) (I.ok.cab x c K t)))).trans g⟩
  .by_cases G:j=i
   .subst G;rw[hi]at g;cases g;rw[List.getElem?_set_self F]at C;cases C;exact⟨u,r,.inr ⟨.inl D,c,t,P⟩⟩
   .rw[List.getElem?_set_ne (Ne.symm G)]at C;obtain⟨W,Z,q⟩:=hl j y T g C e3;refine⟨W,Z,?_⟩;rcases q with q|⟨k,S,e,z'⟩
    .exact .inl q
    .refine .inr ⟨k,S,e,z'.sameBut f ?_⟩;rintro rfl;exact G (kh hN g (I.ok.inj _ _ _ e t ▸ hi))
  .by_cases O:S=c
   .subst O;exact⟨_,P⟩
   .obtain⟨w2,z2⟩:=I.cell y S e;exact⟨w2,z2.sameBut f O⟩
  .obtain⟨e,n,ne,nf,d⟩:=I.pin p hp;refine⟨(f.2 p.1 ?_).trans e,n,ne,nf,d⟩;intro q;rw[q,L]at e;have q':oc=p.2:=Option.some.inj e;exact d R (by rw[←q'];exact ED)
theorem mH{M:JE}{A:JA}{E:Jp->JB->Prop}{i:Nat}{x:Str}{v:V}{u:Jp}{Q:Unit->JB->Prop}(I:Inv X MC σ H s)(c:X.N.Nodup)(hi:X.N[i]?=Mw x)(a:Loc X.env.scope x)(r:RelV v u)
  (h:∀s',Inv X MC (σ.set i (Mw v)) H s'->Q () s')(b:X.fn x=Mz\/X.env.scope.names.lookup x=Mw .local:=by first|exact .inl U|exact .inr U|assumption):JF M A (JG X.env x u) Q E s :=
 kR I c hi a r (λs' d _=>h s' d) b
theorem Inv.call'{s':JB}{ch:List Js}(I:Inv X MC σ H s)(f:s'.os=s.os)(u:Un (frs X.stack) ch H H' s.heap s'.heap)(hok:HOk X.prog X.w H' s'.heap)(g:AllBare s'.gens)
  (a:∀b∈ch,(b∈X.ex\/X.s₀.heap.objs.size<=b)/\b≠X.env.locals/\(∀x c,X.env.cells.lookup x=Mw c->c≠b)/\∀p∈X.pn++MC,p.1≠b):Inv X MC σ H' s':=by
 obtain⟨h',g',d',t',d⟩:=s';have e:d=s.os:=f;subst e;exact I.call (g':=g') (t':=t') (d':=d') u hok g a
end
abbrev XK:=Jp->Option Js->Hp->Prop
abbrev St:=List (Option V)
abbrev VK:=V->Hp->Prop
abbrev TE:=St->Hp->VK->Prop
abbrev TT:=St->Hp->(Bool->Hp->Prop)->Prop
abbrev TA:=St->Hp->(List V->Hp->Prop)->Prop
structure Ends where
 nx:St->Hp->Prop
 rt:VK
 bk:St->Hp->Prop:=λ_ _=>False
 ct:St->Hp->Prop:=λ_ _=>False
abbrev TS:=Ends->St->Hp->Prop
def EP(X:Cx)(MC:List (Js×Obj))(a:St)(Q:VK)(u:Jp)(s':JB):Prop:=∃v H',Inv X MC a H' s'/\RelV v u/\Q v H'
def TP(X:Cx)(MC:List (Js×Obj))(a:St)(Q:Bool->Hp->Prop)(b:Bool)(s':JB):Prop:=∃H',Inv X MC a H' s'/\Q b H'
def AP(X:Cx)(MC:List (Js×Obj))(b:St)(Q:List V->Hp->Prop)(us:List Jp)(s':JB):Prop:=∃a H',Inv X MC b H' s'/\Vals a us/\Q a H'
def SP(X:Cx)(MC:List (Js×Obj))(D:Ends)(f:Flow)(s':JB):Prop :=
 match f with
 | .next=>∃a H',Inv X MC a H' s'/\D.nx a H'
 | .brk=>∃a H',Inv X MC a H' s'/\D.bk a H'
 | .cont=>∃a H',Inv X MC a H' s'/\D.ct a H'
 | .ret u=>∃v a H',Inv X MC a H' s'/\RelV v u/\D.rt v H'
def PE(X:Cx)(e:JH)(t:TE):Prop :=
 ∀(MC:List (Js×Obj))(s:JB)(a:St)(H:Hp)(Q:VK),Inv X MC a H s->t a H Q->JF (model X.prog X.w) X.A (eval e X.env) (EP X MC a Q) X.xe s
def PT(X:Cx)(e:JH)(t:TT):Prop :=
 ∀(MC:List (Js×Obj))(s:JB)(a:St)(H:Hp)(Q:Bool->Hp->Prop),Inv X MC a H s->t a H Q->JF (model X.prog X.w) X.A (JI e X.env (eval e X.env)) (TP X MC a Q) X.xe s
def PW(X:Cx)(e:JH)(t:TT):Prop :=
 ∀(a:Sem Jp)(MC:List (Js×Obj))(s:JB)(b:St)(H:Hp)(Q:Bool->Hp->Prop),Inv X MC b H s->t b H Q->JF (model X.prog X.w) X.A (JI e X.env a) (TP X MC b Q) X.xe s
theorem PW.pt{X:Cx}{e:JH}{t:TT}(h:PW X e t):PT X e t:=h _
def PA(X:Cx)(c:List JH)(t:TA):Prop :=
 ∀(b:Pos)(MC:List (Js×Obj))(s:JB)(a:St)(H:Hp)(Q:List V->Hp->Prop),Inv X MC a H s->t a H Q->JF (model X.prog X.w) X.A (spliced (JJ b (JK c X.env))) (AP X MC a Q) X.xe s
def PS(X:Cx)(st:JL)(t:TS):Prop :=
 ∀(MC:List (Js×Obj))(s:JB)(a:St)(H:Hp)(D:Ends),Inv X MC a H s->t D a H->JF (model X.prog X.w) X.A (exec st X.env) (SP X MC D) X.xe s
def PSs(X:Cx)(st:List JL)(t:TS):Prop :=
 ∀(MC:List (Js×Obj))(s:JB)(a:St)(H:Hp)(D:Ends),Inv X MC a H s->t D a H->JF (model X.prog X.w) X.A (execs st X.env) (SP X MC D) X.xe s
theorem thn{α:Type}{t:Sem α}{Q b:α->JB->Prop}{M:JE}{A:JA}{E:Jp->JB->Prop}{s:JB}(h:JF M A t Q E s)(c:∀a s,Q a s->b a s):JF M A t b E s:=JM h c λ_ _ x=>x
variable{ta tb:TE}{pos:Pos}
section
inductive Bw(i:Nat)(σ:St)(H:Hp)(Q:VK):Prop
 |mk (v:_)(_:σ[i]?=Mw (Mw v))(_:Q v H)
def tC(v:V):TE:=λ_ H Q=>Q v H
theorem sX{i:Nat}{x:Str}{pos:Pos}(t:X.N[i]?=Mw x)(n:Vis X.env.scope x)(d:(x == ("__debug__" : Str))=false:=by decide) (f:(x == ("__classdict__" : Str))=false:=by decide):PE X (.Name x pos) (Bw i):=by
 intro MC s k H Q I h;obtain⟨v,e,h⟩:=h;obtain⟨m,o,q⟩:=I.loc;obtain⟨u,r,l⟩:=q i x v t e n;have b:EP X MC k Q u s:=⟨v,H,I,r,h⟩;rcases l with⟨a,p⟩|⟨a,c,j,g⟩
 .exact JN (JO I.ok.kind a o p b) d
 .rcases a with a|a
  .exact JN (JP I.ok.kind a j g b) d
  .exact JN (wpAny_loadName_free I.ok.kind a j g b f) d
theorem af{i j pos}:PE X (.Constant (.int i) j pos) (tC (.int i)):=λ_ _ _ H _ I h=>wpAny_Constant_int ⟨.int i,H,I.tok _,⟨_,U⟩,h⟩
theorem cP{b j pos}:PE X (.Constant (.bool b) j pos) (tC (.bl b)):=λ_ _ _ H _ I h=>Constant_bool ⟨.bl b,H,I,U,h⟩
theorem xk{j pos}:PE X (.Constant .none j pos) (tC .non):=λ_ _ _ H _ I h=>Constant_none ⟨.non,H,I,U,h⟩
theorem aX{x j pos}:PE X (.Constant (.str x) j pos) (tC (.str x)):=λ_ _ _ H _ I h=>Calls.Constant_str ⟨.str x,H,I.tok _,⟨_,U⟩,h⟩
def Gl(X:Cx)(x:Str):Prop:=X.env.kindOf x=Mw .globalImplicit
theorem gD{E:Jp->JB->Prop}{MC:List (Js×Obj)}{s:JB}{a:St}{H:Hp}{x:Str}{u:Jp}{pos:Pos}{Q:Jp->JB->Prop}(I:Inv X MC a H s)(c:Gl X x)(b:X.mg x=Mw u)(h:Q u s)
  (hd:(x == ("__debug__" : Str))=false:=by decide):JF (model X.prog X.w) X.A (eval (.Name x pos) X.env) Q E s :=
 Calls.Name_function_global I.ok.kind c (Calls.loadGlobal_global (by rw[I.ok.glob];exact I.mod.glob.keeps I.bk) b h) hd
theorem fb{E:Jp->JB->Prop}{MC:List (Js×Obj)}{s:JB}{a:St}{H:Hp}{x:Str}{u:Jp}{pos:Pos}{Q:Jp->JB->Prop}(I:Inv X MC a H s)(e:Gl X x)(d:X.mg x=Mx)(b:Jz x=Mw u)(h:Q u s)
  (c:x ≠ "__name__" := by decide) (hd:(x == ("__debug__" : Str))=false:=by decide):JF (model X.prog X.w) X.A (eval (.Name x pos) X.env) Q E s:=by
 obtain⟨i,g,f⟩:=I.mod.blt;exact Calls.Name_function_global I.ok.kind e (Calls.loadGlobal_builtin (by rw[I.ok.glob];exact I.mod.glob.keeps I.bk) d (by rw[I.ok.blt];exact g.keeps I.bk) ((f x c).trans b) h) hd
theorem cM{x:Str}{v:V}{u:Jp}{pos:Pos}(b:Gl X x)(a:X.mg x=Mw u)(r:RelV v u)(c:(x == ("__debug__" : Str))=false:=by decide):PE X (.Name x pos) (tC v) :=
 λ_ _ _ H _ I h=>gD I b a ⟨v,H,I,r,h⟩ c
theorem dY{x:Str}{v:V}{u:Jp}{pos:Pos}(d:Gl X x)(c:X.mg x=Mx)(a:Jz x=Mw u)(r:RelV v u)(b:x ≠ "__name__" := by decide) (hd:(x == ("__debug__" : Str))=false:=by decide):PE X (.Name x pos) (tC v) :=
 λ_ _ _ H _ I h=>fb I d c a ⟨v,H,I,r,h⟩ b hd
variable{a b:JH}
inductive tBq  (Q:Bool->Hp->Prop)(x:V)(H1:Hp):Prop
 |mk (c:_)(_:x=.bl c)(_:Q c H1):tBq Q x H1
def tB(t:TE):TT:=λa H Q=>t a H λx b=>tBq Q x b
theorem bI{e:JH}{t:TE}(h:PE X e t)(i:∀a,JI e X.env a=(do let v ←a;JQ e.pos;holding [v] (truthy v)):=by intro _;rfl):PT X e (tB t):=by
 intro MC s b H Q I g;refine isTrue_plain (thn (h MC s b H _ I g) λv l ⟨x,k,j,c,f⟩=>?_) (i _);obtain⟨d,rfl,q⟩:=f;cases c;exact JR ⟨k,j,q⟩
variable{tA tB':TT}{rest:List JH}
def EE(t u:TT):TT:=λa H Q=>t a H λc b=>if c=Mz then u a b Q else Q MA b
def tOr(t u:TT):TT:=λa H Q=>t a H λc b=>if c=Mz then Q Mz b else u a b Q
def EF(t:TT):TT:=λa H Q=>t a H λc b=>Q (!c) b
theorem eV(d:PT X a tA):PW X (.BoolOp .And [a] pos) tA:=by
 intro f MC s b H Q I h;refine isTrue_and (thn (d MC s b H Q I h) λc g e=>?_);cases c with
 |true=>exact isTrue_and_nil e
 |false=>exact e
theorem gE(d:PT X a tA):PW X (.BoolOp .Or [a] pos) tA:=by
 intro f MC s b H Q I h;refine isTrue_or (thn (d MC s b H Q I h) λc g e=>?_);cases c with
 |false=>exact isTrue_or_nil e
 |true=>exact e
theorem gF(l:PT X a tA)(k:PW X (.BoolOp .And (b :: rest) pos) tB'):PW X (.BoolOp .And (a :: b :: rest) pos) (EE tA tB'):=by
 intro i MC s d H Q I h;refine isTrue_and (thn (l MC s d H _ I h) λc j ⟨g,f,e⟩=>?_);cases c with
 |true=>exact k i MC j d g Q f e
 |false=>exact⟨g,f,e⟩
theorem jm(l:PT X a tA)(k:PW X (.BoolOp .Or (b :: rest) pos) tB'):PW X (.BoolOp .Or (a :: b :: rest) pos) (tOr tA tB'):=by
 intro i MC s d H Q I h;refine isTrue_or (thn (l MC s d H _ I h) λc j ⟨g,f,e⟩=>?_);cases c with
 |true=>exact⟨g,f,e⟩
 |false=>exact k i MC j d g Q f e
theorem bO(d:PT X a tA):PT X (.UnaryOp .Not a pos) (EF tA):=by
 intro MC s b H Q I h;exact isTrue_not (d MC s b H (λc e=>Q (!c) e) I h)
inductive xl(tb:TE)(σ:St)(Q:VK)(x:V)(H1:Hp):Prop
 |mk (c:_)(_:x=.bl c)(_:if c=Mz then tb σ H1 Q else Q (.bl MA) H1)
def CS(ta tb:TE):TE:=λa H Q=>ta a H λx b=>xl tb a Q x b
inductive xm  (Q:VK)(x:V)(H1:Hp):Prop
 |mk (c:_)(_:x=.bl c)(_:Q (.bl (!c)) H1):xm Q x H1
def CT(ta:TE):TE:=λa H Q=>ta a H λx b=>xm Q x b
theorem jz{op} {t:TE}(h:PE X a t):PE X (.BoolOp op [a] pos) t:=λMC s b H Q I c=>BoolOp_one (h MC s b H Q I c)
theorem fO(l:PE X a ta)(k:PE X (.BoolOp .And (b :: rest) pos) tb):PE X (.BoolOp .And (a :: b :: rest) pos) (CS ta tb):=by
 intro MC s e H Q I h;refine BoolOp_and (thn (l MC s e H _ I h) λv i ⟨x,g,f,j,d⟩=>?_);obtain⟨c,rfl,d⟩:=d;cases j;refine JR ?_;cases c with
 |true=>exact k MC i e g Q f d
 |false=>exact⟨.bl MA,g,f,U,d⟩
theorem xn(f:PE X a ta):PE X (.UnaryOp .Not a pos) (CT ta):=by
 intro MC s d H Q I h;refine UnaryOp_ (thn (f MC s d H _ I h) λv j ⟨x,i,g,e,b⟩=>?_);obtain⟨c,rfl,b⟩:=b;cases e;exact not_of (JR ⟨.bl (!c),i,g,U,b⟩)
def tIf(t:TT)(ta tb:TE):TE:=λa H Q=>t a H λc b=>if c=Mz then ta a b Q else tb a b Q
theorem mI{c:JH}(k:PT X c tA)(m:PE X a ta)(l:PE X b tb):PE X (.IfExp c a b pos) (tIf tA ta tb):=by
 intro MC s e H Q I h;refine wpAny_IfExp (thn (k MC s e H _ I h) λd f ⟨j,i,g⟩=>?_);cases d with
 |true=>exact m MC f e j Q i g
 |false=>exact l MC f e j Q i g
end
def SqL(K:W.Frag)(H:Hp)(a:Js)(xs:List V):Prop :=
 Rd H a (.lst xs) \/
  ∃(o:Obj)(b:Array Jp)(n:Nat),K.lookup a=Mw o/\o.cls=.type "list" /\ o.dict=Mx/\o.data=.seq b n/\b.size<=Ju/\Vals xs b.toList
def SqT(K:W.Frag)(H:Hp)(a:Js)(xs:List V):Prop :=
 Rd H a (.tup xs) \/
  ∃(o:Obj)(b:Array Jp)(n:Nat),K.lookup a=Mw o/\o.cls=.type "tuple" /\ o.data=.seq b n/\b.size<=Ju/\Vals xs b.toList
def EG:Jp->Option V
 | .none=>Mw .non
 | .bool b=>Mw (.bl b)
 | .int i _=>Mw (.int i)
 | .str x _=>Mw (.str x)
 | .bytes b _=>Mw (.byt b)
 | .float b _=>Mw (.flt b)
 | .ref a=>Mw (.ref a)
 | .type n=>Mw (.ty n)
 |_=>Mx
theorem RelV.abs{x:V}{u:Jp}(r:RelV x u):EG u=Mw x:=by
 cases x with
 |non=>cases r;rfl
 |bl _=>cases r;rfl
 |int _=>obtain⟨t,rfl⟩:=r;rfl
 |str _=>obtain⟨t,rfl⟩:=r;rfl
 |byt _=>obtain⟨t,rfl⟩:=r;rfl
 |flt _=>obtain⟨t,rfl⟩:=r;rfl
 |ref _=>cases r;rfl
 |ty _=>cases r;rfl
theorem RelV.inj{x y:V}{u:Jp}(r:RelV x u)(q:RelV y u):x=y:=Option.some.inj (r.abs.symm.trans q.abs)
theorem Vals.inj:∀{xs ys:List V}{us:List Jp},Vals xs us->Vals ys us->xs=ys
 |_,_,_,.nil,.nil=>rfl
 |_,_,_,.cons r t,.cons r' t'=>by rw[r.inj r',Vals.inj t t']
variable{σ:St}
section
variable{xs ys:List V}
theorem SqL.of{K:W.Frag}(h:H a=Mw (.lst xs)):SqL K H a xs:=.inl (.inl h)
theorem SqT.of{K:W.Frag}(h:H a=Mw (.tup xs)):SqT K H a xs:=.inl (.inl h)
theorem Inv.list(I:Inv X MC σ H s)(h:SqL X.K H a xs):∃b:List Jp,Vals xs b/\PlainL s.heap a b.toArray/\xs.length<=Ju:=by
 rcases h with h|⟨o,b,n,d,g,f,c,i,r⟩
 .obtain⟨z,b,n,r,e⟩:=h.ok I.hok;exact⟨b,r,⟨_,n,e,U,U,U⟩,z⟩
 .refine⟨b.toList,r,⟨o,n,I.kIn a o d,g,f,by simpa using c⟩,?_⟩;have e:=r.length;simp only[Io]at e;lia
theorem Inv.tuple(I:Inv X MC σ H s)(h:SqT X.K H a xs):∃b:List Jp,Vals xs b/\IsTup s.heap a b.toArray/\xs.length<=Ju:=by
 rcases h with h|⟨o,b,n,d,f,c,g,r⟩
 .obtain⟨z,b,r,p⟩:=h.ok I.hok;exact⟨b,r,p,z⟩
 .refine⟨b.toList,r,⟨o,I.kIn a o d,f,n,by simpa using c⟩,?_⟩;have e:=r.length;simp only[Io]at e;lia
theorem Inv.list_inj(I:Inv X MC σ H s)(h:SqL X.K H a xs)(h':SqL X.K H a ys):xs=ys:=by
 obtain⟨c,r,⟨o,n,e,_,_,d⟩,_⟩:=I.list h;obtain⟨b,i,⟨k,l,f,_,_,g⟩,_⟩:=I.list h';rw[e]at f;cases f;rw[d]at g;injection g with j _;have:c=b:=by simpa using MK Array.toList j
 subst this;exact r.inj i
theorem Inv.tuple_inj(I:Inv X MC σ H s)(h:SqT X.K H a xs)(h':SqT X.K H a ys):xs=ys:=by
 obtain⟨c,r,⟨o,e,_,n,d⟩,_⟩:=I.tuple h;obtain⟨b,i,⟨k,f,_,l,g⟩,_⟩:=I.tuple h';rw[e]at f;cases f;rw[d]at g;injection g with j _;have:c=b:=by simpa using MK Array.toList j
 subst this;exact r.inj i
end
abbrev Cx.wish(X:Cx)(E:Jp->JB->Prop):Cx:={ X with xe:=E }
abbrev Cx.nox(X:Cx):Cx:=X.wish λ_ _=>False
theorem Cx.Ok.wish{X:Cx}(ok:X.Ok)(E:Jp->JB->Prop):(X.wish E).Ok :=
 ⟨ok.mod,ok.kind,ok.glob,ok.blt,ok.above,ok.inj,ok.has,ok.cab,ok.hd,ok.frames,ok.stk,ok.exf,ok.bs,ok.bsz,ok.noex,ok.exfs,ok.funs,ok.frf⟩
theorem Cx.Ok.unwish{X:Cx}{E:Jp->JB->Prop}(ok:(X.wish E).Ok):X.Ok :=
 ⟨ok.mod,ok.kind,ok.glob,ok.blt,ok.above,ok.inj,ok.has,ok.cab,ok.hd,ok.frames,ok.stk,ok.exf,ok.bs,ok.bsz,ok.noex,ok.exfs,ok.funs,ok.frf⟩
variable{E:Jp->JB->Prop}
theorem Inv.wish(I:Inv X MC σ H s)(E:Jp->JB->Prop):Inv (X.wish E) MC σ H s:=⟨I.ok.wish E,I.os,I.bare,I.base,I.loc,I.cell,I.free,I.freeC,I.pin,I.hok,I.len⟩
theorem Inv.unwish(I:Inv (X.wish E) MC σ H s):Inv X MC σ H s:=⟨I.ok.unwish,I.os,I.bare,I.base,I.loc,I.cell,I.free,I.freeC,I.pin,I.hok,I.len⟩
theorem SP.unwish{D:Ends}{f:Flow}{s':JB}(h:SP (X.wish E) MC D f s'):SP X MC D f s':=by
 cases f with
 |next=>obtain⟨a,H',I,q⟩:=h;exact⟨a,H',I.unwish,q⟩
 |brk=>obtain⟨a,H',I,q⟩:=h;exact⟨a,H',I.unwish,q⟩
 |cont=>obtain⟨a,H',I,q⟩:=h;exact⟨a,H',I.unwish,q⟩
 |ret u=>obtain⟨v,a,H',I,r,q⟩:=h;exact⟨v,a,H',I.unwish,r,q⟩
theorem PE.nox{e:JH}{t:TE}(h:PE X.nox e t):PE X e t:=λMC s σ H Q I a =>
 JM (h MC s σ H Q (I.wish _) a) (λ_ _ ⟨v,H',b,r,q⟩=>⟨v,H',b.unwish,r,q⟩) λ_ _ z=>False.elim z
theorem PSs.nox{st:List JL}{t:TS}(h:PSs X.nox st t):PSs X st t:=λMC s σ H D I a =>
 JM (h MC s σ H D (I.wish _) a) (λ_ _ q=>q.unwish) λ_ _ z=>False.elim z
variable{e:JH}{te:TE}
section
variable{st:JL}{rest:List JL}{t u:TS}
def CU:TS:=λD σ H=>D.nx σ H
def aU(t u:TS):TS:=λD σ H=>t { D with nx:=u D } σ H
theorem aC:PSs X [] CU:=λ_ _ σ H _ I h=>JS ⟨σ,H,I,h⟩
theorem aj(d:PS X st t)(c:PSs X rest u):PSs X (st :: rest) (aU t u):=by
 intro MC s σ H D I h;refine JT (thn (d MC s σ H { D with nx:=u D } I h) λf b q=>?_);cases f with
 |next =>
  obtain⟨a,H',e,q⟩:=q;exact c MC b a H' D e q
 |ret v=>exact q
 |brk=>exact q
 |cont=>exact q
theorem ai(a:PS X st t):PSs X [st] t:=by
 intro MC s σ H D I h;refine JT (thn (a MC s σ H D I h) λf b q=>?_);cases f with
 |next=>exact JS q
 |ret v=>exact q
 |brk=>exact q
 |cont=>exact q
theorem Inv.quiet{MC:List (Js×Obj)}{σ:St}{H:Hp}{s:JB}(I:Inv X MC σ H s):interactive X.env=false:=by simp[interactive,I.ok.kind]
def CV(te:TE):TS:=λD σ H=>te σ H λ_ a=>D.nx σ a
theorem aZ(c:PE X e te)(b:JU e Mx pos.line X.env=pure false:=by rfl):PS X (.Expr e pos) (CV te):=by
 intro MC s σ H D I h;exact wpAny_Expr_any (thn (c MC s σ H _ I h) λv g ⟨x,f,d,i,a⟩=>⟨σ,f,d,a⟩) I.quiet b
def EH(te:TE):TS:=λD σ H=>te σ H D.rt
theorem aw(c:PE X e te):PS X (.Return (Mw e) pos) (EH te):=by
 intro MC s σ H D I h;exact wpAny_Return_some (thn (c MC s σ H _ I h) λv g ⟨x,f,d,a,b⟩=>⟨x,σ,f,d,a,b⟩)
def EI(c:TT)(t u:TS):TS:=λD σ H=>c σ H λb a=>if b=Mz then t D σ a else u D σ a
theorem aN{c:JH}{a b:List JL}{e:TT}(k:PT X c e)(m:PSs X a t)(l:PSs X b u):PS X (.If c a b pos) (EI e t u):=by
 intro MC s σ H D I h;refine wpAny_If (thn (k MC s σ H _ I h) λd f ⟨j,i,g⟩=>?_);cases d with
 |true=>exact m MC f σ j D i g
 |false=>exact l MC f σ j D i g
def Bx:TS:=λ_ _ _=>False
theorem bK:PS X st Bx:=λ_ _ _ _ _ _ h=>h.elim
end
abbrev TG:=V->St->Hp->(St->Hp->Prop)->Prop
abbrev TGs:=List V->St->Hp->(St->Hp->Prop)->Prop
def PG(X:Cx)(a:JH)(t:TG):Prop :=
 ∀(MC:List (Js×Obj))(s:JB)(σ:St)(H:Hp)(v:V)(u:Jp)(Q:St->Hp->Prop),Inv X MC σ H s->RelV v u->t v σ H Q ->
  JF (model X.prog X.w) X.A (assign a X.env u) (λ_ c=>∃b H',Inv X MC b H' c/\Q b H') X.xe s
def PGs(X:Cx)(ts:List JH)(t:TGs):Prop :=
 ∀(MC:List (Js×Obj))(s:JB)(σ:St)(H:Hp)(b:List V)(c:List Jp)(Q:St->Hp->Prop),Inv X MC σ H s->Vals b c->t b σ H Q ->
  JF (model X.prog X.w) X.A (assignInOrder ((JV ts X.env).map (·.2)) c) (λ_ d=>∃a H',Inv X MC a H' d/\Q a H') X.xe s
abbrev By:=V->V->V->Hp->(Hp->Prop)->Prop
def CW(X:Cx)(t:By):Prop :=
 ∀(MC:List (Js×Obj))(s:JB)(σ:St)(H:Hp)(o i v:V)(a b u:Jp)(Q:Hp->Prop),Inv X MC σ H s->RelV o a->RelV i b->RelV v u->t o i v H Q ->
  JF (model X.prog X.w) X.A (setItem a b u) (λ_ c=>∃H',Inv X MC σ H' c/\Q H') X.xe s
abbrev TIp:=V->V->Hp->VK->Prop
def PIp(X:Cx)(op:JW)(t:TIp):Prop :=
 ∀(MC:List (Js×Obj))(s:JB)(σ:St)(H:Hp)(x y:V)(v u:Jp)(Q:VK),Inv X MC σ H s->RelV x v->RelV y u->t x y H Q ->
  JF (model X.prog X.w) X.A (inplaceOp op v u) (EP X MC σ Q) X.xe s
def o9(i:Nat):TG:=λv σ H Q=>Q (σ.set i (Mw v)) H
theorem aE{i:Nat}{x:Str}(c:X.N.Nodup)(hi:X.N[i]?=Mw x)(a:Loc X.env.scope x)(b:X.fn x=Mz\/X.env.scope.names.lookup x=Mw .local:=by first|exact .inl U|exact .inr U|assumption):PG X (.Name x pos) (o9 i):=by
 intro MC s σ H v u Q I r h;exact JX (mH I c hi a r (λe d=>⟨_,H,d,h⟩) b)
def EJ:TGs:=λa σ H Q=>a=[]/\Q σ H
def CY(t:TG)(u:TGs):TGs:=λb σ H Q=>∃v r,b=v :: r/\t v σ H λa H'=>u r a H' Q
theorem bX:PGs X [] EJ:=by
 intro MC s σ H a b Q I r h;obtain⟨e,h⟩:=h;subst e;cases r;exact assignInOrder_nil ⟨σ,H,I,h⟩
theorem aM{e:JH}{a:List JH}{t:TG}{u:TGs}(j:PG X e t)(i:PGs X a u)
  (g:(JV (e :: a) X.env).map (·.2)=assign e X.env :: (JV a X.env).map (·.2):=by rfl):PGs X (e :: a) (CY t u):=by
 intro MC s σ H n p Q I r h;obtain⟨v,o,k,h⟩:=h;subst k;cases r with
 |cons r d =>
  rw[g];refine assignInOrder_cons (thn (j MC s σ H _ _ _ I r h) λ_ c ⟨b,m,l,f⟩=>?_);exact i MC c b m _ _ Q l d f
def CZ(K:W.Frag)(n:Nat)(t:TGs):TG:=λv σ H Q=>∃a b,v=.ref a/\SqT K H a b/\b.length=n/\t b σ H Q
theorem fc{c:List JH}{k:Nat}{t:TGs}{n:Nat}(w:X.calm=Mz)(h:PGs X c t)
  (p:(JV c X.env).length=n:=by rfl)(f:(JV c X.env).findIdx? (·.1)=none:=by rfl):PG X (.Tuple c k pos) (CZ X.K n t):=by
 intro MC s σ H v u Q I r d;obtain⟨a,i,x,m,q,d⟩:=d;subst x;cases r;obtain⟨z,g,l,A⟩:=I.tuple m;refine assign_Tuple_tuple (I.ok.hd w) l (by simp[p,←q,g.length]) f λh' j=>?_
 have y:Inv X MC σ H { s with heap:=h' }:=I.kept (t':=s.toks) λb o e=>j b o (zA (Jt.lt_size e)) e
 exact h MC _ σ H i _ Q y (by simpa using g) d
def EK(to ti:TE)(t:By):TG:=λv σ H Q=>to σ H λo c=>ti σ c λi b=>t o i v b λa=>Q σ a
theorem kS{o i:JH}{to ti:TE}{t:By}(l:PE X o to)(hi:PE X i ti)(k:CW X t)
  (m:∀v,assign (.Subscript o i pos) X.env v=(do
   let a ←holding [v] (eval o X.env)
   let b ←holding [v,a] (eval i X.env)
   JQ pos
   holding [v,a,b] (setItem a b v)
   release [v,a,b] []):=by intro _;rfl):PG X (.Subscript o i pos) (EK to ti t):=by
 intro MC s σ H v u Q I r h;rw[m];refine Jl (Jn (thn (l MC s σ H _ I h) λa c ⟨x,A,q,e,j⟩=>?_));refine Jl (Jn (thn (hi MC c σ A _ q j) λb s2 ⟨y,z,p,d,g⟩=>?_));refine Jl (JY (Jl (Jn (thn (k MC s2 σ z x y v a b u _ p e d r g) λ_ B ⟨w,n,f⟩=>?_))));exact wpAny_release ⟨σ,w,n,f⟩
def zE(te:TE)(g:TG):TS:=λD σ H=>te σ H λx a=>g x σ a D.nx
theorem kT{a e:JH}{te:TE}{g:TG}(k:PE X e te)(j:PG X a g)(i:swapsWithSole [a] e pos.line X.env=pure false:=by rfl)(f:swappedStores [a] e X.env=pure none:=by rfl)
  (l:(JV [a] X.env).map (·.2)=[assign a X.env]:=by rfl):PS X (.Assign [a] e pos) (zE te g):=by
 intro MC s σ H D I h;refine wpAny_Assign_stores (thn (k MC s σ H _ I h) λv b ⟨x,n,m,c,d⟩=>?_) i f;rw[l];exact thn (j MC b σ n x v _ m c d) λ_ s2 q=>q
theorem aJ{i:Nat}{x:Str}{e:JH}{te:TE}{a:Pos}(k:X.N.Nodup)(hi:X.N[i]?=Mw x)(d:Loc X.env.scope x)(j:PE X e te)(f:JU e (Mw (.Name x a)) pos.line X.env=pure false:=by rfl)(g:X.fn x=Mz\/X.env.scope.names.lookup x=Mw .local:=by first|exact .inl U|exact .inr U|assumption) :
  PS X (.Assign [.Name x a] e pos) (zE te (o9 i)):=by
 intro MC s σ H D I h;refine wpAny_Assign_Name (thn (j MC s σ H _ I h) λv o ⟨y,n,m,b,c⟩=>?_) f;exact mH m k hi d b (λs2 l=>⟨_,n,l,c⟩) g
inductive C0(i:Nat)(te:TE)(ti:TIp)(D:Ends)(σ:St)(H:Hp):Prop
 |mk (x:_)(_:σ[i]?=Mw (Mw x))(_:te σ H λy H1=>ti x y H1 λz H2=>D.nx (σ.set i (Mw z)) H2)
theorem sZ{i:Nat}{x:Str}{e:JH}{te:TE}{op:JW}{ti:TIp}{f:Pos}(O:X.N.Nodup)(hi:X.N[i]?=Mw x)(g:Loc X.env.scope x)(L:PE X e te)(E:PIp X op ti)(K:X.fn x=Mz\/X.env.scope.names.lookup x=Mw .local:=by first|exact .inl U|exact .inr U|assumption) :
  PS X (.AugAssign (.Name x f) op e pos) (C0 i te ti):=by
 intro MC s σ H D I h;obtain⟨v,P,h⟩:=h;obtain⟨m,F,J⟩:=I.loc;have j:Vis X.env.scope x:=by rcases g with k|k;exact .inl k;exact .inr (.inl k)
 obtain⟨u,r,l⟩:=J i x v hi P j;refine wpAny_AugAssign_Name ?_;have n:JF (model X.prog X.w) X.A (eval e X.env) (λw d=>JF (model X.prog X.w) X.A (inplaceOp op u w) (λr b=>JF (model X.prog X.w) X.A (JG X.env x r) (λ_=>SP X MC D .next) X.xe b) X.xe d) X.xe s:=by
  refine thn (L MC s σ H _ I h) λw o ⟨y,V,S,q,B⟩=>?_
  refine thn (E MC o σ V v y u w _ S r q B) λz s2 ⟨W,T,R,p,t⟩=>?_
  exact mH R O hi g p (λY Q=>⟨_,T,Q,t⟩) K
 rcases l with⟨a,G⟩|⟨a,c,M,C⟩
 .exact JO I.ok.kind a F G n
 .rcases a with a|a
  .exact JP I.ok.kind a M C n
  .rcases g with k|k
   .have:X.env.scope.names.lookup x=Mw .free:=a;rw[k]at this;cases this
   .have:X.env.scope.names.lookup x=Mw .free:=a;rw[k]at this;cases this
def ipI(f:Int->Int->Int):TIp:=λx y H Q=>∃i j,x=.int i/\y=.int j/\Q (.int (f i j)) H
theorem xo:PIp X .Add (ipI λi j=>i+j):=by
 intro MC s σ H x y v u Q I b a h;obtain⟨i,j,d,c,q⟩:=h;subst d;subst c;obtain⟨t,rfl⟩:=b;obtain⟨e,rfl⟩:=a;exact iadd_int ⟨.int _,H,I.tok _,⟨_,U⟩,q⟩
def Bz(c:TT)(tb:TS):TS:=λD σ H=>∃W:Nat->St->Hp->Prop,(∃m,W m σ H)/\∀m σ H,W m σ H ->
 c σ H λb e=>if b=Mz then ∃N:St->Hp->Prop,(∀a H',N a H'->∃d,d<m/\W d a H')/\tb { D with nx:=N,ct:=N,bk:=D.nx } σ e else D.nx σ e
theorem xp{c:JH}{body:List JL}{q:TT}{tb:TS}(r:JZ (model X.prog X.w) X.A X.env X.xe)(G:PT X c q)(J:PSs X body tb):PS X (.While c body [] pos) (Bz q tb):=by
 intro MC s σ H D I h;obtain⟨W,⟨F,B⟩,i⟩:=h;refine wpAny_While (codeAny_whileLoop (λn E=>∃g H',Inv X MC g H' E/\W n g H') ?_ F ⟨σ,H,I,B⟩);rintro n C ⟨d,y,K,z⟩;refine Ka r (thn (G MC C d y _ K (i n d y z)) λb s2 ⟨x,u,k⟩=>?_);cases b with
 |true =>
  obtain⟨N,t,k⟩:=k;rw[ME U];refine Ka r (thn (J MC s2 d x _ u k) λf L j=>?_);cases f with
  |next =>
   obtain⟨a,e,p,l⟩:=j;obtain⟨m,o,w3⟩:=t a e l;exact⟨m,o,a,e,p,w3⟩
  |cont =>
   obtain⟨a,e,p,l⟩:=j;obtain⟨m,o,w3⟩:=t a e l;exact⟨m,o,a,e,p,w3⟩
  |brk=>exact j
  |ret v=>exact j
 |false =>
  rw[MD Bool.false_ne_true];exact JS ⟨d,x,u,k⟩
structure It where
 go:Nat->Hp->Prop
 yld:Nat->Hp->V->Hp->Prop
 stop:Nat->Hp->Prop
def kU(X:Cx)(MC:List (Js×Obj))(H:Hp)(b:Js):Prop :=
 H b=Mx/\b≠X.env.locals/\b ∉ X.fs/\(b∈X.ex\/X.s₀.heap.objs.size<=b)/\(∀x c,X.env.cells.lookup x=Mw c->c≠b)/\∀p∈X.pn++MC,p.1≠b
theorem Inv.fpOk{X:Cx}{MC:List (Js×Obj)}{σ:St}{H H':Hp}{s:JB}{b:Js}(I:Inv X MC σ H s)(a:s.heap.objs.size<=b)(f:H' b=Mx):kU X MC H' b:=by
 refine⟨f,AS (zW I.lt a),I.nofs a,.inr (zQ I.sz a),λx c e z=>?_,λp d z=>?_⟩
 .obtain⟨v,q⟩:=I.cell x c e;exact MG (zW q.lt (by rw[z];exact a)) (CD _)
 .exact MG (zW (Jt.lt_size (I.pin p d).1) (by rw[z];exact a)) (CD _)
structure Turn(P:Jr)(w:Jq)(K:W.Frag)(tg:JH)(J:It)(fp:List Js)(it:Js)(tn:Nat->Jt->Prop):Prop where
 mem:it∈fp
 obj:∀i h,tn i h->∀b∈fp,∃o,h.get? b=Mw o/\∀v,o.data≠.cell v
 keep:∀i h h',tn i h->(∀b∈fp,∀o,h.get? b=Mw o->h'.get? b=Mw o)->tn i h'
 item:∀(X:Cx),X.prog=P->X.w=w->X.K=K->X.calm=Mz->∀(i:Nat)(MC:List (Js×Obj))(s:JB)(σ:St)(H:Hp)(E:Jp->JB->Prop),Inv X MC σ H s->(∀b∈fp,kU X MC H b)->tn i s.heap->J.go i H ->
  JF (model P w) X.A (Kb (.ref it)) (λr s1=>∃u,r=Mw u /\
   JF (model P w) X.A (Kc tg (.ref it) u) (λ_ s2=>∃x H',Inv X MC σ H' s2/\RelV x u/\J.yld i H x H'/\tn (i+1) s2.heap/\∀b∈fp,H' b=Mx) E s1) E s
 done:∀(X:Cx),X.prog=P->X.w=w->X.K=K->X.calm=Mz->∀(i:Nat)(MC:List (Js×Obj))(s:JB)(σ:St)(H:Hp)(E:Jp->JB->Prop),Inv X MC σ H s->(∀b∈fp,kU X MC H b)->tn i s.heap->J.stop i H ->
  JF (model P w) X.A (Kb (.ref it)) (λr s1=>r=Mx/\Inv X MC σ H s1) E s
 self:∀(A:JA)(i:Nat)(s:JB)(Q:Jp->JB->Prop)(E:Jp->JB->Prop),tn i s.heap->Q (.ref it) s->JF (model P w) A (Kd (.ref it)) Q E s
abbrev TI:=St->Hp->(It->Hp->Prop)->Prop
def PIE(X:Cx)(MC:List (Js×Obj))(σ:St)(e:JH)(R:It->Hp->Prop)(a:Jp)(s2:JB):Prop :=
 ∃(it:Js)(d:List Js)(c:Nat->Jt->Prop)(J:It)(H':Hp),a=.ref it/\Inv X MC σ H' s2/\Turn X.prog X.w X.K e J d it c/\c 0 s2.heap/\(∀b∈d,kU X MC H' b)/\R J H'
def PI(X:Cx)(c a:JH)(b:TI):Prop :=
 ∀(MC:List (Js×Obj))(s:JB)(σ:St)(H:Hp)(R:It->Hp->Prop),Inv X MC σ H s->b σ H R ->
  JF (model X.prog X.w) X.A (eval a X.env) (λv d=>JF (model X.prog X.w) X.A (Kd v) (PIE X MC σ c R) X.xe d) X.xe s
theorem rf{M:JE}{A:JA}{E:Jp->JB->Prop}{s:JB}{b:JH}{it:Js}{u:Jp}{o:Obj}{n:String}{vs:Array Jp}{Q:Unit->JB->Prop}(c:s.heap.get? it=Mw o)(f:o.cls=.type n)(e:o.data=.fields vs)
  (d:["enumerate","zip","dict_itemiterator","dict_reverseitemiterator","odict_iterator","itertools.zip_longest","itertools.pairwise"].contains n=MA) (a:Q () s):JF M A (Kc b (.ref it) u) Q E s:=by
 unfold Kc
 cases b <;> first
  |exact Jm a
  |(cases u <;> first
    |exact Jm a
    |(refine Jl (wpAny_load c ?_);rw[f,e];show JF M A (if (["enumerate","zip","dict_itemiterator","dict_reverseitemiterator","odict_iterator","itertools.zip_longest","itertools.pairwise"].contains n && vs[0]? == Mw (Ke _))=Mz then _ else _) Q E s;rw[MD (by intro h;rw[d,Bool.false_and]at h;cases h)];exact Jm a))
def Itl(K:W.Frag)(a:Js):It :=
 ⟨λi H=>∃b x,SqL K H a b/\b[i]?=Mw x,λi H x H'=>H'=H/\∀b,SqL K H a b->b[i]?=Mw x,λi H=>∃b,SqL K H a b/\b.length<=i⟩
def Itt(K:W.Frag)(a:Js):It :=
 ⟨λi H=>∃b x,SqT K H a b/\b[i]?=Mw x,λi H x H'=>H'=H/\∀b,SqT K H a b->b[i]?=Mw x,λi H=>∃b,SqT K H a b/\b.length<=i⟩
def Itr(lo:Int)(n:Nat):It:=⟨λi _=>i<n,λi H x H'=>H'=H/\x=.int (lo+i),λi _=>n<=i⟩
theorem vG{P:Jr}{w:Jq}{K:W.Frag}{N:JH}(a it:Js):Turn P w K N (Itl K a) [it] it (λi h=>h.IsListIter it a i) where
 mem:=by simp
 obj:=λi h f b g=>by
  have e:b=it:=by simpa using g
  subst e;obtain⟨o,e,c,d⟩:=f;exact⟨o,e,λv z=>by rw[d]at z;cases z⟩
 keep:=λi h h' f k=>f.at λo e=>k it (by simp) o e
 item:=by
  intro X y r A L i MC s σ H E I m f t;subst y r A;obtain⟨M,x,l,q⟩:=t;obtain⟨J,n,p,R⟩:=I.list l;obtain⟨u,T,Q⟩:=n.get q;obtain⟨G,F,V,D,C,B⟩:=m it (by simp);refine wpAny_pyNext_list_item f p.isList (x:=u) (by simpa using T) λh' j O=>?_
  have Z:Inv X MC σ H { s with heap:=h' }:=I.turned (t':=s.toks) (λb o g e=>(O.2 b g).trans e) G F D C B;obtain⟨o,e,c,d⟩:=id j;exact⟨u,U,rf (s:={ s with heap:=h' }) e c d (by decide) ⟨x,H,Z,Q,⟨U,λys S=>by rw[I.list_inj S l];exact q⟩,j,λb g=>(m b g).1⟩⟩
 done:=by
  intro X y r A L i MC s σ H E I m f t;subst y r A;obtain⟨M,l,q⟩:=t;obtain⟨J,n,p,R⟩:=I.list l;obtain⟨G,F,V,D,C,B⟩:=m it (by simp);have hl:=n.length;exact wpAny_pyNext_list_end (I.ok.hd L) f p.isList (by simp;lia) λh' Y=>⟨U,I.turned (t':=s.toks) (λb o g e=>Y b o g e) G F D C B⟩
 self:=λ_ _ _ _ _ f h=>wpAny_pyIter_listiter f h
theorem tj{P:Jr}{w:Jq}{K:W.Frag}{N:JH}(a it:Js):Turn P w K N (Itt K a) [it] it (λi h=>h.IsTupleIter it a i) where
 mem:=by simp
 obj:=λi h f b g=>by
  have e:b=it:=by simpa using g
  subst e;obtain⟨o,e,c,d⟩:=f;exact⟨o,e,λv z=>by rw[d]at z;cases z⟩
 keep:=λi h h' f k=>f.at λo e=>k it (by simp) o e
 item:=by
  intro X A t B L i MC s σ H E I n f y;subst A t B;obtain⟨M,x,m,r⟩:=y;obtain⟨j,q,p,R⟩:=I.tuple m;obtain⟨u,T,Q⟩:=q.get r;obtain⟨J,G,V,F,D,C⟩:=n it (by simp);refine wpAny_pyNext_tuple_item f (show s.heap.IsTuple a j.toArray from p) (x:=u) (by simpa using T) λh' l O=>?_
  have Z:Inv X MC σ H { s with heap:=h' }:=I.turned (t':=s.toks) (λb o g e=>(O.2 b g).trans e) J G F D C;obtain⟨o,e,c,d⟩:=id l;exact⟨u,U,rf (s:={ s with heap:=h' }) e c d (by decide) ⟨x,H,Z,Q,⟨U,λys S=>by rw[I.tuple_inj S m];exact r⟩,l,λb g=>(n b g).1⟩⟩
 done:=by
  intro X A t B L i MC s σ H E I n f y;subst A t B;obtain⟨M,m,r⟩:=y;obtain⟨j,q,p,R⟩:=I.tuple m;obtain⟨J,G,V,F,D,C⟩:=n it (by simp);have hl:=q.length;exact wpAny_pyNext_tuple_end (I.ok.hd L) f (show s.heap.IsTuple a j.toArray from p) (by simp;lia) λh' Y=>⟨U,I.turned (t':=s.toks) (λb o g e=>Y b o g e) J G F D C⟩
 self:=λ_ _ _ _ _ f h=>wpAny_pyIter_tupleiter f h
theorem tm{P:Jr}{w:Jq}{K:W.Frag}{C:JH}(it:Js)(lo:Int)(n:Nat):Turn P w K C (Itr lo n) [it] it (λi h=>IsRangeIter h it (lo+(i:Nat)*1) ((n:Int)-(i:Nat)) 1) where
 mem:=by simp
 obj:=λi h a b c=>by
  have e:b=it:=by simpa using c
  subst e;exact⟨_,a,λv z=>by
   have B:Data.fields _=Data.cell v:=z;cases B⟩
 keep:=λi h h' a k=>k it (by simp) _ a
 item:=by
  intro X m g p l i MC s σ H E I f a j;subst m g p;obtain⟨y,x,G,u,r,q⟩:=f it (by simp);have W:=Kf.range (prog:=X.prog) (w:=X.w) (I.ok.hd l) it lo 1 n;refine W.item i s _ _ j a λv h' A F d D=>?_
  obtain⟨t,rfl⟩:=F;have L:Inv X MC σ H { s with heap:=h',toks:=A }:=I.turned (λb o c e=>D b o (by simpa using c) e) y x u r q;refine⟨_,U,rf (s:={ s with heap:=h',toks:=A }) (n := "range_iterator") d U U (by decide) ⟨.int (lo+i),H,L,⟨t,?_⟩,⟨U,U⟩,d,λb c=>(f b c).1⟩⟩;rw[Jh]
 done:=by
  intro X m g p l i MC s σ H E I f a j;subst m g p;obtain⟨y,x,G,u,r,q⟩:=f it (by simp);exact wpAny_pyNext_range_end (I.ok.hd l) a (by have:n<=i:=j;lia) λh' J=>⟨U,I.turned (t':=s.toks) (λb o c e=>J b o c e) y x u r q⟩
 self:=λ_ _ _ _ _ a h=>wpAny_pyIter_rangeiter a h
section
variable{tg:JH}
inductive xq(K:W.Frag)(R:It->Hp->Prop)(x:V)(H1:Hp):Prop
 |mk (a:_)(_:x=.ref a)(_:(∃xs,SqL K H1 a xs))(_:R (Itl K a) H1)
def C1(K:W.Frag)(a:TE):TI:=λσ H R=>a σ H λx b=>xq K R x b
inductive AU(K:W.Frag)(R:It->Hp->Prop)(x:V)(H1:Hp):Prop
 |mk (a:_)(_:x=.ref a)(_:(∃xs,SqT K H1 a xs))(_:R (Itt K a) H1)
def EL(K:W.Frag)(a:TE):TI:=λσ H R=>a σ H λx b=>AU K R x b
theorem aW{l:JH}{f:TE}(k:PE X l f):PI X tg l (C1 X.K f):=by
 intro MC s σ H R I h;refine thn (k MC s σ H _ I h) λv c ⟨x,n,d,g,i⟩=>?_
 obtain⟨a,e,⟨t,j⟩,q⟩:=i;subst e;cases g;obtain⟨r,u,p,w⟩:=d.list j;refine Kg p.isList ?_;refine⟨c.heap.objs.size,[c.heap.objs.size],_,_,n,U,d.kept (t':=c.toks) λb o e=>Jt.get?_push_of_some _ e,vG a _,⟨_,Jt.get?_push_size _ U,U,U⟩,λb m=>?_,q⟩;have e:b=c.heap.objs.size:=by simpa using m
 subst e;exact d.fpOk (zz _) (d.hok.fresh (zz _))
theorem tq{l:JH}{g:TE}(m:PE X l g):PI X tg l (EL X.K g):=by
 intro MC s σ H R I h;refine thn (m MC s σ H _ I h) λv c ⟨x,r,d,i,j⟩=>?_
 obtain⟨a,e,⟨t,k⟩,q⟩:=j;subst e;cases i;obtain⟨f,u,p,w⟩:=d.tuple k;refine wpAny_pyIter_tuple (show c.heap.IsTuple a f.toArray from p) ?_;refine⟨c.heap.objs.size,[c.heap.objs.size],_,_,r,U,d.kept (t':=c.toks) λb o e=>Jt.get?_push_of_some _ e,tj a _,⟨_,Jt.get?_push_size _ U,U,U⟩,λb n=>?_,q⟩;have e:b=c.heap.objs.size:=by simpa using n
 subst e;exact d.fpOk (zz _) (d.hok.fresh (zz _))
theorem rg{MC:List (Js×Obj)}{σ:St}{H:Hp}{s:JB}{R:It->Hp->Prop}{E:Jp->JB->Prop}{lo hi:Int}{t u v:Tok}{a:Nat}(I:Inv X MC σ H s)(i : -(2^62)<=lo)(h:lo<2^62)(g : -(2^62)<=hi)(f:hi<2^62)
  (q:R (Itr lo (hi-lo).toNat) H):JF (model X.prog X.w) X.A (Kd (.ref s.heap.objs.size)) (PIE X MC σ tg R) E { s with heap:=s.heap.push { cls:=.type "range",data:=.fields #[.int lo t,.int hi u,.int 1 v] },toks:=a }:=by
 refine wpAny_pyIter_range (IsRange.new ..) (small_one i h g f) ?_;have c:Inv X MC σ H { s with heap:=s.heap.push { cls:=.type "range",data:=.fields #[.int lo t,.int hi u,.int 1 v] },toks:=a }:=I.kept λb o e=>Jt.get?_push_of_some _ e
 refine⟨(s.heap.push { cls:=.type "range",data:=.fields #[.int lo t,.int hi u,.int 1 v] }).objs.size,[(s.heap.push { cls:=.type "range",data:=.fields #[.int lo t,.int hi u,.int 1 v] }).objs.size],_,_,H,U,
  c.kept (t':=a) λb o e=>Jt.get?_push_of_some _ e,tm _ lo (hi-lo).toNat,?_,λb d=>?_,q⟩
 .have k:lo+((0:Nat):Int)*1=lo:=by simp
  have j:(((hi-lo).toNat:Nat):Int)-((0:Nat):Int)=Kh.Range.rangeSize lo hi 1:=by rw[rangeSize_one];split <;> lia
  show IsRangeIter _ _ (lo+((0:Nat):Int)*1) ((((hi-lo).toNat:Nat):Int)-((0:Nat):Int)) 1;rw[k,j];exact Jt.get?_push_size _ U
 .have e:b=(s.heap.push { cls:=.type "range",data:=.fields #[.int lo t,.int hi u,.int 1 v] }).objs.size:=by simpa using d
  subst e;exact c.fpOk (zz _) (c.hok.fresh (zz _))
inductive xr  (R:It->Hp->Prop)(vs:List V)(H1:Hp):Prop
 |mk (j:Int)(_:vs=[.int j])(_ : -(2^62)<=j)(_:j<2^62)(_:R (Itr 0 j.toNat) H1):xr R vs H1
def C2(ta:TA):TI:=λσ H R=>ta σ H λa b=>xr R a b
inductive xt  (R:It->Hp->Prop)(vs:List V)(H1:Hp):Prop
 |mk (i j:Int)(_:vs=[.int i,.int j])(_:(-(2^62)<=i/\i<2^62/\-(2^62)<=j/\j<2^62))(_:R (Itr i (j-i).toNat) H1):xt R vs H1
def C3(ta:TA):TI:=λσ H R=>ta σ H λa b=>xt R a b
theorem aV{a:JH}{ta:TA}{p pos:Pos}(i:Gl X "range") (hm:X.mg "range" = Mx) (k:PA X [a] ta)(g:JK [a] X.env=[(MA,eval a X.env)]:=by rfl):PI X tg (.Call (.Name "range" p) [a] [] pos) (C2 ta):=by
 intro MC s σ H R I h;refine Call_ (fb I i hm boot_range (PyProof.Rows.callWith_type1 (thn (k pos MC s σ H _ I h) λn o ⟨m,u,l,d,b⟩=>?_) g U));obtain⟨j,e,b,f,q⟩:=b;subst e;cases d with
 |cons r c =>
  cases c;obtain⟨t,rfl⟩:=r;exact call_range_1 (rg l (by lia) (by lia) b f (by simpa using q))
theorem vH{a b:JH}{ta:TA}{p pos:Pos}(u:Gl X "range") (hm:X.mg "range" = Mx) (v:PA X [a,b] ta)(o:JK [a,b] X.env=[(MA,eval a X.env),(MA,eval b X.env)]:=by rfl)(c:JK [b] X.env=[(MA,eval b X.env)]:=by rfl) :
  PI X tg (.Call (.Name "range" p) [a,b] [] pos) (C3 ta):=by
 intro MC s σ H R I h;refine Call_ (fb I u hm boot_range (PyProof.Rows.callWith_type1 (thn (v pos MC s σ H _ I h) λy A ⟨x,B,w,g,f⟩=>?_) (by rw[o,c]) (by rw[c];rfl)));obtain⟨i,j,e,⟨f,n,m,l⟩,q⟩:=f;subst e;cases g with
 |cons r d =>
  cases d with
  |cons k d =>
   cases d;obtain⟨t,rfl⟩:=r;obtain⟨z,rfl⟩:=k;exact call_range_2 (rg w f n m l q)
def EM(d:TI)(g:TG)(tb:TS):TS:=λD σ H=>d σ H λJ f=>∃W:Nat->Nat->St->Hp->Prop,(∃m,W 0 m σ f)/\∀i m σ H,W i m σ H ->
 (J.stop i H/\D.nx σ H)\/(J.go i H/\∃N:St->Hp->Prop,(∀a H',N a H'->∃c,c<m/\W (i+1) c a H')/\∀x H',J.yld i H x H'->g x σ H' λb e=>tb { D with nx:=N,ct:=N,bk:=D.nx } b e)
def kW(a:List Js)(h:Jt):List (Js×Obj):=a.filterMap λb=>(h.get? b).map λo=>(b,o)
theorem dQ{a:List Js}{h:Jt}{b:Js}{o:Obj}(c:b∈a)(e:h.get? b=Mw o):(b,o)∈kW a h:=List.mem_filterMap.mpr ⟨b,c,by rw[e];rfl⟩
theorem vI{a:List Js}{h:Jt}{p:Js×Obj}(c:p∈kW a h):p.1∈a/\h.get? p.1=Mw p.2:=by
 obtain⟨b,d,e⟩:=List.mem_filterMap.mp c;cases q:h.get? b with
 |none=>rw[q]at e;cases e
 |some o =>
  rw[q]at e;have f:(b,o)=p:=Option.some.inj e;subst f;exact⟨d,q⟩
theorem Inv.pinned{MC:List (Js×Obj)}{σ:St}{H:Hp}{s:JB}{a:List Js}(I:Inv X MC σ H s)(i:∀b∈a,kU X MC H b)(h:∀b∈a,∃o,s.heap.get? b=Mw o/\∀v,o.data≠.cell v):Inv X (MC++kW a s.heap) σ H s :=
 I.pins_of λp g=>(ik.mp g).elim (λz=>I.pin p (jy _ z)) λz=>by
  obtain⟨c,e⟩:=vI z;obtain⟨l,k,j,_⟩:=i p.1 c;obtain⟨o,f,d⟩:=h p.1 c;rw[e]at f;cases f;exact⟨e,l,k,j,d⟩
theorem Inv.unpinned{MC pl:List (Js×Obj)}{σ:St}{H:Hp}{s:JB}(I:Inv X (MC++pl) σ H s):Inv X MC σ H s:=I.pins_of λp a=>I.pin p (jy _ (lg _ a))
theorem bc{q:JH}{body:List JL}{Y:TI}{g:TG}{tb:TS}{pos:Pos}(B:JZ (model X.prog X.w) X.A X.env X.xe)(hc:X.calm=Mz)(hi:PI X tg q Y)(hg:PG X tg g)(c:PSs X body tb)
  (hs:∀x,Ki q X.env x=pure x:=by intro _;rfl):PS X (.For tg q body [] pos) (EM Y g tb):=by
 intro MC s σ H D I h;refine wpAny_For (thn (hi MC s σ H _ I h) λv s1 h1=>thn h1 λa0 s2 h2=>?_) hs;obtain⟨it,C,Z,J,H2,e,I2,T,R,f2,W,⟨m0,w0⟩,G⟩:=h2;subst e;have P:∀{H':Hp},(∀b∈C,H' b=Mx)->∀b∈C,kU X MC H' b:=λhn b c=>⟨hn b c,(f2 b c).2⟩
 refine codeAny_forLoop_any (λn s'=>∃i p H',Inv X MC p H' s'/\Z i s'.heap/\(∀b∈C,H' b=Mx)/\W i n p H') ?_ m0 ⟨0,σ,H2,I2,R,λb c=>(f2 b c).1,w0⟩;rintro n s3 ⟨i,l,L,I3,E,F,w3⟩;rcases G i n l L w3 with⟨K,qn⟩|⟨go,N,hN,step⟩
 .refine Ka B (thn (T.done X U U U hc i MC s3 l L X.xe I3 (P F) E K) λr s4 ⟨O,I4⟩=>?_);subst O;exact JS ⟨l,L,I4,qn⟩
 .refine Ka B (thn (T.item X U U U hc i MC s3 l L X.xe I3 (P F) E go) λr s4 ⟨u,O,h4⟩=>?_);subst O;refine Ka B (thn h4 λ_ s5 ⟨x,H5,I5,r5,y5,y,S⟩=>?_);have V:=I5.pinned (P S) (T.obj _ _ y);refine Ka B (thn (hg _ s5 l H5 x u _ V r5 (step x H5 y5)) λ_ s6 ⟨Q,H6,I6,q6⟩=>?_);refine Ka B (thn (c _ s6 Q H6 _ I6 q6) λf M t=>?_);have again:∀{a:St}{k:Hp},Inv X (MC++kW C s5.heap) a k M->N a k->∃m,m<n/\∃i p H',Inv X MC p H' M/\Z i M.heap/\(∀b∈C,H' b=Mx)/\W i m p H':=λ{a k} j z=>by
   obtain⟨m',hm,w7⟩:=hN a k z;refine⟨m',hm,i+1,a,k,j.unpinned,T.keep _ _ _ y λb c o e=>(j.pin (b,o) (jy _ (jy _ (dQ c e)))).1,λb c=>?_,w7⟩;obtain⟨o,e,d⟩:=T.obj _ _ y b c;exact(j.pin (b,o) (jy _ (jy _ (dQ c e)))).2.1
  cases f with
  |next=>obtain⟨a,k,j,z⟩:=t;exact again j z
  |cont=>obtain⟨a,k,j,z⟩:=t;exact again j z
  |brk=>obtain⟨a,k,j,t⟩:=t;exact⟨a,k,j.unpinned,t⟩
  |ret v=>obtain⟨x7,a,k,j,r7,t⟩:=t;exact⟨x7,a,k,j.unpinned,r7,t⟩
end
theorem bL{K:W.Frag}{a:Js}{xs:List V}{g:TG}{tb:TS}{D:Ends}{σ:St}{H:Hp}(b:Nat->St->Hp->Prop)(r:b 0 σ H)(n:∀i σ H,i<=xs.length->b i σ H->SqL K H a xs)
  (l:∀i x σ H,xs[i]?=Mw x->b i σ H->g x σ H λc h=>tb { D with nx:=b (i+1),ct:=b (i+1),bk:=D.nx } c h)(o:∀σ H,b xs.length σ H->D.nx σ H) :
  ∃W:Nat->Nat->St->Hp->Prop,(∃m,W 0 m σ H)/\∀i m σ H,W i m σ H ->
   ((Itl K a).stop i H/\D.nx σ H)\/((Itl K a).go i H/\∃N:St->Hp->Prop,(∀d H',N d H'->∃j,j<m/\W (i+1) j d H')/\∀x H',(Itl K a).yld i H x H'->g x σ H' λc h=>tb { D with nx:=N,ct:=N,bk:=D.nx } c h):=by
 refine⟨λi m σ H=>m=xs.length-i/\i<=xs.length/\b i σ H,⟨xs.length,by simp,Az _,r⟩,?_⟩;rintro i m σ H ⟨rfl,hi,p⟩;have q:=n i σ H hi p;by_cases f:i<xs.length
 .refine .inr ⟨⟨xs,xs[i],q,by simp[f]⟩,b (i+1),λd H' k=>⟨xs.length-(i+1),by lia,U,f,k⟩,λx H' y=>?_⟩;obtain⟨e,y⟩:=y;subst e;exact l i x σ _ (y xs q) p
 .have e:i=xs.length:=by lia
  subst e;exact .inl ⟨⟨xs,q,zz _⟩,o σ H p⟩
theorem uT{K:W.Frag}{a:Js}{xs:List V}{g:TG}{tb:TS}{D:Ends}{σ:St}{H:Hp}(b:Nat->St->Hp->Prop)(r:b 0 σ H)(n:∀i σ H,i<=xs.length->b i σ H->SqT K H a xs)
  (l:∀i x σ H,xs[i]?=Mw x->b i σ H->g x σ H λc h=>tb { D with nx:=b (i+1),ct:=b (i+1),bk:=D.nx } c h)(o:∀σ H,b xs.length σ H->D.nx σ H) :
  ∃W:Nat->Nat->St->Hp->Prop,(∃m,W 0 m σ H)/\∀i m σ H,W i m σ H ->
   ((Itt K a).stop i H/\D.nx σ H)\/((Itt K a).go i H/\∃N:St->Hp->Prop,(∀d H',N d H'->∃j,j<m/\W (i+1) j d H')/\∀x H',(Itt K a).yld i H x H'->g x σ H' λc h=>tb { D with nx:=N,ct:=N,bk:=D.nx } c h):=by
 refine⟨λi m σ H=>m=xs.length-i/\i<=xs.length/\b i σ H,⟨xs.length,by simp,Az _,r⟩,?_⟩;rintro i m σ H ⟨rfl,hi,p⟩;have q:=n i σ H hi p;by_cases f:i<xs.length
 .refine .inr ⟨⟨xs,xs[i],q,by simp[f]⟩,b (i+1),λd H' k=>⟨xs.length-(i+1),by lia,U,f,k⟩,λx H' y=>?_⟩;obtain⟨e,y⟩:=y;subst e;exact l i x σ _ (y xs q) p
 .have e:i=xs.length:=by lia
  subst e;exact .inl ⟨⟨xs,q,zz _⟩,o σ H p⟩
theorem bR{lo:Int}{n:Nat}{g:TG}{tb:TS}{D:Ends}{σ:St}{H:Hp}(a:Nat->St->Hp->Prop)(o:a 0 σ H)
  (k:∀i σ H,i<n->a i σ H->g (.int (lo+i)) σ H λb f=>tb { D with nx:=a (i+1),ct:=a (i+1),bk:=D.nx } b f)(l:∀σ H,a n σ H->D.nx σ H) :
  ∃W:Nat->Nat->St->Hp->Prop,(∃m,W 0 m σ H)/\∀i m σ H,W i m σ H ->
   ((Itr lo n).stop i H/\D.nx σ H)\/((Itr lo n).go i H/\∃N:St->Hp->Prop,(∀c H',N c H'->∃h,h<m/\W (i+1) h c H')/\∀x H',(Itr lo n).yld i H x H'->g x σ H' λb f=>tb { D with nx:=N,ct:=N,bk:=D.nx } b f):=by
 refine⟨λi m σ H=>m=n-i/\i<=n/\a i σ H,⟨n,by simp,Az _,o⟩,?_⟩;rintro i m σ H ⟨rfl,hi,p⟩;by_cases d:i<n
 .refine .inr ⟨d,a (i+1),λc H' j=>⟨n-(i+1),by lia,U,d,j⟩,λx H' y=>?_⟩;obtain⟨e,y⟩:=y;subst e y;exact k i σ _ d p
 .have e:i=n:=by lia
  subst e;exact .inl ⟨zz _,l σ H p⟩
abbrev R2:=V->V->Hp->VK->Prop
def OpR(X:Cx)(f:Jp->Jp->Sem Jp)(r:R2):Prop :=
 ∀(MC:List (Js×Obj))(s:JB)(σ:St)(H:Hp)(x y:V)(v u:Jp)(Q:VK),Inv X MC σ H s->RelV x v->RelV y u->r x y H Q ->
  JF (model X.prog X.w) X.A (f v u) (EP X MC σ Q) X.xe s
def UnR(X:Cx)(f:Jp->Sem Jp)(r:V->Hp->VK->Prop):Prop :=
 ∀(MC:List (Js×Obj))(s:JB)(σ:St)(H:Hp)(x:V)(v:Jp)(Q:VK),Inv X MC σ H s->RelV x v->r x H Q ->
  JF (model X.prog X.w) X.A (f v) (EP X MC σ Q) X.xe s
def cF(X:Cx)(f:Jp)(r:List V->Hp->VK->Prop):Prop :=
 ∀(MC:List (Js×Obj))(s:JB)(σ:St)(H:Hp)(a:List V)(b:List Jp)(Q:VK),Inv X MC σ H s->Vals a b->r a H Q ->
  JF (model X.prog X.w) X.A (call f b) (EP X MC σ Q) X.xe s
def EN(X:Cx)(r:V->Hp->(Bool->Hp->Prop)->Prop):Prop :=
 ∀(MC:List (Js×Obj))(s:JB)(σ:St)(H:Hp)(x:V)(v:Jp)(Q:Bool->Hp->Prop),Inv X MC σ H s->RelV x v->r x H Q ->
  JF (model X.prog X.w) X.A (truthy v) (TP X MC σ Q) X.xe s
def tOp(r:R2)(ta tb:TE):TE:=λσ H Q=>ta σ H λx b=>tb σ b λy a=>r x y a Q
def tUn(r:V->Hp->VK->Prop)(ta:TE):TE:=λσ H Q=>ta σ H λx a=>r x a Q
inductive rI(C:Int->Int->Prop)(g:Int->Int->V)(x:V)(y:V)(H:Hp)(Q:VK):Prop
 |mk (i j:_)(_:x=.int i)(_:y=.int j)(_:C i j)(_:Q (g i j) H)
inductive rI0(g:Int->Int->V)(x:V)(y:V)(H:Hp)(Q:VK):Prop
 |mk (i j:_)(_:x=.int i)(_:y=.int j)(_:Q (g i j) H)
inductive rU(g:Int->V)(x:V)(H:Hp)(Q:VK):Prop
 |mk (i:_)(_:x=.int i)(_:Q (g i) H)
section
variable{a b c:JH}{tc:TE}
theorem BB(o:PE X a ta)(n:PE X b tb){MC:List (Js×Obj)}{s:JB}{σ:St}{H:Hp}{R:V->V->Hp->Prop}(I:Inv X MC σ H s)
  (h:ta σ H λx g=>tb σ g λy c=>R x y c){Q:Jp->JB->Prop}{f:Jp->Jp->Sem Jp}
  (hf:∀v u s2 x y c,Inv X MC σ c s2->RelV x v->RelV y u->R x y c->JF (model X.prog X.w) X.A (f v u) Q X.xe s2) :
  JF (model X.prog X.w) X.A (eval a X.env) (λv e=>JF (model X.prog X.w) X.A (eval b X.env) (λu d=>JF (model X.prog X.w) X.A (f v u) Q X.xe d) X.xe e) X.xe s:=by
 refine thn (o MC s σ H _ I h) λv i ⟨x,g,q,k,m⟩=>?_
 refine thn (n MC i σ g _ q m) λu s2 ⟨y,c,p,j,l⟩=>?_
 exact hf v u s2 x y c p k j l
theorem av{op:JW}{r:R2}(e:OpR X (Kj op) r)(g:PE X a ta)(f:PE X b tb):PE X (.BinOp a op b pos) (tOp r ta tb):=by
 intro MC s σ H Q I h;exact wpAny_BinOp (BB g f I h λv u s2 x y j i d c q=>e MC s2 σ j x y v u Q i d c q)
theorem jn{op:UnaryOp}{r:V->Hp->VK->Prop}(e:UnR X (unaryOp op) r)(f:PE X a ta):PE X (.UnaryOp op a pos) (tUn r ta):=by
 intro MC s σ H Q I h;exact UnaryOp_ (thn (f MC s σ H _ I h) λv b ⟨x,i,g,c,d⟩=>e MC b σ i x v Q g c d)
theorem opI{f:Jp->Jp->Sem Jp}{C:Int->Int->Prop}{g:Int->Int->Int}
  (rule:∀(i j:Int)(t u:Tok)(s:JB)(Q:Jp->JB->Prop)(E:Jp->JB->Prop),C i j->Q (.int (g i j) s.toks) { s with toks:=s.toks+1 }->JF (model X.prog X.w) X.A (f (.int i t) (.int j u)) Q E s) :
  OpR X f (rI C λi j=>.int (g i j)):=by
 intro MC s σ H x y v u Q I c b h;obtain⟨i,j,rfl,rfl,d,q⟩:=h;obtain⟨t,rfl⟩:=c;obtain⟨a,rfl⟩:=b;exact rule i j t a s _ _ d ⟨.int (g i j),H,I.tok _,⟨_,U⟩,q⟩
theorem zF{f:Jp->Jp->Sem Jp}{g:Int->Int->Int}
  (rule:∀(i j:Int)(t u:Tok)(s:JB)(Q:Jp->JB->Prop)(E:Jp->JB->Prop),Q (.int (g i j) s.toks) { s with toks:=s.toks+1 }->JF (model X.prog X.w) X.A (f (.int i t) (.int j u)) Q E s) :
  OpR X f (rI0 λi j=>.int (g i j)):=by
 intro MC s σ H x y v u Q I c b h;obtain⟨i,j,rfl,rfl,q⟩:=h;obtain⟨t,rfl⟩:=c;obtain⟨a,rfl⟩:=b;exact rule i j t a s _ _ ⟨.int (g i j),H,I.tok _,⟨_,U⟩,q⟩
theorem zG{f:Jp->Jp->Sem Jp}{g:Int->Int->Bool}
  (rule:∀(i j:Int)(t u:Tok)(s:JB)(Q:Jp->JB->Prop)(E:Jp->JB->Prop),Q (.bool (g i j)) s->JF (model X.prog X.w) X.A (f (.int i t) (.int j u)) Q E s) :
  OpR X f (rI0 λi j=>.bl (g i j)):=by
 intro MC s σ H x y v u Q I c b h;obtain⟨i,j,rfl,rfl,q⟩:=h;obtain⟨t,rfl⟩:=c;obtain⟨a,rfl⟩:=b;exact rule i j t a s _ _ ⟨.bl (g i j),H,I,U,q⟩
def EO(i j:Int):Prop:=0<j/\j<1073741824
def C4(i j:Int):Prop:=0<=j/\j<=1000000/\i.natAbs<2^64
def zH(i j:Int):Prop:=(-(2^64)<i/\i<2^64)\/(-(2^64)<j/\j<2^64)
theorem zH.ok{i j:Int}(h:zH i j):Kk i j:=by
 rcases h with⟨b,a⟩|⟨b,a⟩
 .exact .of_left (Kl b a)
 .exact .of_right (Kl b a)
theorem tD(k:Nat):(0:Int)<=2^k:=by
 rw[two_pow_cast];exact Int.natCast_nonneg _
theorem bJ:OpR X (Kj .Add) (rI0 λi j=>.int (i+j)):=zF λ_ _ _ _ _ _ _ q=>add_int q
theorem b7:OpR X (Kj .Sub) (rI0 λi j=>.int (i-j)):=zF λ_ _ _ _ _ _ _ q=>sub_int q
theorem fP:OpR X (Kj .Mult) (rI zH λi j=>.int (i*j)):=opI λ_ _ _ _ _ _ _ a q=>mul_int q a.ok
theorem bP:OpR X (Kj .FloorDiv) (rI EO λi j=>.int (i / j)):=opI λi j _ _ _ _ _ a q=>by
 have c:(0:Int)<j:=a.1;have b:j<1073741824:=a.2;exact floordiv_int (by lia) (by rw[Int.fdiv_eq_ediv_of_nonneg i (by lia)];exact q) (.inl (PyProof.noPylong_small (by lia)))
theorem aR:OpR X (Kj .Mod) (rI (λ_ j=>0<j) λi j=>.int (i%j)):=opI λi j _ _ _ _ _ a q=>by
 have b:(0:Int)<j:=a;exact mod_int' (by lia) (by rw[Int.fmod_eq_emod_of_nonneg i (by lia)];exact q)
theorem ij:OpR X (Kj .Pow) (rI C4 λi j=>.int (i^j.toNat)):=opI λ_ _ _ _ _ _ _ a q=>pow_int_small a.1 a.2.1 a.2.2 q
theorem qi:OpR X (Kj .LShift) (rI C4 λi j=>.int (i*2^j.toNat)):=opI λ_ _ _ _ _ _ _ a q=>lshift_int_small a.1 a.2.1 a.2.2 q
theorem tE:OpR X (Kj .RShift) (rI (λ_ j=>0<=j) λi j=>.int (i / 2^j.toNat)):=opI λi j _ _ _ _ _ a q =>
 rshift_int a (by rw[Int.fdiv_eq_ediv_of_nonneg i (tD _)];exact q)
theorem tF:OpR X (Kj .BitAnd) (rI0 λi j=>.int (Kh.bitAnd i j)):=zF λ_ _ _ _ _ _ _ q=>and_int q
theorem BC:OpR X (Kj .BitXor) (rI0 λi j=>.int (Kh.bitXor i j)):=zF λ_ _ _ _ _ _ _ q=>xor_int q
theorem unI{f:Jp->Sem Jp}{g:Int->Int}
  (rule:∀(i:Int)(t:Tok)(s:JB)(Q:Jp->JB->Prop)(E:Jp->JB->Prop),Q (.int (g i) s.toks) { s with toks:=s.toks+1 }->JF (model X.prog X.w) X.A (f (.int i t)) Q E s) :
  UnR X f (rU λi=>.int (g i)):=by
 intro MC s σ H x v Q I a h;obtain⟨i,rfl,q⟩:=h;obtain⟨t,rfl⟩:=a;exact rule i t s _ _ ⟨.int (g i),H,I.tok _,⟨_,U⟩,q⟩
theorem fQ:UnR X (unaryOp .USub) (rU λi=>.int (-i)):=unI λ_ _ _ _ _ q=>neg_int q
end
def C5:V->V->Bool
 | .non,.non=>Mz | .non,.int _=>Mz | .int _,.non=>Mz | .non,.bl _=>Mz | .bl _,.non=>Mz | .non,.str _=>Mz | .str _,.non=>Mz
 | .int _,.int _=>Mz | .bl _,.bl _=>Mz | .str _,.str _=>Mz | .byt _,.byt _=>Mz
 | .int _,.str _=>Mz | .str _,.int _=>Mz | .bl _,.str _=>Mz | .str _,.bl _=>Mz
 |_,_=>MA
def rEq:R2:=λx y H Q=>C5 x y=Mz/\Q (.bl (MB (x=y))) H
def rNe:R2:=λx y H Q=>C5 x y=Mz/\Q (.bl (!MB (x=y))) H
theorem uU{i j:Int}:decide (V.int i=V.int j)=(i == j):=by
 rw[Bool.eq_iff_iff];simp
theorem xu{i j:Bool}:decide (V.bl i=V.bl j)=(i == j):=by
 rw[Bool.eq_iff_iff];simp
theorem uV{i j:Str}:decide (V.str i=V.str j)=(i == j):=by
 rw[Bool.eq_iff_iff];simp
theorem uW{i j:Array UInt8}:decide (V.byt i=V.byt j)=(i.toList == j.toList):=by
 rw[Bool.eq_iff_iff];cases i;cases j;simp
section
variable{a b c:JH}{tc:TE}
theorem bj{MC:List (Js×Obj)}{σ:St}{H:Hp}{s:JB}{Q:VK}{k a:Bool}(I:Inv X MC σ H s)(q:Q (.bl k) H)(e:k=a):EP X MC σ Q (.bool a) s:=by
 subst e;exact⟨.bl k,H,I,U,q⟩
theorem bA:OpR X (Km .Eq) rEq:=by
 intro MC s σ H x y v u Q I d a h;obtain⟨c,q⟩:=h;cases x with
 |non =>
  cases d;cases y with
  |non=>cases a;exact PySem.EqNone.eq_none_none (bj I q (by simp))
  |bl j=>cases a;exact PySem.EqNone.eq_none_bool (bj I q (by simp))
  |int j=>obtain⟨b,rfl⟩:=a;exact PySem.EqNone.eq_none_int (bj I q (by simp))
  |str j=>obtain⟨b,rfl⟩:=a;exact PySem.EqNone.eq_none_str (bj I q (by simp))
  |_=>exact MG (show MA=Mz from c) Bool.false_ne_true
 |bl i =>
  cases d;cases y with
  |non=>cases a;exact PySem.EqNone.eq_bool_none (bj I q (by simp))
  |bl j=>cases a;exact eq_bool (bj I q xu)
  |str j=>obtain⟨b,rfl⟩:=a;exact PySem.EqMixed.eq_bool_str (bj I q (by simp))
  |_=>exact MG (show MA=Mz from c) Bool.false_ne_true
 |int i =>
  obtain⟨t,rfl⟩:=d;cases y with
  |non=>cases a;exact PySem.EqNone.eq_int_none (bj I q (by simp))
  |int j=>obtain⟨b,rfl⟩:=a;exact eq_int (bj I q uU)
  |str j=>obtain⟨b,rfl⟩:=a;exact PySem.EqMixed.eq_int_str (bj I q (by simp))
  |_=>exact MG (show MA=Mz from c) Bool.false_ne_true
 |str i =>
  obtain⟨t,rfl⟩:=d;cases y with
  |non=>cases a;exact PySem.EqNone.eq_str_none (bj I q (by simp))
  |bl j=>cases a;exact PySem.EqMixed.eq_str_bool (bj I q (by simp))
  |int j=>obtain⟨b,rfl⟩:=a;exact PySem.EqMixed.eq_str_int (bj I q (by simp))
  |str j=>obtain⟨b,rfl⟩:=a;exact eq_str (bj I q uV)
  |_=>exact MG (show MA=Mz from c) Bool.false_ne_true
 |byt i =>
  obtain⟨t,rfl⟩:=d;cases y with
  |byt j=>obtain⟨b,rfl⟩:=a;exact W.eq_bytes (bj I q uW)
  |_=>exact MG (show MA=Mz from c) Bool.false_ne_true
 |_=>cases y <;> exact MG (show MA=Mz from c) Bool.false_ne_true
theorem lQ:OpR X (Km .NotEq) rNe:=by
 intro MC s σ H x y v u Q I d a h;obtain⟨c,q⟩:=h;cases x with
 |non =>
  cases d;cases y with
  |non=>cases a;exact PySem.EqNone.ne_none_none (bj I q (by simp))
  |bl j=>cases a;exact PySem.EqNone.ne_none_bool (bj I q (by simp))
  |int j=>obtain⟨b,rfl⟩:=a;exact PySem.EqNone.ne_none_int (bj I q (by simp))
  |str j=>obtain⟨b,rfl⟩:=a;exact PySem.EqNone.ne_none_str (bj I q (by simp))
  |_=>exact MG (show MA=Mz from c) Bool.false_ne_true
 |bl i =>
  cases d;cases y with
  |non=>cases a;exact PySem.EqNone.ne_bool_none (bj I q (by simp))
  |bl j=>cases a;exact ne_bool (bj I q (MK not xu))
  |str j=>obtain⟨b,rfl⟩:=a;exact PySem.EqMixed.ne_bool_str (bj I q (by simp))
  |_=>exact MG (show MA=Mz from c) Bool.false_ne_true
 |int i =>
  obtain⟨t,rfl⟩:=d;cases y with
  |non=>cases a;exact PySem.EqNone.ne_int_none (bj I q (by simp))
  |int j=>obtain⟨b,rfl⟩:=a;exact ne_int (bj I q (MK not uU))
  |str j=>obtain⟨b,rfl⟩:=a;exact PySem.EqMixed.ne_int_str (bj I q (by simp))
  |_=>exact MG (show MA=Mz from c) Bool.false_ne_true
 |str i =>
  obtain⟨t,rfl⟩:=d;cases y with
  |non=>cases a;exact PySem.EqNone.ne_str_none (bj I q (by simp))
  |bl j=>cases a;exact PySem.EqMixed.ne_str_bool (bj I q (by simp))
  |int j=>obtain⟨b,rfl⟩:=a;exact PySem.EqMixed.ne_str_int (bj I q (by simp))
  |str j=>obtain⟨b,rfl⟩:=a;exact ne_str (bj I q (MK not uV))
  |_=>exact MG (show MA=Mz from c) Bool.false_ne_true
 |byt i =>
  obtain⟨t,rfl⟩:=d;cases y with
  |byt j=>obtain⟨b,rfl⟩:=a;exact W.ne_bytes (bj I q (MK not uW))
  |_=>exact MG (show MA=Mz from c) Bool.false_ne_true
 |_=>cases y <;> exact MG (show MA=Mz from c) Bool.false_ne_true
theorem iq:OpR X (Km .Lt) (rI0 λi j=>.bl (MB (i<j))):=zG λ_ _ _ _ _ _ _ q=>lt_int q
theorem fD:OpR X (Km .LtE) (rI0 λi j=>.bl (MB (i<=j))):=zG λ_ _ _ _ _ _ _ q=>le_int q
theorem kj:OpR X (Km .Gt) (rI0 λi j=>.bl (MB (j<i))):=zG λ_ _ _ _ _ _ _ q=>gt_int q
theorem C6:OpR X (Km .GtE) (rI0 λi j=>.bl (MB (j<=i))):=zG λ_ _ _ _ _ _ _ q=>ge_int q
theorem zI:OpR X (Km .IsNot) (λx y H Q=>y=.non/\Q (.bl (!MB (x=.non))) H):=by
 intro MC s σ H x y v u Q I a b h;obtain⟨rfl,q⟩:=h;cases b;refine isnot_none_gen (bj I q ?_)
 cases x <;> first
  |(cases a;rfl)
  |(obtain⟨t,rfl⟩:=a;rfl)
theorem qj:OpR X (Km .NotIn) (λx y H Q=>∃i j,x=.str i/\y=.str j/\Q (.bl (!(!(Kh.Str.occurrences j i 0 j.length 1).isEmpty))) H):=by
 intro MC s σ H x y v u Q I b a h;obtain⟨i,j,rfl,rfl,q⟩:=h;obtain⟨t,rfl⟩:=b;obtain⟨c,rfl⟩:=a;exact notIn_str (bj I q U)
theorem aH(b:JH){op:Kn}(h:op≠.In:=by decide)(a:op≠.NotIn:=by decide):Ko op b=false:=by
 have d:(op == Kn.In)=false:=by cases op <;> first|rfl|exact MG U h
 have c:(op == Kn.NotIn)=false:=by cases op <;> first|rfl|exact MG U a
 cases b <;> simp[Ko,d,c]
theorem fE{op:Kn}{r:R2}(e:OpR X (Km op) r)(i:PE X a ta)(g:PE X b tb)(f:Ko op b=MA):PE X (.Compare a [op] [b] pos) (tOp r ta tb):=by
 intro MC s σ H Q I h;exact wpAny_Compare1 (BB i g I h λv u s2 x y k j d c q=>e MC s2 σ k x y v u Q j d c q) f
inductive xw  (Q:Bool->Hp->Prop)(x:V)(H':Hp):Prop
 |mk (k:_)(_:x=.bl k)(_:Q k H'):xw Q x H'
def AV(t:TE):TT:=λσ H Q=>t σ H λx H'=>xw Q x H'
theorem aD{op:Kn}{r:R2}(n:OpR X (Km op) r)(q:PE X a ta)(p:PE X b tb)(o:Ko op b=MA):PT X (.Compare a [op] [b] pos) (AV (tOp r ta tb)):=by
 intro MC s σ H Q I h;refine wpAny_isTrue_Compare1 (thn (q MC s σ H _ I h) λv d ⟨x,D,A,i,m⟩=>thn (p MC d σ D _ A m) λu s2 ⟨y,C,w,g,l⟩ =>
  thn (n MC s2 σ C x y v u _ w i g l) λc E ⟨z,B,t,f,k,e,j⟩=>?_) o
 subst e;cases f;exact JR ⟨B,t,j⟩
inductive uX(r':R2)(tc:TE)(σ:St)(Q:VK)(y:V)(z:V)(H3:Hp):Prop
 |mk (k:_)(_:z=.bl k)(_:(if k=Mz then tc σ H3 λw' H4=>r' y w' H4 Q else Q (.bl MA) H3))
def xx(r a:R2)(ta tb tc:TE):TE:=λσ H Q=>ta σ H λx d=>tb σ d λy c=>r x y c λz b=>uX a tc σ Q y z b
theorem mJ{op f:Kn}{r j:R2}(G:OpR X (Km op) r)(g:OpR X (Km f) j)(L:PE X a ta)(K:PE X b tb)(J:PE X c tc)
  (hm:lastMarks [op,f] [b,c]=false:=by with_unfolding_all rfl):PE X (.Compare a [op,f] [b,c] pos) (xx r j ta tb tc):=by
 intro MC s σ H Q I h;refine Compare_chain (thn (L MC s σ H _ I h) λv w ⟨x,S,O,C,F⟩=>chain_link (thn (K MC w σ S _ O F) λu s2 ⟨y,R,N,i,E⟩ =>
  thn (G MC s2 σ R x y v u _ N C i E) λd t ⟨z,n,m,B,k,e,l⟩=>?_)) hm
 subst e;cases B;refine JR ?_;cases k with
 |false=>exact ite_ff ⟨.bl MA,n,m,U,l⟩
 |true=>exact ite_tt (chain_last (thn (J MC t σ n _ m l) λp q ⟨o,P,M,A,D⟩=>g MC q σ P y o u p Q M i A D))
theorem ir{op f:Kn}{r j:R2}(L:OpR X (Km op) r)(g:OpR X (Km f) j)(O:PE X a ta)(N:PE X b tb)(M:PE X c tc)
  (hm:lastMarks [op,f] [b,c]=false:=by with_unfolding_all rfl):PT X (.Compare a [op,f] [b,c] pos) (AV (xx r j ta tb tc)):=by
 intro MC s σ H Q I h;refine isTrue_chain (thn (O MC s σ H _ I h) λv w ⟨x,H1,W,D,J⟩=>test_link (thn (N MC w σ H1 _ W J) λu s2 ⟨y,H2,V,i,G⟩ =>
  thn (L MC s2 σ H2 x y v u _ V D i G) λd t ⟨z,n,m,C,k,e,l⟩=>?_)) hm
 subst e;cases C;refine JR ?_;cases k with
 |false =>
  obtain⟨k',R,K⟩:=l;cases R;exact ite_ff ⟨n,m,K⟩
 |true =>
  refine ite_tt (test_last (thn (M MC t σ n _ m l) λp q ⟨o,Z,T,B,F⟩=>thn (g MC q σ Z y o u p _ T i B F) λd' s5 ⟨z2,Y,S,A,k2,P,E⟩=>?_));subst P;cases A;exact JR ⟨Y,S,E⟩
def BD(K:W.Frag)(x:V)(H:Hp)(k:Bool):Prop :=
 match x with
 | .non=>k=MA
 | .bl b=>k=b
 | .int i=>k=(i != 0)
 | .str y=>y.length<=Ju/\k=((y.length:Int) != 0)
 | .byt y=>y.size<=Ju/\k=((y.size:Int) != 0)
 | .ref p=>(∃a,SqL K H p a/\k = !a.isEmpty)\/(∃a,SqT K H p a/\k = !a.isEmpty)\/∃c,H p=Mw (.dK c)/\k = !c.isEmpty
 |_=>False
theorem tG{b:Type}{a:List (b×V)}{vs:List (b×Jp)}(r:KV a vs):(!vs.isEmpty) = !a.isEmpty:=by
 cases r <;> rfl
theorem mK{xs:List V}{a:List Jp}(r:Vals xs a):(!a.toArray.isEmpty) = !xs.isEmpty:=by
 cases r <;> simp
theorem jA:(Ju:Nat)<2^63:=by rw[Kp];decide
theorem BE:EN X (λx H Q=>∃k,BD X.K x H k/\Q k H):=by
 intro MC s σ H x v Q I g h;obtain⟨k,e,q⟩:=h;have C:=jA;have B:Ju=16777216:=Kp;cases x with
 |non =>
  cases g;have a:k=false:=e;subst a;exact truthy_none ⟨H,I,q⟩
 |bl b =>
  cases g;have a:k=b:=e;subst a;exact JR ⟨H,I,q⟩
 |int i =>
  obtain⟨t,rfl⟩:=g;have a:k=(i != 0):=e;subst a;exact PySem.P.truthy_int ⟨H,I,q⟩
 |str y =>
  obtain⟨t,rfl⟩:=g;obtain⟨z,a⟩:y.length<=Ju/\k=((y.length:Int) != 0):=e;subst a;exact PySem.P.truthy_str (by lia) ⟨H,I.tok _,q⟩
 |byt y =>
  obtain⟨t,rfl⟩:=g;obtain⟨z,a⟩:y.size<=Ju/\k=((y.size:Int) != 0):=e;subst a;exact W.truthy_bytes (by lia) ⟨H,I.tok _,q⟩
 |ref p =>
  cases g;have a:(∃f,SqL X.K H p f/\k = !f.isEmpty)\/(∃f,SqT X.K H p f/\k = !f.isEmpty)\/∃c,H p=Mw (.dK c)/\k = !c.isEmpty:=e;rcases a with⟨f,j,a⟩|⟨f,j,a⟩|⟨c,j,a⟩
  .subst a;obtain⟨o,r,n,u⟩:=I.list j;have d:=r.length;exact wpAny_truthy_list n.isList (by simp only[en];lia) ⟨H,I.tok _,by rw[mK r];exact q⟩
  .subst a;obtain⟨o,r,n,u⟩:=I.tuple j;have d:=r.length;exact truthy_tuple n (by simp only[en];lia) ⟨H,I.tok _,by rw[mK r];exact q⟩
  .subst a;obtain⟨u,A,l,r,m⟩:c.length<=Ju/\(p == Jv)=MA/\∃l,KV c l/\s.heap.DictOf (qh X.prog X.w) p l:=I.hok p _ j;have d:c.length=l.length:=Paired.length r;exact wpAny_truthy_dict A m (by lia) ⟨H,I.tok _,by rw[tG r];exact q⟩
 |_=>exact(show False from e).elim
theorem dH(g:PE X a ta)(f:∀b,JI a X.env b=(do let v ←b;JQ a.pos;holding [v] (truthy v))) :
  PT X a (λσ H Q=>ta σ H λx H'=>∃k,BD X.K x H' k/\Q k H'):=by
 intro MC s σ H Q I h;exact isTrue_plain (thn (g MC s σ H _ I h) λv c ⟨x,j,i,d,e⟩=>BE MC c σ j x v Q i d e) (f _)
theorem jB:OpR X (Kj .Add) (λx y H Q=>∃i j,x=.str i/\y=.str j/\i.length+j.length<=Ju/\Q (.str (i++j)) H):=by
 intro MC s σ H x y v u Q I c b h;obtain⟨i,j,rfl,rfl,d,q⟩:=h;obtain⟨t,rfl⟩:=c;obtain⟨a,rfl⟩:=b;exact add_str (λa e=>⟨.str (i++j),H,I.tok _,⟨_,U⟩,q⟩) d
theorem BG:OpR X (Kj .Add) (λx y H Q=>∃i j,x=.byt i/\y=.byt j/\i.size+j.size<=16777216/\Q (.byt (i++j)) H):=by
 intro MC s σ H x y v u Q I c b h;obtain⟨i,j,rfl,rfl,d,q⟩:=h;obtain⟨t,rfl⟩:=c;obtain⟨a,rfl⟩:=b;exact W.KBy.add_bytes d (λa e=>⟨.byt (i++j),H,I.tok _,⟨_,U⟩,q⟩)
theorem vals1{x:V}{us:List Jp}(r:Vals [x] us):∃u,us=[u]/\RelV x u:=by
 cases r with
 |cons b a=>cases a;exact⟨_,U,b⟩
theorem vals2{x y:V}{us:List Jp}(r:Vals [x,y] us):∃u a,us=[u,a]/\RelV x u/\RelV y a:=by
 cases r with
 |cons e d =>
  cases d with
  |cons c b=>cases b;exact⟨_,_,U,e,c⟩
theorem pb(b:X.calm=Mz):cF X (.builtin "max") (λxs H Q=>∃i j,xs=[.int i,.int j]/\Q (.int (if j>i then j else i)) H):=by
 intro MC s σ H xs d Q I r h;obtain⟨i,j,rfl,q⟩:=h;obtain⟨u,c,rfl,⟨t,rfl⟩,⟨f,rfl⟩⟩:=vals2 r;refine max_two_ints (I.ok.hd b) λh' e k=>⟨_,H,I.kept k,?_,q⟩
 by_cases a:j>i
 .rw[ME a,ME a];exact⟨_,U⟩
 .rw[MD a,MD a];exact⟨_,U⟩
theorem kX(b:X.calm=Mz):cF X (.builtin "min") (λxs H Q=>∃i j,xs=[.int i,.int j]/\Q (.int (if j<i then j else i)) H):=by
 intro MC s σ H xs d Q I r h;obtain⟨i,j,rfl,q⟩:=h;obtain⟨u,c,rfl,⟨t,rfl⟩,⟨f,rfl⟩⟩:=vals2 r;refine min_two_ints (I.ok.hd b) λh' e k=>⟨_,H,I.kept k,?_,q⟩
 by_cases a:j<i
 .rw[ME a,ME a];exact⟨_,U⟩
 .rw[MD a,MD a];exact⟨_,U⟩
end
structure tH(h:Jt)(x dx C:Js)(mA:Str->Option Jp):Prop where
 obj:h.get? x=Mw (W.instObj C dx)
 ns:h.Ns1 dx mA
 ne:dx≠x
theorem vJ{h:Jt}{f:Js}{c:Str->Option Jp}(n:h.Ns1 f c):∃b,h.get? f=Mw b/\∀name,W.lookIn name b=Mw (c name):=by
 obtain⟨o,d,r,i,l,k,_,j⟩:=n;refine⟨o,i,λname=>?_⟩;have e:=j name;unfold nsFind findBy at e;rw[←Array.find?_toList]at e;unfold W.lookIn;rw[l];dsimp only;split
 .rename_i y q
  rw[q]at e;exact MK Mw e
 .rename_i q
  rw[q]at e;have a:d.toList.any (·.refKey)=false:=by
   rw[List.any_eq_false];intro y g;obtain⟨z,t,p⟩:=k y (Array.mem_toList_iff.mp g);simp[DictEntry.refKey,p]
  have m:¬ d.toList.any (·.refKey)=true:=by rw[a];exact Bool.false_ne_true
  rw[MD m];exact MK Mw e
theorem tH.look{h:Jt}{x c C:Js}{b:Str->Option Jp}(I:tH h x c C b):∃a,W.InstAt h x (W.instObj C c) C (Mw a)/\∀name,W.lookIn name a=Mw (b name):=by
 obtain⟨a,d,e⟩:=vJ I.ns;exact⟨a,⟨I.obj,U,U,d⟩,e⟩
variable{A:JA}{dx C f:Js}
section
variable{prog:Jr}{K:W.Frag}{mA:Str->Option Jp}{name:Str}{v:Jp}
theorem get_map{a:Bool}{Q:Jp->JB->Prop}(X:K.In s.heap)(I:tH s.heap x dx C mA)(f:W.plainGet K C name=Mz)(e:W.hasDictIn K C=Mz)
  (g:W.findIn K (.ref C) name=Mw Mx)(c:mA name=Mw v)(b:W.handedIn v=Mz)(h:Q v { s with toks:=s.toks+1 }) :
  JF (model prog w) A (getAttr (.ref x) name a) Q E s:=by
 obtain⟨i,J,d⟩:=I.look;exact W.get_value X J (W.plainGet_of f).1 (W.findObj_own e g U (by rw[d,c])) b h
theorem xy{pl:Sem Bool}{Q:Jp×List Jp->JB->Prop}(X:K.In s.heap)(I:tH s.heap x dx C mA)(a:W.plainGet K C name=Mz)
  (hf:W.findIn K (.ref C) name=Mw (Mw (.ref f)))(d:W.isFn K (.ref f)=Mz)(c:mA name=Mx)(h:Q (.ref f,[.ref x]) s) :
  JF (model prog w) A (Kq (.ref x) name pl) Q E s:=by
 obtain⟨b,J,e⟩:=I.look;exact W.method_fn X J (W.plainGet_of a).1 (W.plainGet_of a).2 hf (beq_iff_eq.mp d) (by show(W.lookIn name b).map (·.isSome)=Mw MA;rw[e,c];rfl) h
theorem zJ{ns:List Str}{Q:Unit->JB->Prop}(X:K.In s.heap)(I:tH s.heap x dx C mA)
  (l:W.findIn K (.ref C) "__setattr__" = Mw (Mw (.builtin "object.__setattr__"))) (m:W.plainOver K C=Mz)(k:W.takerIn K C name=Mw Mx)(n:W.hasDictIn K C=Mz)
  (hw:PySem.Within mA ns)(p:ns.length<=Ju)
  (h:∀h',tH h' x dx C (λy=>if y=name then Mw v else mA y)->Jt.SameBut dx s.heap h'->Q () { s with heap:=h',toks:=s.toks+2 }) :
  JF (model prog w) A (setAttr (.ref x) name v) Q E s:=by
 obtain⟨u,J,B⟩:=I.look;refine W.set_plain X J l (W.osa_open (s:={ s with toks:=s.toks+1 }) (r:=Mx) X J m k λb=>?_);obtain⟨D,o,g⟩:=W.any_some n;have j:s.heap.get? x=Mw ⟨.ref C,Mw dx,.plain,#[]⟩:=I.obj;refine Jl (Jm (Jl (Jl (wpAny_loadPart j (Jl (W.Looks.here (s:={ s with toks:=s.toks+1 }) (W.looks_clsIn X o) ?_))))));rw[g];refine Jm (a:=Mw dx) (Jl (Jm (Jl ?_)));refine wpAny_nsSet1 (s:={ s with toks:=s.toks+1 }) I.ns λh' d c=>?_
 obtain⟨z,q,t,e,f,i⟩:=d.count (PySem.Within.cons name v hw);refine Jl (wpAny_lookBehind e (by rw[f];exact pastItsLine_dict (zQ i (by rw[iQ];lia))) ?_);exact Jm (h _ ⟨(c.2 _ (Ne.symm I.ne)).trans I.obj,d,I.ne⟩ c)
theorem xA{R:Kr->JB->Prop}{vs:List Jp}{b:List (Str×Jp)}(X:K.In s.heap)(c:W.makesIn K C=Mz)
  (hi:W.findIn K (.ref C) "__init__" = Mw (Mw (.ref f))) (hf:W.typeIn K (.ref f)=Mw (.type "function"))
  (h:Ks (model prog w) (A.under (.builtin "type.__call__" ⟨.ref C :: vs,b⟩)) (.call (.ref f) ⟨.ref (s.heap.objs.size+1) :: vs,b⟩) (W.InitBack (s.heap.objs.size+1) R)
   { s with heap:=(s.heap.push W.emptyDict).push (W.instObj C s.heap.objs.size) }) :
  Ks (model prog w) A (.call (.ref C) ⟨vs,b⟩) R s:=by
 obtain⟨i,g,d,t,e⟩:=s;exact W.make_core (W.makes_of X c) (W.looks_findIn X hi) (λa=>W.bind_fn X a hf) (.inl U) h
end
def bC(f:Str)(v:V):List (Str×V)->List (Str×V)
 | []=>[(f,v)]
 |(g,x) :: r=>if g=f then(g,v) :: r else(g,x) :: bC f v r
theorem lR(f g:Str)(v:V):∀fs:List (Str×V),(bC f v fs).lookup g=if g=f then Mw v else fs.lookup g
 | []=>by
  show List.lookup g [(f,v)]=_;by_cases h:g=f
  .have a:(g == f)=true:=beq_iff_eq.mpr h;simp only[List.lookup,a,ME h]
  .have a:(g == f)=false:=beq_eq_false_iff_ne.mpr h;simp only[List.lookup,a,MD h]
 |(k,x) :: r=>by
  have c:=lR f g v r;rw[show bC f v ((k,x) :: r)=(if k=f then(k,v) :: r else(k,x) :: bC f v r)from U];by_cases b:k=f
  .rw[ME b];by_cases h:g=k
   .have a:(g == k)=true:=beq_iff_eq.mpr h;simp only[List.lookup,a,ME (h.trans b)]
   .have a:(g == k)=false:=beq_eq_false_iff_ne.mpr h;simp only[List.lookup,a,MD (λe:g=f=>h (e.trans b.symm))]
  .rw[MD b];by_cases h:g=k
   .have a:(g == k)=true:=beq_iff_eq.mpr h;simp only[List.lookup,a,MD (λe:g=f=>b (h.symm.trans e))]
   .have a:(g == k)=false:=beq_eq_false_iff_ne.mpr h;simp only[List.lookup,a];exact c
theorem kY(f:Str)(v:V):∀fs:List (Str×V),f∈(bC f v fs).map (·.1)/\∀g,g∈fs.map (·.1)->g∈(bC f v fs).map (·.1)
 | []=>⟨by simp[bC],λg h=>by simp at h⟩
 |(k,x) :: r=>by
  obtain⟨c,b⟩:=kY f v r;rw[show bC f v ((k,x) :: r)=(if k=f then(k,v) :: r else(k,x) :: bC f v r)from U];by_cases a:k=f
  .rw[ME a];subst a;exact⟨by simp,λg h=>by simpa using h⟩
  .rw[MD a];refine⟨?_,λg h=>?_⟩
   .rw[jS];exact jf _ c
   .rw[jS]at h⊢;rcases dV.mp h with e|e
    .exact dV.mpr (.inl e)
    .exact jf _ (b g e)
theorem lS(f:Str)(v:V):∀fs:List (Str×V),(bC f v fs).length<=fs.length+1
 | []=>by simp[bC]
 |(k,x) :: r=>by
  have b:=lS f v r;rw[show bC f v ((k,x) :: r)=(if k=f then(k,v) :: r else(k,x) :: bC f v r)from U];by_cases a:k=f
  .rw[ME a,iQ,iQ];lia
  .rw[MD a,iQ,iQ];lia
theorem oB.some_of{v:V}{o:Option Jp}(r:oB (Mw v) o):∃u,o=Mw u/\RelV v u:=by
 cases o with
 |none=>exact(show False from r).elim
 |some u=>exact⟨u,U,r⟩
theorem oB.none_of{o:Option Jp}(r:oB Mx o):o=none:=by
 cases o with
 |none=>rfl
 |some u=>exact(show False from r).elim
theorem pd{v:V}{u:Jp}(r:RelV v u):W.handedIn u=true:=by
 cases v with
 |non=>cases (show u=Jp.none from r);rfl
 |bl b=>cases (show u=Jp.bool b from r);rfl
 |int i=>obtain⟨t,e⟩:=(show ∃t,u=Jp.int i t from r);cases e;rfl
 |str x=>obtain⟨t,e⟩:=(show ∃t,u=Jp.str x t from r);cases e;rfl
 |byt b=>obtain⟨t,e⟩:=(show ∃t,u=Jp.bytes b t from r);cases e;rfl
 |flt b=>obtain⟨t,e⟩:=(show ∃t,u=Jp.float b t from r);cases e;rfl
 |ref a=>cases (show u=Jp.ref a from r);rfl
 |ty n=>cases (show u=Jp.type n from r);rfl
section
variable{fs fs':List (Str×V)}
theorem mz(hok:HOk P w H h)(e:H a=Mw (.ins C dx fs)):∃b,tH h a dx C b/\(∀f,oB (fs.lookup f) (b f))/\PySem.Within b (fs.map (·.1))/\fs.length<=1000/\H dx=Mw (.own a):=by
 obtain⟨d,z,ne,c,b,n,r,q⟩:=(show df P w H h a (.ins C dx fs)from hok a _ e);exact⟨b,⟨c,n,ne⟩,r,q,z,d⟩
end
structure Cls(K:W.Frag)(C:Js):Prop where
 pg:W.plainGet K C Str.empty=Mz
 hd:W.hasDictIn K C=Mz
 po:W.plainOver K C=Mz
 sa:W.findIn K (.ref C) "__setattr__" = Mw (Mw (.builtin "object.__setattr__"))
theorem Cls.get{K:W.Frag}{C:Js}(c:Cls K C)(f:Str):W.plainGet K C f=true:=c.pg
def NoAttr(K:W.Frag)(C:Js)(f:Str):Prop:=W.findIn K (.ref C) f=Mw Mx
theorem NoAttr.taker{K:W.Frag}{C:Js}{f:Str}(n:NoAttr K C f):W.takerIn K C f=Mw none:=by
 unfold W.takerIn;rw[show W.findIn K (.ref C) f=Mw Mx from n];rfl
structure Con(K:W.Frag)(C:Js)(f:Str)(v:V)(u:Jp):Prop where
 at_:W.findIn K (.ref C) f=Mw (Mw u)
 rel:RelV v u
 get:W.specialIn K u "__get__" = Mw Mx
 cp:W.copiedNames.contains f=MA
structure Meth(K:W.Frag)(C:Js)(m:Str)(f:Js):Prop where
 at_:W.findIn K (.ref C) m=Mw (Mw (.ref f))
 fn:W.isFn K (.ref f)=Mz
 kp:W.keepIn K (.ref f)=Mz
section
variable{fs:List (Str×V)}{f:Str}{v:V}
theorem tI{b:Bool}{Q:Jp->JB->Prop}(I:Inv X MC σ H s)(e:H a=Mw (.ins C dx fs))(c:Cls X.K C)(n:NoAttr X.K C f)(l:fs.lookup f=Mw v)
  (h:∀u s',Inv X MC σ H s'->RelV v u->Q u s'):JF (model X.prog X.w) A (getAttr (.ref a) f b) Q E s:=by
 obtain⟨g,O,r,_,_,_⟩:=mz I.hok e;obtain⟨u,i,d⟩:=oB.some_of (v:=v) (o:=g f) (by rw[←l];exact r f);exact get_map I.kIn O (c.get f) c.hd n i (pd d) (h u _ (I.tok _) d)
theorem mL{m:Str}{g:Js}{pl:Sem Bool}{Q:Jp×List Jp->JB->Prop}(I:Inv X MC σ H s)(e:H a=Mw (.ins C dx fs))(c:Cls X.K C)(k:Meth X.K C m g)(l:fs.lookup m=Mx)
  (h:Q (.ref g,[.ref a]) s):JF (model X.prog X.w) A (Kq (.ref a) m pl) Q E s:=by
 obtain⟨b,O,r,_,_,_⟩:=mz I.hok e;have d:b m=none:=oB.none_of (by rw[←l];exact r m);exact xy I.kIn O (c.get m) k.at_ k.fn d h
theorem tJ{y:V}{u:Jp}{Q:Unit->JB->Prop}(I:Inv X MC σ H s)(e:H a=Mw (.ins C dx fs))(c:Cls X.K C)(n:NoAttr X.K C f)(B:fs.length<1000)(m:RelV y u)
  (h:∀s',Inv X MC σ (upd H a (.ins C dx (bC f y fs))) s'->Q () s'):JF (model X.prog X.w) A (setAttr (.ref a) f u) Q E s:=by
 obtain⟨j,O,r,i,_,k⟩:=mz I.hok e;have p:(fs.map (·.1)).length<=Ju:=by rw[bx,Kp];lia
 refine zJ I.kIn O c.sa c.po n.taker c.hd i p λh' d l=>h _ ?_
 have hd:∃o,h'.get? dx=Mw o:=let ⟨o,_,_,e',_⟩:=d.ns;⟨o,e'⟩;refine I.write (x:=a) (e:=dx) (by rw[e];exact True.intro) (.inr k) (λb q v z=>(l.2 b v).trans z) hd ?_;refine⟨by rw[az O.ne];exact k,?_,O.ne,d.obj,_,d.ns,λg=>?_,λg t=>?_⟩
 .have:=lS f y fs;lia
 .show oB ((bC f y fs).lookup g) (if g=f then Mw u else j g);rw[lR];by_cases q:g=f
  .rw[ME q,ME q];exact m
  .rw[MD q,MD q];exact r g
 .by_cases q:g=f
  .rw[q];exact(kY f y fs).1
  .refine(kY f y fs).2 g (i g λz=>t ?_);show(if g=f then Mw u else j g)=Mx;rw[MD q];exact z
theorem Inv.made(I:Inv X MC σ H s):Inv X MC σ (upd (upd H s.heap.objs.size (.own (s.heap.objs.size+1))) (s.heap.objs.size+1) (.ins C s.heap.objs.size []))
  { s with heap:=(s.heap.push W.emptyDict).push (W.instObj C s.heap.objs.size) }:=by
 have c:(s.heap.push W.emptyDict).get? s.heap.objs.size=Mw W.emptyDict:=Jt.get?_push_size s.heap U;have h:((s.heap.push W.emptyDict).push (W.instObj C s.heap.objs.size)).get? (s.heap.objs.size+1)=Mw (W.instObj C s.heap.objs.size):=by
  have:=Jt.get?_push_size (s.heap.push W.emptyDict) (o:=W.instObj C s.heap.objs.size) U
  rwa [Jt.size_push]at this
 have g:(s.heap.push W.emptyDict).Ns s.heap.objs.size (λ_=>Mx):=⟨W.emptyDict,#[],_,c,U,(λe f=>MG f (by simp)),λ_=>U⟩;have i:=I.laid (a:=s.heap.objs.size) (o:=.own (s.heap.objs.size+1)) (h':=s.heap.push W.emptyDict) (t':=s.toks) (λb u q=>Jt.get?_push_of_some _ q) (zz _) ⟨_,c⟩;refine i.laid (a:=s.heap.objs.size+1) (o:=.ins C s.heap.objs.size []) (t':=s.toks) (λb u q=>Jt.get?_push_of_some _ q) (Nat.le_of_eq (Jt.size_push _ _)) ?_;have ne:s.heap.objs.size≠s.heap.objs.size+1:=zA (BO _);refine⟨by rw[az ne,ab],Az _,ne,h,λ_=>Mx,(Jt.Ns1.of_empty g).at λo q=>Jt.get?_push_of_some _ q,λ_=>True.intro,λy d=>MG U d⟩
theorem zK{prog:Jr}{w:Jq}{a:Env}{e:JH}{f:Str}{pos:Pos}{s:JB}{Q:Jp->JB->Prop}(c:Kt e f a (eval e a)=eval e a)
  (h:JF (model prog w) A (eval e a) (λo b=>JF (model prog w) A (getAttr o f Mz) Q E b) E s):JF (model prog w) A (eval (.Attribute e f pos) a) Q E s :=
 Attribute_any_ h (by rw[arm_eval_Attribute,c])
end
inductive AW(K:W.Frag)(f:Str)(Q:VK)(x:V)(H1:Hp):Prop
 |mk (a C dx fs v:_)(_:x=.ref a)(_:H1 a=Mw (.ins C dx fs))(_:Cls K C)(_:NoAttr K C f)(_:fs.lookup f=Mw v)(_:Q v H1)
def C7(K:W.Frag)(ta:TE)(f:Str):TE:=λσ H Q=>ta σ H λx a=>AW K f Q x a
def ER(K:W.Frag)(ta c:TE)(f:Str):TS:=λD σ H=>c σ H λy d=>ta σ d λx b=>∃a C dx fs,x=.ref a/\b a=Mw (.ins C dx fs)/\Cls K C/\NoAttr K C f/\fs.length<1000 /\
 D.nx σ (upd b a (.ins C dx (bC f y fs)))
variable{o:JH}
section
variable{value:JH}{f:Str}{pos' Iu:Pos}{tv:TE}
theorem bo(g:PE X e ta)(i:Kt e f X.env (eval e X.env)=eval e X.env):PE X (.Attribute e f pos) (C7 X.K ta f):=by
 intro MC s σ H Q I h;refine zK i (thn (g MC s σ H _ I h) λu t ⟨x,p,o,b,a,C,dx,fs,v,j,k,c,n,l,q⟩=>?_);subst j;obtain rfl:u=Jp.ref a:=b;exact tI o k c n l λr s2 m d=>⟨v,p,m,d,q⟩
theorem cQ(m:PE X o ta)(j:PE X value tv)(k:JU value (Mw (.Attribute o f pos')) pos.line X.env=pure MA):PS X (.Assign [.Attribute o f pos'] value pos) (ER X.K ta tv f):=by
 intro MC s σ H D I h;refine plainObj_wpAny_Assign_Attribute (thn (j MC s σ H _ I h) λu b ⟨y,z,w,d,q⟩=>thn (m MC b σ z _ w q) λi s2 ⟨x,B,v,e,a,C,dx,fs,p,r,c,n,l,g⟩=>?_) k;subst p;obtain rfl:i=Jp.ref a:=e;exact tJ v r c n l d λA t=>⟨σ,_,t,g⟩
end
section
variable{Q:Jp->JB->Prop}{c:Jp}{b:Bool}
inductive kZ(K:W.Frag)(H:Hp):V->Jp->Prop where
 |non:kZ K H .non (.type "NoneType")
 |bl (x:Bool):kZ K H (.bl x) (.type "bool")
 |int (i:Int):kZ K H (.int i) (.type "int")
 |str (x:Str):kZ K H (.str x) (.type "str")
 |flt (x:UInt64):kZ K H (.flt x) (.type "float")
 |lst {a:Js}{xs:List V}(e:H a=Mw (.lst xs)):kZ K H (.ref a) (.type "list")
 |frz {a:Js}{o:Obj}{xs:List V}(e:H a=Mw (.frz o (.lst xs))):kZ K H (.ref a) (.type "list")
 |tup {a:Js}{xs:List V}(e:H a=Mw (.tup xs)):kZ K H (.ref a) (.type "tuple")
 |dK {a:Js}{kvs:List (Key×V)}(e:H a=Mw (.dK kvs)):kZ K H (.ref a) (.type "dict")
 |dT {a:Js}{kvs:List (List Key×V)}(e:H a=Mw (.dT kvs)):kZ K H (.ref a) (.type "dict")
 |ins {a C dx:Js}{fs:List (Str×V)}(e:H a=Mw (.ins C dx fs))(cl:Cls K C)(ha:W.findIn K (.ref C) "__class__" = Mw (Mw (.builtin "object.__class__")))
   (hn:W.specialIn K (.builtin "object.__class__") "__get__" = Mw (Mw (.builtin "getset_descriptor.__get__"))) (htk:W.takesIn K (.builtin "object.__class__")=Mw Mz)
   (hm:W.mroIn K C (.type "object")=Mw Mz):kZ K H (.ref a) (.ref C)
theorem vK{x:V}{u t:Jp}(I:Inv X MC σ H s)(d:RelV x u)(ty:kZ X.K H x t)(e:W.kitOne X.K t c=Mw b)(h:∀k,Q (.bool b) { s with toks:=k }) :
  JF (model X.prog X.w) A (call (.builtin "isinstance") [u,c]) Q E s:=by
 cases ty with
 |non=>cases (show u=Jp.none from d);exact W.kia_one W.kitx_none I.kIn True.intro e (λz=>nomatch z) h
 |bl y=>cases (show u=Jp.bool y from d);exact W.kia_one W.kitx_bool I.kIn True.intro e (λz=>nomatch z) h
 |int i=>obtain⟨t,q⟩:=(show ∃t,u=Jp.int i t from d);cases q;exact W.kia_one W.kitx_int I.kIn True.intro e (λz=>nomatch z) h
 |str y=>obtain⟨t,q⟩:=(show ∃t,u=Jp.str y t from d);cases q;exact W.kia_one W.kitx_str I.kIn True.intro e (λz=>nomatch z) h
 |flt y=>obtain⟨t,q⟩:=(show ∃t,u=Jp.float y t from d);cases q;exact W.kia_one W.kitx_float I.kIn True.intro e (λz=>nomatch z) h
 | @lst a g ea =>
  cases (show u=Jp.ref a from d);obtain⟨_,_,n,_,f⟩:=(show df X.prog X.w H s.heap a (.lst g)from I.hok a _ ea);exact W.kia_one W.kitx_list I.kIn ⟨_,f,U⟩ e (λz=>nomatch z) h
 | @frz a ob g ea =>
  cases (show u=Jp.ref a from d);obtain⟨_,_,_,n,_,f⟩:=(show df X.prog X.w H s.heap a (.frz ob (.lst g))from I.hok a _ ea);exact W.kia_one W.kitx_list I.kIn ⟨_,f,U⟩ e (λz=>nomatch z) h
 | @tup a g ea =>
  cases (show u=Jp.ref a from d);obtain⟨_,_,_,p⟩:=(show df X.prog X.w H s.heap a (.tup g)from I.hok a _ ea);obtain⟨o,f,j,_⟩:=p;exact W.kia_one W.kitx_tuple I.kIn ⟨o,f,j⟩ e (λz=>nomatch z) h
 | @dK a kvs ea =>
  cases (show u=Jp.ref a from d);obtain⟨_,_,r,_,p⟩:=(show df X.prog X.w H s.heap a (.dK kvs)from I.hok a _ ea);obtain⟨o,l,m,f,j,_⟩:=p;exact W.kia_one W.kitx_dict I.kIn ⟨o,f,j.1⟩ e (λz=>nomatch z) h
 | @dT a kvs ea =>
  cases (show u=Jp.ref a from d);obtain⟨_,_,g,_,o,l,m,f,j,_⟩:=(show df X.prog X.w H s.heap a (.dT kvs)from I.hok a _ ea);exact W.kia_one W.kitx_dict I.kIn ⟨o,f,j.1⟩ e (λz=>nomatch z) h
 | @ins a C dx fs ea cl ha hn htk hm =>
  cases (show u=Jp.ref a from d);obtain⟨B,O,_⟩:=mz I.hok ea;obtain⟨v,J,_⟩:=O.look;exact W.kia_one (W.kitx_own (cl.get _) cl.hd ha hn htk hm) I.kIn J e (λz=>nomatch z) h
end
structure bY(k:Nat)(A:JA):Prop where
 hd:A.handled=Mx
 dp:A.depth+3*k+5<Ku
 un:A.units+16*k+200<Kv
theorem bY.mono{j k:Nat}{A:JA}(r:bY k A)(h:j<=k):bY j A:=⟨r.hd,by have:=r.dp;lia,by have:=r.un;lia⟩
theorem bY.deeper{k:Nat}{A:JA}(r:bY (k+1) A)(a:Env):bY k (A.deeper a) :=
 ⟨r.hd,by have:=r.dp;show A.depth+1+3*k+5<_;lia,by have:=r.un;show A.units+3+16*k+200<_;lia⟩
theorem tK{A:JA}{C:Js}{us:List Jp}{a:List (Str×Jp)}:(A.under (.builtin "type.__call__" ⟨.ref C :: us,a⟩)).depth=A.depth+1:=by
 first|rfl|simp[JA.under,Kw.weight,Kw.isCreation,Kw.isGuard,Kw.isCaller,Kw.frames,Kw.isFrame,guardIds]
theorem tL{A:JA}{C:Js}{us:List Jp}{a:List (Str×Jp)}:(A.under (.builtin "type.__call__" ⟨.ref C :: us,a⟩)).units=A.units+1:=by
 first|rfl|simp[JA.under,Kw.cUnits,Kw.frames,Kw.isFrame]
theorem bY.make{k:Nat}{A:JA}(r:bY (k+1) A)(C:Js)(us:List Jp)(a:List (Str×Jp)):bY k (A.under (.builtin "type.__call__" ⟨.ref C :: us,a⟩)) :=
 ⟨r.hd,by have:=r.dp;rw[tK];lia,by have:=r.un;rw[tL];lia⟩
theorem bY.depth{k:Nat}{A:JA}(r:bY k A):A.depth<Ku:=by have:=r.dp;lia
theorem bY.units{k:Nat}{A:JA}(r:bY k A):A.units+64<Kv:=by have:=r.un;lia
def BI:TA:=λ_ H Q=>Q [] H
def C8(ta:TE)(b:TA):TA:=λσ H Q=>ta σ H λx d=>b σ d λa c=>Q (x :: a) c
variable{es:List JH}{t:TA}
theorem ae:PA X [] BI:=λ_ _ _ _ H Q I h=>Calls.spliced_nil ⟨[],H,I,.nil,h⟩
theorem aa(k:PE X e te)(j:PA X es t)(i:JK (e :: es) X.env=(MA,eval e X.env) :: JK es X.env:=by rfl):PA X (e :: es) (C8 te t):=by
 intro pos MC s σ H Q I h;rw[i];show JF _ _ (spliced ((MA,eval e X.env) :: JJ pos (JK es X.env))) _ _ s;refine Calls.spliced_cons (thn (k MC s σ H _ I h) λu b ⟨x,o,m,d,g⟩=>?_);exact thn (j pos MC b σ o _ m g) λp s2 ⟨a,n,l,c,f⟩=>⟨x :: a,n,l,.cons d c,f⟩
def ES(t:TA):TE:=λσ H Q=>t σ H λa b=>a.length<=Ju/\∀p,b p=Mx->Q (.ref p) (upd b p (.tup a))
def ET(t:TA):TE:=λσ H Q=>t σ H λa b=>a.length<=Ju/\∀p,b p=Mx->Q (.ref p) (upd b p (.lst a))
theorem aY{x1} (h:PA X es t):PE X (.Tuple es x1 pos) (ES t):=by
 intro MC s σ H Q I i;refine wpAny_Tuple_spliced (thn (h pos MC s σ H _ I i) λg a ⟨f,d,c,r,z,q⟩=>⟨by rw[←r.length];exact z,?_⟩);have j:d a.heap.objs.size=none:=c.hok.fresh (zz _);refine⟨.ref a.heap.objs.size,upd d a.heap.objs.size (.tup f),c.laid (t':=a.toks) (λb u e=>Jt.get?_push_of_some _ e) (zz _) ?_,U,q _ j⟩;exact⟨z,g,r,⟨_,Jt.get?_push_size _ U,U,_,U⟩⟩
theorem aS(h:PA X es t):PE X (.List es pos) (ET t):=by
 intro MC s σ H Q I i;refine wpAny_List_spliced (thn (h pos MC s σ H _ I i) λg a ⟨f,d,c,r,z,q⟩=>⟨by rw[←r.length];exact z,?_⟩);have j:d a.heap.objs.size=none:=c.hok.fresh (zz _);refine⟨.ref a.heap.objs.size,upd d a.heap.objs.size (.lst f),c.laid (t':=a.toks) (λb u e=>Jt.get?_push_of_some _ e) (zz _) ?_,U,q _ j⟩;exact⟨z,g,0,r,Jt.get?_push_size _ U⟩
abbrev Sp:=List V->Hp->VK->XK->Prop
abbrev CXT:=List Env->Hp->JB->XK->Jp->JB->Prop
structure rh(P:Jr)(w:Jq)(K:W.Frag)(mg:Str->Option Jp)(base:Jt)(A:JA)(outer:List Env)(s:JB)(H:Hp):Prop where
 frames:A.frames=Mw outer
 mod:Mod K mg base
 bs:∀b o,base.get? b=Mw o->s.heap.get? b=Mw o/\H b=Mx
 bsz:base.objs.size<=s.heap.objs.size
 funs:s.heap.FunFrames base outer
 frf:∀b∈frs outer,H b=Mx
 hok:HOk P w H s.heap
 bare:AllBare s.gens
def CE(a:List Env)(P:Jr)(w:Jq)(H:Hp)(s:JB)(Q:VK)(u:Jp)(s':JB):Prop :=
 ∃v H',s'.os=s.os/\AllBare s'.gens/\Un (frs a) [] H H' s.heap s'.heap/\HOk P w H' s'.heap/\RelV v u/\Q v H'
def CR(CX:CXT)(a:List Env)(P:Jr)(w:Jq)(H:Hp)(s:JB)(Q:VK)(E:XK)(r:Kr)(s':JB):Prop :=
 match r with
 | .ok (.ret u)=>CE a P w H s Q u s'
 | .ok _=>False
 | .error e=>CX a H s E e s'
structure aK(P:Jr)(w:Jq)(K:W.Frag)(mg:Str->Option Jp)(base:Jt)(CX:CXT)(k:Nat)(f:Js)(fd:Kx)(ps:List Str)(sp:Sp):Prop where
 len:∀vs H Q E,sp vs H Q E->vs.length=ps.length
 run:∀(A:JA)(outer:List Env)(s:JB)(H:Hp)(args:Args)(us:List Jp)(vs:List V)(Q:VK)(E:XK),bY k A->rh P w K mg base A outer s H->Ky s fd args (ps.zip us)->Vals vs us->sp vs H Q E ->
  Ks (model P w) A (.call (.ref f) args) (CR CX outer P w H s Q E) s
theorem aK.mono{P:Jr}{w:Jq}{K:W.Frag}{d:Str->Option Jp}{a:Jt}{CX:CXT}{j k:Nat}{f:Js}{e:Kx}{ps:List Str}{sp:Sp}(F:aK P w K d a CX j f e ps sp)(h:j<=k) :
  aK P w K d a CX k f e ps sp:=⟨F.len,λA b s H c i g Q E l=>F.run A b s H c i g Q E (l.mono h)⟩
theorem rh.make{P:Jr}{w:Jq}{K:W.Frag}{c:Str->Option Jp}{b:Jt}{A:JA}{a:List Env}{s:JB}{H:Hp}(e:rh P w K c b A a s H)(C:Js)(us:List Jp)(d:List (Str×Jp)) :
  rh P w K c b (A.under (.builtin "type.__call__" ⟨.ref C :: us,d⟩)) a s H:=⟨by first|exact e.frames|(simpa[JA.under,Kw.envs,Kw.isFrame,pushEnvs]using e.frames),e.mod,e.bs,e.bsz,e.funs,e.frf,e.hok,e.bare⟩
section
variable{s':JB}
theorem Inv.env0(I:Inv X MC σ H s):rh X.prog X.w X.K X.mg X.base X.A X.stack s H :=
 ⟨I.ok.frames,I.ok.mod,I.bs,zQ I.ok.bsz I.sz,I.stack,I.stkFree,I.hok,I.bare⟩
theorem Inv.after{Q:VK}{u:Jp}(I:Inv X MC σ H s)(h:CE X.stack X.prog X.w H s Q u s'):EP X MC σ Q u s':=by
 obtain⟨v,H',os,a,un,hok,r,q⟩:=h;obtain⟨e,g,d,t,c⟩:=s';obtain rfl:c=s.os:=os;exact⟨v,H',I.call (h':=e) (g':=g) (d':=d) (t':=t) (ch:=[]) un hok a (λb z=>MG z (by simp)),r,q⟩
end
def C9(sp:Sp)(dvs:List V)(E:XK)(t:TA):TE:=λσ H Q=>t σ H λa b=>sp (a++dvs) b Q E
def AX(C:Js)(sp:Sp)(dvs:List V)(E:XK)(t:TA):TE:=λσ H Q=>t σ H λb a=>∀x dx,a x=Mx->a dx=Mx->dx≠x ->
 sp (.ref x :: (b++dvs)) (upd (upd a dx (.own x)) x (.ins C dx [])) (λv c=>v=.non/\Q (.ref x) c) E
def Binds(K:W.Frag)(b:Kx)(ps:List Str)(ds:List Jp):Prop :=
 ∀(s:JB)(a:List Jp),K.In s.heap->(a++ds).length=ps.length->Ky s b ⟨a,[]⟩ (ps.zip (a++ds))
theorem Binds.all{K:W.Frag}{b:Kx}{ps:List Str}(h:∀us:List Jp,us.length=ps.length->Kz b ⟨us,[]⟩=pure (ps.zip us)):Binds K b ps []:=λs us _ a=>by
 rw[jQ]at a⊢;exact .of_eq (h us a)
def Passes(CX:CXT)(X:Cx)(E:XK):Prop:=∀(MC:List (Js×Obj))(σ:St)(H:Hp)(s:JB)(e:Jp)(a:JB),Inv X MC σ H s->CX X.stack H s E e a->X.xe e a
variable{p:Pos}
section
variable{CX:CXT}{k:Nat}{fd:Kx}{ps:List Str}{sp:Sp}{dvs:List V}{ds:List Jp}{E:XK}{x m:Str}{apos:Pos}
theorem qk{MC:List (Js×Obj)}{σ:St}{H:Hp}{s:JB}{Q:VK}{us:List Jp}{vs:List V}(F:aK X.prog X.w X.K X.mg X.base CX k f fd ps sp)(g:bY k X.A)(l:Binds X.K fd ps ds)(j:Vals dvs ds)(d:Passes CX X E)
  (I:Inv X MC σ H s)(r:Vals vs us)(h:sp (vs++dvs) H Q E):JF (model X.prog X.w) X.A (call (.ref f) us) (EP X MC σ Q) X.xe s:=by
 have b:Vals (vs++dvs) (us++ds):=r.append j;have i:(us++ds).length=ps.length:=by rw[←b.length];exact F.len _ _ _ _ h
 refine KA (KC (F.run X.A X.stack s H ⟨us,[]⟩ (us++ds) (vs++dvs) Q E g I.env0 (l s us I.kIn i) b h) λr c a=>?_);cases r with
 |error e=>exact d MC σ H s e c I a
 |ok fl =>
  cases fl with
  |ret u=>exact I.after a
  |next=>exact False.elim a
  |brk=>exact False.elim a
  |cont=>exact False.elim a
theorem zL(F:aK X.prog X.w X.K X.mg X.base CX k f fd ps sp)(g:bY k X.A)(l:Gl X x)(i:X.mg x=Mw (.ref f))(j:W.keepIn X.K (.ref f)=Mz)(n:Binds X.K fd ps ds)(m:Vals dvs ds)(d:Passes CX X E)
  (o:PA X (e :: es) t)(b:(x == ("__debug__" : Str))=false:=by decide) (he:JK (e :: es) X.env=(MA,eval e X.env) :: JK es X.env:=by rfl)(a:(JJ pos (JK es X.env)).any (·.1)=false:=by rfl) :
  PE X (.Call (.Name x p) (e :: es) [] pos) (C9 sp dvs E t):=by
 intro MC s σ H Q I h;refine Jo (gD I l i ?_ b);refine W.callWith_K (h₀:=X.base) I.ok.mod.kin j (thn (o pos MC s σ H _ I h) λv y ⟨u,z,c,r,q⟩=>⟨c.kIn,?_⟩) he a;exact qk F g n m d c r q
structure Mk(K:W.Frag)(C f:Js):Prop where
 makes:W.makesIn K C=Mz
 init:W.findIn K (.ref C) "__init__" = Mw (Mw (.ref f))
 fn:W.isFn K (.ref f)=Mz
 kp:W.keepIn K (.ref C)=Mz
theorem rj{MC:List (Js×Obj)}{σ:St}{H:Hp}{s:JB}{Q:VK}{us:List Jp}{vs:List V}(M:Mk X.K C f)(F:aK X.prog X.w X.K X.mg X.base CX k f fd ps sp)(m:bY (k+1) X.A)(p:Binds X.K fd ps ds)(o:Vals dvs ds)
  (l:Passes CX X E)(I:Inv X MC σ H s)(r:Vals vs us)
  (h:∀x dx,H x=Mx->H dx=Mx->dx≠x->sp (.ref x :: (vs++dvs)) (upd (upd H dx (.own x)) x (.ins C dx [])) (λv y=>v=.non/\Q (.ref x) y) E) :
  JF (model X.prog X.w) X.A (call (.ref C) us) (EP X MC σ Q) X.xe s:=by
 have d:=h (s.heap.objs.size+1) s.heap.objs.size (I.hok.fresh (B5 _)) (I.hok.fresh (zz _)) (zA (BO _));have b:=Inv.made (C:=C) I;have c:Vals (V.ref (s.heap.objs.size+1) :: (vs++dvs)) (Jp.ref (s.heap.objs.size+1) :: (us++ds)):=.cons U (r.append o);have n:(Jp.ref (s.heap.objs.size+1) :: us++ds).length=ps.length:=by
  have e:=c.length;rw[F.len _ _ _ _ d]at e;exact e.symm
 refine KA (xA (f:=f) I.kIn M.makes M.init (beq_iff_eq.mp M.fn) (KC (F.run _ X.stack _ _ ⟨Jp.ref (s.heap.objs.size+1) :: us,[]⟩ (Jp.ref (s.heap.objs.size+1) :: (us++ds)) _ _ E (m.make C us [])
  (b.env0.make C us []) (p _ (Jp.ref (s.heap.objs.size+1) :: us) b.kIn n) c d) λr g a=>?_))
 cases r with
 |error e=>exact l MC σ _ _ e g b a
 |ok fl =>
  cases fl with
  |ret u =>
   obtain⟨v,H',t,i,q,j⟩:=b.after a;subst q;exact⟨i,⟨V.ref (s.heap.objs.size+1),H',t,U,j⟩⟩
  |next=>exact False.elim a
  |brk=>exact False.elim a
  |cont=>exact False.elim a
theorem zM(M:Mk X.K C f)(F:aK X.prog X.w X.K X.mg X.base CX k f fd ps sp)(g:bY (k+1) X.A)(j:Gl X x)(i:X.mg x=Mw (.ref C))(m:Binds X.K fd ps ds)(l:Vals dvs ds)(d:Passes CX X E)
  (n:PA X (e :: es) t)(b:(x == ("__debug__" : Str))=false:=by decide) (he:JK (e :: es) X.env=(MA,eval e X.env) :: JK es X.env:=by rfl)(a:(JJ pos (JK es X.env)).any (·.1)=false:=by rfl) :
  PE X (.Call (.Name x p) (e :: es) [] pos) (AX C sp dvs E t):=by
 intro MC s σ H Q I h;refine Jo (gD I j i ?_ b);refine W.callWith_K (h₀:=X.base) I.ok.mod.kin M.kp (thn (n pos MC s σ H _ I h) λu v ⟨o,y,c,r,q⟩=>⟨c.kIn,?_⟩) he a;exact rj M F g m l d c r q
theorem xB(M:Mk X.K C f)(F:aK X.prog X.w X.K X.mg X.base CX k f fd ps sp)(c:bY (k+1) X.A)(e:Gl X x)(d:X.mg x=Mw (.ref C))(i:Binds X.K fd ps ds)(g:Vals dvs ds)(b:Passes CX X E)
  (a:(x == ("__debug__" : Str))=false:=by decide):PE X (.Call (.Name x p) [] [] pos) (AX C sp dvs E BI):=by
 intro MC s σ H Q I h;refine Jo (gD I e d ?_ a);exact W.callWith_K0 I.kIn M.kp (rj (us:=[]) M F c i g b I .nil h)
end
section
variable{CX:CXT}{k:Nat}{fd:Kx}{ps ks:List Str}{sp:Sp}{E:XK}{x m:Str}{apos Iv:Pos}{kws:List Keyword}{tk:TA}{nm:Option Str}
structure EU(K:W.Frag)(fd:Kx)(ps ks:List Str)(g:List Jp->List Jp->List Jp)(gV:List V->List V->List V):Prop where
 to:∀(s:JB)(us ws:List Jp),K.In s.heap->(g us ws).length=ps.length->Ky s fd ⟨us,ks.zip ws⟩ (ps.zip (g us ws))
 rel:∀{vs:List V}{us:List Jp}{zs:List V}{ws:List Jp},Vals vs us->Vals zs ws->Vals (gV vs zs) (g us ws)
variable{g:List Jp->List Jp->List Jp}{gV:List V->List V->List V}
end
structure ar(N P:List Str)(sc:JC):Prop where
 kind:sc.kind=.function
 co:sc.isCoroutine=MA
 gen:sc.isGenerator=MA
 nd:N.Nodup
 pre:N.take P.length=P
 par:∀x∈P,sc.names.lookup x=Mw .local\/sc.names.lookup x=Mw .cell
 nofree:∀y∈sc.names,y.2≠.free
theorem pe{a:Str->Option KD}{x:Str}:∀{binds:List (Str×Jp)}{m:Str->Option Jp},(∀v,(x,v) ∉ binds)->KG a binds m x=m x
 | [],_,_=>rfl
 |(n,v) :: r,m,h=>by
  unfold KG;rw[pe λw b=>h w (jf _ b)];split
  .have:x≠n:=by rintro rfl;exact h v fw
   simp[this]
  .rfl
theorem pf{a:Str->Option KD}{x:Str}:∀{binds:List (Str×Jp)}{m:Str->Option Jp},(∀v,(x,v) ∉ binds)->KH a binds m x=m x
 | [],_,_=>rfl
 |(n,v) :: r,m,h=>by
  unfold KH;rw[pf λw b=>h w (jf _ b)];split
  .rfl
  .have:x≠n:=by rintro rfl;exact h v fw
   simp[this]
theorem ph{a:Str->Option KD}{x:Str}{v:Jp}:∀{P:List Str}{vs:List Jp}{i:Nat}{m:Str->Option Jp},P.Nodup->P[i]?=Mw x->vs[i]?=Mw v->a x=Mw .local ->
  KG a (P.zip vs) m x=Mw v
 | [],_,_,_,_,h,_,_=>by simp at h
 |_ :: _,[],_,_,_,_,h,_=>by simp at h
 |p :: P,w :: vs,0,m,nd,h1,h2,hk=>by
  simp at h1 h2;subst h1;subst h2;show KG a ((p,w) :: P.zip vs) m p=_;unfold KG;rw[pe λv b=>(mv.mp nd).1 (uR b).1,ME hk];simp
 |p :: P,w :: vs,i+1,m,nd,h1,h2,hk=>by
  show KG a ((p,w) :: P.zip vs) m x=_;unfold KG;exact ph (i:=i) (mv.mp nd).2 (by simpa using h1) (by simpa using h2) hk
theorem pj{a:Str->Option KD}{x:Str}{v:Jp}:∀{P:List Str}{vs:List Jp}{i:Nat}{m:Str->Option Jp},P.Nodup->P[i]?=Mw x->vs[i]?=Mw v->a x≠Mw .local ->
  KH a (P.zip vs) m x=Mw v
 | [],_,_,_,_,h,_,_=>by simp at h
 |_ :: _,[],_,_,_,_,h,_=>by simp at h
 |p :: P,w :: vs,0,m,nd,h1,h2,hk=>by
  simp at h1 h2;subst h1;subst h2;show KH a ((p,w) :: P.zip vs) m p=_;unfold KH;rw[pf λv b=>(mv.mp nd).1 (uR b).1,MD hk];simp
 |p :: P,w :: vs,i+1,m,nd,h1,h2,hk=>by
  show KH a ((p,w) :: P.zip vs) m x=_;unfold KH;exact pj (i:=i) (mv.mp nd).2 (by simpa using h1) (by simpa using h2) hk
def start(N:List Str)(vs:List V):St:=vs.map Mw++List.replicate (N.length-vs.length) Mx
def cR(CX:CXT)(P:Jr)(w:Jq)(K:W.Frag)(mg:Str->Option Jp)(base:Jt)(N:List Str)(qual:Str)(scope:JC)(f:Js)(b:Jp)(A:JA)(outer:List Env)(s:JB)(H:Hp)(E:XK):Cx where
 prog:=P
 w:=w
 K:=K
 mg:=mg
 base:=base
 A:=A.deeper (envOfC qual scope s.heap.objs.size f b)
 N:=N
 s₀:=s
 H₀:=H
 env:=envOfC qual scope s.heap.objs.size f b
 outer:=outer
 stack:=envOfC qual scope s.heap.objs.size f b :: outer
 ex:=[]
 calm:=Mz
 fn:=λ_=>Mz
 pn:=[]
 xe:=λe c=>JF (model P w) (A.deeper (envOfC qual scope s.heap.objs.size f b)) (leaving (envOfC qual scope s.heap.objs.size f b) e) (λ_ a=>CX outer H s E e a) (λd a=>CX outer H s E d a) c
theorem rk{a:JC}{n:Nat}{x:Str}(h:a.names.lookup x=Mw .cell):∃c,(KI n a.names []).lookup x=Mw c:=by
 have q:=W.cellsFrom_some a.names n [] (.inl h);exact Jj.mp q
theorem vL{CX:CXT}{P:Jr}{w:Jq}{K:W.Frag}{F:Str->Option Jp}{j:Jt}{N ps:List Str}{qual:Str}{scope:JC}{f:Js}{D:Jp}{A:JA}{d:List Env}{s G:JB}{H:Hp}{E:XK}{us:List Jp}{vs:List V}
  (S:ar N ps scope)(M:A.handled=Mx)(l:rh P w K F j A d s H)(T:vs.length=ps.length)(r:Vals vs us)
  (x:InCallC s s.heap.objs.size (KG (envOfC qual scope s.heap.objs.size f D).kindOf (ps.zip us) λ_=>Mx) (KI (s.heap.objs.size+1) scope.names []) (KH (envOfC qual scope s.heap.objs.size f D).kindOf (ps.zip us) λ_=>Mx) G) :
  Inv (cR CX P w K F j N qual scope f D A d s H E) [] (start N vs) H G:=by
 have Q:ps.length<=N.length:=by have:=MK List.length S.pre;rw[iP]at this;lia
 obtain⟨C,R,rfl,J⟩:=x.done;have o:∀b:Js,b ∉ (cR CX P w K F j N qual scope f D A d s H E).ex:=λb z=>MG (show b∈([]:List Js)from z) (by simp)
 refine⟨⟨l.mod,S.kind,U,U,zz _,λy z c C g=>?_,λy m=>?_,λy c _ h=>?_,λ_=>M,JA.frames_deeper l.frames,.inr ⟨U,U⟩,λb z=>MG z (o b),l.bs,l.bsz,λb _ _=>o b,λb z=>MG z (o b),l.funs,l.frf⟩,
  rfl,l.bare,Un.kept J,⟨_,x.toInCall.ns,λi y v C g X=>?_⟩,λy c h=>⟨_,x.cell y c h⟩,l.hok.fresh (zz _),λy c h=>?_,λp t=>MG (show p∈([]:List (Js×Obj))from t) (by simp),l.hok.kept J,?_⟩
 .exact name_of_addr x.apart (mem_of_lookup C) (mem_of_lookup g)
 .have m:scope.names.lookup y=Mw .cell\/scope.names.lookup y=Mw .free:=m;rcases m with m|m
  .exact rk m
  .exact MG U (S.nofree _ (mem_of_lookup m))
 .exact BA (x.above y c (mem_of_lookup h))
 .have hi:i<vs.length:=by
   unfold start at g;by_cases hi:i<vs.length
   .exact hi
   .rw[lh (by simpa using hi)]at g;rw[List.getElem?_replicate]at g;split at g <;> cases g
  have O:vs[i]?=Mw v:=by
   unfold start at g;rw[je (by simpa using hi),gg]at g;cases e:vs[i]? with
   |none=>rw[e]at g;cases g
   |some a=>rw[e]at g;cases g;rfl
  obtain⟨u,I,L⟩:=r.get O;have t:ps[i]?=Mw y:=by
   rw[←S.pre,List.getElem?_take_of_lt (by lia)];exact C
  have B:ps.Nodup:=by rw[←S.pre];exact S.nd.sublist (vl _ _)
  refine⟨u,L,?_⟩;rcases S.par y (IX t)with k|k
  .exact .inl ⟨k,ph B t I k⟩
  .obtain⟨c,e⟩:=rk (n:=s.heap.objs.size+1) k;refine .inr ⟨.inl k,c,e,?_⟩;have q:=x.cell y c e;rw[pj B t I (by show scope.names.lookup y≠_;rw[k];decide)]at q;exact q
 .exact l.hok.fresh (BA (x.above y c (mem_of_lookup h)))
 .unfold start;show _=N.length;rw[dt,bx,oU];lia
theorem AY{CX:CXT}{P:Jr}{w:Jq}{K:W.Frag}{l:Str->Option Jp}{base:Jt}{k:Nat}{f:Js}{name qual:Str}{params:KJ}{body:List JL}{scope:JC}{G kV doc pm c L Y:Jp}{M X:Option Js}
  {B:Array (Option Jp)}{N ps:List Str}{sp:Sp}(Z:K.lookup f=Mw ⟨Y,X,.func (W.fnOf name qual params body scope G kV doc pm M c L),B⟩)(D:W.codeIn K c qual=Mz)(S:ar N ps scope)
  (len:∀vs H Q E,sp vs H Q E->vs.length=ps.length)
  (iu:∀(A:JA)(a:List Env)(s:JB)(H:Hp)(vs:List V)(Q:VK)(E:XK),bY k (A.deeper (envOfC qual scope s.heap.objs.size f c))->sp vs H Q E ->
   ∃t,PSs (cR CX P w K l base N qual scope f c A a s H E) body t/\t { nx:=λ_ H'=>Q .non H',rt:=Q } (start N vs) H) :
  aK P w K l base CX (k+1) f (W.fnOf name qual params body scope G kV doc pm M c L) ps sp:=by
 refine⟨len,λA a s H R T vs Q E z h hb r i=>?_⟩;have hl:=len _ _ _ _ i;have O:K.In s.heap:=h.mod.kin.keeps λb o e=>(h.bs b o e).1
 have C:s.heap.NoLimit:=h.mod.nolimit.keeps λb o e=>(h.bs b o e).1
 have Dc:∀y∈ps.zip T,scope.names.lookup y.1=Mw .local\/(scope.names.lookup y.1=Mw .cell/\((KI (s.heap.objs.size+1) scope.names []).lookup y.1).isSome=Mz):=λ⟨n,v⟩ hy=>by
  rcases S.par n (uR hy).1 with q|q
  .exact .inl q
  .exact .inr ⟨q,W.cellsFrom_some _ _ _ (.inl q)⟩
 refine codeAny_call_function z.depth (O _ _ Z) U S.co S.gen U (W.codeRec_of O D) (hb _ _ _ _ ?_);refine wpAny_newFunctionEnv_cells S.kind Dc λa0 he F x=>?_
 subst he;refine⟨C.keeps x.toInCall.keep,codeAny_func ?_⟩;obtain⟨t,ht,hq⟩:=iu A a s H vs Q E (z.deeper _) i;have I:Inv (cR CX P w K l base N qual scope f c A a s H E) [] (start N vs) H F:=vL S z.hd h hl r x;refine JM (ht [] F (start N vs) H _ I hq) (λfl m g=>?_) λe m g=>g
 have j:∀{d:St}{H':Hp}{v:V}{u:Jp},Inv (cR CX P w K l base N qual scope f c A a s H E) [] d H' m->RelV v u->Q v H'->CE a P w H s Q u m :=
  λ{d H' v u} J p q=>⟨v,H',J.os,J.bare,J.base,J.hok,p,q⟩
 cases fl with
 |ret u =>
  obtain⟨v,d,H',J,p,q⟩:=g;exact j J p q
 |next =>
  obtain⟨d,H',J,q⟩:=g;exact j (v:=V.non) (u:=Jp.none) J U q
 |brk =>
  obtain⟨_,_,_,q⟩:=g;exact False.elim q
 |cont =>
  obtain⟨_,_,_,q⟩:=g;exact False.elim q
section
variable{x:Str}{id T:String}{r:List V->Hp->VK->Prop}
def tCB(r:List V->Hp->VK->Prop)(t:TA):TE:=λσ H Q=>t σ H λa b=>r a b Q
theorem ao(n:cF X (.builtin id) r)(m:Gl X x)(l:X.mg x=Mx)(j:Jz x=Mw (.builtin id))(o:PA X (e :: es) t)(k:x ≠ "__name__" := by decide) (b:(x == ("__debug__" : Str))=false:=by decide)
  (he:JK (e :: es) X.env=(MA,eval e X.env) :: JK es X.env:=by rfl)(a:(JJ pos (JK es X.env)).any (·.1)=false:=by rfl):PE X (.Call (.Name x p) (e :: es) [] pos) (tCB r t):=by
 intro MC s σ H Q I h;refine Jo (fb I m l j ?_ k b);exact PyProof.Rows.callWith_builtin1 (thn (o pos MC s σ H _ I h) λd f ⟨c,u,q,g,i⟩=>n MC f σ u c d Q q g i) he a
theorem bF(n:cF X (.type T) r)(m:Gl X x)(l:X.mg x=Mx)(j:Jz x=Mw (.type T))(o:PA X (e :: es) t)(k:x ≠ "__name__" := by decide) (b:(x == ("__debug__" : Str))=false:=by decide)
  (he:JK (e :: es) X.env=(MA,eval e X.env) :: JK es X.env:=by rfl)(a:(JJ pos (JK es X.env)).any (·.1)=false:=by rfl):PE X (.Call (.Name x p) (e :: es) [] pos) (tCB r t):=by
 intro MC s σ H Q I h;refine Jo (fb I m l j ?_ k b);exact PyProof.Rows.callWith_type1 (thn (o pos MC s σ H _ I h) λd f ⟨c,u,q,g,i⟩=>n MC f σ u c d Q q g i) he a
end
end L2
namespace HT
open PySem PyProof.Rows
theorem xC(A:JA)(s:JB)(a:Int)(t:Tok)(c:Int)(u:Tok):∃e,SeqAt.EqAt A s (.int a t) (.int c u) e/\(e=Mz↔a=c) :=
 ⟨(a == c),SeqAt.EqAt.int_int a t c u,by simp⟩
section
open PySem.SeqAt
open PySem.AutoSeq1 (wpAny_loadPart')
open PySem.MeetsSeq PySem.MeetsSeq2 PySem.MeetsSeq3
end
section
variable{prog:Jr}{w:Jq}{A:JA}{E:Jp->JB->Prop}{s:JB}
theorem cat_tup{t b:Js}{vs ws:List Jp}{Q:Jp->JB->Prop}(r:IsTup s.heap t vs.toArray)(u:IsTup s.heap b ws.toArray)(o:vs≠[])
  (x:ws=[]->Q (.ref t) s)(v:ws≠[]->Q (.ref s.heap.objs.size) { s with heap:=s.heap.push { cls:=.type "tuple",data:=.seq (vs++ws).toArray } })
  (j:vs.length+ws.length<=Ju):JF (model prog w) A (Kj .Add (.ref t) (.ref b)) Q E s:=by
 obtain⟨⟨cls,dd,data,l⟩,i,q,n,p⟩:=id r;obtain⟨⟨y,g,k,c⟩,a,f,m,d⟩:=id u;simp only at q p f d;subst q p f d;have e:vs.toArray++ws.toArray=(vs++ws).toArray:=by simp
 by_cases h:ws=[]
 .exact KL ⟨_,i,rfl⟩ ⟨_,a,rfl⟩ KN KO PySem.F.slot_tuple_add PySem.F.entry_tuple_add (PySem.F.args_tuple_add_2 _ _)
   (tuple_addW1 t b vs.toArray ws.toArray n m dd g l c (by simpa using o) (by simp[h])) ⟨i,a,x h⟩
 .refine KL ⟨_,i,rfl⟩ ⟨_,a,rfl⟩ KN KO PySem.F.slot_tuple_add PySem.F.entry_tuple_add (PySem.F.args_tuple_add_2 _ _)
   (tuple_addW2 t b vs.toArray ws.toArray n m dd g l c (by simpa using o) (by simpa using h) (by rw[en,en];exact j)) ⟨i,a,?_⟩
  rw[e];exact v h
def sIx(n d:Nat):Option Int->Nat
 |none=>d
 |some v=>if v<0 then(v+(n:Int)).toNat else min v.toNat n
end
end HT
namespace L2
open PySem PySem.Spec PyProof.Rows
abbrev TO:=St->Hp->(Option Int->Hp->Prop)->Prop
def PO(X:Cx)(e:Option JH)(t:TO):Prop :=
 ∀(a:List (Js×Obj))(s:JB)(b:St)(H:Hp)(Q:Option Int->Hp->Prop),Inv X a b H s->t b H Q ->
  JF (model X.prog X.w) X.A (evalPart e X.env) (λu d=>∃o c,Inv X a b c d/\KP u o/\Q o c) X.xe s
def zN:TO:=λ_ H Q=>Q Mx H
inductive xD  (Q:Option Int->Hp->Prop)(x:V)(H1:Hp):Prop
 |mk (i:_)(_:x=.int i)(_:Q (Mw i) H1):xD Q x H1
def Dd(t:TE):TO:=λa H Q=>t a H λx b=>xD Q x b
theorem intsAre_of{a:List Int}:∀{us:List Jp},Vals (a.map V.int) us->IntsAre us a:=by
 induction a with
 |nil=>intro us r;rw[qf]at r;cases r;exact .nil
 |cons n a d =>
  intro us r;rw[jS]at r;cases r with
  |cons c b =>
   obtain⟨t,e⟩:=c;subst e;exact .cons n t (d b)
variable{X:Cx}
section
variable{e:JH}{te:TE}{lo hi:Option JH}{tl th:TO}{pos p2:Pos}
theorem dk:PO X Mx zN:=by
 intro a s b H Q I h;rw[KQ];exact Jm ⟨Mx,H,I,.none,h⟩
theorem dn(h:PE X e te):PO X (Mw e) (Dd te):=by
 intro a s b H Q I f;rw[evalPart_some];refine thn (h a s b H _ I f) λu k ⟨x,j,g,c,d⟩=>?_
 obtain⟨i,rfl,q⟩:=d;obtain⟨t,rfl⟩:=c;exact⟨Mw i,j,g,.int i t,q⟩
def SlR(X:Cx)(r:V->Option Int->Option Int->Hp->VK->Prop):Prop :=
 ∀(a:List (Js×Obj))(s:JB)(b:St)(H:Hp)(x:V)(v d c:Jp)(lo hi:Option Int)(e:Js)(Q:VK),Inv X a b H s->RelV x v->s.heap.IsSliceOf e d c .none->KP d lo->KP c hi->r x lo hi H Q ->
  ∃T f,KR (.type T) "__getitem__" = pure (Mw (.builtin f))/\s.TypeIs v T/\JF (model X.prog X.w) X.A (getItem v (.ref e)) (EP X a b Q) X.xe s
def tSl(r:V->Option Int->Option Int->Hp->VK->Prop)(te:TE)(tl th:TO):TE:=λa H Q=>te a H λx d=>tl a d λl c=>th a c λu b=>r x l u b Q
theorem cG{r:V->Option Int->Option Int->Hp->VK->Prop}(B:SlR X r)(E:PE X e te)(C:PO X lo tl)(y:PO X hi th):PE X (.Subscript e (.Slice lo hi Mx p2) pos) (tSl r te tl th):=by
 intro a s d H Q I h;refine Subscript_ (thn (E a s d H _ I h) λv j ⟨x,N,L,k,o⟩=>?_);refine wpAny_Slice (thn (C a j d N _ L o) λg s2 ⟨l,M,K,t,n⟩=>thn (y a s2 d M _ K n) λf c ⟨u,i,J,p,m⟩=>?_);rw[KQ];refine Jm ?_;have G:Inv X a d i { c with heap:=c.heap.push { cls:=.type "slice",data:=.fields #[g,f,.none] } }:=J.kept (t':=c.toks) λb O q=>Jt.get?_push_of_some _ q
 obtain⟨T,P,F,z,D⟩:=B a { c with heap:=c.heap.push { cls:=.type "slice",data:=.fields #[g,f,.none] } } d i x v g f l u c.heap.objs.size Q G k (Jt.IsSliceOf.new ..) t p m;show JF (model X.prog X.w) X.A (subscriptTail e (.Slice lo hi Mx p2) v (.ref c.heap.objs.size)) (EP X a d Q) X.xe { c with heap:=c.heap.push { cls:=.type "slice",data:=.fields #[g,f,.none] } };exact tail_any (ops:=[.ref c.heap.objs.size,v]) z F D (by with_unfolding_all rfl)
def kl(xs:List V)(lo hi:Option Int):List V:=(xs.drop (HT.sIx xs.length 0 lo)).take (HT.sIx xs.length xs.length hi-HT.sIx xs.length 0 lo)
theorem rm(xs:List V)(lo hi:Option Int):(kl xs lo hi).length<=xs.length:=by
 unfold kl;rw[iP,ki];lia
inductive AZ(K:W.Frag)(x:V)(y:V)(H:Hp)(Q:VK):Prop
 |mk (a b xs ys:_)(_:x=.ref a)(_:y=.ref b)(_:SqT K H a xs)(_:SqT K H b ys)(_:xs≠[])(_:xs.length+ys.length<=Ju)(_:(ys=[]->Q (.ref a) H))(_:(ys≠[]->∀p,H p=Mx->Q (.ref p) (upd H p (.tup (xs++ys)))))
theorem Vals.nil_iff{xs:List V}{us:List Jp}(r:Vals xs us):us=[]↔xs=[]:=by
 cases r with
 |nil=>simp
 |cons _ _=>simp
theorem zO:OpR X (Kj .Add) (AZ X.K):=by
 intro f s B H x y v u Q I k j h;obtain⟨a,b,i,g,rfl,rfl,t,r,p,e,m,l⟩:=h;cases k;cases j;obtain⟨A,d,n,_⟩:=I.tuple t;obtain⟨D,c,p2,_⟩:=I.tuple r;refine HT.cat_tup n p2 (λz=>p (d.nil_iff.mp z)) (λz=>⟨.ref a,H,I,U,m (c.nil_iff.mp z)⟩) (λz=>?_) (by rw[←d.length,←c.length];exact e);refine⟨.ref s.heap.objs.size,_,I.laid (t':=s.toks) (o:=.tup (i++g)) (λb C q=>Jt.get?_push_of_some _ q) (zz _) ?_,U,l (λw=>z (c.nil_iff.mpr w)) _ (I.hok.fresh (zz _))⟩;exact⟨by rw[dt];exact e,_,d.append c,IsTup.new _ _⟩
end
def ixN(n:Nat)(i:Int):Option Nat:=if 0<=i then(if i<n then Mw i.toNat else Mx)else if -(n:Int)<=i then Mw (i+n).toNat else Mx
def atI{α:Type}(xs:List α)(i:Int):Option α:=(ixN xs.length i).bind λj=>xs[j]?
theorem uY{n:Nat}{i:Int}{j:Nat}(h:ixN n i=Mw j):seqIndex? i n=Mw j/\j<n/\-(n:Int)<=i/\i<n:=by
 unfold ixN at h;by_cases b:0<=i
 .rw[ME b]at h;by_cases a:i<n
  .rw[ME a]at h;have e:i.toNat=j:=Option.some.inj h;exact⟨by rw[KS b a,e],by lia,by lia,a⟩
  .rw[MD a]at h;cases h
 .rw[MD b]at h;by_cases a : -(n:Int)<=i
  .rw[ME a]at h;have e:(i+n).toNat=j:=Option.some.inj h;exact⟨by rw[seqIndex_neg (by lia) a,e],by lia,a,by lia⟩
  .rw[MD a]at h;cases h
theorem qm{α:Type}{xs:List α}{i:Int}{v:α}(h:atI xs i=Mw v):∃j,seqIndex? i xs.length=Mw j/\xs[j]?=Mw v/\j<xs.length/\-(xs.length:Int)<=i/\i<xs.length:=by
 unfold atI at h;cases e:ixN xs.length i with
 |none=>rw[e]at h;cases h
 |some j =>
  rw[e]at h;obtain⟨d,c,b,a⟩:=uY e;exact⟨j,d,h,c,b,a⟩
theorem aL{α:Type}{xs:List α}{j:Nat}{v:α}(h:xs[j]?=Mw v):atI xs (j:Int)=Mw v:=by
 have a:j<xs.length:=(IW.mp h).1;have e:ixN xs.length (j:Int)=Mw j:=by
  unfold ixN;rw[ME (by lia),ME (by lia)];simp
 unfold atI;rw[e];exact h
theorem km{α:Type}(xs:List α)(v:α):atI (xs++[v]) (-1)=Mw v:=by
 have a:(xs++[v]).length=xs.length+1:=by simp
 have e:ixN (xs++[v]).length (-1)=Mw xs.length:=by
  unfold ixN;rw[a,MD (by decide),ME (by lia)]
  congr 1
  lia
 unfold atI;rw[e];show(xs++[v])[xs.length]?=Mw v;simp
def zP(b:JH):Prop:=∀o i,subscripted b MA o i=operate [o,i] (getItem o i)
def IxR(X:Cx)(r:R2):Prop :=
 ∀(c a:JH)(b:List (Js×Obj))(s:JB)(d:St)(H:Hp)(x y:V)(v u:Jp)(Q:VK),Inv X b d H s->RelV x v->RelV y u->r x y H Q ->
  subscripted a MA v u=operate [v,u] (getItem v u)->JF (model X.prog X.w) X.A (subscriptTail c a v u) (EP X b d Q) X.xe s
def MtR(X:Cx)(e:String)(r:V->List V->Hp->VK->Prop):Prop :=
 ∀(a:List (Js×Obj))(s:JB)(b:St)(H:Hp)(x:V)(c:List V)(v:Jp)(d:List Jp)(Q:VK),Inv X a b H s->RelV x v->Vals c d->r x c H Q ->
  JF (model X.prog X.w) X.A (call (.builtin e) (v :: d)) (EP X a b Q) X.xe s
section
variable{a b:JH}{ta tb:TE}{pos:Pos}
theorem ax{r:R2}(i:IxR X r)(k:PE X a ta)(j:PE X b tb)(g:zP b):PE X (.Subscript a b pos) (tOp r ta tb):=by
 intro c s d H Q I h;exact Subscript_ (BB k j I h λv u s2 x y m l f e q=>i a b c s2 d m x y v u Q l f e q (g _ _))
inductive BK(K:W.Frag)(x:V)(y:V)(H:Hp)(Q:VK):Prop
 |mk (p xs i v:_)(_:x=.ref p)(_:y=.int i)(_:SqL K H p xs)(_:atI xs i=Mw v)(_:Q v H)
inductive BL(K:W.Frag)(x:V)(y:V)(H:Hp)(Q:VK):Prop
 |mk (p xs i v:_)(_:x=.ref p)(_:y=.int i)(_:SqT K H p xs)(_:atI xs i=Mw v)(_:Q v H)
inductive De  (x:V)(y:V)(H:Hp)(Q:VK):Prop
 |mk (z i c:_)(_:x=.str z)(_:y=.int i)(_:z.length<=Ju)(_:atI z.cps.toList i=Mw c)(_:Q (.str ⟨#[c]⟩) H):De x y H Q
theorem aG:IxR X (BK X.K):=by
 intro k l a s m H x y v u Q I D C h n;obtain⟨p,N,i,z,rfl,rfl,E,G,q⟩:=h;cases D;obtain⟨t,rfl⟩:=C;obtain⟨g,r,d,O⟩:=I.list E;obtain⟨j,c,M,R,L,J⟩:=qm G;obtain⟨w,A,f⟩:=r.get M;have F:=r.length;have P:=jA;have b:EP X a m Q w s:=⟨z,H,I,f,q⟩;by_cases o:0<=i
 .have e:i.toNat=j:=by
   rw[KS o J]at c;exact Option.some.inj c
  exact item_listR d.isList o (by lia) (by rw[e];simpa using A) b n
 .have e:(i+(g.toArray.size:Int)).toNat=j:=by
   rw[seqIndex_neg (by lia) L]at c;rw[en,←F];exact Option.some.inj c
  exact subscriptTail_builtinR (x:=w) d.isList.typeIs KU.lookup
   (wpAny_getItem_list_neg (Q:=λr B=>r=w/\EP X a m Q r B) d.isList (by lia) (by rw[en] <;> lia) (by lia) (by rw[e];simpa using A) ⟨U,b⟩) n
theorem aO:IxR X (BL X.K):=by
 intro d e a s f H x y v u Q I m l h n;obtain⟨p,G,i,z,rfl,rfl,o,B,q⟩:=h;cases m;obtain⟨t,rfl⟩:=l;obtain⟨F,r,g,J⟩:=I.tuple o;obtain⟨j,D,C,O,N,M⟩:=qm B;obtain⟨w,E,b⟩:=r.get C;have A:=r.length;have L:=jA;have c:EP X a f Q w s:=⟨z,H,I,b,q⟩
 exact subscriptTail_builtinR (x:=w) g.typeIs slot_tuple_getitem.lookup
  (getItem_tuple (j:=j) (Q:=λr k=>r=w/\EP X a f Q r k) g (by lia) (by lia) (by rw[en,←A];exact D) (by simpa using E) ⟨U,c⟩) n
theorem tM:IxR X De:=by
 intro a b e s A H x y v u Q I g f h k;obtain⟨z,i,c,rfl,rfl,C,m,q⟩:=h;obtain⟨t,rfl⟩:=g;obtain⟨B,rfl⟩:=f;obtain⟨j,d,p,E,o,n⟩:=qm m;have l:z.cps.toList.length=z.length:=by simp[Str.length]
 rw[l]at d o n;have D:=jA;exact tail_any (KW s z t) slot_str_getitem.lookup (getItem_str (c:=c) (by
  have w:decide (i < -(2^63:Int))=false:=MI (by lia);have r:decide (i ≥ 2^63)=false:=MI (by lia);rw[w,r,Bool.or_false]) (by rw[d];simpa using p) ⟨.str ⟨#[c]⟩,H,I.tok _,⟨_,U⟩,q⟩) k
theorem tN(a:List Jp)(n j:Nat)(u:Jp):Obj.mapSeq (·.setIfInBounds j u) { cls:=.type "list",data:=.seq a.toArray n }={ cls:=.type "list",data:=.seq (a.set j u).toArray n }:=by
 simp[Obj.mapSeq]
theorem Inv.lst{b:List (Js×Obj)}{c:St}{H:Hp}{s:JB}{p:Js}{xs:List V}(I:Inv X b c H s)(h:H p=Mw (.lst xs)) :
  ∃(a:List Jp)(n:Nat),Vals xs a/\s.heap.get? p=Mw { cls:=.type "list",data:=.seq a.toArray n }/\xs.length<=Ju:=by
 obtain⟨z,a,n,r,e⟩:=I.hok p _ h;exact⟨a,n,r,e,z⟩
theorem Inv.lstUpd{a:List (Js×Obj)}{g:St}{H:Hp}{s:JB}{p:Js}{xs ys:List V}{c its':List Jp}{n d:Nat}{f:Obj->Obj}(I:Inv X a g H s)(h:H p=Mw (.lst xs))
  (i:s.heap.get? p=Mw { cls:=.type "list",data:=.seq c.toArray n }) (hf:f { cls:=.type "list",data:=.seq c.toArray n }={ cls:=.type "list",data:=.seq its'.toArray d }) (r:Vals ys its')(hz:ys.length<=Ju)(t:Nat) :
  Inv X a g (upd H p (.lst ys)) { s with heap:=s.heap.update p f,toks:=t }:=by
 have e:(s.heap.update p f).get? p=Mw { cls:=.type "list",data:=.seq its'.toArray d }:=by
  rw[Jt.get?_update_self f i (by rw[hf] <;> rfl),hf]
 refine I.write (x:=p) (e:=p) (by rw[h];trivial) (.inl U) (λb u j q=>(Jt.get?_update_other _ _ (Ne.symm j)).trans q) ⟨_,e⟩ ?_;exact⟨hz,its',d,r,e⟩
inductive A1  (o:V)(i:V)(v:V)(H:Hp)(Q:(Hp->Prop)):Prop
 |mk (p xs k j:_)(_:o=.ref p)(_:i=.int k)(_:H p=Mw (.lst xs))(_:ixN xs.length k=Mw j)(_:Q (upd H p (.lst (xs.set j v)))):A1 o i v H Q
theorem set_list:CW X A1:=by
 intro b s y H o i v F G u Q I B C A h;obtain⟨p,z,k,j,rfl,rfl,g,E,q⟩:=h;cases B;obtain⟨t,rfl⟩:=C;obtain⟨a,n,r,d,D⟩:=I.lst g;obtain⟨c,K,m,l⟩:=uY E;have e:=r.length;have J:=jA;have x:Inv X b y (upd H p (.lst (z.set j v))) { s with heap:=s.heap.update p (Obj.mapSeq (·.setIfInBounds j u)) } :=
  I.lstUpd g d (tN a n j u) (r.set A j) (by rw[zb];exact D) s.toks
 by_cases w:0<=k
 .have f:k.toNat=j:=by
   rw[KS w l]at c;exact Option.some.inj c
  exact W.ki_setAt d w (by lia) (by rw[en,←e];exact l) (by rw[f];exact⟨_,x,q⟩)
 .have f:(k+(a.toArray.size:Int)).toNat=j:=by
   rw[seqIndex_neg (by lia) m]at c;rw[en,←e];exact Option.some.inj c
  exact W.ki_setBack d (by lia) (by rw[en,←e];exact m) (by lia) (by rw[f];exact⟨_,x,q⟩)
theorem qo(lo hi:Option Int)(n:Nat):(KY lo hi Mx n).1=((HT.sIx n 0 lo:Nat):Int)/\(KY lo hi Mx n).2.1=((HT.sIx n n hi:Nat):Int)/\(KY lo hi Mx n).2.2=1:=by
 refine⟨?_,?_,U⟩
 .cases lo with
  |none=>simp[KY,HT.sIx]
  |some i =>
   simp only[KY,HT.sIx,Jk,show(1:Int)>0 by decide,if_true];by_cases h:i<0
   .simp only[h,if_true] <;> lia
   .simp only[h,if_false] <;> lia
 .cases hi with
  |none=>simp[KY,HT.sIx]
  |some i =>
   simp only[KY,HT.sIx,Jk,show(1:Int)>0 by decide,if_true];by_cases h:i<0
   .simp only[h,if_true] <;> lia
   .simp only[h,if_false] <;> lia
theorem oC(a:List Jp)(lo hi:Option Int):slicePick a.toArray lo hi Mx=((a.drop (HT.sIx a.length 0 lo)).take (HT.sIx a.length a.length hi-HT.sIx a.length 0 lo)).toArray:=by
 obtain⟨d,c,b⟩:=qo lo hi a.toArray.size;unfold slicePick;rw[d,c,b];simp only[sliceRange_one,pick_run,en] <;> rfl
inductive BM(K:W.Frag)(x:V)(lo:Option Int)(hi:Option Int)(H:Hp)(Q:VK):Prop
 |mk (a xs:_)(_:x=.ref a)(_:SqL K H a xs)(_:∀p,H p=Mx->Q (.ref p) (upd H p (.lst (kl xs lo hi))))
theorem dZ:SlR X (BM X.K):=by
 intro f s p H x v u t lo hi w Q I g m j i h;obtain⟨a,c,rfl,l,q⟩:=h;cases g;obtain⟨n,r,e,k⟩:=I.list l;have d:=r.length;refine⟨"list",_,KU.lookup,e.isList.typeIs,?_⟩;refine wpAny_getItem_list_slice e.isList m j i .none (by simp) ?_ (by rw[en] <;> lia);rw[oC,←d];refine⟨.ref s.heap.objs.size,_,I.laid (t':=s.toks) (o:=.lst (kl c lo hi)) (λb y q=>Jt.get?_push_of_some _ q) (zz _) ?_,U,q _ (I.hok.fresh (zz _))⟩;exact⟨zQ (rm c lo hi) k,_,0,(r.drop (HT.sIx c.length 0 lo)).take (HT.sIx c.length c.length hi-HT.sIx c.length 0 lo),Jt.get?_push_size _ U⟩
def ia:V->Bool
 | .non=>Mz
 | .bl _=>Mz
 | .int _=>Mz
 | .str _=>Mz
 |_=>MA
def eqV:V->V->Bool
 | .non,.non=>Mz
 | .bl a,.bl b=>a == b
 | .bl a,.int b=>(if a then 1 else 0) == b
 | .int a,.bl b=>a == (if b then 1 else 0)
 | .int a,.int b=>a == b
 | .str a,.str b=>a == b
 |_,_=>MA
theorem tO{A:JA}{s:JB}{y x:V}{u v:Jp}(e:RelV y u)(c:RelV x v)(g:ia y=Mz)(f:ia x=Mz):SeqAt.EqAt A s u v (eqV y x):=by
 cases y with
 |non =>
  cases e;cases x with
  |non=>cases c;exact SeqAt.EqAt.same _
  |bl b=>cases c;exact SeqAt.EqAt.none_bool b
  |int b=>obtain⟨t,rfl⟩:=c;exact SeqAt.EqAt.none_int b t
  |str b=>obtain⟨t,rfl⟩:=c;exact SeqAt.EqAt.none_str b t
  |_=>exact MG (show MA=Mz from f) Bool.false_ne_true
 |bl a =>
  cases e;cases x with
  |non=>cases c;exact SeqAt.EqAt.bool_none a
  |bl b=>cases c;exact SeqAt.EqAt.bool_bool a b
  |int b=>obtain⟨t,rfl⟩:=c;exact SeqAt.EqAt.bool_int a b t
  |str b=>obtain⟨t,rfl⟩:=c;exact SeqAt.EqAt.bool_str a b t
  |_=>exact MG (show MA=Mz from f) Bool.false_ne_true
 |int a =>
  obtain⟨d,rfl⟩:=e;cases x with
  |non=>cases c;exact SeqAt.EqAt.int_none a d
  |bl b=>cases c;exact SeqAt.EqAt.int_bool a d b
  |int b=>obtain⟨t,rfl⟩:=c;exact SeqAt.EqAt.int_int a d b t
  |str b=>obtain⟨t,rfl⟩:=c;exact SeqAt.EqAt.int_str a d b t
  |_=>exact MG (show MA=Mz from f) Bool.false_ne_true
 |str a =>
  obtain⟨d,rfl⟩:=e;cases x with
  |non=>cases c;exact SeqAt.EqAt.str_none a d
  |bl b=>cases c;exact SeqAt.EqAt.str_bool a d b
  |int b=>obtain⟨t,rfl⟩:=c;exact SeqAt.EqAt.str_int a d b t
  |str b=>obtain⟨t,rfl⟩:=c;exact SeqAt.EqAt.str_str a d b t
  |_=>exact MG (show MA=Mz from f) Bool.false_ne_true
 |_=>exact MG (show MA=Mz from g) Bool.false_ne_true
theorem aq:cF X (.builtin "len") (λxs H Q=>∃p ys,xs=[.ref p]/\(SqL X.K H p ys\/SqT X.K H p ys)/\Q (.int ys.length) H):=by
 intro f s j H xs k Q I r h;obtain⟨p,ys,rfl,b,q⟩:=h;obtain⟨u,rfl,g⟩:=vals1 r;cases g;have l:=jA;rcases b with b|b
 .obtain⟨e,c,d,i⟩:=I.list b;have a:=c.length;exact Calls.call_len_list d.isList (by simp only[en] <;> lia) ⟨.int ys.length,H,I.tok _,⟨s.toks+1,by rw[en,a]⟩,q⟩
 .obtain⟨e,c,d,i⟩:=I.tuple b;have a:=c.length;exact len_tuple d (by simp only[en] <;> lia) ⟨.int ys.length,H,I.tok _,⟨s.toks+1,by rw[en,a]⟩,q⟩
theorem qp:cF X (.builtin "len") (λxs H Q=>∃z,xs=[.str z]/\z.length<=Ju/\Q (.int z.length) H):=by
 intro a s b H xs c Q I r h;obtain⟨z,rfl,d,q⟩:=h;obtain⟨u,rfl,t,rfl⟩:=vals1 r;have e:=jA;exact len_str (by lia) ⟨.int z.length,H,I.tok _,⟨_,U⟩,q⟩
theorem cF.or{f:Jp}{r e:List V->Hp->VK->Prop}(h:cF X f r)(h':cF X f e):cF X f (λxs H Q=>r xs H Q\/e xs H Q):=by
 intro a s b H xs c Q I d q;rcases q with q|q
 .exact h a s b H xs c Q I d q
 .exact h' a s b H xs c Q I d q
theorem cD:cF X (.type "list") (λxs H Q=>∃p ys,xs=[.ref p]/\(SqL X.K H p ys\/SqT X.K H p ys)/\∀l,H l=Mx->Q (.ref l) (upd H l (.lst ys))):=by
 intro m s B H xs D Q I r h;obtain⟨p,ys,rfl,j,q⟩:=h;obtain⟨u,rfl,C⟩:=vals1 r;cases C
 have k:∀(a:List Jp),Vals ys a->ys.length<=Ju->∀(c:Jt)(f:Nat),(∀b A,s.heap.get? b=Mw A->c.get? b=Mw A) ->
   c.get? s.heap.objs.size=Mw { cls:=.type "list",dict:=Mx,data:=.seq a.toArray f,slots:=#[] }->EP X m B Q (.ref s.heap.objs.size) { s with heap:=c }:=λa d i c f g e =>
  ⟨.ref s.heap.objs.size,_,I.laid (t':=s.toks) g (zz _) (show df X.prog X.w _ c _ (.lst ys) from⟨i,a,f,d,e⟩),U,q _ (I.hok.fresh (zz _))⟩
 rcases j with j|j
 .obtain⟨a,d,v,i⟩:=I.list j;have t:=d.length;obtain⟨o,x,z,n,y⟩:=v.isList;exact KZ p (.inl U) x z y (λc f g e=>k a d i c f g e) (by simp only[en] <;> lia)
 .obtain⟨a,d,v,i⟩:=I.tuple j;have t:=d.length;obtain⟨o,x,z,n,y⟩:=v;exact KZ p (.inr U) x z y (λc f g e=>k a d i c f g e) (by simp only[en] <;> lia)
theorem jo:cF X (.type "tuple") (λxs H Q=>∃p ys,xs=[.ref p]/\((SqL X.K H p ys/\∀l,H l=Mx->Q (.ref l) (upd H l (.tup ys)))\/(SqT X.K H p ys/\Q (.ref p) H))):=by
 intro a s j H xs y Q I r h;obtain⟨p,ys,rfl,h⟩:=h;obtain⟨u,rfl,t⟩:=vals1 r;cases t;rcases h with⟨i,q⟩|⟨i,q⟩
 .obtain⟨c,f,g,k⟩:=I.list i;have n:=f.length;refine call_tuple_list g.isList (λd v=>?_) (by simp only[en] <;> lia);have m:Inv X a j H { s with heap:=d }:=I.kept (t':=s.toks) v;have x:Inv X a j (upd H d.objs.size (.tup ys)) { s with heap:=d.push { cls:=.type "tuple",data:=.seq c.toArray } } :=
   m.laid (t':=s.toks) (λb o e=>Jt.get?_push_of_some _ e) (zz _) (show df X.prog X.w _ _ _ (.tup ys) from⟨k,c,f,IsTup.new _ _⟩)
  exact⟨.ref d.objs.size,_,x,U,q _ (m.hok.fresh (zz _))⟩
 .obtain⟨c,f,g,k⟩:=I.tuple i;exact call_tuple_same g ⟨.ref p,H,I,U,q⟩
def tyV(K:W.Frag)(T:String)(x:V)(H:Hp):Prop:=match x with
 | .str _=>T = "str"
 | .int _=>T = "int"
 | .ref p=>(T = "list" /\ ∃b,SqL K H p b)\/(T = "tuple" /\ ∃o,K.lookup p=Mw o/\o.cls=.type "tuple" /\ o.dict=Mx) \/
   (T = "dict" /\ ((∃a,H p=Mw (.dK a))\/∃a,H p=Mw (.dT a)))\/(T = "set" /\ ∃S n,H p=Mw (.set S n))
 |_=>False
theorem xE{f:List (Js×Obj)}{m:St}{H:Hp}{s:JB}{T:String}{x:V}{v:Jp}(I:Inv X f m H s)(r:RelV x v)(ty:tyV X.K T x H) :
  s.TypeIs v T/\∀a,v=.ref a->∃l,s.heap.get? a=Mw l/\l.dict=none:=by
 cases x with
 |str z =>
  obtain⟨t,rfl⟩:=r;cases (show T = "str" from ty);exact⟨KW s z t,λ_ e=>nomatch e⟩
 |int i =>
  obtain⟨t,rfl⟩:=r;cases (show T = "int" from ty);exact⟨typeIs_int s i t,λ_ e=>nomatch e⟩
 |ref p =>
  cases r;rcases ty with⟨rfl,y,q⟩|⟨rfl,o,b,u,g⟩|⟨rfl,b⟩|⟨rfl,S,n,b⟩
  .obtain⟨w,_,k,_⟩:=I.list q;refine⟨k.isList.typeIs,λa e=>?_⟩;cases e;obtain⟨o,n,e,c,g,_⟩:=k;exact⟨o,e,g⟩
  .refine⟨⟨o,I.kIn p o b,u⟩,λa e=>?_⟩;cases e;exact⟨o,I.kIn _ o b,g⟩
  .have z:∃o,s.heap.get? p=Mw o/\o.ExactDict:=by
    rcases b with⟨j,b⟩|⟨j,b⟩
    .obtain⟨_,_,_,_,o,_,_,e,d,_⟩:=I.hok p _ b;exact⟨o,e,d⟩
    .obtain⟨_,_,_,_,o,_,_,e,d,_⟩:=I.hok p _ b;exact⟨o,e,d⟩
   obtain⟨o,e,d⟩:=z;refine⟨⟨o,e,d.1⟩,λa h=>?_⟩;cases h;exact⟨o,e,d.2.1⟩
  .obtain⟨o,_,_,_,e,d,_⟩:=I.hok p _ b;refine⟨⟨o,e,d.1⟩,λa h=>?_⟩;cases h;exact⟨o,e,d.2.1⟩
 |_=>exact False.elim ty
def EV(K:W.Frag)(T:String)(r:V->List V->Hp->VK->Prop)(to:TE):TE:=λb H Q=>to b H λx a=>tyV K T x a/\r x [] a Q
def tBM(K:W.Frag)(T:String)(r:V->List V->Hp->VK->Prop)(to:TE)(t:TA):TE:=λa H Q=>to a H λx b=>tyV K T x b/\t a b λc d=>r x c d Q
variable{o e:JH}{es:List JH}{to:TE}{t:TA}{name:Str}{apos qr:Pos}{T id:String}{r:V->List V->Hp->VK->Prop}
theorem BN(l:PlainAttrs T)(b:Slot T name id)(c:typeOf (.builtin id)=pure (.type "method_descriptor")) (hm:MtR X id r)(m:PE X o to)
  (i:Kt o name X.env (eval o X.env)=eval o X.env:=by rfl)(g:(apos.endLine == qr.line)=true:=by rfl):PE X (.Call (.Attribute o name apos) [] [] qr) (EV X.K T r to):=by
 intro a s d H Q I h;refine wpAny_Call_method0_late i g (thn (m a s d H _ I h) λv j ⟨x,q,f,e,ty,k⟩=>?_);obtain⟨p,n⟩:=xE f e ty;exact⟨T,id,l,b,c,p,n,Calls.callWith_builtin U (PySem.evalArgs_none (hm a j d q x [] v [] Q f e .nil k))⟩
theorem eU(w:PlainAttrs T)(b:Slot T name id)(d:typeOf (.builtin id)=pure (.type "method_descriptor")) (hm:MtR X id r)(z:PE X o to)(A:PA X (e :: es) t)
  (k:Kt o name X.env (eval o X.env)=eval o X.env:=by rfl)
  (G:((JJ qr (JK (e :: es) X.env)).all (λx=>!x.1) && (K0 qr (K1 [] X.env)).all (λx=>x.1.isSome)
   && decide ((e :: es).length+([]:List Keyword).length+(if ([]:List Keyword).isEmpty then 0 else 1)<30))=true:=by rfl)
  (j:(apos.endLine == qr.line)=true:=by rfl)(y:JK (e :: es) X.env=(MA,eval e X.env) :: JK es X.env:=by rfl)(J:(JJ qr (JK es X.env)).any (·.1)=false:=by rfl) :
  PE X (.Call (.Attribute o name apos) (e :: es) [] qr) (tBM X.K T r to t):=by
 intro a s c H Q I h;refine wpAny_Call_method_late k G j U (thn (z a s c H _ I h) λv n ⟨x,F,i,f,ty,u⟩=>?_);obtain⟨C,B⟩:=xE i f ty;refine⟨T,id,w,b,d,C,B,?_⟩;have g:=A qr a n c F _ i u;rw[y]at g⊢;refine Calls.callWith_builtin (by show(MA || (JJ qr (JK es X.env)).any (·.1))=MA;rw[J] <;> rfl) (Calls.evalArgs_plain ?_);exact thn g λm s2 ⟨l,E,D,p,q⟩=>hm a s2 c E x l v m Q D f p q
end
def MtM(X:Cx)(e:String)(r:V->List V->Hp->VK->Prop):Prop :=
 ∀(a:List (Js×Obj))(s:JB)(b:St)(H:Hp)(x:V)(c:List V)(v:Jp)(d:List Jp)(Q:VK),Inv X a b H s->RelV x v->Vals c d->r x c H Q ->
  JF (model X.prog X.w) X.A (call (.builtin e) (v :: d)) (EP X a b Q) X.xe s
theorem Vals.one:∀{x:V}{us:List Jp},Vals [x] us->∃u,us=[u]/\RelV x u
 |_,_,.cons r .nil=>⟨_,U,r⟩
theorem Vals.two:∀{x y:V}{us:List Jp},Vals [x,y] us->∃u v,us=[u,v]/\RelV x u/\RelV y v
 |_,_,_,.cons r (.cons q .nil)=>⟨_,_,U,r,q⟩
theorem Vals.zero:∀{us:List Jp},Vals [] us->us=[]
 |_,.nil=>rfl
theorem Vals.reverse{xs:List V}{us:List Jp}(h:Vals xs us):Vals xs.reverse us.reverse:=by
 induction h with
 |nil=>exact .nil
 |cons r t a=>rw[qg,qg];exact Vals.append a (.cons r .nil)
section
variable{MC:List (Js×Obj)}{σ:St}{H:Hp}{s:JB}{l b:Js}{xs ys zs:List V}
theorem Inv.lset{a its':List Jp}{n:Nat}{f:Array Jp->Array Jp}{t':Nat}(I:Inv X MC σ H s)(g:H l=Mw (.lst xs))
  (e:s.heap.get? l=Mw { cls:=.type "list",data:=.seq a.toArray n }) (hf:f a.toArray=its'.toArray)(b:Vals ys its')(hz:ys.length<=Ju) :
  Inv X MC σ (upd H l (.lst ys)) { s with heap:=s.heap.update l (Obj.mapSeq f),toks:=t' }:=by
 have q:=PySem.IsL.update e f;rw[hf]at q;refine I.write (x:=l) (e:=l) (by rw[g];exact trivial) (.inl U) (λh u d c=>(Jt.get?_update_other s.heap (Obj.mapSeq f) (Ne.symm d)).trans c) ⟨_,q⟩ ?_;exact⟨hz,its',_,b,q⟩
theorem Inv.lnew{a:List Jp}{t':Nat}(I:Inv X MC σ H s)(b:Vals ys a)(hz:ys.length<=Ju) :
  Inv X MC σ (upd H s.heap.objs.size (.lst ys)) { s with heap:=s.heap.push { cls:=.type "list",data:=.seq a.toArray },toks:=t' } :=
 I.laid (λ_ _ q=>Jt.get?_push_of_some _ q) (zz _) ⟨hz,a,0,b,Jt.get?_push_size _ U⟩
theorem Inv.fresh(I:Inv X MC σ H s):H s.heap.objs.size=none:=I.hok.fresh (zz _)
theorem Inv.lstM(I:Inv X MC σ H s)(b:H l=Mw (.lst xs)):xs.length<=Ju/\∃(a:List Jp)(n:Nat),Vals xs a/\xs.length=a.length/\s.heap.get? l=Mw { cls:=.type "list",data:=.seq a.toArray n }:=by
 obtain⟨z,a,n,r,e⟩:=I.hok l _ b;exact⟨z,a,n,r,r.length,e⟩
theorem xH{n:Nat}(h:n<=Ju):Kh.List.listTooLong n=false:=by
 unfold Kh.List.listTooLong;exact MI (by lia)
end
inductive uZ  (x:V)(vs:List V)(H:Hp)(Q:VK):Prop
 |mk (l xs y:_)(_:x=.ref l)(_:vs=[y])(_:H l=Mw (.lst xs))(_:xs.length<Ju)(_:Q .non (upd H l (.lst (xs++[y])))):uZ x vs H Q
theorem bq:MtM X "list.append" uZ:=by
 intro c s i H x k v m Q I d f h;obtain⟨l,j,y,rfl,rfl,b,o,q⟩:=h;cases d;obtain⟨u,rfl,g⟩:=f.one;obtain⟨z,a,n,r,p,e⟩:=I.lstM b;refine K2 F.slot_list_append ⟨_,e,U⟩ F.entry_list_append (F.args_list_append_2 _ _) (PySem.list_append l a.toArray n u (by rw[en];lia)) ⟨e,?_⟩;refine⟨.non,_,I.lset (its':=a++[u]) b e (by simp) (r.append (.cons g .nil)) ?_,U,q⟩;rw[dt,gy];lia
inductive u7  (x:V)(vs:List V)(H:Hp)(Q:VK):Prop
 |mk (l b xs zs:_)(_:x=.ref l)(_:vs=[.ref b])(_:H l=Mw (.lst xs))(_:H b=Mw (.lst zs))(_:xs.length+zs.length<=Ju)(_:Q .non (upd H l (.lst (xs++zs)))):u7 x vs H Q
theorem vM:MtM X "list.extend" u7:=by
 intro g s A H x E v G Q I i j h;obtain⟨l,b,D,B,rfl,rfl,f,p,J,q⟩:=h;cases i;obtain⟨u,rfl,k⟩:=j.one;cases k;obtain⟨z,a,n,r,K,e⟩:=I.lstM f;obtain⟨C,c,o,m,y,t⟩:=I.lstM p;have d:a.toArray.size+c.toArray.size<=Ju:=by rw[en,en];lia
 have w:¬ (!a.toArray.isEmpty && Kh.List.listTooLong (a.toArray.size+c.toArray.size))=true:=by
  rw[xH d,Bool.and_false];exact Bool.false_ne_true
 refine K2 F.slot_list_extend ⟨_,e,U⟩ F.entry_list_extend (F.args_list_extend_2 _ _)
  (AutoSeq1.list_extend_list_list_0 l a.toArray n b c.toArray o w (by rw[en];lia) (by lia)) ⟨e,t,?_⟩
 refine⟨.non,_,I.lset (its':=a++c) f e (by simp) (r.append m) ?_,U,q⟩;rw[dt];lia
inductive xI  (x:V)(vs:List V)(H:Hp)(Q:VK):Prop
 |mk (l xs:_)(_:x=.ref l)(_:vs=[])(_:H l=Mw (.lst xs))(_:Q .non (upd H l (.lst []))):xI x vs H Q
theorem xJ:MtM X "list.clear" xI:=by
 intro d s i H x k v m Q I f g h;obtain⟨l,j,rfl,rfl,c,q⟩:=h;cases f;have b:=g.zero;subst b;obtain⟨z,a,n,r,o,e⟩:=I.lstM c;refine K2 F.slot_list_clear ⟨_,e,U⟩ F.entry_list_clear (F.args_list_clear_1 _) (AutoSeq1.list_clear_list_0 l a.toArray n (by rw[en];lia)) ⟨e,?_⟩;exact⟨.non,_,I.lset (its':=[]) (ys:=[]) c e U .nil (Az _),U,q⟩
inductive Dg  (x:V)(y:V)(H:Hp)(Q:VK):Prop
 |mk (l b xs zs:_)(_:x=.ref l)(_:y=.ref b)(_:H l=Mw (.lst xs))(_:H b=Mw (.lst zs))(_:xs.length+zs.length<=Ju)(_:∀p,H p=Mx->Q (.ref p) (upd H p (.lst (xs++zs)))):Dg x y H Q
theorem dR:OpR X (Kj .Add) Dg:=by
 intro d s t H x y v u Q I g f h;obtain⟨l,b,B,w,rfl,rfl,j,k,D,q⟩:=h;cases g;cases f;obtain⟨z,a,n,r,E,e⟩:=I.lstM j;obtain⟨A,c,C,i,p,o⟩:=I.lstM k;refine PySem.P.add_list e o ?_ (by rw[en,en];lia);have m:a.toArray++c.toArray=(a++c).toArray:=by simp
 rw[m];exact⟨.ref _,_,I.lnew (t':=s.toks) (r.append i) (by rw[dt];lia),U,q _ I.fresh⟩
section
variable{prog:Jr}{w:Jq}{A:JA}{E:Jp->JB->Prop}{s:JB}
end
end L2
namespace Att
open PySem PySem.W PySem.Calls PyProof.Rows
theorem l9{P:K3}{h:Jt}:∀(c:List Int)(vs:List Jp),WellAll P h vs (c.map WData.int)->IntsAre vs c:=by
 intro c;induction c with
 |nil =>
  intro vs w;rw[qf]at w;cases w;exact .nil
 |cons n c d =>
  intro vs w;rw[jS]at w;cases w with
  |cons a b =>
   cases a;exact .cons _ _ (d _ b)
theorem vO{l:OpenLaw}{n:Nat}(u:l.most=Mw n){P:K3}{h:Jt}{args:List WData}{c:List Jp}
  (k:l.row.toRowW.claim.pre args=Mz)(i:WellAll P h c args) :
  ∃a vs b,c=[Jp.ref a]/\args=[WData.list (b.map WData.int)]/\h.get? a=Mw { cls:=.type "list",data:=.seq vs.toArray }/\IntsAre vs b/\b.length<=n:=by
 have j:WShape.hasAll [] args [.list .int]=true:=(pre_splitW k).1;have m:l.pre.holds [] { args:=args }=true:=(pre_splitW k).2;obtain⟨d,r,rfl,x,w⟩:=hasAllW_cons j;obtain rfl:=hasAllW_nil w;obtain⟨z,rfl,v⟩:=hasW_list x;obtain⟨b,rfl⟩:=items_int v;have e:b.length<=n:=by
  unfold OpenLaw.pre at m;have g:(WTm.not (.lt (.lit (.int (n:Int))) (.len (.arg 0)))).holds [] { args:=[.list (b.map .int)] }=true:=by
   have g:=(holds_andW m).1;rw[u]at g;exact g
  have f:=condW_of g (w_not (w_lt w_lit (w_len_list (w_arg rfl))));rw[bx]at f;refine Nat.le_of_not_lt λq=>?_
  have s:(n:Int)<((b.length:Nat):Int):=by lia
  first
   |(rw[MH s]at f;exact MG f (by decide))
   |(simp at f;lia)
 cases i with
 |cons p o =>
  cases o;cases p with
  |list t y=>exact⟨_,_,b,rfl,rfl,t,l9 b _ y,e⟩
theorem vP(l:OpenLaw)(args:List WData):l.row.toRowW.claim.post args (.bool Mz) args=true :=
 postW_of (r:=l.row.toRowW) (X:=(Mz == Mz))
  (show WShape.has [] (.bool Mz) .bool=Mz by first|rfl|decide|simp[WShape.has,WShape.arms,WShape.armsAll])
  (show(WTm.eq .res (.lit (.bool Mz))).value [] { args:=args,res:=Mw (.bool Mz),after:=args }=Mw (.bool (Mz == Mz))from w_eq_bool (w_res rfl) w_lit) rfl
theorem attach_call{l:OpenLaw}{n:Nat}{q:Jr}{e:List Str}{XP:(Str->Option Jp)->Jt->Prop}{y:Jq->Jt->Prop}{d:DefRec}
  (E:l.most=Mw n)(u:d.params.defaults=[])
  (call:∀(w:Jq)(c b:JB)(k p:Str->Option Jp)(h:Js)(o:Obj)(pm m doc:Jp)(a:Js)(vs:List Jp)(j:List Int),
   Ground q e [] XP w c k p b.heap->y w b.heap ->
   b.heap.get? h=Mw o->o.data=.func (docDef d.name d.params d.body d.scope pm m doc)->b.heap.CodeRec m d.name->k d.name=Mw (.ref h) ->
   b.heap.get? a=Mw { cls:=.type "list",data:=.seq vs.toArray }->IntsAre vs j->j.length<=n->b.gens = #[] ->
   Ks (model l.prog w) K4 (.call (.ref h) ⟨[.ref a],[]⟩) (λr s'=>r=.ok (.ret (.bool Mz))/\OldK b.heap s'.heap/\s'.os=b.os/\AllBare s'.gens) b) :
  WalkO q e XP y l.row.toRowW d [] (λf vs=>PySem.call f vs):=by
 intro w c b k p G Y h o pm m doc M kV D I v x t H A z Q B R O s P;obtain rfl:M=.none:=Dflts.none x u;obtain rfl:kV=.none:=Dflts.noKw x;obtain⟨a,vs,j,rfl,rfl,N,g,i⟩:=vO E B s;refine enter_call (KC (call w c b k p h o pm m doc a vs j G Y D (fd_plain I) v t N g i H) λr s' C=>?_);obtain⟨rfl,L,K,J⟩:=C;exact⟨.inl ⟨.bool Mz,.bool Mz,[],rfl,λ_=>rfl,.bool Mz,vP l _,λ_=>⟨List.Pairwise.nil,λ_ F=>(nomatch F)⟩⟩,L,K,J⟩
section
variable{prog:Jr}{w:Jq}{A:JA}{E:Jp->JB->Prop}{s:JB}{K:Frag}
end
end Att
namespace L2
open PySem PySem.Spec PyProof.Rows
theorem pq:∀{vs:List Jp}{a:List Int},IntsAre vs a->Vals (a.map V.int) vs
 |_,_,.nil=>.nil
 |_,_,.cons n t h=>.cons ⟨t,U⟩ (pq h)
def Iy(H:Hp):Prop:=∀b,H b=Mx\/∃o a,H b=Mw (.frz o (.lst a))
def inClass(s:JL)(j:Nat):JL:=match s with
 | .ClassDef _ _ _ body _ _ _ _ _ _ _=>body.getD j (.Pass ⟨0,0,0,0⟩)
 |_=>.Pass ⟨0,0,0,0⟩
def gG(s:JL):KJ:=match s with
 | .FunctionDef _ a _ _ _ _ _ _ _ _=>a
 |_=>{ posonlyargs:=[],args:=[],vararg:=Mx,kwonlyargs:=[],kw_defaults:=[],kwarg:=Mx,defaults:=[] }
def dI(s:JL):List JL:=match s with
 | .FunctionDef _ _ b _ _ _ _ _ _ _=>b
 |_=>[]
def ak(s:JL):JC:=match s with
 | .FunctionDef _ _ _ _ _ _ sc _ _ _=>sc
 |_=>{ kind:=.function,names:=[],isGenerator:=MA,isCoroutine:=MA }
abbrev CX0:CXT:=λ_ _ _ _ _ _=>False
abbrev E0:XK:=λ_ _ _=>False
theorem bT{X:Cx}:Passes CX0 X E0:=λ_ _ _ _ _ _ _ h=>h.elim
structure Fun(K:W.Frag)(x qual:Str)(st:JL)(f:Js)(fd:Kx):Prop where
 ex:∃(oc:Jp)(od:Option Js)(kV doc pm:Jp)(an:Option Js)(cdv ct:Jp)(osl:Array (Option Jp)),
  fd=W.fnOf x qual (gG st) (dI st) (ak st) .none kV doc pm an cdv ct/\K.lookup f=Mw ⟨oc,od,.func fd,osl⟩/\W.codeIn K cdv qual=Mz
 kp:W.keepIn K (.ref f)=Mz
section
variable{P:Jr}{w:Jq}{K:W.Frag}{mg:Str->Option Jp}{base:Jt}
theorem Fun.ok{x qual:Str}{st:JL}{f:Js}{g:Kx}{N ps:List Str}{k:Nat}{sp:Sp}(F:Fun K x qual st f g)(S:ar N ps (ak st))(c:∀vs H Q E,sp vs H Q E->vs.length=ps.length)
  (j:∀(b:Jp)(A:JA)(a:List Env)(s:JB)(H:Hp)(vs:List V)(Q:VK)(E:XK),bY k (A.deeper (envOfC qual (ak st) s.heap.objs.size f b))->sp vs H Q E ->
   ∃t,PSs (cR CX0 P w K mg base N qual (ak st) f b A a s H E).nox (dI st) t/\t { nx:=λ_ H'=>Q .non H',rt:=Q } (start N vs) H):aK P w K mg base CX0 (k+1) f g ps sp:=by
 obtain⟨r,p,kV,n,o,v,b,u,m,rfl,i,e⟩:=F.ex;refine AY i e S c λA a s H vs Q E l d=>?_
 obtain⟨t,h,q⟩:=j b A a s H vs Q E l d;exact⟨t,h.nox,q⟩
theorem Fun.binds{x qual:Str}{st:JL}{f:Js}{d:Kx}{ps:List Str}(F:Fun K x qual st f d)
  (h:∀(kV doc pm:Jp)(c:Option Js)(a b:Jp)(us:List Jp),us.length=ps.length->Kz (W.fnOf x qual (gG st) (dI st) (ak st) .none kV doc pm c a b) ⟨us,[]⟩=pure (ps.zip us)):Binds K d ps []:=by
 obtain⟨j,i,kV,doc,pm,c,a,b,e,rfl,k,g⟩:=F.ex;exact .all (h kV doc pm c a b)
theorem fun_mk{x qual:Str}{st:JL}{f:Js}{h:Jp}{g e:Option Js}{b:Array (Option Jp)}{kV doc pm a d:Jp}(l:K.lookup f=Mw ⟨h,g,.func (W.fnOf x qual (gG st) (dI st) (ak st) .none kV doc pm e a d),b⟩)
  (c:W.codeIn K a qual=Mz)(k:W.keepIn K (.ref f)=Mz):Fun K x qual st f (W.fnOf x qual (gG st) (dI st) (ak st) .none kV doc pm e a d):=⟨⟨h,g,kV,doc,pm,e,a,d,b,U,l,c⟩,k⟩
end
theorem ay{n:Nat}(h:n<=1000):n<Ju:=D0 h (by decide)
variable{X:Cx}
theorem pv(i:Nat){x:Str}{pos:Pos}(d:X.N[i]?=Mw x:=by rfl)(b:Vis X.env.scope x:=by first|exact Or.inl U|exact Or.inr (Or.inl U)|exact Or.inr (Or.inr U))(c:(x == ("__debug__" : Str))=false:=by decide)
  (a:(x == ("__classdict__" : Str))=false:=by decide):PE X (.Name x pos) (Bw i):=sX d b c a
theorem bB{A B:Prop}(h:B):if MA=Mz then A else B:=by
 rw[MD Bool.false_ne_true];exact h
theorem d8{A B:Prop}(h:A):if Mz=Mz then A else B:=by
 rw[ME U];exact h
theorem bD{c A B:Prop} [Decidable c] (b:c->A)(a:¬ c->B):if c then A else B:=by
 by_cases h:c
 .rw[ME h];exact b h
 .rw[MD h];exact a h
theorem A2{c A B:Prop} [Decidable c] (a:c)(h:B):if (!decide c)=Mz then A else B:=by
 rw[MH a];exact bB h
def au(H H':Hp):Prop:=∀b o,H b=Mw o->H' b=Mw o
theorem au.refl(H:Hp):au H H:=λ_ _ h=>h
theorem au.trans{H e d:Hp}(a:au H e)(b:au e d):au H d:=λc o h=>b c o (a c o h)
theorem au.free{H H':Hp}(e:au H H'){l:Js}(h:H' l=Option.none):H l=Option.none:=by
 cases q:H l with
 |none=>rfl
 |some o =>
  rw[e l o q]at h;cases h
theorem au.seq{K:W.Frag}{H H':Hp}{a:Js}{xs:List V}(e:au H H')(h:SqL K H a xs):SqL K H' a xs:=by
 rcases h with(h|⟨o,h⟩)|h
 .exact .inl (.inl (e _ _ h))
 .exact .inl (.inr ⟨o,e _ _ h⟩)
 .exact .inr h
set_option maxHeartbeats 4000000
abbrev Pr:=Int×Int
def inR(n:Int)(p:Pr):Bool:=MB (p.1<=n) && decide (n<=p.2)
def inP(ps:List Pr)(n:Int):Bool:=ps.any (inR n)
structure Apart(R:List Pr):Prop where
 le:∀p∈R,p.1<=p.2
 gap:R.Pairwise λp q=>p.2+2<=q.1
theorem rn(R:List Pr)(p:Pr)(n:Int):inP (R++[p]) n=(inP R n || inR n p):=by
 unfold inP;rw[List.any_append];simp
structure Iz(R qs:List Pr):Prop where
 ap:Apart R
 mem:∀n,inP R n=inP qs n
 cov:∀p∈qs,p.1<=p.2->∃r∈R,r.1<=p.1/\p.2<=r.2
 low:∀r∈R,∃q∈qs,r.1=q.1
def Callee(P:Jr)(w:Jq)(K:W.Frag)(b:Str->Option Jp)(a:Jt)(k:Nat)(x:Str)(ps:List Str)(sp:Sp):Prop :=
 ∃f c,aK P w K b a CX0 k f c ps sp/\Binds K c ps []/\W.keepIn K (.ref f)=Mz/\b x=Mw (.ref f)
theorem Callee.mono{P:Jr}{w:Jq}{K:W.Frag}{b:Str->Option Jp}{a:Jt}{j k:Nat}{x:Str}{ps:List Str}{sp:Sp}(C:Callee P w K b a j x ps sp)(h:j<=k):Callee P w K b a k x ps sp:=by
 obtain⟨f,c,F,r⟩:=C;exact⟨f,c,F.mono h,r⟩
variable{pos:Pos}
section
variable{k:Nat}{x:Str}{ps:List Str}{sp:Sp}{e:JH}{es:List JH}{t:TA}{p:Pos}
def tFn(sp:Sp)(t:TA):TE:=λa H Q=>t a H λb c=>sp b c Q E0
theorem aI(C:Callee X.prog X.w X.K X.mg X.base k x ps sp)(o:bY k X.A)(r:Gl X x)(u:PA X (e :: es) t)(j:(x == ("__debug__" : Str))=false:=by decide)
  (he:JK (e :: es) X.env=(MA,eval e X.env) :: JK es X.env:=by rfl)(i:(JJ pos (JK es X.env)).any (·.1)=false:=by rfl):PE X (.Call (.Name x p) (e :: es) [] pos) (tFn sp t):=by
 obtain⟨f,y,F,b,n,m⟩:=C;have h:=zL (E:=E0) (dvs:=[]) (ds:=[]) (p:=p) F o r m n b .nil bT u j he i;intro d s g H Q I q;refine h d s g H Q I ?_;have l:t g H λa c=>sp a c Q E0:=q
 have v:(λ(a:List V)(c:Hp)=>sp (a++[]) c Q E0)=λa c=>sp a c Q E0:=by
  funext a c
  rw[jQ]
 show t g H λa c=>sp (a++[]) c Q E0
 rw[v];exact l
end
def dE(t u:TS):TS:=λD c H=>∃M:St->Hp->Prop,t { D with nx:=M } c H/\∀a b,M a b->u D a b
theorem aP{X:Cx}{st:JL}{rest:List JL}{t u:TS}(i:PS X st t)(h:PSs X rest u):PSs X (st :: rest) (dE t u):=by
 intro c s f H D I ⟨M,a,b⟩;refine JT (thn (i c s f H { D with nx:=M } I a) λfl g q=>?_);cases fl with
 |next=>obtain⟨d,e,j,q⟩:=q;exact h c g d e D j (b d e q)
 |ret v=>exact q
 |brk=>exact q
 |cont=>exact q
inductive EqI(K:W.Frag)(H:Hp):V->V->Bool->Prop where
 |flat {x y:V}(fx:ia x=Mz)(fy:ia y=Mz):EqI K H x y (eqV x y)
 |same (a:Js):EqI K H (.ref a) (.ref a) Mz
 |tup {a b:Js}{xs ys:List V}(ha:SqT K H a xs)(hb:SqT K H b ys)(fx:xs.all ia=Mz)(fy:ys.all ia=Mz):EqI K H (.ref a) (.ref b) (MB (xs.length=ys.length) && (List.zipWith eqV xs ys).all id)
theorem xK:∀{x:V},ia x=Mz->eqV x x=Mz
 | .non,_=>rfl
 | .bl b,_=>by simp[eqV]
 | .int i,_=>by simp[eqV]
 | .str z,_=>by simp[eqV]
theorem mM:∀{xs:List V},xs.all ia=Mz->(List.zipWith eqV xs xs).all id=Mz
 | [],_=>rfl
 |x :: xs,h=>by
  rw[ri,IZ]at h;rw[List.zipWith_cons_cons,ri,mM h.2,Bool.and_true];exact xK h.1
theorem jq{f:Nat->Bool}:∀{xs ys:List V},(∀j x y,xs[j]?=Mw x->ys[j]?=Mw y->f j=eqV x y)->(List.range (min xs.length ys.length)).all f=(List.zipWith eqV xs ys).all id
 | [],ys,_=>by simp
 |x :: xs,[],_=>by simp
 |x :: xs,y :: ys,h=>by
  have c:=jq (f:=λj=>f (j+1)) (xs:=xs) (ys:=ys) λj a b g e=>h (j+1) a b (by simpa using g) (by simpa using e)
  have i:=h 0 x y U U;have d:min (x :: xs).length (y :: ys).length=min xs.length ys.length+1:=by simp only[iQ];lia
  rw[d,List.range_succ_eq_map,ri,List.zipWith_cons_cons,ri,List.all_map,i];show(eqV x y && (List.range (min xs.length ys.length)).all (λj=>f (j+1)))=_;rw[c];rfl
section
variable{MC:List (Js×Obj)}{σ:St}{H:Hp}{s:JB}
theorem EqI.at{A:JA}{x y:V}{u v:Jp}{b:Bool}(e:EqI X.K H x y b)(I:Inv X MC σ H s)(W:A.units+1<Kv)(l:RelV x u)(k:RelV y v):SeqAt.EqAt A s u v b:=by
 cases e with
 |flat i m=>exact tO l k i m
 |same a =>
  cases (show u=Jp.ref a from l);cases (show v=Jp.ref a from k);exact SeqAt.EqAt.same _
 | @tup a b xs ys ha hb i m =>
  cases (show u=Jp.ref a from l);cases (show v=Jp.ref b from k);by_cases z:a=b
  .subst z;have e:=I.tuple_inj ha hb;subst e;rw[mM i,MH U];exact SeqAt.EqAt.same _
  .obtain⟨d,r,p,_⟩:=I.tuple ha;obtain⟨c,q,D,_⟩:=I.tuple hb;have F:=r.length;have E:=q.length;have M:=SeqAt.RcAt.tuples (A:=A) (e:=λj=>match d[j]?,xs[j]?,ys[j]? with|_,Mw x,Mw y=>eqV x y|_,_,_=>MA) (show s.heap.IsTuple a d.toArray from p) (show s.heap.IsTuple b c.toArray from D) (by lia) (λj f L=>by
    have J:j<d.length:=by simpa using f
    have G:j<c.length:=by simpa using L
    have o:xs[j]?=Mw xs[j]:=IV (by lia);have n:ys[j]?=Mw ys[j]:=IV (by lia);obtain⟨w,h,C⟩:=r.get o;obtain⟨t,g,B⟩:=q.get n;have Q:d.toArray[j]=w:=by
     have:=IV J;rw[this]at h;simpa using Option.some.inj h
    have P:c.toArray[j]=t:=by
     have:=IV G;rw[this]at g;simpa using Option.some.inj g
    rw[Q,P];rw[o,n];have O:ia xs[j]=true:=jO.mp i _ (lq _);have N:ia ys[j]=true:=jO.mp m _ (lq _);exact tO C B O N)
   have f:=SeqAt.EqAt.of_refs z M;have T:((List.range (min d.toArray.size c.toArray.size)).all λj=>match d[j]?,xs[j]?,ys[j]? with|_,Mw x,Mw y=>eqV x y|_,_,_=>MA)=(List.zipWith eqV xs ys).all id:=by
    have R:min d.toArray.size c.toArray.size=min xs.length ys.length:=by simp only[en];lia
    rw[R];exact jq λj x y h g=>by rw[h,g]
   rw[T]at f;have S:(d.toArray.size == c.toArray.size)=MB (xs.length=ys.length):=by
    simp only[en,←F,←E];exact Bool.beq_eq_decide_eq _ _
   rw[S,Bool.and_comm]at f;exact f
end
inductive BQ(K:W.Frag)(neg:Bool)(x:V)(y:V)(H:Hp)(Q:VK):Prop
 |mk (a b xs ys:_)(_:x=.ref a)(_:y=.ref b)(_:SqL K H a xs)(_:SqL K H b ys)(_:((xs.length≠ys.length/\Q (.bl neg) H)\/(xs.length=ys.length/\∃f:Nat->Bool,(∀j x y,xs[j]?=Mw x->ys[j]?=Mw y->EqI K H x y (f j))/\Q (.bl (if neg then !(List.range xs.length).all f else(List.range xs.length).all f)) H)))
theorem xM{b:List (Js×Obj)}{l:St}{H:Hp}{s:JB}{A:JA}{xs ys:List V}{a its':List Jp}{f:Nat->Bool}(I:Inv X b l H s)(u:A.units+1<Kv)(r:Vals xs a)(e:Vals ys its')
  (hf:∀j x y,xs[j]?=Mw x->ys[j]?=Mw y->EqI X.K H x y (f j)):∀j (k:j<a.toArray.size)(i:j<its'.toArray.size),SeqAt.EqAt A s a.toArray[j] its'.toArray[j] (f j):=λj k i=>by
 have t:j<a.length:=by simpa using k
 have q:j<its'.length:=by simpa using i
 have B:=r.length;have z:=e.length;have d:xs[j]?=Mw xs[j]:=IV (by lia);have c:ys[j]?=Mw ys[j]:=IV (by lia);obtain⟨n,h,p⟩:=r.get d;obtain⟨m,g,o⟩:=e.get c;have w:a.toArray[j]=n:=by
  have:=IV t;rw[this]at h;simpa using Option.some.inj h
 have v:its'.toArray[j]=m:=by
  have:=IV q;rw[this]at g;simpa using Option.some.inj g
 rw[w,v];exact(hf j _ _ d c).at I u p o
theorem BR{k:Nat}(o:bY k X.A):OpR X (Km .Eq) (BQ X.K MA):=by
 intro i s B H x y v u Q I n m h;obtain⟨a,b,l,C,rfl,rfl,z,w,h⟩:=h;cases (show v=Jp.ref a from n);cases (show u=Jp.ref b from m);obtain⟨c,r,p,_⟩:=I.list z;obtain⟨j,d,g,_⟩:=I.list w;have E:=r.length;have D:=d.length;have F:=o.units;rcases h with⟨G,q⟩|⟨J,f,t,q⟩
 .refine SeqAt.eq_list_lengthsAt p.isList g.isList (by simp only[en,bne_iff_ne,ne_eq];lia) (by lia) ⟨.bl MA,H,I,U,q⟩
 .refine SeqAt.eq_listAt (e:=f) p.isList g.isList (by simp only[en];lia) (by lia) (xM I (by show X.A.units+1+1<Kv;lia) r d t) ⟨.bl _,H,I,U,?_⟩;rw[show c.toArray.size=l.length by simp only[en];lia];exact q
def bM(H H':Hp):Prop:=∀b a,H b=Mw (.tup a)->H' b=Mw (.tup a)
theorem au.tups{H H':Hp}(h:au H H'):bM H H':=λb a e=>h b _ e
theorem bM.trans{H g f:Hp}(a:bM H g)(b:bM g f):bM H f:=λc d e=>b c d (a c d e)
theorem iY{H:Hp}{p:Js}{o:HO}(h:H p=Mx):bM H (upd H p o):=λb a e=>by rw[az (bp e h)];exact e
theorem aQ{H:Hp}{p:Js}{o:HO}{ys:List V}(h:H p=Mw (.lst ys)):bM H (upd H p o):=λb a e=>by rw[az (dG e h (by intro z;cases z))];exact e
theorem ag{H:Hp}{p:Js}(h:H p=Mx)(o:HO):au H (upd H p o):=λb u q=>by rw[az (bp q h)];exact q
theorem au.upd{H H':Hp}{p:Js}{o:HO}(s:au H H')(h:H p=Mx):au H (upd H' p o):=λb u q=>by rw[az (bp q h)];exact s b u q
def PL(H:Hp):List V->List (Int×Int)->Prop:=Paired λx p=>∃r,x=.ref r/\H r=Mw (.tup [.int p.1,.int p.2])
theorem PL.mono{H H':Hp}{xs:List V}{ps:List (Int×Int)}(h:PL H xs ps)(s:bM H H'):PL H' xs ps:=Paired.mapP h λ_ _ ⟨r,e,z⟩=>⟨r,e,s r _ z⟩
theorem PL.get{H:Hp}:∀{xs:List V}{ps:List (Int×Int)}{i:Nat}{x:V},PL H xs ps->xs[i]?=Mw x->∃p r,ps[i]?=Mw p/\x=.ref r/\H r=Mw (.tup [.int p.1,.int p.2])
 |_,_,_,_,.nil,e=>by simp at e
 |_,_,0,_,.cons (b:=b) ⟨r,e1,z⟩ _,e=>by simp at e;subst e;exact⟨b,r,U,e1,z⟩
 |_,_,i+1,x,.cons _ t,e=>by
  obtain⟨p,r,q⟩:=PL.get (i:=i) (x:=x) t (by simpa using e);exact⟨p,r,by simpa using q.1,q.2⟩
theorem PL.length{H:Hp}{xs:List V}{ps:List (Int×Int)}(h:PL H xs ps):xs.length=ps.length:=Paired.length h
theorem PL.snoc{H:Hp}{xs:List V}{ps:List (Int×Int)}{r:Js}{a b:Int}(h:PL H xs ps)(e:H r=Mw (.tup [.int a,.int b])):PL H (xs++[.ref r]) (ps++[(a,b)]):=Paired.snoc h ⟨r,U,e⟩
theorem PL.last{H:Hp}{xs:List V}{ps:List (Int×Int)}(h:PL H xs ps)(f:xs≠[]):∃c r d p,xs=c++[.ref r]/\ps=d++[p]/\PL H c d/\H r=Mw (.tup [.int p.1,.int p.2]):=by
 induction h with
 |nil=>exact MG U f
 | @cons a b l1 l2 hd tl ih =>
  cases tl with
  |nil =>
   obtain⟨r,e,z⟩:=hd;exact⟨[],r,[],b,by rw[e];rfl,U,.nil,z⟩
  | @cons a2 b2 l3 l4 hd2 tl2 =>
   obtain⟨c,r,d,p,k,j,i,g⟩:=ih (by simp);exact⟨a :: c,r,b :: d,p,by rw[k];rfl,by rw[j];rfl,.cons hd i,g⟩
theorem PL.app{H:Hp}{xs ys:List V}{ps a:List (Int×Int)}(h:PL H xs ps)(h':PL H ys a):PL H (xs++ys) (ps++a):=by
 induction h with
 |nil=>exact h'
 |cons r t b=>exact .cons r b
abbrev Tr:=Int×Int×Int
def TL(H:Hp):List V->List Tr->Prop:=Paired λx t=>∃r,x=.ref r/\H r=Mw (.tup [.int t.1,.int t.2.1,.int t.2.2])
theorem jr{ps:List (Int×Int)}{i:Nat}{p:Int×Int}{f:Int×Int->Bool}(e:ps[i]?=Mw p)(h:(ps.take i).any f=MA)(a:f p=MA):(ps.take (i+1)).any f=false:=by
 rw[nS,e,List.any_append,h];simp[a]
theorem tQ{ps:List (Int×Int)}{i:Nat}{p:Int×Int}{f:Int×Int->Bool}(e:ps[i]?=Mw p)(a:f p=Mz):ps.any f=true:=zx.mpr ⟨p,IX e,a⟩
theorem V.int_inj{i j:Int}(h:V.int i=V.int j):i=j:=by cases h;rfl
theorem f7{i j:Int}(h:decide (V.int i=V.int j)=Mz):i=j:=V.int_inj (MJ h)
theorem iZ{i j:Int}(h:¬ decide (V.int i=V.int j)=Mz):i≠j:=λe=>h (MH (MK V.int e))
theorem js{p:Prop} [Decidable p] (h:decide p=Mz):p:=MJ h
theorem lT{p:Prop} [Decidable p] (h:¬ decide p=Mz):¬ p:=λe=>h (MH e)
theorem bN{X:Cx}{K:W.Frag}(h:X.K=K):IxR X (BK K):=h ▸ aG
theorem cO{X:Cx}{K:W.Frag}(h:X.K=K):IxR X (BL K):=h ▸ aO
def bE(X:Cx)(N:List Str)(scope:JC)(cl:List (Str×Js))(a:List Js)(C:Js)(s2:JB)(b:Hp):Cx :=
 { prog:=X.prog,w:=X.w,K:=X.K,mg:=X.mg,base:=X.base,A:=X.A,N:=N,s₀:=s2,H₀:=b,env:=K5 scope cl C X.env,outer:=X.stack,stack:=X.stack,ex:=a,fn:=λ_=>MA,calm:=X.calm,pn:=[],xe:=λ_ _=>False }
def PIf(X:Cx)(d:List JH)(t:TT):Prop :=
 ∀(a:List (Js×Obj))(s:JB)(b:St)(H:Hp)(Q:Bool->Hp->Prop),Inv X a b H s->t b H Q ->
  JF (model X.prog X.w) X.A (forIn d Mz λc r=>if r=Mz then do let ok ←JI c X.env (eval c X.env);pure (ForInStep.yield ok)else pure (ForInStep.yield r)) (TP X a b Q) X.xe s
def EY:TT:=λ_ H Q=>Q Mz H
theorem bu{X:Cx}:PIf X [] EY:=λ_ _ _ H _ I h=>wpAny_tests_nil ⟨H,I,h⟩
theorem i5{X:Cx}{c:JH}{t:TT}(h:PT X c t):PIf X [c] t:=λa s b H Q I q=>wpAny_tests_one (h a s b H Q I q)
structure rq(X:Cx)(N:List Str)(fr:List Nat)(scope:JC)(cl:List (Str×Js))(x:Str):Prop where
 clos:K6 scope X.env=pure cl
 kind:scope.kind=.function
 nocell:∀y∈scope.names,y.2≠.cell
 names:∀y∈scope.names,y.2=.local->scope.names.lookup y.1=Mw .local
 hx:scope.names.lookup x=Mw .local
 nd:N.Nodup
 n0:N[0]?=Mw x
 len:N.length=fr.length+1
 sub:∀(i:Nat)(y:Str),N[i+1]?=Mw y->∃j,fr[i]?=Mw j/\X.N[j]?=Mw y/\(X.env.kindOf y=Mw .cell\/X.env.kindOf y=Mw .free)/\((relabel scope X.env).names.lookup y=Mw .cell\/(relabel scope X.env).names.lookup y=Mw .free)
 cells:∀y c,cl.lookup y=Mw c->X.env.cells.lookup y=Mw c
 has:∀y,((relabel scope X.env).names.lookup y=Mw .cell\/(relabel scope X.env).names.lookup y=Mw .free)->∃c,cl.lookup y=Mw c
theorem dC{X:Cx}{scope:JC}{x:Str}(kind:scope.kind=.function)(a:∀y∈scope.names,y.2≠.free)(b:∀y∈scope.names,y.2≠.cell)
  (names:∀y∈scope.names,y.2=.local->scope.names.lookup y.1=Mw .local)(f:scope.names.lookup x=Mw .local):rq X [x] [] scope [] x:=by
 have g:(relabel scope X.env).names=scope.names:=map_eq_self λy d=>by
  have z:(y.2 == KD.free)=false:=by simpa using a y d
  simp[z]
 have no:∀y,¬ ((relabel scope X.env).names.lookup y=Mw .cell\/(relabel scope X.env).names.lookup y=Mw .free):=λy h=>by
  rw[g]at h;rcases h with h|h
  .exact b _ (mem_of_lookup h) U
  .exact a _ (mem_of_lookup h) U
 exact⟨K7 a,kind,b,names,f,by simp,U,U,λi y e=>by simp at e,(λy c e=>by cases e),λy h=>MG h (no y)⟩
theorem bg{X:Cx}{N:List Str}{fr:List Nat}{scope:JC}{cl:List (Str×Js)}{x:Str}(clos:K6 scope X.env=pure cl)(kind:scope.kind=.function)(a:∀y∈scope.names,y.2≠.cell)
  (names:∀y∈scope.names,y.2=.local->scope.names.lookup y.1=Mw .local)(l:scope.names.lookup x=Mw .local)(f:N.Nodup)(g:N[0]?=Mw x)(b:N.length=fr.length+1)
  (sub:((List.range fr.length).all λi=>match N[i+1]?,fr[i]? with|some y,Mw j=>(X.N[j]? == Mw y) && ((X.env.kindOf y == Mw .cell) && ((relabel scope X.env).names.lookup y == Mw .cell))|_,_=>MA)=Mz)
  (cells:∀p∈cl,X.env.cells.lookup p.1=Mw p.2)(d:((relabel scope X.env).names.all λp=>(p.2 != .cell && p.2 != .free) || (cl.lookup p.1).isSome)=Mz):rq X N fr scope cl x:=by
 refine⟨clos,kind,a,names,l,f,g,b,λi y e=>?_,λy c e=>cells _ (mem_of_lookup e),λy h=>?_⟩
 .have hi:i<fr.length:=by have:=(IW.mp e).1;lia
  have z:=jO.mp sub i (jN.mpr hi);rw[e,IV hi]at z;simp only[IZ,beq_iff_eq]at z;exact⟨_,IV hi,z.1,.inl z.2.1,.inl z.2.2⟩
 .have look:∀k,(relabel scope X.env).names.lookup y=Mw k->(k=.cell\/k=.free)->∃c,cl.lookup y=Mw c:=λk e m=>by
   have z:=jO.mp d _ (mem_of_lookup e);rcases m with rfl|rfl
   .exact Jj.mp (by simpa using z)
   .exact Jj.mp (by simpa using z)
  rcases h with h|h
  .exact look _ h (.inl U)
  .exact look _ h (.inr U)
def gf(a:St)(fr:List Nat)(x:Option V):St:=x :: fr.map λj=>(a[j]?).join
def qt(J:It)(fr:List Nat)(tt:TT)(j:TE)(d:St)(Q:VK)(g:Hp):Prop:=∀D,g D=Mx->∃W:Nat->Nat->Hp->Prop,(∃m,W 0 m (upd g D (.lst [])))/\∀i m H,W i m H ->
 (J.stop i H/\Q (.ref D) H)\/(J.go i H/\∀x h,J.yld i H x h->tt (gf d fr (Mw x)) h λb f=>if b=Mz then j (gf d fr (Mw x)) f λy e=>∃c,e D=Mw (.lst c)/\c.length<Ju/\∃a,a<m/\W (i+1) a (upd e D (.lst (c++[y])))
  else ∃a,a<m/\W (i+1) a f)
def A3(b:TI)(fr:List Nat)(tt:TT)(c:TE):TE:=λa H Q=>b a H λJ d=>qt J fr tt c a Q d
section
variable{prog:Jr}{w:Jq}{A:JA}{R:Kr->JB->Prop}{s:JB}
theorem mN{f a d:JH}{e:List JH}{scope:JC}{pos:Pos}{it g:Jp}{b:Env}(J:Nat->JB->Prop)
  (turn:∀n s,J n s->JF (model prog w) A (Kb it) (λr j=>match r with
   |none=>R (.ok .next) j
   |some v=>JF (model prog w) A (Kc a it v) (λ_ s2=>JF (model prog w) A (assign a b v) (λ_ o =>
     JF (model prog w) A (forIn e Mz λc r=>if r=Mz then do let ok ←JI c b (eval c b);pure (ForInStep.yield ok)else pure (ForInStep.yield r)) (λok i =>
      if ok=Mz then JF (model prog w) A (eval f b) (λy l=>JF (model prog w) A (call (.builtin "list.append") [g,y]) (λ_ k=>∃m,m<n/\J m k) (λ_ _=>False) l) (λ_ _=>False) i
      else ∃m,m<n/\J m i) (λ_ _=>False) o) (λ_ _=>False) s2) (λ_ _=>False) j) (λ_ _=>False) s)
  (n:Nat)(h:J n s):Ks (model prog w) A (.compLoop (.ListComp f [⟨a,d,e,0⟩] scope pos) 0 it g b) R s:=by
 refine codeAny_loop U J (λn s t=>?_) n h;show JF _ A ((compTurn (.ListComp f [⟨a,d,e,0⟩] scope pos) 0 it g b).onRaise (λx=>do noteFrame x b;theTreesLotGoes x)) _ _ s;refine wpAny_noted ?_;rw[compTurn_list];refine Jl (JY (Jl (JM (turn n s t) (λr j q=>?_) λ_ _ z=>z.elim)));cases r with
 |none=>exact Jm q
 |some v =>
  refine Jl (JM q (λ_ s2 D=>?_) λ_ _ z=>z.elim);refine Jl (JM D (λ_ o C=>Jl (JM C (λok i p=>?_) λ_ _ z=>z.elim)) λ_ _ z=>z.elim);cases ok with
  |false=>exact Jm ⟨U,p⟩
  |true=>exact Jl (Jl (JM p (λy l B=>Jl (JM B (λ_ k u=>Jm (Jm ⟨U,u⟩)) λ_ _ z=>z.elim)) λ_ _ z=>z.elim))
end
section
variable{elt iter:JH}{ifs:List JH}{x:Str}{px:Pos}{scope:JC}{cl:List (Str×Js)}{N:List Str}{fr:List Nat}{tt:TT}{te:TE}
theorem pA{F:List (Js×Obj)}{q:St}{s2:JB}{h:Hp}{it:Js}{f:List Js}{tn:Nat->Jt->Prop}{J:It}{Q:VK}{E:Jp->JB->Prop}{RR:Jp->Js->Kr->JB->Prop}
  (O:rq X N fr scope cl x)(hc:X.calm=Mz)(g:Inv X F q h s2)(T:Turn X.prog X.w X.K (.Name x px) J f it tn)(a1:tn 0 s2.heap)(I:∀b∈f,kU X F h b)
  (ht:∀f C s H,PIf (bE X N scope cl f C s H) ifs tt)(he:∀f C s H,PE (bE X N scope cl f C s H) elt te)
  (hW:qt J fr tt te q Q h)
  (fin:∀D C s' H',s2.heap.objs.size<=C->H' C=Mx->(∃m,s'.heap.Ns C m)->Inv X F q H' s'->Q (.ref D) H'->RR (.ref D) C (.ok .next) s') :
  JF (model X.prog X.w) X.A (K8 []) (λa7 s3=>JF (model X.prog X.w) X.A (K9 scope X.env.globals cl [] X.env.qual Mx .none (Mw X.env)) (λxN s4 =>
   Ks (model X.prog X.w) X.A (.compStart (.ListComp elt [⟨.Name x px,iter,ifs,0⟩] scope pos) 0 (.ref it) a7 { xN with scope:=relabel scope X.env }) (RR a7 xN.locals) s4) E s3) E s2:=by
 refine La (Lb O.nocell (by intro y hy;simp at hy) (λh1 a2 M=>?_) O.kind);dsimp only at a2 M⊢;generalize hG:s2.heap.push { cls:=.type "list",dict:=Mx,data:=.seq ([]:List Jp).toArray }=G at a2 M⊢;have Y:G.objs.size=s2.heap.objs.size+1:=by rw[←hG,Jt.size_push]
 have B:∀b o,s2.heap.get? b=Mw o->h1.get? b=Mw o:=λb o e=>M.extBut b o (zA (by rw[Y];exact A6 (Jt.lt_size e))) (Jt.get?_push_of_some _ (hG ▸ Jt.get?_push_of_some _ e))
 have kn:h1.get? s2.heap.objs.size=Mw { cls:=.type "list",data:=.seq ([]:List Jp).toArray 0 }:=M.extBut _ _ (zA (by rw[Y];exact BO _)) (Jt.get?_push_of_some _ (hG ▸ Jt.get?_push_size _ U));have hD:h s2.heap.objs.size=none:=g.fresh;have L:(bE X N scope cl f G.objs.size s2 h).Ok:=by
  refine⟨g.ok.mod,O.kind,g.ok.glob,g.ok.blt,by show s2.heap.objs.size<=G.objs.size;rw[Y];exact B5 _,λy z c e1 e2=>g.ok.inj y z c (O.cells y c e1) (O.cells z c e2),λy hy=>O.has y hy,λy c z=>MG (show MA=Mz from z) Bool.false_ne_true,g.ok.hd,g.ok.frames,.inl U,
   λb a=>⟨?_,λy c e=>(I b a).2.2.2.2.1 y c (O.cells y c e)⟩,g.bs,zQ g.ok.bsz g.sz,λb o e a=>?_,λb a z=>?_,g.stack,g.stkFree⟩
  .obtain⟨o,e,_⟩:=T.obj _ _ a1 b a;show b≠G.objs.size;exact zA (by rw[Y];exact A6 (Jt.lt_size e))
  .rcases(I b a).2.2.2.1 with z|z
   .exact g.ok.noex b o e z
   .exact MG (zW (Jt.lt_size e) (zQ g.ok.bsz z)) (CD _)
  .rcases dV.mp (g.stkSub b z)with z|z
   .exact(I b a).2.1 z
   .exact(I b a).2.2.1 z
 have mO:∀{H':Hp},(∀b∈f,H' b=Mx)->∀b∈f,kU (bE X N scope cl f G.objs.size s2 h) [] H' b:=λhn b a =>
  ⟨hn b a,(L.exf b a).1,L.exfs b a,.inl a,(L.exf b a).2,λp hp=>MG (show p∈([]:List (Js×Obj))from hp) (by simp)⟩
 have I':Inv (bE X N scope cl f G.objs.size s2 h) [] (gf q fr Mx) (upd h s2.heap.objs.size (.lst [])) { s2 with heap:=h1,toks:=s2.toks+([]:List (Str×Jp)).length }:=by
  refine⟨L,U,g.bare,Un.laid B (zz _) hD,⟨_,a2,λi y v e1 e2 e3=>?_⟩,λy c e=>?_,?_,λy c e=>?_,λp hp=>MG (show p∈([]:List (Js×Obj))from hp) (by simp),g.hok.laid B (zz _) ⟨Az _,[],0,.nil,kn⟩,?_⟩
  .cases i with
   |zero=>cases e2
   |succ i =>
    obtain⟨j,q1,q2,q3,q4⟩:=O.sub i y e1;have P:(q[j]?).join=Mw v:=by
     have:(fr.map λj=>(q[j]?).join)[i]?=Mw (Mw v):=e2;rw[gg,q1]at this;exact Option.some.inj this
    have e4:q[j]?=Mw (Mw v):=by
     cases z:q[j]? with
     |none=>rw[z]at P;cases P
     |some t=>rw[z]at P;exact MK Mw P
    obtain⟨m,_,hl⟩:=g.loc;have b3:Vis X.env.scope y:=.inr q3;obtain⟨u,r,l⟩:=hl j y v q2 e4 b3;refine⟨u,r,.inr ⟨q4,?_⟩⟩;obtain⟨c',a5⟩:=O.has y q4;rcases l with⟨k,_⟩|⟨_,c,ec,ic⟩
    .rcases q3 with z|z
     .rw[z]at k;cases k
     .rw[z]at k;cases k
    .have:=O.cells y c' a5;have e':c=c':=Option.some.inj (ec.symm.trans this);obtain⟨o,ho,hd⟩:=ic;rw[e']at ho;exact⟨c',a5,o,B c' o ho,hd⟩
  .obtain⟨v,o,ho,hd⟩:=g.cell y c (O.cells y c e);exact⟨v,o,B c o ho,hd⟩
  .show upd h s2.heap.objs.size (.lst []) G.objs.size=Mx;rw[az (AS (by rw[Y];exact BO _))];exact g.hok.fresh (by rw[Y];exact B5 _)
  .obtain⟨v,o,ho,hd⟩:=g.cell y c (O.cells y c e);rw[az (zA (Jt.lt_size ho))];exact g.freeC y c (O.cells y c e)
  .show(gf q fr Mx).length=N.length;rw[O.len];simp[gf]
 have a4:tn 0 h1:=T.keep _ _ _ a1 λb a o e=>B b o e
 have R:∀s3:JB,s3={ s2 with heap:=h1,toks:=s2.toks+([]:List (Str×Jp)).length } ->
   Ks (model X.prog X.w) X.A (.compLoop (.ListComp elt [⟨.Name x px,iter,ifs,0⟩] scope pos) 0 (.ref it) (.ref s2.heap.objs.size) (K5 scope cl G.objs.size X.env)) (RR (.ref s2.heap.objs.size) G.objs.size) s3:=by
  rintro s3 rfl;obtain⟨W,⟨m0,w0⟩,a8⟩:=hW _ hD
  refine mN (λn s'=>∃i t H',Inv (bE X N scope cl f G.objs.size s2 h) [] (gf q fr t) H' s'/\tn i s'.heap/\(∀b∈f,H' b=Mx)/\W i n H') ?_ m0
   ⟨0,Mx,_,I',a4,λb a=>by
    rw[az (by obtain⟨o,e,_⟩:=T.obj _ _ a1 b a;exact zA (Jt.lt_size e))];exact(I b a).1,w0⟩
  rintro n s' ⟨i,t,H',I3,a3,a6,w3⟩;rcases a8 i n H' w3 with⟨a9,qn⟩|⟨go,step⟩
  .refine thn (T.done (bE X N scope cl f G.objs.size s2 h) U U U hc i [] s' _ H' _ I3 (mO a6) a3 a9) λr s4 ⟨hr,I4⟩=>?_
   subst hr;obtain⟨m,V,_⟩:=I4.loc;refine fin _ _ s4 H' (by rw[Y];exact B5 _) I4.free ⟨m,V⟩ (g.call' (ch:=f) I4.os I4.base I4.hok I4.bare λb a=>?_) qn;exact⟨(I b a).2.2.2.1,(I b a).2.1,(I b a).2.2.2.2.1,(I b a).2.2.2.2.2⟩
  .refine thn (T.item (bE X N scope cl f G.objs.size s2 h) U U U hc i [] s' _ H' _ I3 (mO a6) a3 go) λr s4 ⟨u,hr,h4⟩=>?_
   subst hr;refine thn h4 λ_ s5 ⟨y,H5,I5,r5,y5,a0,b5⟩=>?_
   have c0:=I5.pinned (mO b5) (T.obj _ _ a0);have lx:(bE X N scope cl f G.objs.size s2 h).env.scope.names.lookup x=Mw .local:=lookup_relabel_local O.hx;refine thn (aE (X:=bE X N scope cl f G.objs.size s2 h) (i:=0) O.nd O.n0 (.inl lx) (.inr lx) _ s5 _ H5 y u (λb1 H'=>b1=gf q fr (Mw y)/\H'=H5) c0 r5 ⟨U,U⟩) λ_ s6 ⟨c1,H6,I6,e6,b6⟩=>?_
   subst e6;subst b6
   have again:∀{Z:St}{H7:Hp}{s7:JB}{S:Nat},Z=gf q fr (Mw y)->Inv (bE X N scope cl f G.objs.size s2 h) ([]++kW f s5.heap) Z H7 s7->S<n->W (i+1) S H7 ->
     ∃m,m<n/\∃i t H',Inv (bE X N scope cl f G.objs.size s2 h) [] (gf q fr t) H' s7/\tn i s7.heap/\(∀b∈f,H' b=Mx)/\W i m H':=λ{Z H7 s7 S} e7 I7 V w7=>by
    subst e7;refine⟨S,V,i+1,Mw y,H7,I7.unpinned,T.keep _ _ _ a0 λb a o e=>(I7.pin (b,o) (jy _ (jy _ (dQ a e)))).1,λb a=>?_,w7⟩;obtain⟨o,e,d⟩:=T.obj _ _ a0 b a;exact(I7.pin (b,o) (jy _ (jy _ (dQ a e)))).2.1
   refine thn (ht f G.objs.size s2 h _ s6 _ H6 _ I6 (step y H6 y5)) λok s7 ⟨H7,I7,q7⟩=>?_
   cases ok with
   |false =>
    rw[MD Bool.false_ne_true]at q7⊢;obtain⟨S,V,w7⟩:=q7;exact again U I7 V w7
   |true =>
    rw[ME U]at q7⊢;refine thn (he f G.objs.size s2 h _ s7 _ H7 _ I7 q7) λu8 s8 ⟨v8,H8,I8,r8,ys,b4,b0,S,V,w8⟩=>?_
    refine thn (bq (X:=bE X N scope cl f G.objs.size s2 h) _ s8 _ H8 (.ref s2.heap.objs.size) [v8] _ [u8] (λ_ H9=>W (i+1) S H9) I8 U (.cons r8 .nil) ⟨_,ys,v8,U,U,b4,b0,w8⟩) λ_ s9 ⟨_,H9,I9,_,w9⟩=>?_
    exact again U I9 V w9
 exact Lc (R _ U) (T.self _ 0 _ _ _ a4 (R _ U))
theorem Inv.left{a:List (Js×Obj)}{h g:St}{s2 s':JB}{q H':Hp}{C:Js}{h':Jt}(f:Inv X a g q s2)(n:Inv X a h H' s')(d:s2.heap.objs.size<=C)(l:H' C=Mx)(i:Jt.SameBut C s'.heap h'):Inv X a h H' { s' with heap:=h' }:=by
 refine n.turned (t':=s'.toks) (it:=C) (λb o m e=>(i.2 b m).trans e) l (AS (zW f.lt d)) (.inr (zQ f.sz d)) (λy c e=>?_) λp j=>?_
 .obtain⟨v,o,k,_⟩:=f.cell y c e;exact zA (zW (Jt.lt_size k) d)
 .exact zA (zW (Jt.lt_size (f.pin p j).1) d)
theorem cb{i:TI}(hi:PI X (.Name x px) iter i)(O:rq X N fr scope cl x)(r:X.calm=Mz)(k:∀b C s H,PIf (bE X N scope cl b C s H) ifs tt)(p:∀b C s H,PE (bE X N scope cl b C s H) elt te)
  (l:∀v,Ki iter X.env v=pure v:=by intro _;rfl):PE X (.ListComp elt [⟨.Name x px,iter,ifs,0⟩] scope pos) (A3 i fr tt te):=by
 intro a s g H Q I h;rw[Ld];refine Le (use:=Mx) U l O.clos O.kind O.names (thn (hi a s g H _ I h) λv L z=>thn z λG s2 y=>?_);obtain⟨it,b,K,J,R,e,j,T,c,B,t⟩:=y;subst e;refine pA (RR:=λf C=>Lf (model X.prog X.w) X.A X.xe Mx (EP X a g Q) f C) O r j T c B k p t λD C M F u n ⟨m,o⟩ E q=>?_
 exact⟨m,o,λP d=>⟨.ref D,F,j.left E u n d,U,q⟩⟩
theorem ko{F:TI}{i:Nat}{y:Str}{d E:Pos}(hN:X.N.Nodup)(G:X.N[i]?=Mw y)(V:Loc X.env.scope y)(hi:PI X (.Name x px) iter F)(O:rq X N fr scope cl x)(Z:X.calm=Mz)
  (K:∀f C s H,PIf (bE X N scope cl f C s H) ifs tt)(Y:∀f C s H,PE (bE X N scope cl f C s H) elt te)(L:∀v,Ki iter X.env v=pure v:=by intro _;rfl)
  (n:JU (.ListComp elt [⟨.Name x px,iter,ifs,0⟩] scope pos) (Mw (.Name y d)) E.line X.env=pure true:=by rfl)(W:X.fn y=Mz\/X.env.scope.names.lookup y=Mw .local:=by first|exact .inl U|exact .inr U|assumption) :
  PS X (.Assign [.Name y d] (.ListComp elt [⟨.Name x px,iter,ifs,0⟩] scope pos) E) (zE (A3 F fr tt te) (o9 i)):=by
 intro b s B H k I h;rw[Lg _ _ _ _ n];refine Jl (JY (Jl ?_));show JF _ X.A (do let _ ←comprehension (.ListComp elt [⟨.Name x px,iter,ifs,0⟩] scope pos) scope X.env _ (K8 []) MA (eval iter X.env) (Mw (assign (.Name y d) X.env))) _ _ s;refine Jl (JM (Le (use:=Mw (assign (.Name y d) X.env)) (Q:=λ_ c=>SP X b k .next c) U L O.clos O.kind O.names (thn (hi b s B H _ I h) λv s1 h1=>thn h1 λa0 s2 h2=>?_)) (λ_ c M=>Jm (Jm M)) λ_ _ z=>z);obtain⟨it,f,tn,J,H2,e,g,T,l,f2,hW⟩:=h2;subst e;refine pA (Q:=λv H1=>o9 i v B H1 k.nx) (RR:=λu C=>Lf (model X.prog X.w) X.A X.xe (Mw (assign (.Name y d) X.env)) (λ_ c=>SP X b k .next c) u C) O Z g T l f2 K Y hW λD C c H' j R ⟨m,S⟩ I' q=>?_
 show JF _ X.A (assign (.Name y d) X.env (.ref D)) _ _ c;refine JX (kR I' hN G V (v:=.ref D) U (λs3 I3 ⟨a,p,ha⟩=>?_) W);have t:C≠a:=by
  rcases ha with z|z
  .rw[z];exact AS (zW g.lt j)
  .obtain⟨v,o,P,_⟩:=g.cell y a z;exact AS (zW (Jt.lt_size P) j)
 exact⟨m,S.sameBut p t,λh' r=>⟨_,H',g.left I3 j R r,q⟩⟩
def d9(c:Js->Nat->List V->Hp->Prop)(D:Js)(i n:Nat)(d:Hp):Prop:=∃a,a<n-i/\a=n-(i+1)/\i+1<=n/\∃b,c D (i+1) b d
def cH(c:Js->Nat->List V->Hp->Prop)(D:Js)(i n:Nat):VK:=λy b=>∃a,b D=Mw (.lst a)/\a.length<Ju/\d9 c D i n (upd b D (.lst (a++[y])))
theorem d9.mk{a:Js->Nat->List V->Hp->Prop}{D:Js}{i n:Nat}{b:Hp}{zs:List V}(hi:i<n)(h:a D (i+1) zs b):d9 a D i n b:=⟨n-(i+1),by lia,U,hi,zs,h⟩
theorem cH.mk{b:Js->Nat->List V->Hp->Prop}{D:Js}{i n:Nat}{a:Hp}{ys:List V}{y:V}(hi:i<n)(e:a D=Mw (.lst ys))(c:ys.length<Ju)(h:b D (i+1) (ys++[y]) (upd a D (.lst (ys++[y])))):cH b D i n y a:=⟨ys,e,c,.mk hi h⟩
theorem cA{K:W.Frag}{a:Js}{xs:List V}{g:St}{d:Hp}{Q:VK}(c:Js->Nat->List V->Hp->Prop)(n:∀D,d D=Mx->c D 0 [] (upd d D (.lst [])))
  (l:∀D i ys H,d D=Mx->i<=xs.length->c D i ys H->SqL K H a xs)
  (k:∀D i x ys H,d D=Mx->xs[i]?=Mw x->c D i ys H->tt (gf g fr (Mw x)) H λb j=>if b=Mz then te (gf g fr (Mw x)) j (cH c D i xs.length)else d9 c D i xs.length j)
  (hd:∀D ys H,d D=Mx->c D xs.length ys H->Q (.ref D) H):qt (Itl K a) fr tt te g Q d:=by
 intro D f;refine⟨λi m H=>m=xs.length-i/\i<=xs.length/\∃ys,c D i ys H,⟨_,U,Az _,[],n D f⟩,?_⟩;rintro i m H ⟨rfl,hi,ys,p⟩;have q:=l D i ys H f hi p;by_cases h:i<xs.length
 .refine .inr ⟨⟨xs,xs[i],q,by simp[h]⟩,λx o y=>?_⟩;obtain⟨e,y⟩:=y;subst e;exact k D i x ys _ f (y xs q) p
 .have e:i=xs.length:=by lia
  subst e;exact .inl ⟨⟨xs,q,zz _⟩,hd D ys H f p⟩
theorem bU{lo:Int}{n:Nat}{f:St}{c:Hp}{Q:VK}(a:Js->Nat->List V->Hp->Prop)(k:∀D,c D=Mx->a D 0 [] (upd c D (.lst [])))
  (j:∀D i ys H,c D=Mx->i<n->a D i ys H->tt (gf f fr (Mw (.int (lo+i)))) H λb h=>if b=Mz then te (gf f fr (Mw (.int (lo+i)))) h (cH a D i n)else d9 a D i n h)
  (hd:∀D ys H,c D=Mx->a D n ys H->Q (.ref D) H):qt (Itr lo n) fr tt te f Q c:=by
 intro D g;refine⟨λi m H=>m=n-i/\i<=n/\∃ys,a D i ys H,⟨_,U,Az _,[],k D g⟩,?_⟩;rintro i m H ⟨rfl,hi,ys,p⟩;by_cases d:i<n
 .refine .inr ⟨d,λx l y=>?_⟩;obtain⟨e,y⟩:=y;subst e;subst y;exact j D i ys _ g d p
 .have e:i=n:=by lia
  subst e;exact .inl ⟨zz _,hd D ys H g p⟩
end
structure mP(X:Cx)(N:List Str)(k:Nat)(fr:List Nat)(scope:JC)(cl:List (Str×Js)):Prop where
 clos:K6 scope X.env=pure cl
 kind:scope.kind=.function
 nocell:∀y∈scope.names,y.2≠.cell
 names:∀y∈scope.names,y.2=.local->scope.names.lookup y.1=Mw .local
 len:N.length=k+fr.length
 sub:∀(i:Nat)(y:Str),N[k+i]?=Mw y->∃j,fr[i]?=Mw j/\X.N[j]?=Mw y/\(X.env.kindOf y=Mw .cell\/X.env.kindOf y=Mw .free)/\((relabel scope X.env).names.lookup y=Mw .cell\/(relabel scope X.env).names.lookup y=Mw .free)
 cells:∀y c,cl.lookup y=Mw c->X.env.cells.lookup y=Mw c
 has:∀y,((relabel scope X.env).names.lookup y=Mw .cell\/(relabel scope X.env).names.lookup y=Mw .free)->∃c,cl.lookup y=Mw c
theorem eW{X:Cx}{N:List Str}{k:Nat}{scope:JC}(d:N.length=k)(kind:scope.kind=.function)(a:∀y∈scope.names,y.2≠.free)(b:∀y∈scope.names,y.2≠.cell)
  (names:∀y∈scope.names,y.2=.local->scope.names.lookup y.1=Mw .local):mP X N k [] scope []:=by
 have g:(relabel scope X.env).names=scope.names:=map_eq_self λy f=>by
  have z:(y.2 == KD.free)=false:=by simpa using a y f
  simp[z]
 have no:∀y,¬ ((relabel scope X.env).names.lookup y=Mw .cell\/(relabel scope X.env).names.lookup y=Mw .free):=λy h=>by
  rw[g]at h;rcases h with h|h
  .exact b _ (mem_of_lookup h) U
  .exact a _ (mem_of_lookup h) U
 refine⟨K7 a,kind,b,names,by rw[d];rfl,λi y e=>?_,(λy c e=>by cases e),λy h=>MG h (no y)⟩;have:=(IW.mp e).1;lia
def dh(a:St)(fr:List Nat)(ts:St):St:=ts++fr.map λj=>(a[j]?).join
def i6(J:It)(p:TG)(k:Nat)(fr:List Nat)(tt:TT)(o:TE)(f:St)(Q:VK)(l:Hp):Prop:=∀D,l D=Mx->∃W:Nat->Nat->Hp->Prop,(∃m,W 0 m (upd l D (.lst [])))/\∀i m H,W i m H ->
 (J.stop i H/\Q (.ref D) H)\/(J.go i H/\∀x n,J.yld i H x n->∀g:St,g.length=k->p x (dh f fr g) n λa q=>(∃d:St,d.length=k/\a=dh f fr d)/\tt a q λb j=>if b=Mz then o a j λy h=>∃e,h D=Mw (.lst e)/\e.length<Ju/\∃c,c<m/\W (i+1) c (upd h D (.lst (e++[y])))
  else ∃c,c<m/\W (i+1) c j)
def xP(b:TI)(d:TG)(k:Nat)(fr:List Nat)(tt:TT)(c:TE):TE:=λa H Q=>b a H λJ e=>i6 J d k fr tt c a Q e
section
variable{elt iter tg:JH}{ifs:List JH}{scope:JC}{cl:List (Str×Js)}{N:List Str}{k:Nat}{fr:List Nat}{gt:TG}{tt:TT}{te:TE}
theorem mQ{F:List (Js×Obj)}{x:St}{s2:JB}{h:Hp}{it:Js}{f:List Js}{tn:Nat->Jt->Prop}{J:It}{Q:VK}{E:Jp->JB->Prop}{RR:Jp->Js->Kr->JB->Prop}
  (O:mP X N k fr scope cl)(hc:X.calm=Mz)(g:Inv X F x h s2)(T:Turn X.prog X.w X.K tg J f it tn)(a1:tn 0 s2.heap)(I:∀b∈f,kU X F h b)
  (ht:∀f C s H,PIf (bE X N scope cl f C s H) ifs tt)(he:∀f C s H,PE (bE X N scope cl f C s H) elt te)
  (hg:∀f C s H,PG (bE X N scope cl f C s H) tg gt)(hW:i6 J gt k fr tt te x Q h)
  (fin:∀D C s' H',s2.heap.objs.size<=C->H' C=Mx->(∃m,s'.heap.Ns C m)->Inv X F x H' s'->Q (.ref D) H'->RR (.ref D) C (.ok .next) s') :
  JF (model X.prog X.w) X.A (K8 []) (λa9 s3=>JF (model X.prog X.w) X.A (K9 scope X.env.globals cl [] X.env.qual Mx .none (Mw X.env)) (λxN s4 =>
   Ks (model X.prog X.w) X.A (.compStart (.ListComp elt [⟨tg,iter,ifs,0⟩] scope pos) 0 (.ref it) a9 { xN with scope:=relabel scope X.env }) (RR a9 xN.locals) s4) E s3) E s2:=by
 refine La (Lb O.nocell (by intro y hy;simp at hy) (λh1 a2 M=>?_) O.kind);dsimp only at a2 M⊢;generalize hG:s2.heap.push { cls:=.type "list",dict:=Mx,data:=.seq ([]:List Jp).toArray }=G at a2 M⊢;have Y:G.objs.size=s2.heap.objs.size+1:=by rw[←hG,Jt.size_push]
 have B:∀b o,s2.heap.get? b=Mw o->h1.get? b=Mw o:=λb o e=>M.extBut b o (zA (by rw[Y];exact A6 (Jt.lt_size e))) (Jt.get?_push_of_some _ (hG ▸ Jt.get?_push_of_some _ e))
 have kn:h1.get? s2.heap.objs.size=Mw { cls:=.type "list",data:=.seq ([]:List Jp).toArray 0 }:=M.extBut _ _ (zA (by rw[Y];exact BO _)) (Jt.get?_push_of_some _ (hG ▸ Jt.get?_push_size _ U));have hD:h s2.heap.objs.size=none:=g.fresh;have L:(bE X N scope cl f G.objs.size s2 h).Ok:=by
  refine⟨g.ok.mod,O.kind,g.ok.glob,g.ok.blt,by show s2.heap.objs.size<=G.objs.size;rw[Y];exact B5 _,λy z c e1 e2=>g.ok.inj y z c (O.cells y c e1) (O.cells z c e2),λy hy=>O.has y hy,λy c z=>MG (show MA=Mz from z) Bool.false_ne_true,g.ok.hd,g.ok.frames,.inl U,
   λb a=>⟨?_,λy c e=>(I b a).2.2.2.2.1 y c (O.cells y c e)⟩,g.bs,zQ g.ok.bsz g.sz,λb o e a=>?_,λb a z=>?_,g.stack,g.stkFree⟩
  .obtain⟨o,e,_⟩:=T.obj _ _ a1 b a;show b≠G.objs.size;exact zA (by rw[Y];exact A6 (Jt.lt_size e))
  .rcases(I b a).2.2.2.1 with z|z
   .exact g.ok.noex b o e z
   .exact MG (zW (Jt.lt_size e) (zQ g.ok.bsz z)) (CD _)
  .rcases dV.mp (g.stkSub b z)with z|z
   .exact(I b a).2.1 z
   .exact(I b a).2.2.1 z
 have mO:∀{H':Hp},(∀b∈f,H' b=Mx)->∀b∈f,kU (bE X N scope cl f G.objs.size s2 h) [] H' b:=λhn b a =>
  ⟨hn b a,(L.exf b a).1,L.exfs b a,.inl a,(L.exf b a).2,λp hp=>MG (show p∈([]:List (Js×Obj))from hp) (by simp)⟩
 have I':Inv (bE X N scope cl f G.objs.size s2 h) [] (dh x fr (List.replicate k Mx)) (upd h s2.heap.objs.size (.lst [])) { s2 with heap:=h1,toks:=s2.toks+([]:List (Str×Jp)).length }:=by
  refine⟨L,U,g.bare,Un.laid B (zz _) hD,⟨_,a2,λi y v e1 e2 e3=>?_⟩,λy c e=>?_,?_,λy c e=>?_,λp hp=>MG (show p∈([]:List (Js×Obj))from hp) (by simp),g.hok.laid B (zz _) ⟨Az _,[],0,.nil,kn⟩,?_⟩
  .by_cases a6:i<k
   .have q:(List.replicate k Mx++fr.map λj=>(x[j]?).join)[i]?=Mw (Mw v):=e2;rw[je (by rw[oU];exact a6),List.getElem?_replicate,ME a6]at q;cases q
   .obtain⟨j,q1,q2,q3,q4⟩:=O.sub (i-k) y (by rw[show k+(i-k)=i by lia];exact e1);have q:(x[j]?).join=Mw v:=by
     have:(List.replicate k Mx++fr.map λj=>(x[j]?).join)[i]?=Mw (Mw v):=e2;rw[lh (by rw[oU];lia),oU,gg,q1]at this;exact Option.some.inj this
    have e4:x[j]?=Mw (Mw v):=by
     cases z:x[j]? with
     |none=>rw[z]at q;cases q
     |some t=>rw[z]at q;exact MK Mw q
    obtain⟨m,_,hl⟩:=g.loc;have b4:Vis X.env.scope y:=.inr q3;obtain⟨u,r,l⟩:=hl j y v q2 e4 b4;refine⟨u,r,.inr ⟨q4,?_⟩⟩;obtain⟨c',a7⟩:=O.has y q4;rcases l with⟨k,_⟩|⟨_,c,ec,ic⟩
    .rcases q3 with z|z
     .rw[z]at k;cases k
     .rw[z]at k;cases k
    .have:=O.cells y c' a7;have e':c=c':=Option.some.inj (ec.symm.trans this);obtain⟨o,ho,hd⟩:=ic;rw[e']at ho;exact⟨c',a7,o,B c' o ho,hd⟩
  .obtain⟨v,o,ho,hd⟩:=g.cell y c (O.cells y c e);exact⟨v,o,B c o ho,hd⟩
  .show upd h s2.heap.objs.size (.lst []) G.objs.size=Mx;rw[az (AS (by rw[Y];exact BO _))];exact g.hok.fresh (by rw[Y];exact B5 _)
  .obtain⟨v,o,ho,hd⟩:=g.cell y c (O.cells y c e);rw[az (zA (Jt.lt_size ho))];exact g.freeC y c (O.cells y c e)
  .show(dh x fr (List.replicate k Mx)).length=N.length;rw[O.len];simp[dh]
 have a5:tn 0 h1:=T.keep _ _ _ a1 λb a o e=>B b o e
 have P:∀s3:JB,s3={ s2 with heap:=h1,toks:=s2.toks+([]:List (Str×Jp)).length } ->
   Ks (model X.prog X.w) X.A (.compLoop (.ListComp elt [⟨tg,iter,ifs,0⟩] scope pos) 0 (.ref it) (.ref s2.heap.objs.size) (K5 scope cl G.objs.size X.env)) (RR (.ref s2.heap.objs.size) G.objs.size) s3:=by
  rintro s3 rfl;obtain⟨W,⟨m0,w0⟩,b0⟩:=hW _ hD
  refine mN (λn s'=>∃i R H',R.length=k/\Inv (bE X N scope cl f G.objs.size s2 h) [] (dh x fr R) H' s'/\tn i s'.heap/\(∀b∈f,H' b=Mx)/\W i n H') ?_ m0
   ⟨0,List.replicate k Mx,_,oU,I',a5,λb a=>by
    rw[az (by obtain⟨o,e,_⟩:=T.obj _ _ a1 b a;exact zA (Jt.lt_size e))];exact(I b a).1,w0⟩
  rintro n s' ⟨i,R,H',b6,I3,a4,a8,w3⟩;rcases b0 i n H' w3 with⟨b1,qn⟩|⟨go,step⟩
  .refine thn (T.done (bE X N scope cl f G.objs.size s2 h) U U U hc i [] s' _ H' _ I3 (mO a8) a4 b1) λr s4 ⟨hr,I4⟩=>?_
   subst hr;obtain⟨m,V,_⟩:=I4.loc;refine fin _ _ s4 H' (by rw[Y];exact B5 _) I4.free ⟨m,V⟩ (g.call' (ch:=f) I4.os I4.base I4.hok I4.bare λb a=>?_) qn;exact⟨(I b a).2.2.2.1,(I b a).2.1,(I b a).2.2.2.2.1,(I b a).2.2.2.2.2⟩
  .refine thn (T.item (bE X N scope cl f G.objs.size s2 h) U U U hc i [] s' _ H' _ I3 (mO a8) a4 go) λr s4 ⟨u,hr,h4⟩=>?_
   subst hr;refine thn h4 λ_ s5 ⟨y,H5,I5,r5,y5,a0,c0⟩=>?_
   have c1:=I5.pinned (mO c0) (T.obj _ _ a0);refine thn (hg f G.objs.size s2 h _ s5 _ H5 y u _ c1 r5 (step y H5 y5 R b6)) λ_ s6 ⟨c2,H6,I6,⟨a3,EZ,e6⟩,q6⟩=>?_
   subst e6
   have again:∀{Z:St}{H7:Hp}{s7:JB}{S:Nat},Z=dh x fr a3->Inv (bE X N scope cl f G.objs.size s2 h) ([]++kW f s5.heap) Z H7 s7->S<n->W (i+1) S H7 ->
     ∃m,m<n/\∃i R H',R.length=k/\Inv (bE X N scope cl f G.objs.size s2 h) [] (dh x fr R) H' s7/\tn i s7.heap/\(∀b∈f,H' b=Mx)/\W i m H':=λ{Z H7 s7 S} e7 I7 V w7=>by
    subst e7;refine⟨S,V,i+1,a3,H7,EZ,I7.unpinned,T.keep _ _ _ a0 λb a o e=>(I7.pin (b,o) (jy _ (jy _ (dQ a e)))).1,λb a=>?_,w7⟩;obtain⟨o,e,d⟩:=T.obj _ _ a0 b a;exact(I7.pin (b,o) (jy _ (jy _ (dQ a e)))).2.1
   refine thn (ht f G.objs.size s2 h _ s6 _ H6 _ I6 q6) λok s7 ⟨H7,I7,q7⟩=>?_
   cases ok with
   |false =>
    rw[MD Bool.false_ne_true]at q7⊢;obtain⟨S,V,w7⟩:=q7;exact again U I7 V w7
   |true =>
    rw[ME U]at q7⊢;refine thn (he f G.objs.size s2 h _ s7 _ H7 _ I7 q7) λu8 s8 ⟨v8,H8,I8,r8,ys,b5,b3,S,V,w8⟩=>?_
    refine thn (bq (X:=bE X N scope cl f G.objs.size s2 h) _ s8 _ H8 (.ref s2.heap.objs.size) [v8] _ [u8] (λ_ H9=>W (i+1) S H9) I8 U (.cons r8 .nil) ⟨_,ys,v8,U,U,b5,b3,w8⟩) λ_ s9 ⟨_,H9,I9,_,w9⟩=>?_
    exact again U I9 V w9
 exact Lc (P _ U) (T.self _ 0 _ _ _ a5 (P _ U))
theorem fe{i:TI}(hi:PI X tg iter i)(O:mP X N k fr scope cl)(u:X.calm=Mz)(r:∀b C s H,PG (bE X N scope cl b C s H) tg gt)(l:∀b C s H,PIf (bE X N scope cl b C s H) ifs tt)(t:∀b C s H,PE (bE X N scope cl b C s H) elt te)
  (n:∀v,Ki iter X.env v=pure v:=by intro _;rfl):PE X (.ListComp elt [⟨tg,iter,ifs,0⟩] scope pos) (xP i gt k fr tt te):=by
 intro a s g H Q I h;rw[Ld];refine Le (use:=Mx) U n O.clos O.kind O.names (thn (hi a s g H _ I h) λv M B=>thn B λK s2 z=>?_);obtain⟨it,b,L,J,S,e,j,T,c,E,x⟩:=z;subst e;refine mQ (RR:=λf C=>Lf (model X.prog X.w) X.A X.xe Mx (EP X a g Q) f C) O u j T c E l t r x λD C P G y o ⟨m,p⟩ F q=>?_
 exact⟨m,p,λR d=>⟨.ref D,G,j.left F y o d,U,q⟩⟩
theorem ff{K:W.Frag}{a:Js}{xs:List V}{j:St}{f:Hp}{Q:VK}(c:Js->Nat->List V->Hp->Prop)(s:∀D,f D=Mx->c D 0 [] (upd f D (.lst [])))
  (r:∀D i ys H,f D=Mx->i<=xs.length->c D i ys H->SqL K H a xs)
  (o:∀D i x ys H,f D=Mx->xs[i]?=Mw x->c D i ys H->∀ts:St,ts.length=k->gt x (dh j fr ts) H λd t=>(∃g:St,g.length=k/\d=dh j fr g)/\tt d t λb n=>if b=Mz then te d n (cH c D i xs.length)else d9 c D i xs.length n)
  (hd:∀D ys H,f D=Mx->c D xs.length ys H->Q (.ref D) H):i6 (Itl K a) gt k fr tt te j Q f:=by
 intro D h;refine⟨λi m H=>m=xs.length-i/\i<=xs.length/\∃ys,c D i ys H,⟨_,U,Az _,[],s D h⟩,?_⟩;rintro i m H ⟨rfl,hi,ys,p⟩;have q:=r D i ys H h hi p;by_cases l:i<xs.length
 .refine .inr ⟨⟨xs,xs[i],q,by simp[l]⟩,λx u y=>?_⟩;obtain⟨e,y⟩:=y;subst e;exact o D i x ys _ h (y xs q) p
 .have e:i=xs.length:=by lia
  subst e;exact .inl ⟨⟨xs,q,zz _⟩,hd D ys H h p⟩
end
theorem lU{X:Cx}{K:W.Frag}{a:List JH}{k:Nat}{t:TGs}{n:Nat}{pos:Pos}(e:X.K=K)(d:X.calm=Mz)(h:PGs X a t)(c:(JV a X.env).length=n:=by rfl)(b:(JV a X.env).findIdx? (·.1)=none:=by rfl):PG X (.Tuple a k pos) (CZ K n t):=e ▸ fc d h c b
end L2
namespace Srt
open PySem PySem.W PyProof.Rows
def Ok(n:Nat)(lt:Nat->Nat->Bool){α:Type}:KasT α->(α->Prop)->Prop
 | .ret a,Q=>Q a
 | .ask i j k,Q=>i<n/\j<n/\Ok n lt (k (lt i j)) Q
section
variable{n:Nat}{lt:Nat->Nat->Bool}
abbrev g(p:Array Nat)(i:Nat):Nat:=p.getD i 0
structure Ord(lt:Nat->Nat->Bool):Prop where
 tr:∀a b c,lt b a=MA->lt c b=MA->lt c a=MA
 as:∀a b,lt a b=Mz->lt b a=MA
end
end Srt
namespace L2
open PySem PySem.Spec PySem.W PyProof.Rows
variable{prog:Jr}{w:Jq}{A:JA}{E:Jp->JB->Prop}{s:JB}
variable{X:Cx}
theorem u9{n:Int}{p:Pr}:inR n p=Mz↔p.1<=n/\n<=p.2:=by
 unfold inR;simp only[IZ,decide_eq_true_eq]
theorem vc{n:Int}{R:List Pr}:inP R n=Mz↔∃p∈R,p.1<=n/\n<=p.2:=by
 unfold inP;rw[zx];exact⟨λ⟨p,h,e⟩=>⟨p,h,u9.mp e⟩,λ⟨p,h,e⟩=>⟨p,h,u9.mpr e⟩⟩
structure Il(S A B A0 B0:List Pr):Prop where
 ap:Apart S
 aA:Apart A
 aB:Apart B
 mem:∀n,(inP A0 n && inP B0 n)=(inP S n || (inP A n && inP B n))
 gap:∀s∈S,(∀p∈A,s.2+2<=p.1)\/(∀p∈B,s.2+2<=p.1)
structure IA(F T:List Pr)(lo hi st:Int):Prop where
 ap:Apart F
 lt:∀s∈F,s.2+2<=st
 rng:∀s∈F,lo<=s.1/\s.2<=hi
 tk:∀p∈T,p.2<st
 fr:st=lo\/∃p∈T,st=p.2+1
 ge:lo<=st
 mem:∀n,lo<=n->n<=hi->n<st->inP F n = !inP T n
structure Walk(ts:List (Int×Int×Int)):Prop where
 le:∀t∈ts,t.1<=t.2.1
 nx:∀(i:Nat) a b,ts[i]?=Mw a->ts[i+1]?=Mw b->b.1=a.2.1+1
def pcs(msk:Int->Bool)(ts:List (Int×Int×Int))(n:Int):Bool:=ts.any λt=>inR n (t.1,t.2.1) && msk t.2.2
structure IB(R:List Pr)(ts:List (Int×Int×Int))(msk:Int->Bool)(i:Nat)(at_:Int):Prop where
 ap:Apart R
 mem:∀n,inP R n=pcs msk (ts.take i) n
 lt:∀r∈R,r.2<at_
 few:2*R.length<=i\/(2*R.length<=i+1/\∃R' l,R=R'++[l]/\l.2=at_-1)
variable{i:Nat}
section
variable{R:List Pr}{ts:List (Int×Int×Int)}{msk:Int->Bool}{at_:Int}{t:Int×Int×Int}
end
def ends(R:List Pr):List Int:=R.flatMap λp=>[p.1,p.2+1]
theorem pB(R:List Pr)(p:Pr):ends (R++[p])=ends R++[p.1,p.2+1]:=by
 unfold ends;rw[List.flatMap_append];simp
theorem vQ(R:List Pr)(p:Pr):ends (p :: R)=p.1 :: (p.2+1) :: ends R:=rfl
theorem mR{R:List Pr}{e:Int}:e∈ends R↔∃p∈R,e=p.1\/e=p.2+1:=by
 unfold ends;rw[ro];simp
theorem xQ{l:List Int}(h:l.Pairwise (· < ·)){i j:Nat}{x y:Int}(hi:l[i]?=Mw x)(b:l[j]?=Mw y)(a:i<j):x<y:=by
 obtain⟨d,rfl⟩:=IW.mp hi;obtain⟨c,rfl⟩:=IW.mp b;exact rr.mp h i j d c a
def b2(b:Bool):Int:=if b=Mz then 1 else 0
theorem lV(a:List Int):∀k,k<=a.length->preSum (λi=>a.getD i 0) k=(a.take k).sum
 |0,_=>rfl
 |k+1,h=>by
  have b:=lV a k (by lia);show preSum (λi=>a.getD i 0) k+a.getD k 0=_;have e:a[k]?=Mw a[k]:=IV (by lia);rw[b,nS,e,List.sum_append,dO,e];simp
theorem d6(D:X.calm=Mz):cF X (.builtin "sum") (λus H Q=>∃(a:Js)(c:List Int),us=[.ref a]/\SqL X.K H a (c.map V.int)/\Q (.int c.sum) H):=by
 intro p s J H us L Q I r h;obtain⟨a,c,rfl,B,q⟩:=h;obtain⟨u,rfl,x⟩:=r.one;cases (show u=Jp.ref a from x);obtain⟨d,l,j,N⟩:=I.list B;have k:=l.length;rw[bx]at k;obtain⟨M,G,_⟩:=id j.isList;have f:a<s.heap.objs.size:=Jt.lt_size G;refine call_sum_walkG (Kg j.isList ?_);refine⟨s.heap.objs.size,[s.heap.objs.size,a],[s.heap.objs.size],_,_,_,λi=>c.getD i 0,U,Kf.list (A:=X.A.in1) (I.ok.hd D) _ a (zA f) d.toArray,⟨⟨_,Jt.get?_push_size _ U,U,U⟩,j.isList.at λo e=>Jt.get?_push_of_some _ e⟩,λb E=>?_,λi v e=>?_,λO w t' C=>?_⟩
 .show b<(s.heap.push _).objs.size;rw[Jt.size_push];rcases dV.mp E with z|z
  .rw[z];exact BO _
  .have g:b=a:=by simpa using z
   rw[g];exact A6 f
 .have n:d[i]?=Mw v:=by simpa using e
  have hi:i<c.length:=by rw[k];exact(IW.mp n).1
  have F:(c.map V.int)[i]?=Mw (.int c[i]):=by rw[gg,IV hi];rfl
  obtain⟨u,m,y⟩:=l.get F;rw[n]at m;cases m;obtain⟨t,rfl⟩:=y;exact⟨t,by show Jp.int c[i] t=Jp.int (c.getD i 0) t;rw[dO,IV hi];rfl⟩
 .refine⟨.int c.sum,H,I.kept (t':=w) λb o e=>C b o (λz=>?_) (Jt.get?_push_of_some _ e),⟨t',?_⟩,q⟩
  .have g:b=s.heap.objs.size:=by simpa using z
   exact MG (Jt.lt_size e) (by rw[g];exact CD _)
  .rw[en,←k,lV c _ (zz _),hE]
def NeS(W:List (Int×Int×Int)):Prop:=∀(j:Nat) a b,W[j]?=Mw a->W[j+1]?=Mw b->a.2.2≠b.2.2
structure Im(G ts:List (Int×Int×Int))(i:Nat):Prop where
 walk:Walk G
 ne:NeS G
 pcs:∀msk n,pcs msk G n=L2.pcs msk (ts.take i) n
 hd:∀t,ts[0]?=Mw t->0<i->∃g,G[0]?=Mw g/\g.1=t.1
 lst:∀t,ts[i-1]?=Mw t->0<i->∃G' g,G=G'++[g]/\g.2.1=t.2.1/\g.2.2=t.2.2
 len:G.length<=i
 stt:∀g∈G,∃t∈ts,g.2.2=t.2.2
section
variable{G ts:List (Int×Int×Int)}{t:Int×Int×Int}
end
def Its(z:Str):It:=⟨λi _=>i<z.cps.size,λi H x a=>a=H/\∃c,z.cps[i]?=Mw c/\x=.str ⟨#[c]⟩,λi _=>z.cps.size<=i⟩
theorem tR{P:Jr}{w:Jq}{K:W.Frag}{L:JH}(z:Str)(t:Tok)(it:Js):Turn P w K L (Its z) [it] it (λi h=>h.IsStrIter it "str_ascii_iterator" z t i) where
 mem:=by simp
 obj:=λi h f b g=>by
  obtain⟨o,e,c,d⟩:=f;rw[show b=it by simpa using g];exact⟨o,e,λv q=>by rw[d]at q;cases q⟩
 keep:=λi h m ⟨o,e,r⟩ k=>⟨o,k it (by simp) o e,r⟩
 item:=by
  intro X u n x J i a s G H E I l f p;subst u n x;have F:i<z.cps.size:=p;have hi:z.cps[i]?=Mw z.cps[i]:=Fg F;obtain⟨D,C,N,B,A,y⟩:=l it (by simp);refine wpAny_pyNext_ascii_item f hi λm j M=>?_
  have Q:Inv X a G H { s with heap:=m,toks:=s.toks+1 }:=I.turned (t':=s.toks+1) (λb o g e=>(M.2 b g).trans e) D C B A y;obtain⟨o,e,c,d⟩:=id j;exact⟨_,U,rf (s:={ s with heap:=m,toks:=s.toks+1 }) e c d (by decide) ⟨.str ⟨#[z.cps[i]]⟩,H,Q,⟨_,U⟩,⟨U,_,hi,U⟩,j,λb g=>(l b g).1⟩⟩
 done:=by
  intro X u n x J i a s G H E I l f p;subst u n x;obtain⟨D,C,N,B,A,y⟩:=l it (by simp);exact wpAny_pyNext_ascii_end (I.ok.hd J) f (by simpa using(show z.cps.size<=i from p)) λm O=>⟨U,I.turned (t':=s.toks) (λb o g e=>O b o g e) D C B A y⟩
 self:=λ_ _ _ _ _ f h=>wpAny_pyIter_striter_ascii f h
theorem vR{P:Jr}{w:Jq}{K:W.Frag}{L:JH}(z:Str)(t:Tok)(it:Js):Turn P w K L (Its z) [it] it (λi h=>h.IsStrIter it "str_iterator" z t i) where
 mem:=by simp
 obj:=λi h f b g=>by
  obtain⟨o,e,c,d⟩:=f;rw[show b=it by simpa using g];exact⟨o,e,λv q=>by rw[d]at q;cases q⟩
 keep:=λi h m ⟨o,e,r⟩ k=>⟨o,k it (by simp) o e,r⟩
 item:=by
  intro X u n x J i a s G H E I l f p;subst u n x;have F:i<z.cps.size:=p;have hi:z.cps[i]?=Mw z.cps[i]:=Fg F;obtain⟨D,C,N,B,A,y⟩:=l it (by simp);refine wpAny_pyNext_wide_item f hi λm j M=>?_
  have Q:Inv X a G H { s with heap:=m,toks:=s.toks+1 }:=I.turned (t':=s.toks+1) (λb o g e=>(M.2 b g).trans e) D C B A y;obtain⟨o,e,c,d⟩:=id j;exact⟨_,U,rf (s:={ s with heap:=m,toks:=s.toks+1 }) e c d (by decide) ⟨.str ⟨#[z.cps[i]]⟩,H,Q,⟨_,U⟩,⟨U,_,hi,U⟩,j,λb g=>(l b g).1⟩⟩
 done:=by
  intro X u n x J i a s G H E I l f p;subst u n x;obtain⟨D,C,N,B,A,y⟩:=l it (by simp);exact wpAny_pyNext_wide_end (I.ok.hd J) f (by simpa using(show z.cps.size<=i from p)) λm O=>⟨U,I.turned (t':=s.toks) (λb o g e=>O b o g e) D C B A y⟩
 self:=λ_ _ _ _ _ f h=>wpAny_pyIter_striter_wide f h
section
variable{tg:JH}
inductive A4  (R:(It->Hp->Prop))(x:V)(H1:Hp):Prop
 |mk (z:_)(_:x=.str z)(_:R (Its z) H1):A4 R x H1
def E1(b:TE):W.Frag->St->Hp->(It->Hp->Prop)->Prop:=λ_ a H R=>b a H λx c=>A4 R x c
theorem BS{l:JH}{i:TE}(n:PE X l i):PI X tg l (E1 i X.K):=by
 intro c s j H R I h;refine thn (n c s j H _ I h) λv a ⟨x,g,f,k,m⟩=>?_
 obtain⟨z,e,q⟩:=m;subst e;obtain⟨t,rfl⟩:=k;have d:∀b∈[a.heap.objs.size],kU X c g b:=λb p=>by
  rw[show b=a.heap.objs.size by simpa using p];exact f.fpOk (zz _) (f.hok.fresh (zz _))
 cases ha:z.cps.all (· < 128) with
 |true=>exact wpAny_pyIter_ascii ha ⟨a.heap.objs.size,[a.heap.objs.size],_,_,g,U,f.kept (t':=a.toks) λb o e=>Jt.get?_push_of_some _ e,tR z t _,⟨_,Jt.get?_push_size _ U,U,U⟩,d,q⟩
 |false=>exact wpAny_pyIter_wide ha ⟨a.heap.objs.size,[a.heap.objs.size],_,_,g,U,f.kept (t':=a.toks) λb o e=>Jt.get?_push_of_some _ e,vR z t _,⟨_,Jt.get?_push_size _ U,U,U⟩,d,q⟩
end
theorem zR{z:Str}{g:TG}{k:TS}{D:Ends}{a:St}{H:Hp}(b:Nat->St->Hp->Prop)(t:b 0 a H)
  (r:∀i c a H,z.cps.toList[i]?=Mw c->b i a H->g (.str ⟨#[c]⟩) a H λd j=>k { D with nx:=b (i+1),ct:=b (i+1),bk:=D.nx } d j)(s:∀a H,b z.cps.size a H->D.nx a H) :
  ∃W:Nat->Nat->St->Hp->Prop,(∃m,W 0 m a H)/\∀i m a H,W i m a H ->
   ((Its z).stop i H/\D.nx a H)\/((Its z).go i H/\∃N:St->Hp->Prop,(∀f H',N f H'->∃l,l<m/\W (i+1) l f H')/\∀x H',(Its z).yld i H x H'->g x a H' λd j=>k { D with nx:=N,ct:=N,bk:=D.nx } d j):=by
 refine⟨λi m a H=>m=z.cps.size-i/\i<=z.cps.size/\b i a H,⟨_,U,Az _,t⟩,?_⟩;rintro i m a H ⟨rfl,hi,p⟩;by_cases h:i<z.cps.size
 .refine .inr ⟨h,b (i+1),λf H' q=>⟨z.cps.size-(i+1),by lia,U,h,q⟩,λx H' y=>?_⟩;obtain⟨e,c,o,n⟩:=y;subst e;subst n;exact r i c a _ (by simpa using o) p
 .have e:i=z.cps.size:=by lia
  subst e;exact .inl ⟨zz _,s a H p⟩
theorem lW{x:Str}{v:V}{pos:Pos}(a:Gl X x)(h:∃u,X.mg x=Mw u/\RelV v u)(b:(x == ("__debug__" : Str))=false:=by decide):PE X (.Name x pos) (tC v):=by
 obtain⟨_,m,r⟩:=h;exact cM a m r b
def sg(g:Str)(c:Nat):Bool:=!(Kh.Str.occurrences g ⟨#[c]⟩ 0 g.length 1).isEmpty
def mS(z g:Str):Bool:=z.cps.toList.all (sg g)
open PySem.NumText
theorem pC{v:Jp}{o:Option Int}(h:KP v o):∃p:Option (Int×Tok),v=partValue p/\p.map (·.1)=o:=by
 cases h with
 |none=>exact⟨Mx,U,U⟩
 |int i t=>exact⟨Mw (i,t),U,U⟩
inductive Dh  (x:V)(lo:Option Int)(hi:Option Int)(H:Hp)(Q:VK):Prop
 |mk (z:_)(_:x=.str z)(_:z.length<=Ju)(_:Q (.str (Txt.slice z lo hi)) H):Dh x lo hi H Q
theorem xR:SlR X Dh:=by
 intro b s m H x v o n lo hi p Q I d i f e h;obtain⟨z,rfl,g,q⟩:=h;obtain⟨t,rfl⟩:=d;obtain⟨l,rfl,k⟩:=pC f;obtain⟨u,rfl,j⟩:=pC e;refine⟨"str",_,slot_str_getitem.lookup,KW s z t,?_⟩;refine wpAny_getItem_str_slice (l:=l) (u:=u) (st:=Mx) i U ?_;unfold sliceMade slicePicked;rw[k,j];unfold Txt.slice at q;show Made.post (if ((1:Int) == 1 && (Kh.Str.strSliceIndices lo hi 1 z.length).length == z.length)=Mz then _ else _) _ _;by_cases c:((1:Int) == 1 && (Kh.Str.strSliceIndices lo hi 1 z.length).length == z.length)=Mz
 .rw[ME c]at q⊢;exact⟨.str z,H,I,⟨_,U⟩,q⟩
 .have a:=Txt.slice_le z lo hi;unfold Txt.slice at a;rw[MD c]at q a⊢;exact⟨zQ a g,.str _,H,I.tok _,⟨_,U⟩,q⟩
structure IC(cs:List Nat):Prop where
 all:AllDigits cs
 one:cs.length=1\/∃c r,cs=c :: r/\49<=c
theorem zS{X:Cx}:OpR X (Kj .Mult) (rI Kk λi j=>.int (i*j)):=opI λ_ _ _ _ _ _ _ a q=>mul_int q a
def E2(h:Jt)(e T:Js)(cls:Jp)(f:Jp×Jp)(fl:Jp):Prop :=
 ∃b a d c,h.get? e=Mw b/\(b.cls=cls/\a[0]?=Mw f.1/\a[2]?=Mw f.2)/\b.data=.fields a/\a[1]?=Mw (.ref T)/\T≠e/\h.get? T=Mw d/\d.data=.fields c/\c[3]?=Mw fl
abbrev E3(h:Jt)(e T:Js)(a:Jp)(b:Jp×Jp):Prop:=E2 h e T a b .none
structure Stp(F X:List Js)(h h':Jt):Prop where
 keep:∀b o,b ∉ F->b ∉ X->h.get? b=Mw o->h'.get? b=Mw o
 slot:∀b o,b∈F->h.get? b=Mw o->∃sl,h'.get? b=Mw { o with slots:=sl }
variable{base:Jt}{e:Js}{oe:Obj}
section
variable{M:JE}{env:Env}{outer:List Env}{L T:Js}{vs:Array Jp}{a0:Jp×Jp}{cls fl:Jp}{Q:Unit->JB->Prop}{Ts:List Js}
end
variable{P:Jr}{H:Hp}
section
variable{H':Hp}{h h':Jt}{a:Js}{o:HO}{F Y fs:List Js}
end
structure A5(X:Cx)(MC:List (Js×Obj))(H:Hp)(b:Js):Prop where
 ent:X.s₀.heap.get? b=Mx
 unt:H b=Mx
 loc:b≠X.env.locals
 cel:∀x c,X.env.cells.lookup x=Mw c->c≠b
 pin:∀p∈X.pn++MC,p.1≠b
variable{MC:List (Js×Obj)}{σ:St}
section
variable{h':Jt}{T:Js}
end
structure E4(K:W.Frag)(C:Js):Prop where
 ex:∃(bmB bmN:List Jp)(newId B Bn nid BU inN:String),W.excIn K C bmB newId=Mz/\ExcBaseFacts Bn newId inN bmN/\bmB.contains (Jp.type Bn)=Mz/\ExcBaseFacts B nid BU bmB
variable{K:W.Frag}
section
variable{mg:Str->Option Jp}{N:List Str}{qual:Str}{scope:JC}{f:Js}{cd:Jp}{outer:List Env}{s0:JB}{H0:Hp}{E:XK}
end
def XP(X:Cx)(MC:List (Js×Obj))(σ:St)(d:Js->Hp->Prop)(b:Jp)(s':JB):Prop :=
 ∃(e T C:Js)(c:Jp×Jp)(a:Hp),b=.ref e/\Inv X MC σ a s'/\E3 s'.heap e T (.ref C) c/\A5 X MC a e/\A5 X MC a T/\d C a
section
variable{s':JB}
end
variable{k:Nat}{x:Str}{ps:List Str}{sp:Sp}{pos:Pos}
section
variable{e:JH}{es:List JH}{t:TA}{p:Pos}
abbrev TSX:=Ends->St->Hp->(Js->Hp->Prop)->Prop
end
section
variable{s':JB}
end
section
variable{st b₀:JL}{su:List JL}{tb:TSX}{ts:Js->Js->TS}{Tn n:Str}{B:Js}{np E5:Pos}
end
structure Ez(K:W.Frag)(C:Js):Prop where
 ga:W.findIn K (.ref C) "__getattribute__" = Mw (Mw (.builtin "BaseException.__getattribute__"))
 hk:W.findIn K (.ref C) "__getattr__" = Mw Mx
 cl:W.findIn K (.ref C) "__class__" = Mw (Mw (.builtin "object.__class__"))
 gt:W.specialIn K (.builtin "object.__class__") "__get__" = Mw (Mw (.builtin "getset_descriptor.__get__"))
 tk:W.takesIn K (.builtin "object.__class__")=Mw Mz
 ob:W.mroIn K C (.type "object")=Mw Mz
 be:W.mroIn K C (.type "BaseException")=Mw Mz
 me:W.kitCls K (.ref C) (.ref C)=Mw Mz
variable{C:Js}
theorem len_app(x y:Str):(x++y).length=x.length+y.length:=by
 show(Str.append x y).cps.size=x.cps.size+y.cps.size;unfold Str.append;simp
def bw(CX:CXT)(P:Jr)(w:Jq)(K:W.Frag)(b:Str->Option Jp)(base:Jt)(k:Nat)(C:Js)(m:Str)(ps:List Str)(sp:Sp):Prop :=
 ∃f a,Meth K C m f/\aK P w K b base CX k f a ps sp/\Binds K a ps []
def br(CX:CXT)(P:Jr)(w:Jq)(K:W.Frag)(a:Str->Option Jp)(base:Jt)(k:Nat)(x:Str)(C:Js)(ps:List Str)(sp:Sp):Prop :=
 ∃f b,Mk K C f/\aK P w K a base CX k f b ps sp/\Binds K b ps []/\a x=Mw (.ref C)
structure Di(K:W.Frag)(B:Js)(m:Str)(f:Js):Prop where
 sp:W.specialIn K (.ref B) "__getattribute__" = Mw (Mw (.builtin "type.__getattribute__"))
 rd:W.readsIn K B (.type "type")=Mz
 at_:W.findCls K (.ref B) (.type "type") m=Mw (.val (.ref f))
 kp:W.keepIn K (.ref f)=Mz
def cz(CX:CXT)(P:Jr)(w:Jq)(K:W.Frag)(a:Str->Option Jp)(base:Jt)(k:Nat)(x:Str)(m:Str)(ps:List Str)(sp:Sp):Prop :=
 ∃f b B,Di K B m f/\aK P w K a base CX k f b ps sp/\Binds K b ps []/\a x=Mw (.ref B)
section
variable{CX:CXT}{mg:Str->Option Jp}{j:Nat}{m:Str}
theorem bw.mono(c:bw CX P w K mg base j C m ps sp)(h:j<=k):bw CX P w K mg base k C m ps sp:=by
 obtain⟨f,a,M,F,b⟩:=c;exact⟨f,a,M,F.mono h,b⟩
theorem br.mono(c:br CX P w K mg base j x C ps sp)(h:j<=k):br CX P w K mg base k x C ps sp:=by
 obtain⟨f,a,M,F,b⟩:=c;exact⟨f,a,M,F.mono h,b⟩
theorem cz.mono(c:cz CX P w K mg base j x m ps sp)(h:j<=k):cz CX P w K mg base k x m ps sp:=by
 obtain⟨f,a,B,M,F,b⟩:=c;exact⟨f,a,B,M,F.mono h,b⟩
end
inductive Dj(C:Js)(m:Str)(sp:Sp)(t:TA)(σ:St)(Q:VK)(x:V)(H1:Hp):Prop
 |mk (a dx fs:_)(_:x=.ref a)(_:H1 a=Mw (.ins C dx fs))(_:fs.lookup m=Mx)(_:t σ H1 λvs H2=>sp (x :: vs) H2 Q E0)
def tMt(C:Js)(m:Str)(sp:Sp)(a:TE)(t:TA):TE:=λσ H Q=>a σ H λx b=>Dj C m sp t σ Q x b
def tMk(C:Js)(sp:Sp)(t:TA):TE:=λσ H Q=>t σ H λc b=>∀x a,b x=Mx->b a=Mx->a≠x ->
 sp (.ref x :: c) (upd (upd b a (.own x)) x (.ins C a [])) (λv d=>v=.non/\Q (.ref x) d) E0
section
variable{CX:CXT}{f:Js}{fd:Kx}{m:Str}{p np apos:Pos}{e o:JH}{es:List JH}{ta:TE}{t:TA}
theorem BV{MC:List (Js×Obj)}{σ:St}{H:Hp}{s:JB}{Q:VK}{us:List Jp}{vs:List V}{E:XK}(F:aK X.prog X.w X.K X.mg X.base CX k f fd ps sp)(b:bY k X.A)(c:Binds X.K fd ps [])(a:Passes CX X E)
  (I:Inv X MC σ H s)(r:Vals vs us)(h:sp vs H Q E):JF (model X.prog X.w) X.A (call (.ref f) us) (EP X MC σ Q) X.xe s :=
 qk (dvs:=[]) (ds:=[]) F b c .nil a I r (by rw[jQ];exact h)
theorem pD{pl:Sem Bool}(M:bw CX X.prog X.w X.K X.mg X.base k C m ps sp)(z:Passes CX X E0)(c:Cls X.K C)(D:bY k X.A)(E:PE X o ta)(J:PA X (e :: es) t)
  (b:JK (e :: es) X.env=(MA,eval e X.env) :: JK es X.env:=by rfl)(d:(JJ pos (JK es X.env)).any (·.1)=false:=by rfl)
  (B:eval (.Call (.Attribute o m apos) (e :: es) [] pos) X.env=(do
   let g ←eval o X.env
   JQ apos.atName
   let (f,first) ←holding [g] (Kq g m pl)
   Lh pos f first (JJ pos (JK (e :: es) X.env)) (K0 pos (K1 [] X.env))):=by rfl) :
  PE X (.Call (.Attribute o m apos) (e :: es) [] pos) (tMt C m sp ta t):=by
 obtain⟨f,fd,i,F,G⟩:=M;intro MC s σ H Q I h;refine W.methodCall_KW (pl:=pl) (thn (E MC s σ H _ I h) λu p ⟨x,O,n,v,a,P,fs,L,N,l,q⟩=>?_) B;subst L;obtain rfl:u=Jp.ref a:=v;refine mL n N c i l ?_;refine W.callWith_K (first:=[.ref a]) (h₀:=X.base) I.ok.mod.kin i.kp (thn (J pos MC p σ O _ n q) λus s2 ⟨vs,R,j,r,y⟩=>⟨j.kIn,?_⟩) b d;exact BV (us:=.ref a :: us) (vs:=.ref a :: vs) F D G z j (.cons U r) y
theorem fF{pl:Sem Bool}(M:cz CX X.prog X.w X.K X.mg X.base k x m ps sp)(l:Passes CX X E0)(o:bY k X.A)(q:Gl X x)(y:PA X (e :: es) t)(d:(x == ("__debug__" : Str))=false:=by decide)
  (b:JK (e :: es) X.env=(MA,eval e X.env) :: JK es X.env:=by rfl)(c:(JJ pos (JK es X.env)).any (·.1)=false:=by rfl)
  (n:eval (.Call (.Attribute (.Name x np) m apos) (e :: es) [] pos) X.env=(do
   let g ←eval (.Name x np) X.env
   JQ apos.atName
   let (f,first) ←holding [g] (Kq g m pl)
   Lh pos f first (JJ pos (JK (e :: es) X.env)) (K0 pos (K1 [] X.env))):=by rfl) :
  PE X (.Call (.Attribute (.Name x np) m apos) (e :: es) [] pos) (tFn sp t):=by
 obtain⟨f,fd,B,a,F,u,p⟩:=M;intro MC s σ H Q I h;refine W.methodCall_KW (pl:=pl) (gD I q p ?_ d) n;refine W.method_cls I.kIn a.sp (W.cls_value (mc:=.type "type") I.kIn a.rd a.at_ (pd (v:=.ref f) U) ?_);refine W.callWith_K (first:=[]) (h₀:=X.base) I.ok.mod.kin a.kp (thn (y pos MC _ σ H _ (I.tok _) h) λus s2 ⟨vs,z,i,r,j⟩=>⟨i.kIn,?_⟩) b c;exact BV (us:=us) (vs:=vs) F o u l i r j
theorem rz(M:br CX X.prog X.w X.K X.mg X.base k x C ps sp)(l:Passes CX X E0)(m:bY (k+1) X.A)(o:Gl X x)(u:PA X (e :: es) t)(i:(x == ("__debug__" : Str))=false:=by decide)
  (he:JK (e :: es) X.env=(MA,eval e X.env) :: JK es X.env:=by rfl)(g:(JJ pos (JK es X.env)).any (·.1)=false:=by rfl) :
  PE X (.Call (.Name x p) (e :: es) [] pos) (tMk C sp t):=by
 obtain⟨f,fd,M,F,r,n⟩:=M;have h:=zM (E:=E0) (dvs:=[]) (ds:=[]) (p:=p) M F m o n r .nil l u i he g;intro MC s σ H Q I q;refine h MC s σ H Q I ?_;have j:t σ H λc b=>∀x a,b x=Mx->b a=Mx->a≠x->sp (.ref x :: c) (upd (upd b a (.own x)) x (.ins C a [])) (λv d=>v=.non/\Q (.ref x) d) E0:=q
 show t σ H λc b=>∀x a,b x=Mx->b a=Mx->a≠x->sp (.ref x :: (c++[])) (upd (upd b a (.own x)) x (.ins C a [])) (λv d=>v=.non/\Q (.ref x) d) E0
 have y:(λ(c:List V)(b:Hp)=>∀x a,b x=Mx->b a=Mx->a≠x->sp (.ref x :: (c++[])) (upd (upd b a (.own x)) x (.ins C a [])) (λv d=>v=.non/\Q (.ref x) d) E0)=λc b=>∀x a,b x=Mx->b a=Mx->a≠x->sp (.ref x :: c) (upd (upd b a (.own x)) x (.ins C a [])) (λv d=>v=.non/\Q (.ref x) d) E0:=by
  funext c b
  rw[jQ]
 rw[y];exact j
end
inductive BW(K:W.Frag)(neg:Bool)(x:V)(y:V)(H:Hp)(Q:VK):Prop
 |mk (a b xs ys:_)(_:x=.ref a)(_:y=.ref b)(_:SqT K H a xs)(_:SqT K H b ys)(f:Nat->Bool)(_:(∀j x y,xs[j]?=Mw x->ys[j]?=Mw y->EqI K H x y (f j)))(_:Q (.bl (if neg then !((List.range (min xs.length ys.length)).all f && xs.length == ys.length) else(List.range (min xs.length ys.length)).all f && xs.length == ys.length)) H)
theorem xS{k:Nat}(o:bY k X.A):OpR X (Km .Eq) (BW X.K MA):=by
 intro MC s σ H x y v u Q I j i h;obtain⟨a,b,C,B,rfl,rfl,z,w,f,t,q⟩:=h;cases (show v=Jp.ref a from j);cases (show u=Jp.ref b from i);obtain⟨d,r,p,_⟩:=I.tuple z;obtain⟨c,g,l,_⟩:=I.tuple w;have n:=r.length;have m:=g.length;have D:=o.units;refine SeqAt.eq_tupleAt (e:=f) (show s.heap.IsTuple a d.toArray from p) (show s.heap.IsTuple b c.toArray from l) (by lia) (xM I (by show X.A.units+1+1<Kv;lia) r g t) ⟨.bl _,H,I,U,?_⟩;simp only[en];rw[←n,←m];exact q
theorem aK.no{P:Jr}{w:Jq}{K:W.Frag}{a:Str->Option Jp}{base:Jt}{CX:CXT}{k:Nat}{f:Js}{b:Kx}{ps:List Str}{sp:Sp}(h:∀vs H Q E,¬ sp vs H Q E):aK P w K a base CX k f b ps sp :=
 ⟨λvs H Q E q=>(h vs H Q E q).elim,λ_ _ _ H _ _ vs Q E _ _ _ _ q=>(h vs H Q E q).elim⟩
theorem mB{X:Cx}{K:W.Frag}{e:JH}{f:Str}{pos:Pos}{a:TE}(h:X.K=K)(b:PE X e a)(c:Kt e f X.env (eval e X.env)=eval e X.env):PE X (.Attribute e f pos) (C7 K a f):=h ▸ bo b c
set_option maxRecDepth 100000
inductive DEq(K:W.Frag)(H:Hp):Nat->V->V->Bool->Prop where
 |flat {n:Nat}{x y:V}(fx:ia x=Mz)(fy:ia y=Mz):DEq K H n x y (eqV x y)
 |same {n:Nat}(a:Js):DEq K H n (.ref a) (.ref a) Mz
 |lst {n:Nat}{a b:Js}{xs ys:List V}{f:Nat->Bool}(ne:a≠b)(ha:SqL K H a xs)(hb:SqL K H b ys)(hl:xs.length=ys.length)(h:∀(j:Nat)(x y:V),xs[j]?=Mw x->ys[j]?=Mw y->DEq K H n x y (f j)):DEq K H (n+1) (.ref a) (.ref b) ((List.range xs.length).all f)
 |lst_ne {n:Nat}{a b:Js}{xs ys:List V}(ne:a≠b)(ha:SqL K H a xs)(hb:SqL K H b ys)(hl:xs.length≠ys.length):DEq K H (n+1) (.ref a) (.ref b) MA
 |tup {n:Nat}{a b:Js}{xs ys:List V}{f:Nat->Bool}(ne:a≠b)(ha:SqT K H a xs)(hb:SqT K H b ys)(h:∀(j:Nat)(x y:V),xs[j]?=Mw x->ys[j]?=Mw y->DEq K H n x y (f j)):DEq K H (n+1) (.ref a) (.ref b) ((List.range (min xs.length ys.length)).all f && xs.length == ys.length)
theorem DEq.mono{K:W.Frag}{H:Hp}{n m:Nat}{x y:V}{b:Bool}(e:DEq K H n x y b)(h:n<=m):DEq K H m x y b:=by
 induction e generalizing m with
 |flat p o=>exact .flat p o
 |same a=>exact .same a
 |lst ne d c g _ f =>
  obtain⟨m,rfl⟩:∃k,m=k+1:=⟨m-1,by lia⟩;exact .lst ne d c g λj x y l i=>f j x y l i (by lia)
 |lst_ne ne d c g =>
  obtain⟨m,rfl⟩:∃k,m=k+1:=⟨m-1,by lia⟩;exact .lst_ne ne d c g
 |tup ne d c _ f =>
  obtain⟨m,rfl⟩:∃k,m=k+1:=⟨m-1,by lia⟩;exact .tup ne d c λj x y l i=>f j x y l i (by lia)
theorem eJ{xs:List V}{a:List Jp}(r:Vals xs a){j:Nat}(h:j<a.toArray.size):∃x,xs[j]?=Mw x/\RelV x a.toArray[j]:=by
 have f:j<a.length:=by simpa using h
 have i:=r.length;have b:xs[j]?=Mw xs[j]:=IV (by lia);obtain⟨d,c,e⟩:=r.get b;have g:a.toArray[j]=d:=by
  have:=IV f;rw[this]at c;simpa using Option.some.inj c
 exact⟨xs[j],b,g ▸ e⟩
theorem DEq.at{n:Nat}{x y:V}{b:Bool}(e:DEq X.K H n x y b)(I:Inv X MC σ H s):∀{A:JA}{u v:Jp},A.units+n<Kv->RelV x u->RelV y v->SeqAt.EqAt A s u v b:=by
 induction e with
 |flat G F=>intro A u v o i g;exact tO i g G F
 |same a =>
  intro A u v o i g;cases (show u=Jp.ref a from i);cases (show v=Jp.ref a from g);exact SeqAt.EqAt.same _
 | @lst n a b xs ys f ne ha hb hl h ih =>
  intro A u v o i g;cases (show u=Jp.ref a from i);cases (show v=Jp.ref b from g);obtain⟨d,r,p,_⟩:=I.list ha;obtain⟨c,k,l,_⟩:=I.list hb;have E:=r.length;have D:=k.length;have m:=SeqAt.RcAt.lists (A:=A) (e:=f) p.isList l.isList (by simp only[en];lia) (by lia) (λj z w=>by
   obtain⟨x,C,t⟩:=eJ r z;obtain⟨y,B,q⟩:=eJ k w;exact ih j x y C B (by show A.units+1+n<Kv;lia) t q)
  rw[show d.toArray.size=xs.length by simp only[en];lia]at m;exact SeqAt.EqAt.of_refs ne m
 | @lst_ne n a b xs ys ne ha hb hl =>
  intro A u v o i g;cases (show u=Jp.ref a from i);cases (show v=Jp.ref b from g);obtain⟨d,r,p,_⟩:=I.list ha;obtain⟨c,k,l,_⟩:=I.list hb;have E:=r.length;have D:=k.length;exact SeqAt.EqAt.of_refs ne (SeqAt.RcAt.lists_lengths p.isList l.isList (by simp only[en,bne_iff_ne,ne_eq];lia) (by lia))
 | @tup n a b xs ys f ne ha hb h ih =>
  intro A u v o i g;cases (show u=Jp.ref a from i);cases (show v=Jp.ref b from g);obtain⟨d,r,p,_⟩:=I.tuple ha;obtain⟨c,k,l,_⟩:=I.tuple hb;have E:=r.length;have D:=k.length;have m:=SeqAt.RcAt.tuples (A:=A) (e:=f) (show s.heap.IsTuple a d.toArray from p) (show s.heap.IsTuple b c.toArray from l) (by lia) (λj z w=>by
   obtain⟨x,C,t⟩:=eJ r z;obtain⟨y,B,q⟩:=eJ k w;exact ih j x y C B (by show A.units+1+n<Kv;lia) t q)
  rw[show d.toArray.size=xs.length by simp only[en];lia,show c.toArray.size=ys.length by simp only[en];lia]at m;exact SeqAt.EqAt.of_refs ne m
inductive xT(K:W.Frag)(neg:Bool)(x:V)(y:V)(H:Hp)(Q:VK):Prop
 |mk (a b xs ys:_)(_:x=.ref a)(_:y=.ref b)(_:SqL K H a xs)(_:SqL K H b ys)(_:((xs.length≠ys.length/\Q (.bl neg) H)\/(xs.length=ys.length/\∃f:Nat->Bool,(∀(j:Nat)(x y:V),xs[j]?=Mw x->ys[j]?=Mw y->DEq K H 60 x y (f j))/\Q (.bl (if neg then !(List.range xs.length).all f else(List.range xs.length).all f)) H)))
theorem zT{MC:List (Js×Obj)}{σ:St}{H:Hp}{s:JB}{A:JA}{xs ys:List V}{a its':List Jp}{f:Nat->Bool}(I:Inv X MC σ H s)(h:A.units+60<Kv)(r:Vals xs a)(d:Vals ys its')
  (hf:∀(j:Nat)(x y:V),xs[j]?=Mw x->ys[j]?=Mw y->DEq X.K H 60 x y (f j)):∀j (c:j<a.toArray.size)(b:j<its'.toArray.size),SeqAt.EqAt A s a.toArray[j] its'.toArray[j] (f j):=λj c b=>by
 obtain⟨x,k,g⟩:=eJ r c;obtain⟨y,i,e⟩:=eJ d b;exact(hf j x y k i).at I h g e
theorem zU{k:Nat}(n:bY k X.A):OpR X (Km .Eq) (xT X.K MA):=by
 intro MC s σ H x y v u Q I m l h;obtain⟨a,b,j,z,rfl,rfl,w,t,h⟩:=h;cases (show v=Jp.ref a from m);cases (show u=Jp.ref b from l);obtain⟨c,r,p,_⟩:=I.list w;obtain⟨i,d,g,_⟩:=I.list t;have C:=r.length;have B:=d.length;have D:=n.units;rcases h with⟨E,q⟩|⟨F,f,o,q⟩
 .refine SeqAt.eq_list_lengthsAt p.isList g.isList (by simp only[en,bne_iff_ne,ne_eq];lia) (by lia) ⟨.bl MA,H,I,U,q⟩
 .refine SeqAt.eq_listAt (e:=f) p.isList g.isList (by simp only[en];lia) (by lia) (zT I (by show X.A.units+1+60<Kv;lia) r d o) ⟨.bl _,H,I,U,?_⟩;rw[show c.toArray.size=j.length by simp only[en];lia];exact q
set_option maxRecDepth 100000
section
variable{tg:JH}
inductive tS(K:W.Frag)(x:V)(y:V)(H:Hp)(Q:VK):Prop
 |mk (a b xs ys:_)(_:x=.ref a)(_:y=.ref b)(_:SqT K H a xs)(_:SqT K H b ys)(_:xs.length+ys.length<=Ju)(_:(xs=[]->Q (.ref b) H))(_:(xs≠[]->ys=[]->Q (.ref a) H))(_:(xs≠[]->ys≠[]->∀p,H p=Mx->Q (.ref p) (upd H p (.tup (xs++ys)))))
theorem xU:OpR X (Kj .Add) (tS X.K):=by
 intro MC s σ H x y v u Q I o m h;obtain⟨a,b,l,A,rfl,rfl,w,t,O,G,E,D⟩:=h;by_cases c:l=[]
 .cases o;cases m;obtain⟨d,C,L,_⟩:=I.tuple w;obtain⟨N,S,J,_⟩:=I.tuple t;have P:d=[]:=C.nil_iff.mpr c;obtain⟨⟨R,dd,z,B⟩,p,r,n,q⟩:=id L;obtain⟨⟨T,j,k,i⟩,e,g,M,f⟩:=id J;simp only at r q g f;subst r q g f
  exact KL ⟨_,p,U⟩ ⟨_,e,U⟩ KN KO PySem.F.slot_tuple_add PySem.F.entry_tuple_add (PySem.F.args_tuple_add_2 _ _)
   (tuple_addW0 a b d.toArray N.toArray n M dd j B i (by simp[P])) ⟨p,e,⟨.ref b,H,I,U,G c⟩⟩
 .exact zO MC s σ H (.ref a) (.ref b) v u Q I o m ⟨a,b,l,A,U,U,w,t,c,O,E c,D c⟩
end
end L2
namespace HT
open PySem PyProof.Rows
section
open PySem.SeqAt
open PySem.AutoSeq1 (wpAny_loadPart')
open PySem.MeetsSeq PySem.MeetsSeq2 PySem.MeetsSeq3
end
end HT
namespace L2
open PySem PySem.Spec PyProof.Rows
section
variable{X:Cx}
end
end L2
namespace HT
open PySem PyProof.Rows
section
open PySem.SeqAt
open PySem.AutoSeq1 (wpAny_loadPart')
open PySem.MeetsSeq PySem.MeetsSeq2 PySem.MeetsSeq3
end
end HT
namespace L2
open PySem PySem.Spec PyProof.Rows
section
variable{X:Cx}
end
end L2
namespace HT
open PySem PyProof.Rows
section
open PySem.SeqAt
open PySem.AutoSeq1 (wpAny_loadPart')
open PySem.MeetsSeq PySem.MeetsSeq2 PySem.MeetsSeq3
theorem tuple_ge_at(l b:Js)(items a:Array Jp)(n K:Nat)(dd F:Option Js)(I t:Array (Option Jp))(j:Nat)(p o:Jp)(r:Bool)(f:items.toList[j]?=Mw p)(e:a.toList[j]?=Mw o) :
  Meets (Kh.«tuple.__ge__» ⟨[.ref l,.ref b],[]⟩)
   (λA R s=>s.heap.get? l=Mw { cls:=.type "tuple",dict:=dd,data:=.seq items n,slots:=I }/\s.heap.get? b=Mw { cls:=.type "tuple",dict:=F,data:=.seq a K,slots:=t } /\
    (∀i x y,i<j->items.toList[i]?=Mw x->a.toList[i]?=Mw y->EqAt A.in1 s x y Mz)/\EqAt A.in1 s p o MA/\(∀(prog:Jr)(w:Jq)(Q E:Jp->JB->Prop),Q (.bool r) s->JF (model prog w) A.in1 (richCompare .GtE p o) Q E s) /\
    R (.ok (.ret (.bool r))) s) :=
 .of_wp λprog w A R s h=>by
  obtain⟨L,g,d,H,J⟩:=s;obtain⟨M,O,C,z,v,h⟩:=h;have X:=AutoSeq1.sub_tuple_tuple
  wp_walk using wpAny_loadPart' M,wpAny_loadPart' O,wpAny_forIn_list _ (λrest b q=>b.1=Mx/\q=⟨L,g,d,H,J⟩/\∃k,k<=j/\rest=(items.toList.zip a.toList).drop k) _
  case turn =>
   rintro⟨x,y⟩ rest b q ⟨D,rfl,k,N,m⟩;have c:(items.toList.zip a.toList)[k]?=Mw (x,y):=by
    have:=MK (λl=>l[0]?) m;simp only[List.getElem?_cons_zero,vr,Nat.add_zero]at this;exact this.symm
   have G:rest=(items.toList.zip a.toList).drop (k+1):=by
    have:=MK List.tail m;rw[List.tail_cons,List.tail_drop]at this;exact this
   rw[pk]at c;by_cases B:k=j
   .subst B;rw[f,e]at c;obtain⟨T,S⟩:=c;cases T;cases S;refine Jl (z prog w _ _ ?_);have u:=v prog w
    wp_walk using u
    exact⟨_,rfl,by simpa using h⟩
   .refine Jl (C k x y (by lia) c.1 c.2 prog w _ _ ?_)
    wp_walk
    exact⟨rfl,rfl,k+1,by lia,G⟩
  case fin =>
   rintro⟨Y,b2⟩ q ⟨D,rfl,k,N,m⟩;have W:=(IW.mp f).1;have V:=(IW.mp e).1;have P:=MK List.length m;rw[ki,List.length_zip,wh]at P;lia
  case h =>
   exact⟨rfl,rfl,0,Az _,rfl⟩
end
section
variable{prog:Jr}{w:Jq}{A:JA}{E:Jp->JB->Prop}{s:JB}
theorem ge_tupInts{l b:Js}{items c:Array Jp}{n m:Int}{C D:List Int}{Q:Jp->JB->Prop}(J:IsTup s.heap l items)(M:IsTup s.heap b c)(hi:IntsAre items.toList (n :: C))(r:IntsAre c.toList (m :: D))(I:n≠m)
  (H:A.units<Kv)(h:Q (.bool (MB (m<=n))) s):JF (model prog w) A (Km .GtE (.ref l) (.ref b)) Q E s:=by
 obtain⟨⟨S,dd,z,B⟩,q,y,k,v⟩:=id J;obtain⟨⟨W,o,p,j⟩,d,g,G,f⟩:=id M;simp only at y v g f;subst y v g f;obtain⟨t,P⟩:∃t,items.toList[0]?=Mw (.int n t):=by
  generalize items.toList=L at hi;cases hi with
  |cons a t _=>exact⟨t,rfl⟩
 obtain⟨u,O⟩:∃u,c.toList[0]?=Mw (.int m u):=by
  generalize c.toList=L at r;cases r with
  |cons a t _=>exact⟨t,rfl⟩
 refine Li (op:=.GtE) ⟨_,q,rfl⟩ ⟨_,d,rfl⟩ PySem.F.slot_tuple_ge PySem.F.entry_tuple_ge (PySem.F.args_tuple_ge_2 _ _) (tuple_ge_at l b items c k G dd o B j 0 _ _ (MB (m<=n)) P O)
  ⟨q,d,(λi V T hi=>MG hi (CQ _)),?_,λprog w Q E N=>(PyProof.Rows.ge_int N:JF (model prog w) _ (Km .GtE (.int n t) (.int m u)) Q E s),show Jp.bool (MB (m<=n))≠Jp.notImplemented/\_ from⟨(λx=>nomatch x),h⟩⟩ H
 obtain⟨e,K,R⟩:=xC A.in1 s n t m u;cases e with
 |true=>exact MG (R.mp rfl) I
 |false=>exact K
end
end HT
namespace L2
open PySem PySem.Spec PyProof.Rows
variable{X:Cx}
inductive BY(K:W.Frag)(x:V)(y:V)(H:Hp)(Q:VK):Prop
 |mk (a b:Js)(xs ys:List V)(j:Nat)(t u:Js)(n m:Int)(ns ms:List Int)(_:x=.ref a)(_:y=.ref b)(_:SqT K H a xs)(_:SqT K H b ys)(_:(∀i x y,i<j->xs[i]?=Mw x->ys[i]?=Mw y->DEq K H 60 x y Mz))(_:xs[j]?=Mw (.ref t))(_:ys[j]?=Mw (.ref u))(_:DEq K H 60 (.ref t) (.ref u) MA)(_:SqT K H t ((n :: ns).map V.int))(_:SqT K H u ((m :: ms).map V.int))(_:n≠m)(_:Q (.bl (MB (m<=n))) H)
theorem BZ{k:Nat}(hr:bY k X.A):OpR X (Km .GtE) (BY X.K):=by
 intro a0 s σ H x y v u Q I rx ry h;obtain⟨a,b,xs,ys,j,t,G,g,l,ns,ms,rfl,rfl,ha,hb,B,ex,ey,z,ht,p,r,q⟩:=h;cases rx;cases ry;obtain⟨c,L,p1,_⟩:=I.tuple ha;obtain⟨O,J,p2,_⟩:=I.tuple hb;obtain⟨o,r3,p3,_⟩:=I.tuple ht;obtain⟨E7,r4,p4,_⟩:=I.tuple p;have hu:=hr.units;have i3:IntsAre o.toArray.toList (g :: ns):=intsAre_of r3;have i4:IntsAre E7.toArray.toList (l :: ms):=intsAre_of r4;obtain⟨⟨a2,dd,a1,sl⟩,P,S,n,R⟩:=id p1;obtain⟨⟨BJ,C,D,m⟩,d,f,n2,e⟩:=id p2;simp only at S R f e;subst S R f e;obtain⟨u0,g1,w1⟩:=L.get ex;obtain⟨u1,g2,w2⟩:=J.get ey;cases (show u0=Jp.ref t from w1);cases (show u1=Jp.ref G from w2)
 refine Li (op:=.GtE) ⟨_,P,U⟩ ⟨_,d,U⟩ PySem.F.slot_tuple_ge PySem.F.entry_tuple_ge (PySem.F.args_tuple_ge_2 _ _) (HT.tuple_ge_at a b c.toArray O.toArray n n2 dd C sl m j (.ref t) (.ref G) (MB (l<=g)) (by simpa using g1) (by simpa using g2))
  ⟨P,d,λi x' y' hi Y W=>?_,z.at I ?_ U U,λZ w Q E hQ=>HT.ge_tupInts p3 p4 i3 i4 r ?_ hQ,show Jp.bool (MB (l<=g))≠Jp.notImplemented/\_ from⟨(λx=>nomatch x),⟨.bl (MB (l<=g)),H,I,U,q⟩⟩⟩ (by lia)
 .have V:=(IW.mp Y).1;have T:=(IW.mp W).1;obtain⟨z1,q1,N⟩:=eJ L (j:=i) (by simpa using V);obtain⟨z2,q3,M⟩:=eJ J (j:=i) (by simpa using T);have h3:c.toArray[i]'(by simpa using V)=x':=by
   have:=(IW.mp Y).2;simpa using this
  have h4:O.toArray[i]'(by simpa using T)=y':=by
   have:=(IW.mp W).2;simpa using this
  rw[h3]at N;rw[h4]at M;refine(B i z1 z2 hi q1 q3).at I ?_ N M;show _+60<Kv;simp only[JA.in1_units];first|lia|(show X.A.units+1+1+60<Kv;lia)|skip
 .show _+60<Kv;simp only[JA.in1_units];first|lia|(show X.A.units+1+1+60<Kv;lia)|skip
 .simp only[JA.in1_units];first|lia|(show X.A.units+1+1<Kv;lia)|skip
variable{prog:Jr}{w:Jq}{A:JA}{E:Jp->JB->Prop}{s:JB}
section
variable{κ:Type} [DecidableEq κ]
def cntK(ks:List κ):Nat->Nat
 |0=>0
 |i+1=>match ks[i]? with
  |some k=>if k∈ks.take i then cntK ks i else cntK ks i+1
  |none=>cntK ks i
theorem kq(ks:List κ):∀i,cntK ks i<=i
 |0=>zz _
 |i+1=>by
  have a:=kq ks i;unfold cntK;split
  .split <;> lia
  .lia
theorem lj(ks:List κ):∀i,i<=ks.length->(cntK ks i=i↔(ks.take i).Nodup)
 |0,_=>by simp[cntK]
 |i+1,h=>by
  have c:=lj ks i (by lia);have le:=kq ks i;have e:ks[i]?=Mw ks[i]:=IV (by lia);have g:ks.take (i+1)=ks.take i++[ks[i]]:=by rw[nS,e];rfl
  unfold cntK;rw[e,g,wj];dsimp only;by_cases m:ks[i]∈ks.take i
  .rw[ME m];exact⟨λz=>MG z (by lia),λz=>MG U (z.2.2 _ m _ (by simp))⟩
  .rw[MD m];refine⟨λz=>⟨c.mp (by lia),by simp,λa f b d=>?_⟩,λz=>by rw[c.mpr z.1]⟩;rw[show b=ks[i] by simpa using d];exact λq=>m (q ▸ f)
variable{knd:KeyKind prog w κ}
theorem gH{h h':Jt}{a:Js}{S:κ->Bool}{n:Nat}(x:h.SetOf knd a S n)(k:∀o,h.get? a=Mw o->h'.get? a=Mw o):h'.SetOf knd a S n:=by
 obtain⟨o,c,d,t,b,r⟩:=x;exact⟨o,c,d,t,k o b,r⟩
theorem mT{h:Jt}{a:Js}{S c:κ->Bool}{n b:Nat}(x:h.SetOf knd a S n)(e:S=c)(d:n=b):h.SetOf knd a c b:=e ▸ d ▸ x
theorem vS{R:Kr->JB->Prop}{I:Js}{H h:List Js}{G:Array JD->Array JD->Prop}{n:Nat}{P:Nat->Jp->Prop}{St:Nat->JB->Prop}(W:Lj prog w A.in1 I H h G n P St){a:Js}(E:a ∉ H){ks:List κ}
  (T:∀i v,P i v->∃k,ks[i]?=Mw k/\knd.is k v=Mz/\v.scannable=Mz)(g:n+1<Lk):∀(d i:Nat)(s:JB),n=i+d->St i s->s.heap.SetOf knd a (λk=>decide (k∈ks.take i)) (cntK ks i) ->
   (∀s',Ll (a :: h) G s s'->s'.heap.SetOf knd a (λk=>decide (k∈ks.take n)) (cntK ks n)->R (.ok (.ret .none)) s')->Ks (model prog w) A (.builtin "set.update.loop" ⟨[.ref a,.ref I],[]⟩) R s:=by
 have D:a ∉ h:=λz=>E (W.sub a z)
 intro d;induction d with
 |zero =>
  intro i s e j x c;rw[show n=i by lia]at W c;refine Lm (R:=R) (A:=A) F.entry_set_update_loop ?_;rw[JA.under_plainId (A:=A) F.plain_set_update_loop _];show JF (model prog w) A.in1 (Kb (.ref I) >>= _) _ _ s;exact Jl (W.done s _ _ j λs' m=>Jm (c s' (m.mono λb g=>jf a g) (gH x λo q=>m.heap a o D q)))
 |succ d S =>
  intro i s e j x c;refine Lm (R:=R) (A:=A) F.entry_set_update_loop ?_;rw[JA.under_plainId (A:=A) F.plain_set_update_loop _];show JF (model prog w) A.in1 (Kb (.ref I) >>= _) _ _ s;refine Jl (W.item i s _ _ (by lia) j λv f p r m=>?_);obtain⟨k,J,C,O⟩:=T i v p;have N:=gH x λo q=>m.heap a o D q
  show JF (model prog w) A.in1 (holding [v] (Ln a v) >>= _) _ _ f;refine Jl (Jn (show JF (model prog w) A.in1 (Ln a v) _ _ f from ?_));unfold Ln;refine Jn (Jl (knd.pyHash C ?_));have le:=kq ks i;refine wpAny_setAddHashed_of (knd:=knd) (s:={ f with toks:=f.toks+1 }) C O N (by lia) λl B M=>?_
  have V:ks.take (i+1)=ks.take i++[k]:=by rw[nS,J];rfl
  have L:l.SetOf knd a (λq=>decide (q∈ks.take (i+1))) (cntK ks (i+1)):=by
   refine mT M (funext λq=>?_) ?_
   .rw[V];by_cases z:q∈ks.take i <;> by_cases y:q=k <;> simp[z,y]
   .show(if decide (k∈ks.take i)=Mz then cntK ks i else cntK ks i+1)=match ks[i]? with|some k=>if k∈ks.take i then cntK ks i else cntK ks i+1|none=>cntK ks i
    rw[J];by_cases z:k∈ks.take i <;> simp[z]
  refine Jm ⟨Lo F.plain_set_update_loop _,S (i+1) { f with heap:=l,toks:=f.toks+1 } (by lia) (W.frame (i+1) f l (f.toks+1) r (B5 _) λb u o q=>(B.2 b λz=>E (z ▸ u)).trans q) L λs2 Q K=>?_⟩;refine c s2 (Ll.trans W.gtrans ((m.mono λb g=>jf a g).then_heap (B5 _) λb o t q=>?_) Q) K;exact(B.2 b λz=>t (z ▸ fw)).trans q
abbrev du(led:Bool):Obj:={ cls:=.type "set",dict:=Mx,data:=.set #[] 0 (.fresh 0 0 led) }
def Filled(knd:KeyKind prog w κ)(s:JB)(ks:List κ)(h':Jt):Prop :=
 h'.SetOf knd s.heap.objs.size (λk=>decide (k∈ks)) (cntK ks ks.length)/\∀b o,b<s.heap.objs.size->s.heap.get? b=Mw o->h'.get? b=Mw o
theorem xW{l:Js}{items:Array Jp}{ks:List κ}{led:Bool}(H:A.handled=Mx)(D:s.heap.IsList l items)(G:∀(i:Nat)(v:Jp),items[i]?=Mw v->∃k,ks[i]?=Mw k/\knd.is k v=Mz/\v.scannable=Mz)(C:ks.length=items.size)(I:items.size+1<Lk) :
  Ks (model prog w) A (.call (.builtin "set.__init__") ⟨[.ref s.heap.objs.size,.ref l],[]⟩) (wants (λr s2=>r=.none/\∃h' n,s2={ s with heap:=h',toks:=n }/\Filled knd s ks h') E) { s with heap:=s.heap.push (du led) }:=by
 have j:(s.heap.push (du led)).get? s.heap.objs.size=Mw (du led):=Jt.get?_push_size s.heap U;have ty:JB.TypeIs { s with heap:=s.heap.push (du led) } (.ref s.heap.objs.size) "set" := ⟨du led,j,U⟩;refine Lp F.called_set.init.plain F.entry_set_init (Lq ty ?_);obtain⟨⟨T,O,S,N⟩,f,h,m,g⟩:=D;dsimp only at h g;subst h g;have K:(s.heap.push (du led)).get? l=Mw { cls:=.type "list",dict:=O,data:=.seq items m,slots:=N }:=Jt.get?_push_of_some _ f;have R:=F.sub_list_set;have Q:=F.sub_list_frozenset;have P:(Jp.type "list" == Jp.type "dict")=false:=by decide
 have e:(s.heap.push (du led)).IsList l items:=⟨_,K,U,m,U⟩;have lt:l<s.heap.objs.size:=Jt.lt_size f;unfold Kh.«set.__init__» Kh.Frozenset.updateFrom noKeywords;generalize J:Kd=it
 wp_walk
 subst J;refine Kg e (Jl (Lr ?_));have y:l≠(s.heap.push (du led)).objs.size:=by rw[Jt.size_push];exact zA (A6 lt)
 have B:s.heap.objs.size ∉ [(s.heap.push (du led)).objs.size,l]:=by
  rw[Jt.size_push];intro z;rcases dV.mp z with z|z
  .exact MG z (zA (BO _))
  .exact MG (by simpa using z) (AS lt)
 refine vS (knd:=knd) ((Kf.list (by simp[H]) _ l y items).toS) B (ks:=ks) G I items.size 0 _ (Nat.zero_add _).symm ⟨⟨_,Jt.get?_push_size _ U,U,U⟩,e.push _⟩ (mT ((setObjOf_fresh (knd:=knd) led).setOf (Jt.get?_push_of_some _ j) (by unfold Lk;lia)) (funext λk=>by simp) U) λt c x=>?_
 obtain⟨h',L,M,p,u⟩:=t;obtain rfl:L=s.gens:=c.gens;obtain rfl:M=s.drawn:=c.drawn;obtain rfl:u=s.os:=c.os;refine Jm (show JF (model prog w) _ (ret Jp.none) _ _ _ from Jm ⟨U,h',p,U,?_,λb o a q=>?_⟩)
 .rw[←C]at x;exact mT x (funext λk=>by rw[hE]) U
 .refine c.heap b o (λz=>?_) (Jt.get?_push_of_some _ (Jt.get?_push_of_some _ q));rcases dV.mp z with z|z
  .exact MG z (zA a)
  .have d:b=(s.heap.push (du led)).objs.size:=by simpa using z
   rw[Jt.size_push]at d;exact MG d (zA (A6 a))
set_option maxRecDepth 100000 in
theorem pE{l:Js}{items:Array Jp}{ks:List κ}{Q:Jp->JB->Prop}(q:A.handled=Mx)(o:s.heap.IsList l items)(p:∀(i:Nat)(v:Jp),items[i]?=Mw v->∃k,ks[i]?=Mw k/\knd.is k v=Mz/\v.scannable=Mz)(n:ks.length=items.size)(t:items.size+1<Lk)
  (h:∀h' d,Filled knd s ks h'->Q (.ref s.heap.objs.size) { s with heap:=h',toks:=d }):JF (model prog w) A (call (.type "set") [.ref l]) Q E s:=by
 obtain⟨c,z,mro⟩:=F.called_set.mro;have I:=F.called_set.made;have H:=F.called_set.sub;have G:=F.called_set.notType;have D:=F.called_set.canCreate;have C:=F.typeCall_set_1 (.ref l);refine KA (Ls (show JF (model prog w) _ (callAny (.type "set") _) _ _ _ from Jm ⟨Kw.quiet_builtin _ (by decide+kernel),Lm F.entry_type_call ?_⟩));rw[JA.under_plain (A:=A) (Lu "set" [.ref l] []) U]
 repeat (any_goals (first|assumption|wp_step))
 refine KC (code_set_new_1 (.ref l) (E:=E) (Q₁:=λj g=>∃a,j=.ref s.heap.objs.size/\g={ s with heap:=s.heap.push (du a) }) λa=>⟨a,U,U⟩) λr g f=>?_
 cases r with
 |error e=>exact f
 |ok fl =>
  cases fl with
  |ret j =>
   obtain⟨a,rfl,rfl⟩:=f;have u:(s.heap.push (du a)).get? s.heap.objs.size=Mw (du a):=Jt.get?_push_size s.heap U;have ty:JB.TypeIs { s with heap:=s.heap.push (du a) } (.ref s.heap.objs.size) "set" := ⟨du a,u,U⟩;have B:=F.called_set.init.lookup;have b2:=F.called_set.init.bind (.ref s.heap.objs.size)
   repeat (any_goals (first|assumption|wp_step))
   refine KC (xW (E:=E) (knd:=knd) (by simp[q]) o p n t) λm s2 b=>?_
   cases m with
   |error e=>exact b
   |ok y =>
    cases y with
    |ret r =>
     obtain⟨rfl,h',d,rfl,x⟩:=b
     repeat (any_goals (first|assumption|wp_step))
     exact h h' d x
    |_=>exact b.elim
  |_=>exact f.elim
end
def oE(P:Jr)(w:Jq)(a:Js)(zs:List Str):HO:=.ext λh=>h.SetOf (strKind P w) a (λz=>decide (z∈zs)) (cntK zs zs.length)
theorem pF:∀{zs:List Str}{us:List Jp},Vals (zs.map V.str) us->∀(i:Nat)(v:Jp),us[i]?=Mw v->∃z t,zs[i]?=Mw z/\v=.str z t
 | [],_,.nil,i,v,h=>by simp at h
 |z :: zs,_,.cons ⟨t,e⟩ r,0,v,h=>by simp at h;exact⟨z,t,U,by rw[←h,e]⟩
 |z :: zs,_,.cons _ r,i+1,v,h=>by
  obtain⟨a,t,c,b⟩:=pF r i v (by simpa using h);exact⟨a,t,by simpa using c,b⟩
theorem jt(C:X.calm=Mz):cF X (.type "set") (λxs H Q=>∃(p:Js)(zs:List Str),xs=[.ref p]/\SqL X.K H p (zs.map V.str)/\zs.length<=1000/\∀l,H l=Mx->Q (.ref l) (upd H l (oE X.prog X.w l zs))):=by
 intro j s G H xs J Q I r h;obtain⟨p,zs,rfl,D,L,q⟩:=h;obtain⟨u,rfl,A⟩:=r.one;obtain rfl:u=Jp.ref p:=A;obtain⟨F,d,B,_⟩:=I.list D;have f:=d.length;rw[bx]at f;refine pE (knd:=strKind X.prog X.w) (ks:=zs) (I.ok.hd C) B.isList (λi v e=>?_) (by simpa using f) (by unfold Lk;simp;lia) λh' n x=>?_
 .obtain⟨z,t,E,rfl⟩:=pF d i v (by simpa using e);exact⟨z,E,by show Jp.isStrOf z (.str z t)=Mz;simp[Jp.isStrOf],U⟩
 .obtain⟨c,m⟩:=x;refine⟨.ref s.heap.objs.size,_,I.laid (a:=s.heap.objs.size) (o:=oE X.prog X.w s.heap.objs.size zs) (h':=h') (t':=n) (λb o q=>m b o (Jt.lt_size q) q) (zz _) ?_,U,q _ I.fresh⟩;refine⟨c,?_,λN M y k=>gH y k⟩;obtain⟨o,_,_,_,g,_⟩:=c;exact⟨o,g⟩
def Asc(xs:Array Nat):Prop:=xs.toList.Pairwise (· < ·)
theorem Asc.lt{xs:Array Nat}(h:Asc xs){i j:Nat}(a:i<j)(b:j<xs.size):xs[i]<xs[j]:=by
 have:=rr.mp h i j (by simp;lia) (by simpa using b) a;simpa using this
theorem xX{xs:Array Nat}(h:Asc xs)(j:Nat):∀(a lo hi:Nat),lo<=hi->hi<=xs.size->hi-lo<=a ->
  (∀(i:Nat)(b:i<xs.size),i<lo->xs[i]<j)->(∀(i:Nat)(b:i<xs.size),hi<=i->j<=xs[i]) ->
  Lv.below.go xs j a lo hi<=xs.size/\(∀(i:Nat)(b:i<xs.size),i<Lv.below.go xs j a lo hi->xs[i]<j)/\(∀(i:Nat)(b:i<xs.size),Lv.below.go xs j a lo hi<=i->j<=xs[i]):=by
 intro a;induction a with
 |zero =>
  intro lo hi o k n g f;have e:lo=hi:=by lia
  subst e;exact⟨by unfold Lv.below.go;exact k,by unfold Lv.below.go;exact g,by unfold Lv.below.go;exact f⟩
 |succ a l =>
  intro lo hi o k n g f;unfold Lv.below.go;by_cases c:lo<hi
  .rw[ME c];have m:(lo+hi) / 2<xs.size:=by lia
   have p:xs.getD ((lo+hi) / 2) j=xs[(lo+hi) / 2]:=by simp[Array.getD,m]
   dsimp only;rw[p];by_cases d:xs[(lo+hi) / 2]<j
   .rw[ME d];refine l _ _ (by lia) k (by lia) (λi b q=>?_) f;by_cases e:i=(lo+hi) / 2
    .subst e;exact d
    .exact Nat.lt_trans (h.lt (by lia) m) d
   .rw[MD d];refine l _ _ (by lia) (by lia) (by lia) g λi b r=>?_
    by_cases e:i=(lo+hi) / 2
    .subst e;lia
    .exact zQ (Nat.le_of_not_lt d) (BA (h.lt (by lia) b))
  .rw[MD c];have e:lo=hi:=by lia
   subst e;exact⟨k,g,f⟩
theorem jC{xs:Array Nat}(h:Asc xs)(j:Nat):Lv.below xs j<=xs.size/\(∀(i:Nat)(hi:i<xs.size),i<Lv.below xs j->xs[i]<j)/\(∀(i:Nat)(hi:i<xs.size),Lv.below xs j<=i->j<=xs[i]) :=
 xX h j xs.size 0 xs.size (Az _) (zz _) (by lia) (λ_ _ z=>MG z (by lia)) (λi hi z=>MG z (by lia))
theorem tT{xs:Array Nat}(h:Asc xs){i:Nat}(hi:i<xs.size):Lv.below xs (xs[i]+1)=i+1:=by
 obtain⟨d,b2,a⟩:=jC h (xs[i]+1);have c:¬ Lv.below xs (xs[i]+1)<=i:=λz=>MG (a i hi z) (by lia)
 have b:¬ i+1<Lv.below xs (xs[i]+1):=λz=>by
  have:=b2 (i+1) (by lia) z;have:=h.lt (show i<i+1 by lia) (show i+1<xs.size by lia);lia
 lia
theorem rA{xs:Array Nat}(h:Asc xs):Lv.below xs 0=0:=by
 obtain⟨b,b2,a⟩:=jC h 0;by_cases z:Lv.below xs 0=0
 .exact z
 .exact MG (b2 0 (by lia) (by lia)) (by lia)
theorem tU{xs:Array Nat}(h:Asc xs){j:Nat}(m:xs[Lv.below xs j]?≠Mw j):Asc (Lv.insertAt xs (Lv.below xs j) j):=by
 obtain⟨r,b2,g⟩:=jC h j;unfold Asc;rw[Lv.toList_insertAt,qd];refine⟨h.sublist (vl _ _),xb.mpr ⟨λb f=>?_,h.sublist (List.drop_sublist _ _)⟩,λa n b f=>?_⟩
 .obtain⟨k,d,rfl⟩:=List.mem_iff_getElem.mp f;have c:Lv.below xs j+k<xs.size:=by simp at d;lia
  have z:=g _ c (by lia);have e:(xs.toList.drop (Lv.below xs j))[k]=xs[Lv.below xs j+k]:=by simp
  rw[e];by_cases q:j=xs[Lv.below xs j+k]
  .exfalso;by_cases l:k=0
   .subst l;refine m ?_;rw[Fg (by lia)];simpa using q.symm
   .have p:=g _ (show Lv.below xs j<xs.size by lia) (zz _);have o:=h.lt (show Lv.below xs j<Lv.below xs j+k by lia) c;lia
  .lia
 .have i:a<j:=by
   obtain⟨k,d,rfl⟩:=List.mem_iff_getElem.mp n;have c:k<Lv.below xs j/\k<xs.size:=by simp at d;lia
   have:=b2 k c.2 c.1;simpa using this
  rcases dV.mp f with rfl|f
  .exact i
  .obtain⟨k,d,rfl⟩:=List.mem_iff_getElem.mp f;have c:Lv.below xs j+k<xs.size:=by simp at d;lia
   have z:=g _ c (by lia);have e:(xs.toList.drop (Lv.below xs j))[k]=xs[Lv.below xs j+k]:=by simp
   rw[e];lia
def rB(t:Lv)(j:Nat):Prop:=t.place[Lv.below t.place j]?≠Mw j
theorem mU{t:Lv}{j:Nat}(h:t.slot j=.empty\/t.slot j=.dummy):rB t j:=by
 intro e;have:t.slot j=.live (Lv.below t.place j):=by
  unfold Lv.slot;simp[e]
 rw[this]at h;rcases h with h|h <;> cases h
theorem tV(t:Lv)(f:Nat->Int)(h:Int):∀(a:Nat)(p:Lv.Probe),(∀d,p.dummy=Mw d->rB t d)->∀j c,Lv.probe.go t f h a p=Mw (.empty j c)->rB t j/\∀d,c=Mw d->rB t d:=by
 intro a;induction a with
 |zero=>intro p _ j c e;unfold Lv.probe.go at e;cases e
 |succ a i =>
  intro p k j c e;unfold Lv.probe.go at e;have g:∀q:Lv.Probe,(t.advance q).dummy=q.dummy:=λq=>by
   unfold Lv.advance;split <;> rfl
  split at e
  .rename_i he
   injection e with e;injection e with m l;subst m l;exact⟨mU (.inl he),k⟩
  .rename_i he
   refine i _ (λd b=>?_) j c e;rw[g]at b;injection b with b;subst b;exact mU (.inr he)
  .split at e
   .injection e with e;cases e
   .refine i _ (λd b=>k d ?_) j c e;rw[g]at b;exact b
theorem oF{t:Lv}{h:Int}{j:Nat}{b:Bool}(e:t.freeSlot h=Mw (j,b)):rB t j:=by
 unfold Lv.freeSlot at e;split at e
 .rename_i j' dm he
  obtain⟨g,f⟩:=tV t _ h _ _ (λd a=>by simp[Lv.probeStart]at a) _ _ he;injection e with e;injection e with c i;subst c;cases dm with
  |none=>exact g
  |some d=>exact f d U
 .cases e
theorem vT(n:Nat):Asc (Array.range n):=by
 unfold Asc;rw[Array.toList_range];exact List.pairwise_lt_range
theorem fG(t:Lv)(n:Nat):Asc (t.standIn n).place:=vT n
theorem tW{t:Lv}(c:Asc t.place)(a:Array (Int×Jp))(h:Int)(x:Jp):Asc (Lw t a h x).2.1.place/\(Lw t a h x).2.1.led=t.led:=by
 unfold Lw;split
 .rename_i slot wd e
  have b:Asc (t.put slot).1.place:=tU c (oF e);dsimp only;unfold Lv.orStandIn;split
  .exact⟨b,U⟩
  .exact⟨fG _ _,U⟩
 .exact⟨fG _ _,U⟩
theorem rC(f:Nat->Option Nat):∀l:List Nat,((l.filterMap λj=>(f j).map (j,·)).map (·.1)).Sublist l
 | []=>by simp
 |j :: l=>by
  have a:=rC f l;rw[uQ];cases e:f j with
  |none=>exact a.trans (List.sublist_cons_self _ _)
  |some v=>exact a.cons_cons j
theorem tX{t t':Lv}{b:Array Int}{n:Nat}{o:Array Nat}(e:t.relaid b n=Mw (t',o)):Asc t'.place/\t'.led=t.led:=by
 unfold Lv.relaid Lv.laid at e;cases hc:Lv.layClean (Lv.sizeAbove n-1) b with
 |none=>rw[hc]at e;cases e
 |some a =>
  rw[hc]at e;injection e with e;injection e with c d;subst c;exact⟨List.pairwise_lt_range.sublist (rC _ _),U⟩
theorem qu{t:Lv}(b:Asc t.place)(a:Array (Int×Jp))(n:Nat):Asc (Lx t a n).2.1.place/\(Lx t a n).2.1.led=t.led:=by
 unfold Lx;split
 .rename_i t' o e
  dsimp only;split
  .exact tX e
  .exact⟨fG _ _,U⟩
 .exact⟨fG _ _,U⟩
theorem fR{α:Type}:∀{l:List α}{i:Nat}{x:α},l[i]?=Mw x->(x :: l.eraseIdx i).Perm l
 | [],i,x,h=>by simp at h
 |a :: l,0,x,h=>by simp at h;subst h;exact .refl _
 |a :: l,i+1,x,h=>by
  have b:=fR (l:=l) (i:=i) (x:=x) (by simpa using h);rw[List.eraseIdx_cons_succ];exact(List.Perm.swap _ _ _).trans (b.cons a)
theorem zV{α:Type}(next:Nat->Nat):∀(a k:Nat)(left:List α)(out:Array α),a=left.length->∃l:List α,l.Perm left/\(Ly.go next a k left out).toList=out.toList++l:=by
 intro a;induction a with
 |zero =>
  intro k left out e;exact⟨left,.refl _,by unfold Ly.go;rw[List.length_eq_zero_iff.mp e.symm];simp⟩
 |succ a d =>
  intro k left out e;have b:next k%left.length<left.length:=EW _ (by lia);have c:left[next k%left.length]?=Mw left[next k%left.length]:=IV b;unfold Ly.go;rw[c];dsimp only;obtain⟨l,p,f⟩:=d (k+1) (left.eraseIdx (next k%left.length)) (out.push left[next k%left.length]) (by rw[List.length_eraseIdx_of_lt b];lia);exact⟨left[next k%left.length] :: l,(p.cons _).trans (fR c),by rw[f];simp⟩
theorem vU{α:Type}(next:Nat->Nat)(xs:Array α):(Ly next xs).toList.Perm xs.toList:=by
 obtain⟨l,p,e⟩:=zV next xs.size 0 xs.toList #[] (by simp);have:(Ly next xs).toList=l:=by unfold Ly;rw[e];simp
 rw[this];exact p
def dS(w:Jq):Bool:=w.params.followText "set-order"
def lr:Jp->Int
 | .int k _=>k
 |_=>0
structure iw(es:Array (Int×Jp))(ks:List Int):Prop where
 ent:∀e∈es.toList,e.1=hashInt (lr e.2)/\∃u,e.2=.int (lr e.2) u
 nd:(es.toList.map λe=>lr e.2).Nodup
 mem:∀k,k∈ks↔k∈es.toList.map λe=>lr e.2
theorem iw.perm{b a:Array (Int×Jp)}{ks:List Int}(h:iw b ks)(p:a.toList.Perm b.toList):iw a ks :=
 ⟨λe c=>h.ent e (p.mem_iff.mp c),(p.map _).nodup_iff.mpr h.nd,λk=>(h.mem k).trans (p.map _).mem_iff.symm⟩
theorem iw.push{d:Array (Int×Jp)}{ks:List Int}{k:Int}{u:Tok}(h:iw d ks)(f:k ∉ ks):iw (d.push (hashInt k,.int k u)) (ks++[k]):=by
 refine⟨λe c=>?_,?_,λq=>?_⟩
 .rw[Iw]at c;rcases ik.mp c with c|c
  .exact h.ent e c
  .rw[iv]at c;subst c;exact⟨U,u,U⟩
 .rw[Iw,gI,wj];refine⟨h.nd,by simp,λa i b g=>?_⟩;have j:b=k:=by simpa[lr]using g
  subst j;exact λe=>f ((h.mem b).mpr (e ▸ i))
 .rw[Iw,gI,ik,ik,h.mem q];simp[lr]
theorem iw.again{a:Array (Int×Jp)}{ks:List Int}{k:Int}(h:iw a ks)(b:k∈ks):iw a (ks++[k]) :=
 ⟨h.ent,h.nd,λq=>by
  rw[←h.mem q,ik,iv];exact⟨λz=>z.elim id λz=>z ▸ b,.inl⟩⟩
theorem iw.elems{b:Array (Int×Jp)}{ks:List Int}(h:iw b ks):ElemsOf (Jw prog w) b.toList:=λe c=>by
 obtain⟨d,u,a⟩:=h.ent e c;refine⟨⟨lr e.2,?_,d⟩,?_⟩
 .rw[a];exact Lz _ _ _ _
 .rw[a];rfl
theorem iw.found{b:Array (Int×Jp)}{ks:List Int}(h:iw b ks){k:Int}{e:Int×Jp}(a:e∈b.toList)(c:(Jw prog w).is k e.2=Mz):k∈ks:=by
 obtain⟨_,u,d⟩:=h.ent e a;refine(h.mem k).mpr (eK.mpr ⟨e,a,?_⟩);exact(Jw prog w).inj e.2 _ _ (by rw[d];exact Lz _ _ _ _) c
def dP(h:Jt)(a:Js)(led:Bool)(ks:List Int)(n:Nat):Prop :=
 ∃o b c t,h.get? a=Mw o/\o.ExactSet/\o.data=.set b c t/\iw b ks/\b.size<Lk/\t.fits b.size=Mz/\Asc t.place/\t.led=led/\b.size=n
theorem dP.stay{h h':Jt}{a:Js}{led:Bool}{ks:List Int}{n:Nat}(x:dP h a led ks n)(k:∀o,h.get? a=Mw o->h'.get? a=Mw o):dP h' a led ks n:=by
 obtain⟨o,c,d,t,b,r⟩:=x;exact⟨o,c,d,t,k o b,r⟩
theorem dP.store{h:Jt}{a:Js}{o:Obj}{m:Array (Int×Jp)}{c:Nat}{t:Lv}(g:h.get? a=Mw o)(d:o.ExactSet)(f:o.data=.set m c t)
  {b:Array (Int×Jp)}{t':Lv}{ks:List Int}(j:iw b ks)(k:b.size<Lk)(i:t'.fits b.size=Mz)(l:Asc t'.place) :
  (h.update a (Obj.putSet b t')).get? a=Mw { o with data:=.set b (c+1) t' }/\dP (h.update a (Obj.putSet b t')) a t'.led ks b.size:=by
 have e:(h.update a (Obj.putSet b t')).get? a=Mw { o with data:=.set b (c+1) t' }:=by
  have:=Jt.get?_update_self (Obj.putSet b t') g (by rw[putSet_of b t' f];rfl);rw[putSet_of b t' f]at this;exact this
 exact⟨e,_,b,c+1,t',e,d,U,j,k,i,l,U,U⟩
theorem rD{g:Bool->Sem Unit}(I:∀(b:Bool)(e:JB)(F:Unit->JB->Prop),F () e->JF (model prog w) A (g b) F E e)
  {a:Js}{o:Obj}{J:Array (Int×Jp)}{K:Nat}{t:Lv}(C:s.heap.get? a=Mw o)(p:o.ExactSet)(D:o.data=.set J K t)
  {c:Array (Int×Jp)}{d:Lv}{ks:List Int}{led:Bool}(q:iw c ks)
  (j:c.size<Lk)(B:d.fits c.size=Mz)(u:Asc d.place)(n:d.led=led){H:Bool}{R:Option Bool->JB->Prop}
  (h:∀h',Jt.SameBut a s.heap h'->dP h' a led ks c.size->R (Mw Mz) { s with heap:=h' }) :
  JF (model prog w) A (do
    storeSet a c d
    if (!H && d.tooFull)=Mz then do
      g (Lx d c (Lv.grown c.size)).2.2
      storeSet a (Lx d c (Lv.grown c.size)).1 (Lx d c (Lv.grown c.size)).2.1
      pure (Mw Mz)
     else pure (Mw Mz)) R E s:=by
 refine Jl (LA C D ?_ (LB j));obtain⟨m,x⟩:=dP.store C p D q j B u;rw[n]at x;have G:=Jt.SameBut.update s.heap a (Obj.putSet c d);split
 .have z:=relayAll_perm d c (Lv.grown c.size);have i:=relayAll_fits d c (Lv.grown c.size);obtain⟨k,f⟩:=qu u c (Lv.grown c.size);generalize L:Lx d c (Lv.grown c.size)=Rl at z i k f⊢;obtain⟨y,M,N⟩:=Rl;dsimp only at z i k f⊢;have l:y.size=c.size:=by rw[←Io,z.length_eq,Io]
  have r:y.size<Lk:=by rw[l];exact j
  refine Jl (I _ _ _ ?_);refine Jl (LA m U ?_ (LB r));obtain⟨_,v⟩:=dP.store m p U (q.perm z) r i k;rw[l,f,n]at v;exact Jm (h _ (G.trans (Jt.SameBut.update _ a _)) v)
 .exact Jm (h _ G x)
theorem addW{a:Js}{led:Bool}{ks:List Int}{n:Nat}{k:Int}{u:Tok}{Q:Bool->JB->Prop}(hS:dP s.heap a led ks n)(Y:n+1<Lk)
  (h:∀h' S b,Jt.SameBut a s.heap h'->S<=n+1->dP h' a led (ks++[k]) S->Q b { s with heap:=h' }) :
  JF (model prog w) A (setAddHashed a (.int k u) ((Jw prog w).hash k)) Q E s:=by
 obtain⟨o,p,ep,t,B,r,C,x,V,N,W,I,K⟩:=hS;have BH:(Jw prog w).is k (.int k u)=true:=Lz _ _ _ _;have F:(Jp.int k u).scannable=true:=rfl;have G:=x.elems (prog:=prog) (w:=w);have a0:p.size+1<Lk:=by rw[K];exact Y
 unfold setAddHashed setAddHashedIn;refine Jn (Jl (LC B C N ?_));dsimp only;rw[byScan_of F V G];simp only[↓reduceIte];unfold setAddByScan;refine Jl ?_;refine Jl (LD ?_);refine Jl (wpAny_setScan_of BH B C N G ?_);cases hr:List.findIdx? (λe=>(Jw prog w).is k e.2) p.toList with
 |some j =>
  dsimp only;obtain⟨Z,O,_⟩:=List.findIdx?_eq_some_iff_getElem.mp hr;have M:k∈ks:=x.found (lq Z) O;refine Jm (Jm ?_);have e:s={ s with heap:=s.heap }:=by cases s;rfl
  rw[e];exact h s.heap n MA (Jt.SameBut.refl a s.heap) (B5 _) ⟨o,p,ep,t,B,r,C,x.again M,V,N,W,I,K⟩
 |none =>
  dsimp only;have M:k ∉ ks:=λz=>by
   obtain⟨e,T,q⟩:=eK.mp ((x.mem k).mp z);have:=List.findIdx?_eq_none_iff.mp hr e T;obtain⟨_,v,h2⟩:=x.ent e T;rw[h2]at this;rw[←q]at this;rw[Lz]at this;exact Bool.noConfusion this
  have P:∀(b:Bool){c:JB}{D:Unit->JB->Prop},D () c->JF (model prog w) A (match b with|true=>rule "set.scan.the-table-gave-way" | false=>pure ()) D E c :=
   λb c D m=>by cases b <;> first|exact Jm m|exact LD m
  have J:=layNew_perm t p ((Jw prog w).hash k) (.int k u);have y:=layNew_fits t p ((Jw prog w).hash k) (.int k u);obtain⟨i,f⟩:=tW W p ((Jw prog w).hash k) (.int k u);generalize hL:Lw t p ((Jw prog w).hash k) (.int k u)=L at J y i f⊢;obtain⟨l,t1,rE,ID⟩:=L;dsimp only at J y i f⊢;have H:iw l (ks++[k]):=(x.push (u:=u) M).perm J;have E8:l.size=n+1:=by rw[←Io,J.length_eq,Io,Array.size_push,K]
  have X:l.size<Lk:=by rw[E8];exact Y
  refine Jl (P _ ?_);have R:∀h',Jt.SameBut a s.heap h'->dP h' a led (ks++[k]) l.size->Q Mz { s with heap:=h' }:=λh' d g=>h h' _ Mz d (by lia) g
  split
  .refine Jl ?_;rw[hashByValue_scannable 8 F];refine Jm ?_;refine rD ?_ B r C H X ?_ ?_ (led:=led) ?_ ?_
   .intro b c D m;cases b <;> first|exact Jm m|exact LD m
   .split
    .exact y
    .exact Lv.fits_plain_off y
   .split
    .exact i
    .exact i
   .split
    .exact f.trans I
    .exact f.trans I
   .intro h' d g;dsimp only;exact Jm (R h' d g)
  .refine Jl (Jm ?_);simp only[↓reduceIte];refine rD ?_ B r C H X y i (f.trans I) ?_
   .intro b c D m;cases b <;> first|exact Jm m|exact LD m
   .intro h' d g;dsimp only;exact Jm (R h' d g)
theorem ua(a:Jp){Q₁:Jp->JB->Prop}
  (h:Q₁ (.ref s.heap.objs.size) { s with heap:=s.heap.push { cls:=.type "set",dict:=Mx,data:=.set #[] 0 (.fresh 0 0 (!dS w)) } }) :
  Ks (model prog w) A (.call (.builtin "set.__new__") ⟨[.type "set",a],[]⟩) (wants Q₁ E) s:=by
 refine Ls ?_;show JF _ A.in1 (do checkBuiltinCall "set.__new__" ⟨[.type "set",a],[]⟩;again (.builtin "set.__new__" ⟨[.type "set",a],[]⟩)) _ _ s;refine Jl (LF (F.newCall_set_1 a) (Jm ⟨Lo F.plain_set_new _,Lm F.entry_set_new ?_⟩));rw[JA.under_plainId F.plain_set_new _];unfold Kh.«set.__new__» Kh.Frozenset.newClass;have c:=sub_set_self;obtain⟨f,g,d,b,e⟩:=s;dsimp only
 wp_walk
 refine LG (Jm ?_);dsimp only;simp only[newObj];refine Jl (wpAny_alloc (Jm ?_));exact Jm h
theorem B1{R:Kr->JB->Prop}{I:Js}{N j:List Js}{G:Array JD->Array JD->Prop}{n:Nat}{P:Nat->Jp->Prop}{St:Nat->JB->Prop}(W:Lj prog w A.in1 I N j G n P St){a:Js}(L:a ∉ N){ks:List Int}{led:Bool}
  (X:∀i v,P i v->∃k u,ks[i]?=Mw k/\v=.int k u)(h:n+1<Lk):∀(d i:Nat)(s:JB)(m:Nat),n=i+d->m<=i->St i s->dP s.heap a led (ks.take i) m ->
   (∀s' H,Ll (a :: j) G s s'->dP s'.heap a led (ks.take n) H->H<=n->R (.ok (.ret .none)) s')->Ks (model prog w) A (.builtin "set.update.loop" ⟨[.ref a,.ref I],[]⟩) R s:=by
 have J:a ∉ j:=λz=>L (W.sub a z)
 intro d;induction d with
 |zero =>
  intro i s m e K l x c;rw[show n=i by lia]at W c;refine Lm (R:=R) (A:=A) F.entry_set_update_loop ?_;rw[JA.under_plainId (A:=A) F.plain_set_update_loop _];show JF (model prog w) A.in1 (Kb (.ref I) >>= _) _ _ s;exact Jl (W.done s _ _ l λs' g=>Jm (c s' m (g.mono λb h=>jf a h) (x.stay λo q=>g.heap a o J q) K))
 |succ d V =>
  intro i s m e K l x c;refine Lm (R:=R) (A:=A) F.entry_set_update_loop ?_;rw[JA.under_plainId (A:=A) F.plain_set_update_loop _];show JF (model prog w) A.in1 (Kb (.ref I) >>= _) _ _ s;refine Jl (W.item i s _ _ (by lia) l λv f p r g=>?_);obtain⟨k,u,Z,rfl⟩:=X i v p;have Q:=x.stay λo q=>g.heap a o J q
  show JF (model prog w) A.in1 (holding [.int k u] (Ln a (.int k u)) >>= _) _ _ f;refine Jl (Jn (show JF (model prog w) A.in1 (Ln a (.int k u)) _ _ f from ?_));unfold Ln;refine Jn (Jl ((Jw prog w).pyHash (k:=k) (Lz _ _ _ _) ?_));refine addW (s:={ f with toks:=f.toks+1 }) Q (by lia) λM S _ E a0 D=>?_
  have Y:ks.take (i+1)=ks.take i++[k]:=by rw[nS,Z];rfl
  rw[←Y]at D;refine Jm ⟨Lo F.plain_set_update_loop _,V (i+1) { f with heap:=M,toks:=f.toks+1 } S (by lia) (by lia) (W.frame (i+1) f M (f.toks+1) r (B5 _) λb C o q=>(E.2 b λz=>L (z ▸ C)).trans q) D λs2 T t O y=>?_⟩;refine c s2 T (Ll.trans W.gtrans ((g.mono λb h=>jf a h).then_heap (B5 _) λb o B q=>?_) t) O y;exact(E.2 b λz=>B (z ▸ fw)).trans q
theorem B2{l:Js}{items:Array Jp}{ks:List Int}(K:A.handled=Mx)(I:s.heap.IsList l items)(J:∀(i:Nat)(v:Jp),items[i]?=Mw v->∃k u,ks[i]?=Mw k/\v=.int k u)(H:ks.length=items.size)(L:items.size+1<Lk) :
  Ks (model prog w) A (.call (.builtin "set.__init__") ⟨[.ref s.heap.objs.size,.ref l],[]⟩) (wants (λr s2=>r=.none/\∃h' n m,s2={ s with heap:=h',toks:=n }/\dP h' s.heap.objs.size (!dS w) ks m/\m<=ks.length/\∀b o,b<s.heap.objs.size->s.heap.get? b=Mw o->h'.get? b=Mw o) E) { s with heap:=s.heap.push (du (!dS w)) }:=by
 have j:(s.heap.push (du (!dS w))).get? s.heap.objs.size=Mw (du (!dS w)):=Jt.get?_push_size s.heap U;have ty:JB.TypeIs { s with heap:=s.heap.push (du (!dS w)) } (.ref s.heap.objs.size) "set" := ⟨du (!dS w),j,U⟩;refine Lp F.called_set.init.plain F.entry_set_init (Lq ty ?_);obtain⟨⟨Z,R,Y,Q⟩,f,h,m,g⟩:=I;dsimp only at h g;subst h g;have N:(s.heap.push (du (!dS w))).get? l=Mw { cls:=.type "list",dict:=R,data:=.seq items m,slots:=Q }:=Jt.get?_push_of_some _ f;have W:=F.sub_list_set;have V:=F.sub_list_frozenset;have T:(Jp.type "list" == Jp.type "dict")=false:=by decide
 have e:(s.heap.push (du (!dS w))).IsList l items:=⟨_,N,U,m,U⟩;have lt:l<s.heap.objs.size:=Jt.lt_size f;have t:dP (s.heap.push (du (!dS w))) s.heap.objs.size (!dS w) [] 0:=⟨_,#[],0,_,j,⟨U,U,U⟩,U,⟨by simp,by simp,by simp⟩,by unfold Lk;decide,U,List.Pairwise.nil,U,U⟩;unfold Kh.«set.__init__» Kh.Frozenset.updateFrom noKeywords;generalize M:Kd=it;generalize X:dS w=bt at *
 wp_walk
 subst M;refine Kg e (Jl (Lr ?_));have C:l≠(s.heap.push (du (!bt))).objs.size:=by rw[Jt.size_push];exact zA (A6 lt)
 have D:s.heap.objs.size ∉ [(s.heap.push (du (!bt))).objs.size,l]:=by
  rw[Jt.size_push];intro z;rcases dV.mp z with z|z
  .exact MG z (zA (BO _))
  .exact MG (by simpa using z) (AS lt)
 refine B1 ((Kf.list (by simp[K]) _ l C items).toS) D (ks:=ks) (led:=!bt) J L items.size 0 _ 0 (Nat.zero_add _).symm (zz _) ⟨⟨_,Jt.get?_push_size _ U,U,U⟩,e.push _⟩ (t.stay λo q=>Jt.get?_push_of_some _ q) λy G c x S=>?_
 obtain⟨h',O,P,p,B⟩:=y;obtain rfl:O=s.gens:=c.gens;obtain rfl:P=s.drawn:=c.drawn;obtain rfl:B=s.os:=c.os;refine Jm (show JF (model prog w) _ (ret Jp.none) _ _ _ from Jm ⟨U,h',p,G,U,?_,by lia,λb o a q=>?_⟩)
 .rw[←H,hE]at x;exact x
 .refine c.heap b o (λz=>?_) (Jt.get?_push_of_some _ (Jt.get?_push_of_some _ q));rcases dV.mp z with z|z
  .exact MG z (zA a)
  .have d:b=(s.heap.push (du (!bt))).objs.size:=by simpa using z
   rw[Jt.size_push]at d;exact MG d (zA (A6 a))
set_option maxRecDepth 100000 in
theorem vV{l:Js}{items:Array Jp}{ks:List Int}{Q:Jp->JB->Prop}(B:A.handled=Mx)(y:s.heap.IsList l items)(z:∀(i:Nat)(v:Jp),items[i]?=Mw v->∃k u,ks[i]?=Mw k/\v=.int k u)(q:ks.length=items.size)(C:items.size+1<Lk)
  (h:∀h' d m,dP h' s.heap.objs.size (!dS w) ks m->m<=ks.length->(∀b o,b<s.heap.objs.size->s.heap.get? b=Mw o->h'.get? b=Mw o)->Q (.ref s.heap.objs.size) { s with heap:=h',toks:=d }):JF (model prog w) A (call (.type "set") [.ref l]) Q E s:=by
 obtain⟨c,H,mro⟩:=F.called_set.mro;have N:=F.called_set.made;have M:=F.called_set.sub;have L:=F.called_set.notType;have K:=F.called_set.canCreate;have J:=F.typeCall_set_1 (.ref l);refine KA (Ls (show JF (model prog w) _ (callAny (.type "set") _) _ _ _ from Jm ⟨Kw.quiet_builtin _ (by decide+kernel),Lm F.entry_type_call ?_⟩));rw[JA.under_plain (A:=A) (Lu "set" [.ref l] []) U]
 repeat (any_goals (first|assumption|wp_step))
 refine KC (ua (.ref l) (E:=E) (Q₁:=λj g=>j=.ref s.heap.objs.size/\g={ s with heap:=s.heap.push (du (!dS w)) }) ⟨U,U⟩) λr g f=>?_
 cases r with
 |error e=>exact f
 |ok fl =>
  cases fl with
  |ret j =>
   obtain⟨rfl,rfl⟩:=f;have D:(s.heap.push (du (!dS w))).get? s.heap.objs.size=Mw (du (!dS w)):=Jt.get?_push_size s.heap U;have ty:JB.TypeIs { s with heap:=s.heap.push (du (!dS w)) } (.ref s.heap.objs.size) "set" := ⟨du (!dS w),D,U⟩;have I:=F.called_set.init.lookup;have b2:=F.called_set.init.bind (.ref s.heap.objs.size)
   repeat (any_goals (first|assumption|wp_step))
   refine KC (B2 (E:=E) (by simp[B]) y z q C) λn s2 a=>?_
   cases n with
   |error e=>exact a
   |ok G =>
    cases G with
    |ret r =>
     obtain⟨rfl,h',d,m,rfl,x,t,p⟩:=a
     repeat (any_goals (first|assumption|wp_step))
     exact h h' d m x t p
    |_=>exact a.elim
  |_=>exact f.elim
set_option maxRecDepth 100000
theorem ba:Slot "set_iterator" "__next__" "set_iterator.__next__" :=
 .of (owner := "set_iterator") (n := "__next__") (by rw[LH,LI];kernel_rfl) (by decide+kernel) (by decide+kernel) (by decide+kernel)
  (by first|exact .inl (by decide+kernel)|exact .inr (by decide+kernel)) (by rw[LJ];kernel_rfl)
theorem ib:Slot "set_iterator" "__iter__" "set_iterator.__iter__" :=
 .of (owner := "set_iterator") (n := "__iter__") (by rw[LH,LI];kernel_rfl) (by decide+kernel) (by decide+kernel) (by decide+kernel)
  (by first|exact .inl (by decide+kernel)|exact .inr (by decide+kernel)) (by rw[LJ];kernel_rfl)
theorem dc:LK table "set_iterator.__next__" = Mw Kh.«set_iterator.__next__»:=entryFor_of_fast (by kernel_rfl)
theorem lu:LK table "set_iterator.__iter__" = Mw Kh.«dict_keyiterator.__iter__» :=
 LL (id' := "dict_keyiterator.__iter__") (by kernel_rfl) U (by decide+kernel) (by kernel_rfl)
theorem mV:LK table "set.__iter__" = Mw Kh.«frozenset.__iter__» :=
 LL (id' := "frozenset.__iter__") (by kernel_rfl) U (by decide+kernel) (by kernel_rfl)
theorem dq(a:Jp):LM "set_iterator.__next__" ⟨[a],[]⟩:=by unfold LM;kernel_rfl
theorem ma(a:Jp):LM "set_iterator.__iter__" ⟨[a],[]⟩:=by unfold LM;kernel_rfl
abbrev fg(first:Jp)(i:Int)(s:Jp)(n a:Nat):Obj:={ cls:=.type "set_iterator",data:=.fields #[first,.int i 0,s,.int n 0,.int a 0] }
theorem qv{a:Source}{n:Nat}{Q:Nat->JB->Prop}(b:n≠0)(h:Q (w.draws a (s.drawn.get a)%n) { s with drawn:=s.drawn.bump a }) :
  JF (model prog w) A (choose a n) Q E s:=λ_ _ _=>⟨b,h⟩
theorem mW{α:Type}:∀(n:Nat)(xs:List α)(s:JB){Q:List α->JB->Prop},n=xs.length->(∀ys d,ys.Perm xs->Q ys { s with drawn:=d })->JF (model prog w) A (LN n xs) Q E s:=by
 intro n;induction n with
 |zero =>
  intro xs s Q e h;have:xs=[]:=List.length_eq_zero_iff.mp e.symm;subst this;unfold LN;exact Jm (h [] s.drawn (.refl _))
 |succ n c =>
  intro xs s Q e h;cases xs with
  |nil=>simp at e
  |cons x r =>
   unfold LN;refine Jl (qv (by simp) ?_);generalize hi:w.draws Source.order (s.drawn.get Source.order)%(x :: r).length=i;have a:i<(x :: r).length:=by rw[←hi];exact EW _ (by simp)
   have b:(x :: r)[i]?=Mw (x :: r)[i]:=IV a;rw[b]
   try dsimp only
   refine Jl (c _ _ (by rw[List.length_eraseIdx_of_lt a];lia) λys d p=>Jm ?_);exact h _ d ((p.cons _).trans (fR b))
theorem vW{I a:Js}{b i:Nat}{o:Obj}{c:Array (Int×Jp)}{d:Nat}{t:Lv}{Q:Option Jp->JB->Prop}
  (e:s.heap.get? I=Mw (fg (.int b 0) i (.ref a) c.size d))(k:s.heap.get? a=Mw o)(n:o.data=.set c d t)(l:t.fits c.size=Mz)
  {x:Jp}{nx:Nat}(q:∀(j:Option (Jp×Nat)->JB->Prop) E',j (Mw (x,nx)) s->JF (model prog w) A.in1 (LO a b i d) j E' s)
  (p:∀h',h'.get? I=Mw (fg (.int nx 0) ((i+1:Nat):Int) (.ref a) c.size d)->Jt.SameBut I s.heap h'->Q (Mw x) { s with heap:=h' }) :
  JF (model prog w) A (Kb (.ref I)) Q E s:=by
 have h:s.TypeIs (.ref I) "set_iterator" := ⟨_,e,U⟩;unfold Kb;refine Jl (LP (LQ (name:=s!"__next__") h ba (LR ba h dc ?_ (dq _))));unfold Kh.«set_iterator.__next__»;refine Jl (m:=LS "__next__" 0 _) (Jm ?_);refine Jl (LU e U ?_)
 try dsimp only
 refine Jl (LV k n l ?_);rw[MD (by simp)]
 try dsimp only
 simp only[Jc];refine Jl (q _ _ ?_)
 try dsimp only
 refine Jl (LW e (by simp) λu y g=>?_);refine Jl (LW (s:={ s with heap:=u }) y (by simp) λr v f=>?_);refine Jm ⟨x,U,Jm (p r ?_ (g.trans f))⟩;rw[v];simp[fg,Ke]
theorem vX{I a:Js}{c i:Nat}{o:Obj}{e:Array (Int×Jp)}{f:Nat}{t:Lv}{Q:Option Jp->JB->Prop}(k:A.handled=Mx)
  (d:s.heap.get? I=Mw (fg (.int c 0) i (.ref a) e.size f))(j:s.heap.get? a=Mw o)(n:o.data=.set e f t)(l:t.fits e.size=Mz)
  (q:∀(h:Option (Jp×Nat)->JB->Prop) E',h Mx s->JF (model prog w) A.in1 (LO a c i f) h E' s)
  (p:∀h',Jt.ExtBut I s.heap h'->Q Mx { s with heap:=h' }) :
  JF (model prog w) A (Kb (.ref I)) Q E s:=by
 have g:s.TypeIs (.ref I) "set_iterator" := ⟨_,d,U⟩;unfold Kb;refine Jl (LP (LQ (name:=s!"__next__") g ba (LR ba g dc ?_ (dq _))));unfold Kh.«set_iterator.__next__»;refine Jl (m:=LS "__next__" 0 _) (Jm ?_);refine Jl (LU d U ?_)
 try dsimp only
 refine Jl (LV j n l ?_);rw[MD (by simp)]
 try dsimp only
 simp only[Jc];refine Jl (q _ _ ?_)
 try dsimp only
 refine Jl (LX d U (by simp) ?_);show JF _ _ (LY (.type "StopIteration") [] >>= _) _ _ _;refine Jl ?_;simp only[LY,newTuple];refine Jl (La ?_ (by size_fits));refine Jl (m:=LZ _ _) (LF (a:=Jp.none) (by first|rfl|(simp only[LZ];rfl)) ?_);refine La ?_ (by size_fits);simp only[raiseNew];refine Jl (L0 ?_);rw[show A.in1.handled=Mx from k];refine Jl (Jm (wpAny_throw ?_));refine Jl (L1 (T := "StopIteration") (b:=Mz) ⟨_,Jt.get?_push_size _ U,U⟩ L3 ?_);exact Jm (p _ (((Jt.SameBut.update ..).extBut.push _).push _))
theorem ub{I a tp:Js}{i:Nat}{o:Obj}{b:Array (Int×Jp)}{d:Nat}{t:Lv}{places:List Nat}{m:Nat}{to:Obj}{Q:Option Jp->JB->Prop}
  (c:s.heap.get? I=Mw (fg (.ref tp) i (.ref a) b.size d))(n:s.heap.get? tp=Mw to)(g:to.data=.seq (places.map λ(p:Nat)=>Ke p).toArray m)(h:s.heap.get? a=Mw o)(k:o.data=.set b d t)(j:t.fits b.size=Mz)
  {p:Nat}(q:places[i]?=Mw p){e:Int×Jp}(r:b[p]?=Mw e)
  (u:∀h',h'.get? I=Mw (fg (.ref tp) ((i+1:Nat):Int) (.ref a) b.size d)->Jt.SameBut I s.heap h'->Q (Mw e.2) { s with heap:=h' }) :
  JF (model prog w) A (Kb (.ref I)) Q E s:=by
 have l:s.TypeIs (.ref I) "set_iterator" := ⟨_,c,U⟩;unfold Kb;refine Jl (LP (LQ (name:=s!"__next__") l ba (LR ba l dc ?_ (dq _))));unfold Kh.«set_iterator.__next__»;refine Jl (m:=LS "__next__" 0 _) (Jm ?_);refine Jl (LU c U ?_)
 try dsimp only
 refine Jl (LV h k j ?_);rw[MD (by simp)]
 try dsimp only
 refine Jl (L4 n g ?_)
 try dsimp only
 have y:(places.map λ(p:Nat)=>Ke p).toArray[(i:Int).toNat]?=Mw (.int p 0):=by simp[q,Ke]
 rw[y]
 try dsimp only
 unfold setNextDrawn;refine Jl (Jl (LC h k j ?_))
 try dsimp only
 rw[MD (by simp)];refine Jl (Jm ?_);simp only[Jc,r];refine Jm ?_;refine Jl (LW c (by simp) λv x f=>?_);refine Jm ⟨e.2,U,Jm (u v ?_ f)⟩;rw[x];simp[fg,Ke]
theorem mX{I a tp:Js}{i:Nat}{o:Obj}{d:Array (Int×Jp)}{j:Nat}{t:Lv}{places:List Nat}{m:Nat}{to:Obj}{Q:Option Jp->JB->Prop}(n:A.handled=Mx)
  (c:s.heap.get? I=Mw (fg (.ref tp) i (.ref a) d.size j))(k:s.heap.get? tp=Mw to)(f:to.data=.seq (places.map λ(p:Nat)=>Ke p).toArray m)(l:s.heap.get? a=Mw o)(r:o.data=.set d j t)(q:t.fits d.size=Mz)
  (g:places[i]?=Mx)(u:∀h',Jt.ExtBut I s.heap h'->Q Mx { s with heap:=h' }) :
  JF (model prog w) A (Kb (.ref I)) Q E s:=by
 have h:s.TypeIs (.ref I) "set_iterator" := ⟨_,c,U⟩;unfold Kb;refine Jl (LP (LQ (name:=s!"__next__") h ba (LR ba h dc ?_ (dq _))));unfold Kh.«set_iterator.__next__»;refine Jl (m:=LS "__next__" 0 _) (Jm ?_);refine Jl (LU c U ?_)
 try dsimp only
 refine Jl (LV l r q ?_);rw[MD (by simp)]
 try dsimp only
 refine Jl (L4 k f ?_)
 try dsimp only
 have y:(places.map λ(p:Nat)=>Ke p).toArray[(i:Int).toNat]?=none:=by simp at g⊢;exact g
 rw[y]
 try dsimp only
 refine Jl (LW c (by simp) λv x e=>?_);refine Jl (LX (s:={ s with heap:=v }) x U (by simp) ?_);show JF _ _ (LY (.type "StopIteration") [] >>= _) _ _ _;refine Jl ?_;simp only[LY,newTuple];refine Jl (La ?_ (by size_fits));refine Jl (m:=LZ _ _) (LF (a:=Jp.none) (by first|rfl|(simp only[LZ];rfl)) ?_);refine La ?_ (by size_fits);simp only[raiseNew];refine Jl (L0 ?_);rw[show A.in1.handled=Mx from n];refine Jl (Jm (wpAny_throw ?_));refine Jl (L1 (T := "StopIteration") (b:=Mz) ⟨_,Jt.get?_push_size _ U,U⟩ L3 ?_);exact Jm (u _ (((e.trans (Jt.SameBut.update ..)).extBut.push _).push _))
theorem mY{I:Js}{first:Jp}{i:Int}{v:Jp}{n c:Nat}{Q:Jp->JB->Prop}(b:s.heap.get? I=Mw (fg first i v n c))(h:Q (.ref I) s):JF (model prog w) A (Kd (.ref I)) Q E s:=by
 have a:s.TypeIs (.ref I) "set_iterator" := ⟨_,b,U⟩;refine L5 a ib (LR ib a lu ?_ (ma _));show JF _ _ (ret (.ref I)) _ _ s;exact Jm ⟨_,U,"set_iterator",_,a,ba.lookup,h⟩
theorem kr{a:Js}{o:Obj}{d:Array (Int×Jp)}{f:Nat}{t:Lv}{b i:Nat}(l:dS w=Mz)(g:s.heap.get? a=Mw o)(k:o.data=.set d f t)(j:t.fits d.size=Mz)
  {Q:Option (Jp×Nat)->JB->Prop}(h:Q (((Ly (w.params.setOrder a f) d)[i]?).map λe=>(e.2,b)) s):JF (model prog w) A (LO a b i f) Q E s:=by
 have c:((L6.mk prog w.params).params.followText "set-order")=true:=l;unfold LO;refine Jl (LC g k j ?_)
 try dsimp only
 unfold L7;refine Jl (Jl (LG (Jm ?_)));show JF _ _ (if (L6.mk prog w.params).params.followText "set-order" = Mz then _ else _) _ _ _;rw[ME c,MD (by simp)];unfold setWalk;refine Jl (Jl (LC g k j ?_))
 try dsimp only
 unfold L7;refine Jl (Jl (LG (Jm ?_)));show JF _ _ (if (L6.mk prog w.params).params.followText "set-order" = Mz then _ else _) _ _ _;rw[ME c];refine Jl (LG (Jm (Jm h)))
theorem ju{a:Js}{o:Obj}{c:Array (Int×Jp)}{e:Nat}{t:Lv}{b i:Nat}(n:dS w=MA)(g:s.heap.get? a=Mw o)(m:o.data=.set c e t)(l:t.fits c.size=Mz)(k:t.led=Mz)(f:(!t.plain && decide (c.size>1))=MA)
  {Q:Option (Jp×Nat)->JB->Prop}(h:Q (match c[Lv.below t.place b]?,t.place[Lv.below t.place b]? with|some (_,x),Mw j=>Mw (x,j+1)|_,_=>Mx) s):JF (model prog w) A (LO a b i e) Q E s:=by
 have d:((L6.mk prog w.params).params.followText "set-order")=false:=n;unfold LO;refine Jl (LC g m l ?_)
 try dsimp only
 unfold L7;refine Jl (Jl (LG (Jm ?_)));show JF _ _ (if (L6.mk prog w.params).params.followText "set-order" = Mz then _ else _) _ _ _;rw[MD (by rw[d];exact Bool.false_ne_true)];show JF _ _ (if (!t.plain && decide (c.size>1))=Mz then _ else _) _ _ _;rw[MD (by rw[f];exact Bool.false_ne_true)];show JF _ _ ((if (!t.led && !c.isEmpty)=Mz then unsupported "set:maker-not-led" else pure ()) >>= _) _ _ _;rw[k,MD (by simp)];exact Jl (Jm (Jm h))
set_option maxRecDepth 100000
abbrev rH:Array JD->Array JD->Prop:=λg a=>a=g
theorem pH{I:Js}{h':Jt}(a:Jt.SameBut I s.heap h'):Ll [I] rH s { s with heap:=h' } :=
 ⟨λb o c e=>(a.2 b λz=>c (z ▸ fw)).trans e,U,U,U,zz _⟩
theorem pI{I:Js}{h':Jt}(a:Jt.ExtBut I s.heap h'):Ll [I] rH s { s with heap:=h' } :=
 ⟨λb o c e=>a b o (λz=>c (z ▸ fw)) e,U,U,U,zz _⟩
theorem mZ(C:A.handled=Mx){I a:Js}(m:a≠I){o:Obj}{e:Array (Int×Jp)}{l:Nat}{t:Lv}(r:o.data=.set e l t)(p:t.fits e.size=Mz){ord:List Jp}(B:ord.length=e.size)(h:Nat->Nat)
  (D:∀(i:Nat)(x:Jp)(s:JB)(d:Option (Jp×Nat)->JB->Prop) f,s.heap.get? a=Mw o->ord[i]?=Mw x->d (Mw (x,h (i+1))) s->JF (model prog w) A.in1 (LO a (h i) i l) d f s)
  (F:∀(s:JB)(d:Option (Jp×Nat)->JB->Prop) f,s.heap.get? a=Mw o->d Mx s->JF (model prog w) A.in1 (LO a (h e.size) e.size l) d f s) :
  Lj prog w A I [I,a] [I] rH e.size (λi v=>ord[i]?=Mw v) (λi s=>s.heap.get? I=Mw (fg (.int (h i) 0) i (.ref a) e.size l)/\s.heap.get? a=Mw o) where
 sub:=λb u=>by simp at u;simp[u]
 grefl:=λ_=>U
 gtrans:=λ_ _ _ H G=>G.trans H
 frame:=λi s y K c _ k=>⟨k I (by simp) _ c.1,k a (by simp) _ c.2⟩
 item:=λi s Q E hi c j=>by
  have z:ord[i]?=Mw ord[i]:=IV (by lia);refine vW c.1 c.2 r p (x:=ord[i]) (nx:=h (i+1)) (λd f q=>D i _ s d f c.2 z q) λy g n=>?_
  exact j _ _ z ⟨g,(n.2 a m).trans c.2⟩ (pH n)
 done:=λs Q E c j=>vX C c.1 c.2 r p (λd f q=>F s d f c.2 q) λy J=>j _ (pI J)
 self:=λi s Q E c j=>mY c.1 j
theorem rJ(C:A.handled=Mx){I a tp:Js}(r:a≠I)(q:tp≠I){o to:Obj}{d:Array (Int×Jp)}{B m:Nat}{t:Lv}(x:o.data=.set d B t)(u:t.fits d.size=Mz){places:List Nat}(h:to.data=.seq (places.map λ(p:Nat)=>Ke p).toArray m)
  (H:places.length=d.size){ord:List Jp}(G:∀(i:Nat),i<d.size->∃p e,places[i]?=Mw p/\d[p]?=Mw e/\ord[i]?=Mw e.2) :
  Lj prog w A I [I,a,tp] [I] rH d.size (λi v=>ord[i]?=Mw v) (λi s=>s.heap.get? I=Mw (fg (.ref tp) i (.ref a) d.size B)/\s.heap.get? a=Mw o/\s.heap.get? tp=Mw to) where
 sub:=λb y=>by simp at y;simp[y]
 grefl:=λ_=>U
 gtrans:=λ_ _ _ n l=>l.trans n
 frame:=λi s z J c _ k=>⟨k I (by simp) _ c.1,k a (by simp) _ c.2.1,k tp (by simp) _ c.2.2⟩
 item:=λi s Q E hi c f=>by
  obtain⟨p,e,n,l,D⟩:=G i hi;refine ub c.1 c.2.2 h c.2.1 x u n l λz g j=>?_
  exact f _ _ D ⟨g,(j.2 a r).trans c.2.1,(j.2 tp q).trans c.2.2⟩ (pH j)
 done:=λs Q E c f=>mX C c.1 c.2.2 h c.2.1 x u (ot (by lia)) λz F=>f _ (pI F)
 self:=λi s Q E c f=>mY c.1 f
theorem xY{a:Js}{o:Obj}{f:Array (Int×Jp)}{B:Nat}{t:Lv}{Q:Jp->JB->Prop}(C:s.heap.get? a=Mw o)(Y:o.ExactSet)(r:o.data=.set f B t)(y:f.size<Lk)(n:t.fits f.size=Mz)(ha:Asc t.place)(hl:t.led = !dS w)
  (h:∀(I:Js)(h':Jt)(d:Drawn)(ord:List Jp)(fp:List Js)(St:Nat->JB->Prop),(∀b u,s.heap.get? b=Mw u->h'.get? b=Mw u)->ord.Perm (f.toList.map (·.2)) ->
   (∀L:JA,L.handled=Mx->Lj prog w L I fp [I] rH f.size (λi v=>ord[i]?=Mw v) St)->St 0 { s with heap:=h',drawn:=d }->s.heap.objs.size<=I->(∀b∈fp,b=a\/s.heap.objs.size<=b)->Q (.ref I) { s with heap:=h',drawn:=d }) :
  JF (model prog w) A (Kd (.ref a)) Q E s:=by
 have hT:s.TypeIs (.ref a) "set" := ⟨o,C,Y.1⟩;have la:a<s.heap.objs.size:=Jt.lt_size C;refine L5 hT F.slot_set_iter (LR F.slot_set_iter hT mV ?_ (F.args_set_iter_1 _));unfold Kh.«frozenset.__iter__» Kh.Frozenset.slot0;refine Jl (Jl (m:=LS "__iter__" 0 _) (Jm ?_));unfold Kh.Frozenset.addrOf;refine Jm ?_;unfold Kh.Frozenset.sizeOf;refine Jl (Jl (LV C r n (Jm ?_)));unfold setDrawn;refine Jl (Jl (LC C r n ?_))
 try dsimp only
 unfold L7;refine Jl (Jl (LG (Jm ?_)));refine Jm ?_;show JF _ _ (if (!dS w && (!t.plain && decide (f.size>1)))=Mz then _ else _) _ _ _;have H:f.toList.length=f.size:=Io;by_cases c:(!dS w && (!t.plain && decide (f.size>1)))=Mz
 .rw[ME c];refine Jl (mW f.size (List.range f.size) s (by simp) λj d p=>?_);refine Jl (L8 ?_ ?_)
  rotate_left
  .rw[bx,p.length_eq,lz];unfold Lk at y;unfold Ju;lia
  generalize M:({ cls:=.type "tuple",data:=.seq (j.map λ(i:Nat)=>Ke i).toArray }:Obj)=to;have gt:(s.heap.push to).get? s.heap.objs.size=Mw to:=by rw[←M];exact Jt.get?_push_size _ U
  have ga:(s.heap.push to).get? a=Mw o:=Jt.get?_push_of_some _ C;refine Jl (m:=setEpoch a) (L9 (s:={ s with heap:=s.heap.push to,drawn:=d }) ga r n ?_);refine Jl (La ?_ (by size_fits));have J:((s.heap.push to).push (fg (.ref s.heap.objs.size) (0:Nat) (.ref a) f.size B)).get? (s.heap.push to).objs.size=Mw (fg (.ref s.heap.objs.size) (0:Nat) (.ref a) f.size B):=Jt.get?_push_size _ U;refine Jm ⟨_,U,"set_iterator",_,⟨_,J,U⟩,ba.lookup,?_⟩;have T:∀i,i<f.size->∃p e,j[i]?=Mw p/\f[p]?=Mw e/\(j.map λp=>(f[p]?.map (·.2)).getD .none)[i]?=Mw e.2:=λi hi=>by
   have O:i<j.length:=by rw[p.length_eq,lz];exact hi
   have G:j[i]?=Mw j[i]:=IV O;have lt:j[i]<f.size:=jN.mp (p.mem_iff.mp (lq O));have V:f[j[i]]?=Mw f[j[i]]:=Fg lt;exact⟨j[i],f[j[i]],G,V,by rw[gg,G];simp[V]⟩
  have pG:(j.map λp=>(f[p]?.map (·.2)).getD Jp.none).Perm (f.toList.map (·.2)):=by
   refine(p.map _).trans (List.Perm.of_eq ?_);apply List.ext_getElem
   .simp
   .intro i h1 h2;simp at h1;simp[h1]
  refine h _ _ d _ [(s.heap.push to).objs.size,a,s.heap.objs.size] _ (λb u e=>Jt.get?_push_of_some _ (Jt.get?_push_of_some _ e)) pG
   (λL K=>rJ K (places:=j) (to:=to) (m:=0) (by rw[Jt.size_push];exact zA (A6 la)) (by rw[Jt.size_push];exact zA (BO _)) r n (by rw[←M]) (by rw[p.length_eq,lz]) T)
   ⟨J,Jt.get?_push_of_some _ ga,Jt.get?_push_of_some _ gt⟩ (by rw[Jt.size_push];exact B5 _) λb y=>?_
  rcases dV.mp y with rfl|y
  .exact .inr (by rw[Jt.size_push];exact B5 _)
  .rcases dV.mp y with rfl|y
   .exact .inl U
   .have:b=s.heap.objs.size:=by simpa using y
    exact .inr (by rw[this];exact zz _)
 .rw[MD c];refine Jl (Jm ?_);refine Jl (m:=setEpoch a) (L9 C r n ?_);refine Jl (La ?_ (by size_fits));have J:(s.heap.push (fg (.int (0:Nat) 0) (0:Nat) (.ref a) f.size B)).get? s.heap.objs.size=Mw (fg (.int (0:Nat) 0) (0:Nat) (.ref a) f.size B):=Jt.get?_push_size _ U;refine Jm ⟨_,U,"set_iterator",_,⟨_,J,U⟩,ba.lookup,?_⟩;have ne:a≠s.heap.objs.size:=zA la;have P:∀b∈[s.heap.objs.size,a],b=a\/s.heap.objs.size<=b:=λb y=>by
   rcases dV.mp y with rfl|y
   .exact .inr (zz _)
   .exact .inl (by simpa using y)
  cases hbt:dS w with
  |true =>
   have pp:=vU (w.params.setOrder a B) f;have D:((Ly (w.params.setOrder a B) f).toList.map (·.2)).length=f.size:=by rw[bx,pp.length_eq,H]
   refine h _ _ s.drawn ((Ly (w.params.setOrder a B) f).toList.map (·.2)) [s.heap.objs.size,a] _ (λb u e=>Jt.get?_push_of_some _ e) (pp.map _)
    (λL K=>mZ K ne r n D (λ_=>0) (λi x S W X g l q=>kr hbt g r n ?_) λS W X g q=>kr hbt g r n ?_) ⟨J,Jt.get?_push_of_some _ C⟩ (zz _) P
   .rw[gg,IE]at l;cases e:(Ly (w.params.setOrder a B) f)[i]? with
    |none=>rw[e]at l;cases l
    |some z=>rw[e]at l;injection l with l;subst l;exact q
   .have e:(Ly (w.params.setOrder a B) f)[f.size]?=none:=by
     rw[←IE];exact ot (by rw[bx]at D;lia)
    rw[e];exact q
  |false =>
   have N:t.led=true:=by rw[hl,hbt];rfl
   have T:(!t.plain && decide (f.size>1))=false:=by
    rw[hbt]at c;simpa using c
   have a0:t.place.size=f.size:=by
    have:=n;simp only[Lv.fits,IZ,beq_iff_eq]at this;exact this.1
   have R:∀i,i<=f.size->Lv.below t.place (match i with|0=>0|k+1=>t.place.getD k 0+1)=i:=λi hi=>by
    cases i with
    |zero=>exact rA ha
    |succ k =>
     have hk:k<t.place.size:=by lia
     have eg:t.place.getD k 0=t.place[k]:=by simp[Array.getD,hk]
     show Lv.below t.place (t.place.getD k 0+1)=k+1;rw[eg];exact tT ha hk
   refine h _ _ s.drawn (f.toList.map (·.2)) [s.heap.objs.size,a] _ (λb u e=>Jt.get?_push_of_some _ e) (.refl _)
    (λL K=>mZ K ne r n (by rw[bx,H]) (λi=>match i with|0=>0|k+1=>t.place.getD k 0+1) (λi x S W X g l q=>ju hbt g r n N T ?_) λS W X g q=>ju hbt g r n N T ?_) ⟨J,Jt.get?_push_of_some _ C⟩ (zz _) P
   .have hi:i<f.size:=by
     obtain⟨z,_⟩:=IW.mp l;rw[bx,H]at z;exact z
    rw[R i (BA hi)];have G:f[i]?=Mw f[i]:=Fg hi;have V:t.place[i]?=Mw t.place[i]:=Fg (by lia);have e3:x=f[i].2:=by
     rw[gg,IE,G]at l;injection l with l;exact l.symm
    rw[G,V];have e4:t.place.getD i 0=t.place[i]:=by simp[Array.getD,show i<t.place.size by lia]
    subst e3;have Z:W (Mw (f[i].2,t.place.getD i 0+1)) S:=q;rw[e4]at Z;exact Z
   .rw[R f.size (zz _)];have G:f[f.size]?=none:=Array.getElem?_eq_none (zz _);rw[G];exact q
set_option maxRecDepth 100000
theorem vY{ord:List Jp}{a:Array Jp}{n:Nat}(h:ItemsOf (λi v=>ord[i]?=Mw v) a n)(b:ord.length=n):a.toList=ord:=by
 apply List.ext_getElem
 .rw[Io,h.1,b]
 .intro i d c;have e:ord[i]?=Mw a[i]:=h.2 i a[i] (Fg (by simpa using d));rw[IV c]at e;injection e with e;simpa using e.symm
theorem rK{a:Js}{o:Obj}{p:Array (Int×Jp)}{ep:Nat}{t:Lv}{Q:List Jp->JB->Prop}(hh:A.handled=Mx)(R:s.heap.get? a=Mw o)(k:o.ExactSet)(hd:o.data=.set p ep t)(r:p.size<Lk)(hf:t.fits p.size=Mz)(ha:Asc t.place)(Z:t.led = !dS w)
  (h:∀(ord:List Jp)(s':JB),ord.Perm (p.toList.map (·.2))->(∀b u,s.heap.get? b=Mw u->s'.heap.get? b=Mw u)->s'.gens=s.gens->s'.os=s.os->s.heap.objs.size<s'.heap.objs.size->Q ord s') :
  JF (model prog w) A (collect (.ref a)) Q E s:=by
 have P:a<s.heap.objs.size:=Jt.lt_size R;unfold collect;refine Jl (Lr (Lm F.entry_proto_collect ?_));rw[JA.under_plainId F.plain_proto_collect _];show JF _ A.in1 (K8 [] >>= λl=>again (.builtin "list.__iadd__" ⟨[l,.ref a],[]⟩)) _ _ s;refine Jl (La ?_);refine Jm ⟨Lo F.plain_list_iadd _,Lm F.entry_list_iadd ?_⟩;rw[JA.under_plainId F.plain_list_iadd _];generalize y:({ cls:=.type "list",data:=.seq ([]:List Jp).toArray }:Obj)=lo;have H:(s.heap.push lo).get? a=Mw o:=Jt.get?_push_of_some _ R;have gS:(s.heap.push lo).get? s.heap.objs.size=Mw lo:=by rw[←y];exact Jt.get?_push_size _ U
 have L:JB.TypeIs { s with heap:=s.heap.push lo } (.ref a) "set" := ⟨o,H,k.1⟩;show JF _ A.in1 (Kh.List.listExtendWith (.ref s.heap.objs.size) (.ref a) (.ref s.heap.objs.size)) _ _ _;unfold Kh.List.listExtendWith;refine Jl (Ma L ?_);have h1:Kh.List.listSameRef (.ref s.heap.objs.size) (.ref a)=false:=by simp[Kh.List.listSameRef];exact AS P
 have h2:(Jp.type "set" == Jp.type "list")=false:=by decide
 have h3:(Jp.type "set" == Jp.type "tuple")=false:=by decide
 simp only[h1,h2,h3,Bool.or_false,I0,if_false];refine Jl (xY (s:={ s with heap:=s.heap.push lo }) H k hd r hf ha Z λI i d ord fp St G O W V hI K=>?_);have g2:i.get? a=Mw o:=G a o H;have m:JB.TypeIs { s with heap:=i,drawn:=d } (.ref a) "set" := ⟨o,g2,k.1⟩;refine Jl (Jn ?_);unfold Kh.List.listLengthHint;refine Jl (Mb m F.slot_set_len.lookup ?_)
 (generalize j:("set.__len__" : String)=id0;(fail_if_success (clear j id0));wp_delta;rw[show splitId id0=Mw ("set","__len__")from by subst j;decide+kernel];subst j)
 refine Jl (L1 (b:=Mz) m sub_set_self ?_);refine Jl (Ma m ?_);refine Jm ?_;show JF _ A.in1 (rule "list.extend.makes-room" >>= λ_=>Kh.List.listTouch (.ref s.heap.objs.size) >>= λ_ =>
  again (.builtin "list.extend.loop" ⟨[.ref s.heap.objs.size,.ref I,.ref s.heap.objs.size],[]⟩)) _ _ _
 refine Jl (LD ?_);have c:i.get? s.heap.objs.size=Mw lo:=G _ _ gS;rw[←y]at c;refine Jl ?_;show JF _ A.in1 (Mc s.heap.objs.size (·.push .none) >>= λ_=>Mc s.heap.objs.size (·.pop)) _ _ _;refine Jl (Md c U ?_);have g:=Jt.get?_update_self (Obj.mapSeq (·.push Jp.none)) c U;refine Md g U ?_;have n:=Jt.get?_update_self (Obj.mapSeq (·.pop)) g U
 have x:∀b u,b≠s.heap.objs.size->i.get? b=Mw u ->
   ((i.update s.heap.objs.size (Obj.mapSeq (·.push Jp.none))).update s.heap.objs.size (Obj.mapSeq (·.pop))).get? b=Mw u :=
  λb u r e=>(Jt.get?_update_other _ _ (Ne.symm r)).trans ((Jt.get?_update_other _ _ (Ne.symm r)).trans e)
 have v:(s.heap.push lo).objs.size=s.heap.objs.size+1:=Jt.size_push ..;have B:s.heap.objs.size ∉ fp:=λq=>by
  rcases K _ q with z|z
  .exact AS P z
  .have N:(s.heap.push lo).objs.size<=s.heap.objs.size:=z;rw[v]at N;exact Nat.not_succ_le_self _ N
 have S:=W A.in1 (by simp[hh]);have D:ord.length=p.size:=by rw[O.length_eq,bx,Io]
 have J:=S.frame 0 ({ s with heap:=i,drawn:=d }:JB) ((i.update s.heap.objs.size (Obj.mapSeq (·.push Jp.none))).update s.heap.objs.size (Obj.mapSeq (·.pop))) s.toks V (zz _) λb f X e=>x b X (λz=>B (z ▸ f)) e
 refine Jm ⟨Lo F.plain_extend_loop _,Me S (by unfold Lk at r;unfold Ju;lia) _ B _ p.size 0 _ _ _ U (Az _)
  J n (ItemsOf.nil _) λs' uc c' q C Y=>?_⟩
 show JF _ A (load s.heap.objs.size >>= _) _ _ s';refine Jl (wpAny_load C ?_);refine Jm ?_;rw[vY Y D];refine h ord s' O (λb u e=>?_) q.gens q.os (Jt.lt_size C);have f:b<s.heap.objs.size:=Jt.lt_size e;refine q.heap b u (λz=>?_) (x b u (zA f) (G b u (Jt.get?_push_of_some _ e)));rcases dV.mp z with z|z
 .exact zA f z
 .have T:b=I:=by simpa using z
  have M:(s.heap.push lo).objs.size<=I:=hI;rw[v,←T]at M;exact CD _ (zW f (Nat.le_of_succ_le M))
variable{MC:List (Js×Obj)}{σ:St}{H:Hp}{h':Jt}
section
variable{Y:List Js}
end
variable{P:Jr}{K:W.Frag}{mg:Str->Option Jp}{base:Jt}{N:List Str}{scope:JC}{f:Js}
section
variable{qual:Str}{cd:Jp}{outer:List Env}{s0:JB}{H0:Hp}{E:XK}
end
theorem jv:cF X (.builtin "len") (λxs H Q=>∃(l:Js)(zs:List Str),xs=[.ref l]/\H l=Mw (oE X.prog X.w l zs)/\zs.length<=1000/\Q (.int ((cntK zs zs.length:Nat):Int)) H):=by
 intro MC s σ H xs i Q I r h;obtain⟨l,zs,rfl,e,j,q⟩:=h;obtain⟨u,rfl,b⟩:=r.one;obtain rfl:u=Jp.ref l:=b;obtain⟨⟨o,k,m,t,g,f,d,_,_,_,c,a⟩,_,_⟩:=I.hok l _ e;have le:=kq zs zs.length;refine call_len_set g f d c (by rw[a];lia) ⟨.int _,H,I.tok _,⟨_,U⟩,?_⟩;rw[a];exact q
variable{k:Nat}{C:Js}{fd:Kx}{ps:List Str}{sp:Sp}{x m:Str}{p np pos:Pos}{e:JH}{es:List JH}{t:TA}
section
variable{apos:Pos}{o:JH}{ta:TE}{E:XK}
end
theorem jD:∀{b:List Int}{us:List Jp},Vals (b.map V.int) us->∃xs:List (Int×Tok),us.toArray=Mf xs.toArray/\b=xs.map (·.1)
 | [],_,.nil=>⟨[],by simp[Mf],U⟩
 |n :: b,_,.cons ⟨t,e⟩ r=>by
  obtain⟨xs,d,c⟩:=jD r;refine⟨(n,t) :: xs,?_,by rw[c];rfl⟩;subst e;have a:=MK Array.toList d;simp[Mf]at a⊢;exact a
theorem pJ{xs:Array (Int×Tok)}{i:Nat}(h:i<xs.size):numAt xs i∈xs.toList.map (·.1):=by
 rw[Mg];exact getD_mem (by rw[bx,Io];lia)
theorem fS(C:X.calm=Mz):cF X (.builtin "min") (λus H Q=>∃(a:Js)(c:List Int),us=[.ref a]/\SqL X.K H a (c.map V.int)/\0<c.length/\∀m,m∈c->(∀b∈c,m<=b)->Q (.int m) H):=by
 intro MC s σ H us G Q I r h;obtain⟨a,c,rfl,y,d,q⟩:=h;obtain⟨u,rfl,n⟩:=r.one;cases (show u=Jp.ref a from n);obtain⟨F,p,w,J⟩:=I.list y;obtain⟨xs,E,f⟩:=jD p;have i:=w.isList;rw[E]at i;have g:0<xs.toArray.size:=by
  rw[f,bx]at d;simpa using d
 refine min_intList (I.ok.hd C) i g λv h' l x A=>?_
 obtain⟨t,rfl⟩:=intItems_at x;obtain⟨L,D⟩:=argBest_lt (numAt xs.toArray) (xs.toArray.size-1);refine⟨.int _,H,I.kept (t':=l) λb o e=>A b o e,⟨t,U⟩,q _ ?_ λb k=>?_⟩
 .rw[f];exact pJ (xs:=xs.toArray) (by lia)
 .rw[f]at k;obtain⟨j,B,rfl⟩:=mem_getD k;rw[bx]at B;have z:=D j (by simp;lia);rw[Mg]at z⊢;rw[Mg]at z;simpa using z
theorem fT(C:X.calm=Mz):cF X (.builtin "max") (λus H Q=>∃(a:Js)(c:List Int),us=[.ref a]/\SqL X.K H a (c.map V.int)/\0<c.length/\∀m,m∈c->(∀b∈c,b<=m)->Q (.int m) H):=by
 intro MC s σ H us G Q I r h;obtain⟨a,c,rfl,y,d,q⟩:=h;obtain⟨u,rfl,n⟩:=r.one;cases (show u=Jp.ref a from n);obtain⟨F,p,w,J⟩:=I.list y;obtain⟨xs,E,f⟩:=jD p;have i:=w.isList;rw[E]at i;have g:0<xs.toArray.size:=by
  rw[f,bx]at d;simpa using d
 refine max_intList (I.ok.hd C) i g λv h' l x A=>?_
 obtain⟨t,rfl⟩:=intItems_at x;obtain⟨L,D⟩:=argBest_gt (numAt xs.toArray) (xs.toArray.size-1);refine⟨.int _,H,I.kept (t':=l) λb o e=>A b o e,⟨t,U⟩,q _ ?_ λb k=>?_⟩
 .rw[f];exact pJ (xs:=xs.toArray) (by lia)
 .rw[f]at k;obtain⟨j,B,rfl⟩:=mem_getD k;rw[bx]at B;have z:=D j (by simp;lia);rw[Mg]at z⊢;rw[Mg]at z;simpa using z
def zX(P:Jr)(w:Jq)(a:Js)(b:List Int):HO:=.ext λh=>h.SetOf (Jw P w) a (λz=>decide (z∈b)) (cntK b b.length)
theorem m3:∀{zs:List Int}{us:List Jp},Vals (zs.map V.int) us->∀(i:Nat)(v:Jp),us[i]?=Mw v->∃z t,zs[i]?=Mw z/\v=.int z t
 | [],_,.nil,i,v,h=>by simp at h
 |z :: zs,_,.cons ⟨t,e⟩ r,0,v,h=>by simp at h;exact⟨z,t,U,by rw[←h,e]⟩
 |z :: zs,_,.cons _ r,i+1,v,h=>by
  obtain⟨a,t,c,b⟩:=m3 r i v (by simpa using h);exact⟨a,t,by simpa using c,b⟩
theorem oG(B:X.calm=Mz):cF X (.type "set") (λxs H Q=>∃(p:Js)(zs:List Int),xs=[.ref p]/\SqL X.K H p (zs.map V.int)/\zs.length<=1000/\∀l,H l=Mx->Q (.ref l) (upd H l (zX X.prog X.w l zs))):=by
 intro MC s σ H xs F Q I r h;obtain⟨p,zs,rfl,C,G,q⟩:=h;obtain⟨u,rfl,n⟩:=r.one;obtain rfl:u=Jp.ref p:=n;obtain⟨E,d,A,_⟩:=I.list C;have f:=d.length;rw[bx]at f;refine pE (knd:=Jw X.prog X.w) (ks:=zs) (I.ok.hd B) A.isList (λi v e=>?_) (by simpa using f) (by unfold Lk;simp;lia) λh' m x=>?_
 .obtain⟨z,t,D,rfl⟩:=m3 d i v (by simpa using e);exact⟨z,D,by show Jp.isInt z (.int z t)=Mz;simp[Jp.isInt],U⟩
 .obtain⟨c,j⟩:=x;refine⟨.ref s.heap.objs.size,_,I.laid (a:=s.heap.objs.size) (o:=zX X.prog X.w s.heap.objs.size zs) (h':=h') (t':=m) (λb o q=>j b o (Jt.lt_size q) q) (zz _) ?_,U,q _ I.fresh⟩;refine⟨c,?_,λL J y k=>gH y k⟩;obtain⟨o,_,_,_,g,_⟩:=c;exact⟨o,g⟩
theorem oH:cF X (.builtin "len") (λxs H Q=>∃(l:Js)(zs:List Int),xs=[.ref l]/\H l=Mw (zX X.prog X.w l zs)/\zs.length<=1000/\Q (.int ((cntK zs zs.length:Nat):Int)) H):=by
 intro MC s σ H xs i Q I r h;obtain⟨l,zs,rfl,e,j,q⟩:=h;obtain⟨u,rfl,b⟩:=r.one;obtain rfl:u=Jp.ref l:=b;obtain⟨⟨o,es,k,t,g,f,d,_,_,_,c,a⟩,_,_⟩:=I.hok l _ e;have le:=kq zs zs.length;refine call_len_set g f d c (by rw[a];lia) ⟨.int _,H,I.tok _,⟨_,U⟩,?_⟩;rw[a];exact q
theorem rL{b:Type} [DecidableEq b] {k:b}{ks:List b}:∀i,i<=ks.length->1<=cntK (k :: ks) (i+1)/\(cntK (k :: ks) (i+1)=1↔∀x∈ks.take i,x=k)
 |0,_=>by simp[cntK]
 |i+1,h=>by
  obtain⟨d,c⟩:=rL (k:=k) (ks:=ks) i (by lia);have e:(k :: ks)[i+1]?=Mw ks[i]:=by simp
  have j:ks[i]?=Mw ks[i]:=IV (by lia);have f:ks.take (i+1)=ks.take i++[ks[i]]:=by rw[nS,j];rfl
  have g:(k :: ks).take (i+1)=k :: ks.take i:=rfl;rw[show cntK (k :: ks) (i+1+1)=match (k :: ks)[i+1]? with
   |some x=>if x∈(k :: ks).take (i+1)then cntK (k :: ks) (i+1)else cntK (k :: ks) (i+1)+1
   |none=>cntK (k :: ks) (i+1)from U,e,f,g]
  dsimp only;by_cases m:ks[i]∈k :: ks.take i
  .rw[ME m];refine⟨d,c.trans ⟨λz x a=>?_,λz x a=>z x (lg _ a)⟩⟩;rcases ik.mp a with a|a
   .exact z x a
   .have:x=ks[i]:=by simpa using a
    rw[this];rcases dV.mp m with m|m
    .exact m
    .exact z _ m
  .rw[MD m];refine⟨by lia,⟨λz=>MG z (by lia),λz=>?_⟩⟩;exact MG (z ks[i] (jy _ (by simp))) λq=>m (by rw[q];exact fw)
theorem pK{a:Type} [DecidableEq a] {k:a}{ks:List a}:cntK (k :: ks) (k :: ks).length=1↔∀x∈ks,x=k:=by
 have:=(rL (k:=k) (ks:=ks) ks.length (zz _)).2;rw[hE]at this;exact this
def TyG(K:W.Frag)(H:Hp)(x:V)(t:Jp):Prop:=kZ K H x t\/∃a b,x=.ref a/\SqT K H a b/\t=.type "tuple"
inductive ClV:V->Jp->Prop where
 |ty (T:String):ClV (.ty T) (.type T)
 |ref (C:Js):ClV (.ref C) (.ref C)
theorem bG:cF X (.builtin "isinstance") (λxs H Q=>∃x c d t b,xs=[x,c]/\ClV c d/\TyG X.K H x t/\W.kitOne X.K t d=Mw b/\Q (.bl b) H):=by
 intro MC s σ H xs v Q I r h;obtain⟨x,c,d,t,b,rfl,i,ty,e,q⟩:=h;cases r with
 |cons g j =>
  cases j with
  | @cons _ cu _ _ ry r3 =>
   cases r3;have n:cu=d:=by cases i <;> exact ry
   subst n;rcases ty with ty|⟨a,u,rfl,k,rfl⟩
   .exact vK I g ty e λf=>⟨.bl b,H,I.tok f,U,q⟩
   .cases (show _=Jp.ref a from g);obtain⟨p,r,⟨o,m,l,_⟩,_⟩:=I.tuple k;exact W.kia_one W.kitx_tuple I.kIn ⟨o,m,l⟩ e (λz=>nomatch z) λf=>⟨.bl b,H,I.tok f,U,q⟩
structure m4(K:W.Frag)(C:Js):Prop where
 cl:Cls K C
 ha:W.findIn K (.ref C) "__class__" = Mw (Mw (.builtin "object.__class__"))
 hn:W.specialIn K (.builtin "object.__class__") "__get__" = Mw (Mw (.builtin "getset_descriptor.__get__"))
 tk:W.takesIn K (.builtin "object.__class__")=Mw Mz
 hm:W.mroIn K C (.type "object")=Mw Mz
theorem m4.ty{K:W.Frag}{C:Js}(h:m4 K C){H:Hp}{a b:Js}{fs:List (Str×V)}(e:H a=Mw (.ins C b fs)):TyG K H (.ref a) (.ref C):=.inl (.ins e h.cl h.ha h.hn h.tk h.hm)
def zY(CX:CXT)(P:Jr)(w:Jq)(K:W.Frag)(mg:Str->Option Jp)(base:Jt)(k:Nat)(m:Str)(ps:List Str)(a:List (Js×Sp)):Prop :=
 ∀p∈a,bw CX P w K mg base k p.1 m ps p.2/\Cls K p.1
variable{CX:CXT}
section
variable{cs:List (Js×Sp)}
theorem Dn:zY CX P w K mg base k m ps []:=λ_ h=>nomatch h
theorem rM(M:bw CX P w K mg base k C m ps sp)(c:Cls K C)(r:zY CX P w K mg base k m ps cs):zY CX P w K mg base k m ps ((C,sp) :: cs):=λp h=>by
 rcases dV.mp h with rfl|h
 .exact⟨M,c⟩
 .exact r p h
end
inductive A7(cs:List (Js×Sp))(m:Str)(t:TA)(σ:St)(Q:VK)(x:V)(H1:Hp):Prop
 |mk (a p dx fs:_)(_:x=.ref a)(_:p∈cs)(_:H1 a=Mw (.ins p.1 dx fs))(_:fs.lookup m=Mx)(_:t σ H1 λvs H2=>p.2 (x :: vs) H2 Q E0):A7 cs m t σ Q x H1
def Fb(b:List (Js×Sp))(m:Str)(a:TE)(t:TA):TE:=λσ H Q=>a σ H λx c=>A7 b m t σ Q x c
section
variable{apos:Pos}{o:JH}{ta:TE}{cs:List (Js×Sp)}
theorem xZ{pl:Sem Bool}(M:zY CX X.prog X.w X.K X.mg X.base k m ps cs)(B:Passes CX X E0)(D:bY k X.A)(G:PE X o ta)(L:PA X (e :: es) t)
  (b:JK (e :: es) X.env=(MA,eval e X.env) :: JK es X.env:=by rfl)(d:(JJ pos (JK es X.env)).any (·.1)=false:=by rfl)
  (C:eval (.Call (.Attribute o m apos) (e :: es) [] pos) X.env=(do
   let g ←eval o X.env
   JQ apos.atName
   let (f,first) ←holding [g] (Kq g m pl)
   Lh pos f first (JJ pos (JK (e :: es) X.env)) (K0 pos (K1 [] X.env))):=by rfl) :
  PE X (.Call (.Attribute o m apos) (e :: es) [] pos) (Fb cs m ta t):=by
 intro MC s σ H Q I h;refine W.methodCall_KW (pl:=pl) (thn (G MC s σ H _ I h) λu v ⟨x,P,n,y,a,p,R,fs,N,E,O,l,q⟩=>?_) C;obtain⟨⟨f,fd,i,F,J⟩,c⟩:=M p E;subst N;obtain rfl:u=Jp.ref a:=y;refine mL n O c i l ?_;refine W.callWith_K (first:=[.ref a]) (h₀:=X.base) I.ok.mod.kin i.kp (thn (L pos MC v σ P _ n q) λus s2 ⟨vs,S,j,r,z⟩=>⟨j.kIn,?_⟩) b d;exact BV (us:=.ref a :: us) (vs:=.ref a :: vs) F D J B j (.cons U r) z
theorem ly(M:br CX X.prog X.w X.K X.mg X.base k x C ps sp)(b:Passes CX X E0)(c:bY (k+1) X.A)(e:Gl X x)(a:(x == ("__debug__" : Str))=false:=by decide) :
  PE X (.Call (.Name x p) [] [] pos) (tMk C sp BI):=by
 obtain⟨f,fd,M,F,g,d⟩:=M;have h:=xB (E:=E0) (dvs:=[]) (ds:=[]) (p:=p) (pos:=pos) M F c e d g .nil b a;intro MC s σ H Q I q;exact h MC s σ H Q I q
end
def ModT(K:W.Frag)(a:Js)(xs:List V):Prop:=∃(o:Obj)(b:Array Jp)(n:Nat),K.lookup a=Mw o/\o.cls=.type "tuple" /\ o.data=.seq b n/\b.size<=Ju/\Vals xs b.toList
theorem ModT.sq{K:W.Frag}{a:Js}{xs:List V}(h:ModT K a xs)(H:Hp):SqT K H a xs:=.inr h
theorem ModT.mk{K:W.Frag}{a:Js}{xs:List V}{d:Option Js}{b:Array Jp}{n:Nat}{c:Array (Option Jp)}(h:K.lookup a=Mw ⟨.type "tuple",d,.seq b n,c⟩) (f:b.size<=Ju)(e:Vals xs b.toList):ModT K a xs :=
 ⟨_,b,n,h,U,U,f,e⟩
theorem fH{c A B:Prop} [Decidable c] (a:c)(h:A):if decide c=Mz then A else B:=by rw[ME (MH a)];exact h
theorem cC{c A B:Prop} [Decidable c] (a:¬ c)(h:B):if decide c=Mz then A else B:=by rw[MD (by rw[MI a];decide)];exact h
theorem ls0{P:List Jp->Prop}(h:P []):∀us:List Jp,us.length=0->P us:=λus e=>by
 cases us
 .exact h
 .cases e
theorem lsS{P:List Jp->Prop}{n:Nat}(h:∀a us,us.length=n->P (a :: us)):∀us:List Jp,us.length=n+1->P us:=λus e=>by
 cases us
 .cases e
 .exact h _ _ (Nat.succ.inj e)
theorem ls1{P:List Jp->Prop}(h:∀a,P [a]):∀us:List Jp,us.length=1->P us:=lsS λa=>ls0 (P:=λv=>P (a :: v)) (h a)
theorem ls2{P:List Jp->Prop}(h:∀a b,P [a,b]):∀us:List Jp,us.length=2->P us:=lsS λa=>ls1 (P:=λv=>P (a :: v)) (h a)
theorem ls3{P:List Jp->Prop}(h:∀a b c,P [a,b,c]):∀us:List Jp,us.length=3->P us:=lsS λa=>ls2 (P:=λv=>P (a :: v)) (h a)
theorem ls4{P:List Jp->Prop}(h:∀a b c d,P [a,b,c,d]):∀us:List Jp,us.length=4->P us:=lsS λa=>ls3 (P:=λv=>P (a :: v)) (h a)
theorem ls5{P:List Jp->Prop}(h:∀a b c d e,P [a,b,c,d,e]):∀us:List Jp,us.length=5->P us:=lsS λa=>ls4 (P:=λv=>P (a :: v)) (h a)
theorem ls6{P:List Jp->Prop}(h:∀a b c d e f,P [a,b,c,d,e,f]):∀us:List Jp,us.length=6->P us:=lsS λa=>ls5 (P:=λv=>P (a :: v)) (h a)
theorem ls7{P:List Jp->Prop}(h:∀a b c d e f g,P [a,b,c,d,e,f,g]):∀us:List Jp,us.length=7->P us:=lsS λa=>ls6 (P:=λv=>P (a :: v)) (h a)
theorem lb1{fd:Kx}{ps:List Str}(h:∀a,Kz fd ⟨[a],[]⟩=pure (ps.zip [a])):∀us:List Jp,us.length=1->Kz fd ⟨us,[]⟩=pure (ps.zip us):=ls1 (P:=λus=>Kz fd ⟨us,[]⟩=pure (ps.zip us)) h
theorem lb2{fd:Kx}{ps:List Str}(h:∀a b,Kz fd ⟨[a,b],[]⟩=pure (ps.zip [a,b])):∀us:List Jp,us.length=2->Kz fd ⟨us,[]⟩=pure (ps.zip us):=ls2 (P:=λus=>Kz fd ⟨us,[]⟩=pure (ps.zip us)) h
theorem lb3{fd:Kx}{ps:List Str}(h:∀a b c,Kz fd ⟨[a,b,c],[]⟩=pure (ps.zip [a,b,c])):∀us:List Jp,us.length=3->Kz fd ⟨us,[]⟩=pure (ps.zip us):=ls3 (P:=λus=>Kz fd ⟨us,[]⟩=pure (ps.zip us)) h
theorem lb4{fd:Kx}{ps:List Str}(h:∀a b c d,Kz fd ⟨[a,b,c,d],[]⟩=pure (ps.zip [a,b,c,d])):∀us:List Jp,us.length=4->Kz fd ⟨us,[]⟩=pure (ps.zip us):=ls4 (P:=λus=>Kz fd ⟨us,[]⟩=pure (ps.zip us)) h
theorem lb6{fd:Kx}{ps:List Str}(h:∀a b c d e f,Kz fd ⟨[a,b,c,d,e,f],[]⟩=pure (ps.zip [a,b,c,d,e,f])):∀us:List Jp,us.length=6->Kz fd ⟨us,[]⟩=pure (ps.zip us):=ls6 (P:=λus=>Kz fd ⟨us,[]⟩=pure (ps.zip us)) h
theorem lb7{fd:Kx}{ps:List Str}(h:∀a b c d e f g,Kz fd ⟨[a,b,c,d,e,f,g],[]⟩=pure (ps.zip [a,b,c,d,e,f,g])):∀us:List Jp,us.length=7->Kz fd ⟨us,[]⟩=pure (ps.zip us):=ls7 (P:=λus=>Kz fd ⟨us,[]⟩=pure (ps.zip us)) h
section
variable{j:Nat}{q:Str}{st:JL}
theorem fsc{P:List Str}{f:JC}(a:f.kind=.function:=by rfl)(b:f.isCoroutine=false:=by rfl)(c:f.isGenerator=false:=by rfl)(d:N.Nodup:=by decide+kernel)(e:N.take P.length=P:=by rfl)(g:∀x∈P,f.names.lookup x=Mw .local\/f.names.lookup x=Mw .cell:=by decide+kernel)(h:∀y∈f.names,y.2≠.free:=by decide+kernel):ar N P f:=⟨a,b,c,d,e,g,h⟩
theorem Fun.okA(F:Fun K x q st f fd)(S:ar N ps (ak st))(d:∀(b:Jp)(A:JA)(a:List Env)(s:JB)(H:Hp)(vs:List V)(Q:VK)(E:XK),bY k (A.deeper (envOfC q (ak st) s.heap.objs.size f b))->sp vs H Q E->∃t,PSs (cR CX0 P w K mg base N q (ak st) f b A a s H E).nox (dI st) t/\t { nx:=λ_ H'=>Q .non H',rt:=Q } (start N vs) H)(c:∀vs H Q E,sp vs H Q E->vs.length=ps.length:=by intro vs H Q E h;cases h;subst_vars;rfl):aK P w K mg base CX0 (k+1) f fd ps sp:=F.ok S c d
theorem Callee.up(c:Callee P w K mg base j x ps sp)(h:j<=k:=by decide):Callee P w K mg base k x ps sp:=c.mono h
theorem bw.up(c:bw CX P w K mg base j C m ps sp)(h:j<=k:=by decide):bw CX P w K mg base k C m ps sp:=c.mono h
theorem br.up(c:br CX P w K mg base j x C ps sp)(h:j<=k:=by decide):br CX P w K mg base k x C ps sp:=c.mono h
theorem cz.up(c:cz CX P w K mg base j x m ps sp)(h:j<=k:=by decide):cz CX P w K mg base k x m ps sp:=c.mono h
inductive GF(K:W.Frag)(x q:Str)(st:JL):Prop
 |mk {f:Js}{fd:Kx}(a:W.nsIn K Jx x=Mw (Mw (.ref f)))(F:Fun K q q st f fd)
inductive MF(K:W.Frag)(C:Js)(x q:Str)(st:JL):Prop
 |mk {f:Js}{fd:Kx}(a:W.findIn K (.ref C) x=Mw (Mw (.ref f)))(i:W.isFn K (.ref f)=Mz)(F:Fun K x q st f fd)
inductive KF(K:W.Frag)(C:Js)(x q:Str)(st:JL):Prop
 |mk {f:Js}{fd:Kx}(a:W.findIn K (.ref C) "__init__" = Mw (Mw (.ref f))) (i:W.isFn K (.ref f)=Mz)(m:W.makesIn K C=Mz)(k:W.keepIn K (.ref C)=Mz)(n:W.nsIn K Jx x=Mw (Mw (.ref C)))(F:Fun K "__init__" q st f fd)
inductive BF(K:W.Frag)(C:Js)(x m q:Str)(st:JL):Prop
 |mk {f:Js}{fd:Kx}(s:W.specialIn K (.ref C) "__getattribute__" = Mw (Mw (.builtin "type.__getattribute__"))) (r:W.readsIn K C (.type "type")=Mz) (a:W.findCls K (.ref C) (.type "type") m=Mw (.val (.ref f))) (n:W.nsIn K Jx x=Mw (Mw (.ref C)))(F:Fun K m q st f fd)
inductive Zb(P:Jr)(w:Jq)(K:W.Frag)(mg:Str->Option Jp)(base:Jt):Prop
 |mk {h:Jt}(X:K.In h)(G:h.Ns Jx mg)
theorem Zb.g(Z:Zb P w K mg base){v:Jp}(e:W.nsIn K Jx x=Mw (Mw v)):mg x=Mw v:=by cases Z with|mk X G=>exact W.mg_of X G e
theorem mkC(Z:Zb P w K mg base)(h:GF K x q st)(O:∀{f:Js}{fd:Kx},Fun K q q st f fd->aK P w K mg base CX0 k f fd ps sp)(b:∀{f:Js}{fd:Kx},Fun K q q st f fd->Binds K fd ps []:=by trivial):Callee P w K mg base k x ps sp:=by
 cases h with|mk a F=>exact⟨_,_,O F,b F,F.kp,Z.g a⟩
theorem mkM(_:Zb P w K mg base)(h:MF K C m q st)(O:∀{f:Js}{fd:Kx},Fun K m q st f fd->aK P w K mg base CX k f fd ps sp)(b:∀{f:Js}{fd:Kx},Fun K m q st f fd->Binds K fd ps []:=by trivial):bw CX P w K mg base k C m ps sp:=by
 cases h with|mk a i F=>exact⟨_,_,⟨a,i,F.kp⟩,O F,b F⟩
theorem mkK(Z:Zb P w K mg base)(h:KF K C x q st)(O:∀{f:Js}{fd:Kx},Fun K "__init__" q st f fd->aK P w K mg base CX k f fd ps sp) (b:∀{f:Js}{fd:Kx},Fun K "__init__" q st f fd->Binds K fd ps []:=by trivial):br CX P w K mg base k x C ps sp:=by
 cases h with|mk a i m k n F=>exact⟨_,_,⟨m,a,i,k⟩,O F,b F,Z.g n⟩
theorem mkB(Z:Zb P w K mg base)(h:BF K C x m q st)(O:∀{f:Js}{fd:Kx},Fun K m q st f fd->aK P w K mg base CX k f fd ps sp)(b:∀{f:Js}{fd:Kx},Fun K m q st f fd->Binds K fd ps []:=by trivial):cz CX P w K mg base k x m ps sp:=by
 cases h with|mk s r a n F=>exact⟨_,_,_,⟨s,r,a,F.kp⟩,O F,b F,Z.g n⟩
theorem mkR{sp:Nat->Sp}(Z:Zb P w K mg base)(h:GF K x q st)(k n:Nat)(z:∀{vs:List V}{H:Hp}{Q:VK}{E:XK},¬ sp 0 vs H Q E)(O:∀{f:Js}{fd:Kx}(n:Nat),Fun K q q st f fd->Callee P w K mg base (k+n) x ps (sp n)->aK P w K mg base CX0 (k+n+1) f fd ps (sp (n+1)))(b:∀{f:Js}{fd:Kx},Fun K q q st f fd->Binds K fd ps []:=by trivial):Callee P w K mg base (k+n) x ps (sp n):=by
 cases h with|mk a F =>
 refine⟨_,_,?_,b F,F.kp,Z.g a⟩;induction n with
 |zero=>exact aK.no λ_ _ _ _ h=>z h
 |succ n c=>exact O n F ⟨_,_,c,b F,F.kp,Z.g a⟩
theorem gv_mk{v:V}{u:Jp}(a:W.nsIn K Jx x=Mw (Mw u))(r:RelV v u):∃u,W.nsIn K Jx x=Mw (Mw u)/\RelV v u:=⟨u,a,r⟩
end
theorem Inv.turnedPair{ch:List Js}{T:Js}{x y:V}{u v:Jp}(I:Inv X MC σ H s)(h:∀b∈ch,kU X MC H b)(k:∀b o,b ∉ ch->s.heap.get? b=Mw o->h'.get? b=Mw o)
  (A:s.heap.get? T=Mx)(D:H T=Mx)(E:Mh h' T u v)(t:RelV x u)(p:RelV y v):Inv X MC σ (upd H T (.tup [x,y])) { s with heap:=h' }:=by
 have out:∀b u,H b=Mw u->b ∉ ch:=λb u e z=>by
  have f:=(h b z).1;rw[f]at e;cases e
 have j:∀{b o},s.heap.get? b=Mw o->b≠T:=λe z=>by rw[z,A]at e;cases e
 have a:∀{b u},H b=Mw u->b≠T:=λe z=>by rw[z,D]at e;cases e
 have J:=Inv.step (H':=upd H T (.tup [x,y])) (h':=h') (g':=s.gens) (d':=s.drawn) (t':=s.toks) (ch:=ch) I
  (λb g=>by obtain⟨_,i,_,K,G,F⟩:=h b g;exact⟨K,i,G,F⟩)
  (λb o _ _ d e _=>k b o d e)
  (λb o _ _ d e _=>⟨o.slots,k b o d e⟩)
  (λb o _ e n=>by rw[az (j e)];exact n)
  (λb o d e=>⟨o,k b o d e⟩)
  (λb l e=>by rw[az (a e)];exact e)
  (λb o w e=>by rw[az (a e)];exact e)
  (λb ps e=>⟨#[],by rw[az (a e),e];simp⟩)
  (λm C=>by
   obtain⟨o,es,L,B,r⟩:=C;refine⟨o,es,L,k _ o (λz=>?_) B,r⟩;obtain⟨_,i,_⟩:=h _ z;exact i U)
  (λb w e=>by
   by_cases g:b=T
   .subst g;rw[ab]at e;cases e;exact⟨by show 2<=Ju;decide,[u,v],.cons t (.cons p .nil),_,E,U,_,U⟩
   .rw[az g]at e;refine(I.hok b w e).stay (λc z d q=>k c z ?_ q) (λc q=>?_) λc l q=>?_
    .rcases d with z|z
     .rw[z];exact out b w e
     .exact out c _ z
    .rw[az (a q)];exact q
    .rw[az (a q)];exact q)
  I.bare
 exact J
theorem Inv.turnedL{ch:List Js}(I:Inv X MC σ H s)(d:∀b∈ch,kU X MC H b)(k:∀b o,b ∉ ch->s.heap.get? b=Mw o->h'.get? b=Mw o):Inv X MC σ H { s with heap:=h' }:=by
 have out:∀b u,H b=Mw u->b ∉ ch:=λb u e z=>by
  have f:=(d b z).1;rw[f]at e;cases e
 have J:=Inv.step (H':=H) (h':=h') (g':=s.gens) (d':=s.drawn) (t':=s.toks) (ch:=ch) I
  (λb l=>by obtain⟨_,g,_,v,t,p⟩:=d b l;exact⟨v,g,t,p⟩)
  (λb o _ _ a e _=>k b o a e)
  (λb o _ _ a e _=>⟨o.slots,k b o a e⟩)
  (λb o _ _ n=>n)
  (λb o a e=>⟨o,k b o a e⟩)
  (λb h e=>e) (λb o w e=>e) (λb ps e=>⟨#[],by rw[e];simp⟩)
  (λm j=>by
   obtain⟨o,es,x,i,r⟩:=j;refine⟨o,es,x,k _ o (λz=>?_) i,r⟩;obtain⟨_,g,_⟩:=d _ z;exact g U)
  (λb w e=>by
   refine(I.hok b w e).stay (λc z a q=>k c z ?_ q) (λc q=>q) λc h q=>q
   rcases a with z|z
   .rw[z];exact out b w e
   .exact out c _ z)
  I.bare
 exact J
def Itz(K:W.Frag)(a b:Js):It :=
 ⟨λi H=>∃d c x y,SqL K H a d/\SqL K H b c/\d[i]?=Mw x/\c[i]?=Mw y,
 λi H v e=>∃T,H T=Mx/\v=.ref T/\∀d c x y,SqL K H a d->SqL K H b c->d[i]?=Mw x->c[i]?=Mw y->e=upd H T (.tup [x,y]),
 λi H=>∃d c,SqL K H a d/\SqL K H b c/\(d.length<=i\/c.length<=i)⟩
def A8(z TI TO d c a b:Js)(i:Nat)(h:Jt):Prop:=IsZip h z TI TO .none/\Mh h TI (.ref d) (.ref c)/\(∃p q,Mh h TO p q)/\h.IsListIter d a i/\h.IsListIter c b i
theorem ya{P:Jr}{w:Jq}{K:W.Frag}{A:List JH} {x1} {tp:Pos}{z TI TO t r a b:Js}(D:Mi z TI TO t r a b) :
  Turn P w K (.Tuple A x1 tp) (Itz K a b) [z,TI,TO,t,r] z (A8 z TI TO t r a b) where
 mem:=by simp
 obj:=λi h f c d=>by
  obtain⟨n,g,⟨p,q,m⟩,⟨o4,l,_,d4⟩,⟨o5,j,_,d5⟩⟩:=f;simp only[dV,jY,or_false]at d;rcases d with rfl|rfl|rfl|rfl|rfl
  .exact⟨_,n,λv q=>nomatch q⟩
  .exact⟨_,g,λv q=>nomatch q⟩
  .exact⟨_,m,λv q=>nomatch q⟩
  .exact⟨_,l,λv q=>by rw[d4]at q;cases q⟩
  .exact⟨_,j,λv q=>by rw[d5]at q;cases q⟩
 keep:=λi h h' f k=>by
  obtain⟨n,g,⟨p,q,m⟩,l,j⟩:=f;exact⟨k z (by simp) _ n,k TI (by simp) _ g,⟨p,q,k TO (by simp) _ m⟩,l.at λo e=>k t (by simp) o e,j.at λo e=>k r (by simp) o e⟩
 item:=by
  intro X R N S d i MC s σ H E I F f Q;subst R N S;obtain⟨xs,ys,x,y,C,B,ex,ey⟩:=Q;obtain⟨n,g,⟨p,q,m⟩,l,j⟩:=f;obtain⟨us,L,M,_⟩:=I.list C;obtain⟨vs,G,pv,_⟩:=I.list B;obtain⟨u,eu,r1⟩:=L.get ex;obtain⟨v,ev,r2⟩:=G.get ey;refine Mj D n g m l j M.isList pv.isList (x:=u) (y:=v) (by simpa using eu) (by simpa using ev) λh1 a1 a2 a3 a4 a5 a6 a7=>?_
  refine⟨_,U,wpAny_letOwnedTupleGo_zip (s:={ s with heap:=h1 }) a1 λV b1 b2=>?_⟩;have nT:s.heap.get? s.heap.objs.size=none:=by
   cases q:s.heap.get? s.heap.objs.size with
   |none=>rfl
   |some o=>exact MG (Jt.lt_size q) (CD _)
  have hT:H s.heap.objs.size=none:=I.hok.fresh (zz _);have nz:s.heap.objs.size≠z:=AS (Jt.lt_size n);have kk:∀c o,c ∉ [z,TO,t,r]->s.heap.get? c=Mw o->V.get? c=Mw o:=λc o d e=>by
   simp only[dV,jY,or_false,not_or]at d;exact b2.extBut _ _ d.1 (a7 c o d.1 d.2.1 d.2.2.1 d.2.2.2 e)
  have J:=I.turnedPair (h':=V) (ch:=[z,TO,t,r]) (T:=s.heap.objs.size) (x:=x) (y:=y) (u:=u) (v:=v) (λc d=>F c (by simp at d⊢;rcases d with e|e|e|e <;> simp[e])) kk nT hT (b2.extBut _ _ nz a5) r1 r2;refine⟨.ref s.heap.objs.size,upd H s.heap.objs.size (.tup [x,y]),J,U,⟨_,hT,U,λb0 a9 x' y' q1 q2 Z Y=>?_⟩,⟨b1,b2.extBut _ _ D.TIz (a7 TI _ D.TIz D.TITO D.TIi1 D.TIi2 g),⟨_,_,b2.extBut _ _ D.TOz a2⟩,a3.extBut b2.extBut D.i1z,a4.extBut b2.extBut D.i2z⟩,λc d=>?_⟩
  .rw[I.list_inj q1 C]at Z;rw[I.list_inj q2 B]at Y;rw[ex]at Z;rw[ey]at Y;cases Z;cases Y;rfl
  .have h0:=(F c d).1;have:c≠s.heap.objs.size:=by
    obtain⟨o4,a8,_⟩:=l;obtain⟨o5,a0,_⟩:=j;simp only[dV,jY,or_false]at d;rcases d with rfl|rfl|rfl|rfl|rfl
    .exact nz.symm
    .exact zA (Jt.lt_size g)
    .exact zA (Jt.lt_size m)
    .exact zA (Jt.lt_size a8)
    .exact zA (Jt.lt_size a0)
   rw[az this];exact h0
 done:=by
  intro X R N S d i MC s σ H E I F f Q;subst R N S;obtain⟨xs,ys,C,B,O⟩:=Q;obtain⟨n,g,⟨p,q,m⟩,l,j⟩:=f;obtain⟨us,L,M,_⟩:=I.list C;obtain⟨vs,G,pv,_⟩:=I.list B;have l1:=L.length;have l2:=G.length;refine Ml (I.ok.hd d) D n g m l j M.isList pv.isList ?_ λV k=>⟨U,I.turnedL (ch:=[z,TO,t,r]) (λc d=>F c (by simp at d⊢;rcases d with e|e|e|e <;> simp[e])) λc o d e=>?_⟩
  .rcases O with O|O
   .exact .inl (by simp;lia)
   .exact .inr (by simp;lia)
  .simp only[dV,jY,or_false,not_or]at d;exact k c o d.1 d.2.1 d.2.2.1 d.2.2.2 e
 self:=λ_ _ _ _ _ f h=>Mm f.1 h
inductive A9(K:W.Frag)(R:It->Hp->Prop)(vs:List V)(H1:Hp):Prop
 |mk (a b:_)(_:vs=[.ref a,.ref b])(_:(∃xs,SqL K H1 a xs))(_:(∃ys,SqL K H1 b ys))(_:R (Itz K a b) H1)
def Fc(K:W.Frag)(b:TA):TI:=λσ H R=>b σ H λa c=>A9 K R a c
theorem qw{k e:JH}{l:TA}{p pos:Pos}{j:List JH} {x1} {tp:Pos}(M:Gl X "zip") (hm:X.mg "zip" = Mx) (N:PA X [k,e] l)
  (L:JK [k,e] X.env=[(MA,eval k X.env),(MA,eval e X.env)]:=by rfl)(g:JK [e] X.env=[(MA,eval e X.env)]:=by rfl) :
  PI X (.Tuple j x1 tp) (.Call (.Name "zip" p) [k,e] [] pos) (Fc X.K l):=by
 intro MC s σ H R I h;refine Call_ (fb I M hm PyProof.Rows.boot_zip (PyProof.Rows.callWith_type1 (thn (N pos MC s σ H _ I h) λB d ⟨A,Q,f,E,J⟩=>?_) (by rw[L,g]) (by rw[g];rfl)));obtain⟨a,b,rfl,⟨V,G⟩,⟨T,F⟩,q⟩:=J;obtain⟨u,v,rfl,D,C⟩:=E.two;cases (show u=Jp.ref a from D);cases (show v=Jp.ref b from C);obtain⟨B,_,m,_⟩:=f.list G;obtain⟨A,_,pv,_⟩:=f.list F;obtain⟨Y,P,_⟩:=id m.isList;obtain⟨W,O,_⟩:=id pv.isList;have o:a<d.heap.objs.size:=Jt.lt_size P;have n:b<d.heap.objs.size:=Jt.lt_size O;refine call_zip_2 m.isList pv.isList λh' z1 z y x w S t=>?_
 refine Mm (s:={ d with heap:=h' }) z1 ?_;refine⟨d.heap.objs.size+4,[d.heap.objs.size+4,d.heap.objs.size+2,d.heap.objs.size+3,d.heap.objs.size,d.heap.objs.size+1],A8 (d.heap.objs.size+4) (d.heap.objs.size+2) (d.heap.objs.size+3) d.heap.objs.size (d.heap.objs.size+1) a b,Itz X.K a b,Q,U,f.kept (t':=d.toks) t,ya ?_,⟨z1,z,⟨_,_,y⟩,x,w⟩,λc r=>?_,q⟩
 .refine⟨?_,?_,?_,?_,?_,?_,?_,?_,?_,?_,?_,?_,?_,?_,?_,?_,?_,?_⟩ <;> first|exact zA (by lia)|exact AS (by lia)|exact zA o|exact zA n|exact zA (zW o (Df _ _))|exact zA (zW n (Df _ _))
 .have i:d.heap.objs.size<=c:=by
   simp only[dV,jY,or_false]at r;rcases r with rfl|rfl|rfl|rfl|rfl <;> lia
  exact f.fpOk i (f.hok.fresh i)
theorem qy{K:W.Frag}{a b:Js}{xs ys:List V}{g:TG}{o:TS}{D:Ends}{σ:St}{H:Hp}(c:Nat->St->Hp->Prop)(z:c 0 σ H)(u:∀i σ H,c i σ H->SqL K H a xs/\SqL K H b ys)
  (t:∀i x y σ H T,xs[i]?=Mw x->ys[i]?=Mw y->c i σ H->H T=Mx->g (.ref T) σ (upd H T (.tup [x,y])) λd n=>o { D with nx:=c (i+1),ct:=c (i+1),bk:=D.nx } d n)
  (hd:∀σ H,c (min xs.length ys.length) σ H->D.nx σ H) :
  ∃W:Nat->Nat->St->Hp->Prop,(∃m,W 0 m σ H)/\∀i m σ H,W i m σ H ->
   ((Itz K a b).stop i H/\D.nx σ H)\/((Itz K a b).go i H/\∃N:St->Hp->Prop,(∀f H',N f H'->∃q,q<m/\W (i+1) q f H')/\∀x H',(Itz K a b).yld i H x H'->g x σ H' λd n=>o { D with nx:=N,ct:=N,bk:=D.nx } d n):=by
 refine⟨λi m σ H=>m=min xs.length ys.length-i/\i<=min xs.length ys.length/\c i σ H,⟨min xs.length ys.length,by simp,Az _,z⟩,?_⟩;rintro i m σ H ⟨rfl,hi,p⟩;obtain⟨j,h⟩:=u i σ H p;by_cases lt:i<min xs.length ys.length
 .have l:xs[i]?=Mw xs[i]:=IV (by lia);have k:ys[i]?=Mw ys[i]:=IV (by lia);refine .inr ⟨⟨xs,ys,_,_,j,h,l,k⟩,c (i+1),λf H' s=>⟨_,?_,U,lt,s⟩,λv H' r=>?_⟩
  .lia
  .obtain⟨T,w,rfl,e⟩:=r;rw[e xs ys _ _ j h l k];exact t i _ _ σ H T l k p w
 .have e:i=min xs.length ys.length:=by lia
  subst e;exact .inl ⟨⟨xs,ys,j,h,by lia⟩,hd σ H p⟩
theorem yb{a b:Int}{m n:Nat}(f:a.natAbs<2^m)(e:b.natAbs<2^n)(d:m<=2^20)(c:n<=2^20):Kk a b :=
 .of_bits (zQ (PyProof.Rows.intBits_le f) d) (zQ (PyProof.Rows.intBits_le e) c)
theorem oI{X:Cx}{K:W.Frag}(h:X.K=K):cF X (.type "list") (λxs H Q=>∃p ys,xs=[.ref p]/\(SqL K H p ys\/SqT K H p ys)/\∀l,H l=Mx->Q (.ref l) (upd H l (.lst ys))):=h ▸ cD
set_option maxRecDepth 100000
abbrev jE(h:Jt)(z TI TO a:Js)(b:Bool):Prop :=
 h.get? z=Mw { cls:=.type "zip",dict:=Mx,data:=.fields #[Ke a,.bool b,.bool MA,.ref TI,.ref TO],slots:=#[] }
theorem ku{a:Js}{Q:Option Obj->JB->Prop}(h:Q (s.heap.get? a) s):JF (model prog w) A (loadIfAlive a) Q E s:=λ_ _ _=>h
theorem pL{z TI TO a:Js}{b:Bool}{o:Obj}{Q:Bool->JB->Prop}(hz:jE s.heap z TI TO a b)(d:s.heap.get? a=Mw o)
  (h:∀h',jE h' z TI TO a Mz->Jt.SameBut z s.heap h'->Q MA { s with heap:=h' }):JF (model prog w) A (Kh.SmallTypes.ownedTupleIsFree (.ref z)) Q E s:=by
 unfold Kh.SmallTypes.ownedTupleIsFree;refine Jl (Mn hz U (x:=Ke a) U ?_);show JF _ _ (loadIfAlive ((a:Int).toNat) >>= _) _ _ _;refine Jl (ku ?_);rw[Jc,d];simp only[Option.isNone_some,I0,if_false];refine Jl (Mn hz U (x:=.bool b) U ?_);cases b with
 |true =>
  rw[MD (by simp)];refine Jm ?_;have e:s={ s with heap:=s.heap }:=by cases s;rfl
  rw[e];exact h s.heap hz (Jt.SameBut.refl z s.heap)
 |false =>
  rw[ME (by decide)];refine Jl (LW hz (by simp) λf g c=>?_);exact Jm (h f g c)
theorem vZ{z TI TO v i p q t:Js}{Y:Bool}{u B:Nat}{xs ys:Array Jp}{x y a b:Jp}{o:Obj}{Q:Option Jp->JB->Prop}(D:Mi z TI TO i p q t)
  (hz:jE s.heap z TI TO v Y)(I:s.heap.get? v=Mw o)(H:Mh s.heap TI (.ref i) (.ref p))(Z:Mh s.heap TO a b)
  (T:s.heap.IsListIter i q u)(S:s.heap.IsListIter p t B)(G:s.heap.IsList q xs)(C:s.heap.IsList t ys)(P:xs[u]?=Mw x)(O:ys[B]?=Mw y)
  (R:∀h',jE h' z TI TO v Mz->h'.IsListIter i q (u+1)->h'.IsListIter p t (B+1)->Mh h' s.heap.objs.size x y->h'.objs.size=s.heap.objs.size+1 ->
   (∀c o,c≠z->c≠i->c≠p->s.heap.get? c=Mw o->h'.get? c=Mw o)->Q (Mw (.ref s.heap.objs.size)) { s with heap:=h' }) :
  JF (model prog w) A (Kb (.ref z)) Q E s:=by
 have J:s.TypeIs (.ref z) "zip" := ⟨_,hz,U⟩;unfold Kb;refine Jl (LP (LQ (name:=s!"__next__") J F.slot_zip_next (LR F.slot_zip_next J F.entry_zip_next ?_ (F.args_zip_next_1 _))));show JF _ _ (field (.ref z) 2 >>= _) _ _ _;refine Jl (Mn hz U (x:=.bool MA) U ?_);show JF _ _ (field (.ref z) 3 >>= _) _ _ _;refine Jl (Mn hz U (x:=.ref TI) U ?_);refine Jl (L4 H U ?_);show JF _ _ (Kh.SmallTypes.ownedTupleIsFree (.ref z) >>= _) _ _ _;refine Jl (pL hz I λM k d=>?_);simp only[I0,if_false];refine Jl ?_;rw[←Array.forIn_toList];simp only[List.forIn_cons,List.forIn_nil];refine Jl (Jl (Jn ?_));show JF _ _ (Kh.SmallTypes.nextOf (.ref i) >>= _) _ _ _;refine Jl (Mo (T.extBut d.extBut D.i1z) (G.extBut d.extBut D.l1z) P λL n g=>Jm ?_);refine Jm ?_;dsimp only;refine Jl (Jl (Jn ?_));show JF _ _ (Kh.SmallTypes.nextOf (.ref p) >>= _) _ _ _;refine Jl (Mo ((S.extBut d.extBut D.i2z).extBut g.extBut D.i12.symm) ((C.extBut d.extBut D.l2z).extBut g.extBut D.l2i1) O λf l h=>Jm ?_);refine Jm ?_;dsimp only;refine Jm ?_;refine Jl (L8 ?_ (by show 2<=Ju;decide));have r:f.objs.size=s.heap.objs.size:=by rw[h.1,g.1,d.1]
 refine Jm ⟨_,U,Jm ?_⟩;show Q (Mw (.ref f.objs.size)) _;have j:jE f z TI TO v true:=h.extBut _ _ D.i2z.symm (g.extBut _ _ D.i1z.symm k);have m:f.IsListIter i q (u+1):=n.extBut h.extBut D.i12;have K:(f.push { cls:=.type "tuple",data:=.seq #[x,y] }).get? f.objs.size=Mw { cls:=.type "tuple",data:=.seq #[x,y] }:=Jt.get?_push_size _ U;have N:(f.push { cls:=.type "tuple",data:=.seq #[x,y] }).objs.size=s.heap.objs.size+1:=by rw[Jt.size_push,r]
 rw[r]at K⊢;exact R _ (Jt.get?_push_of_some _ j) (m.at λo e=>Jt.get?_push_of_some _ e) (l.at λo e=>Jt.get?_push_of_some _ e) K N λc o X W V e=>Jt.get?_push_of_some _ (h.extBut _ _ V (g.extBut _ _ W (d.extBut _ _ X e)))
theorem yc{z TI TO R j i r p:Js}{bb:Bool}{u t:Nat}{xs ys:Array Jp}{a b:Jp}{o:Obj}{Q:Option Jp->JB->Prop}(M:A.handled=Mx)(D:Mi z TI TO j i r p)
  (hz:jE s.heap z TI TO R bb)(J:s.heap.get? R=Mw o)(I:Mh s.heap TI (.ref j) (.ref i))(a0:Mh s.heap TO a b)
  (O:s.heap.IsListIter j r u)(h2:s.heap.IsListIter i p t)(l:s.heap.IsList r xs)(G:s.heap.IsList p ys)(W:xs[u]?=Mx\/ys[t]?=Mx)
  (Z:∀h',(∀c o,c≠z->c≠j->c≠i->s.heap.get? c=Mw o->h'.get? c=Mw o)->Q Mx { s with heap:=h' }) :
  JF (model prog w) A (Kb (.ref z)) Q E s:=by
 have N:s.TypeIs (.ref z) "zip" := ⟨_,hz,U⟩;unfold Kb;refine Jl (LP (LQ (name:=s!"__next__") N F.slot_zip_next (LR F.slot_zip_next N F.entry_zip_next ?_ (F.args_zip_next_1 _))));show JF _ _ (field (.ref z) 2 >>= _) _ _ _;refine Jl (Mn hz U (x:=.bool MA) U ?_);show JF _ _ (field (.ref z) 3 >>= _) _ _ _;refine Jl (Mn hz U (x:=.ref TI) U ?_);refine Jl (L4 I U ?_);show JF _ _ (Kh.SmallTypes.ownedTupleIsFree (.ref z) >>= _) _ _ _;refine Jl (pL hz J λV K d=>?_);simp only[I0,if_false];refine Jl ?_;rw[←Array.forIn_toList];simp only[List.forIn_cons,List.forIn_nil];refine Jl (Jl (Jn ?_));show JF _ _ (Kh.SmallTypes.nextOf (.ref j) >>= _) _ _ _
 have m:∀h' e,(∀c o,c≠z->c≠j->c≠i->s.heap.get? c=Mw o->h'.get? c=Mw o)->(∃o,h'.get? e=Mw o/\o.cls=.type "StopIteration") ->
   JF (model prog w) A (do if ←isInstance (.ref e) (.type "StopIteration")then pure Mx else throw (.ref e)) Q E { s with heap:=h' }:=λh' e k ⟨X,C,H⟩=>by
  refine Jl (L1 (T := "StopIteration") (b:=Mz) ⟨X,C,H⟩ L3 ?_);exact Jm (Z _ k)
 cases hx:xs[u]? with
 |none =>
  refine Jl (Mp M (O.extBut d.extBut D.i1z) (l.extBut d.extBut D.l1z) hx λn e f v=>?_);exact m _ _ (λc o B y P q=>f _ _ y (d.extBut _ _ B q)) v
 |some x =>
  have Y:ys[t]?=none:=by rcases W with h|h;rw[hx]at h;cases h;exact h
  refine Jl (Mo (O.extBut d.extBut D.i1z) (l.extBut d.extBut D.l1z) hx λn L f=>Jm ?_);refine Jm ?_;dsimp only;refine Jl (Jl (Jn ?_));show JF _ _ (Kh.SmallTypes.nextOf (.ref i) >>= _) _ _ _;refine Jl (Mp M ((h2.extBut d.extBut D.i2z).extBut f.extBut D.i12.symm) ((G.extBut d.extBut D.l2z).extBut f.extBut D.l2i1) Y λS e g v=>?_);exact m _ _ (λc o B y P q=>g _ _ P (f.extBut _ _ y (d.extBut _ _ B q))) v
section
variable{R:Kr->JB->Prop}
theorem neA{a T:Js}{N:Nat}(h:a<N)(h':N<=T):T≠a:=AS (zW h h')
def Ba(h:Jt)(z TI TO:Js)(N:Nat)(i:Nat):Prop:=(i=0/\IsZip h z TI TO .none)\/∃a b o,N<=a/\a≠z/\jE h z TI TO a b/\h.get? a=Mw o/\o.cls=.type "tuple"
theorem ud{z TI TO C B L K S:Js}{xs ys:Array Jp}{I:Jp}(hh:A.handled=Mx)(D:Mi z TI TO C B L K)(N:Nat)(hz:z<N)(c1:TI<N)(a8:TO<N)(X:C<N)(W:B<N)(c0:L<N)(b6:K<N)(hS:S<N)
  (m:S≠z/\S≠TI/\S≠TO/\S≠C/\S≠B/\S≠L/\S≠K)(hn:min xs.size ys.size<=Ju) :
  ∀(d i:Nat)(s:JB)(l:Array Jp)(c:Nat)(ts:List Js),min xs.size ys.size=i+d->N<=s.heap.objs.size->Ba s.heap z TI TO N i->Mh s.heap TI (.ref C) (.ref B)->(∃a b,Mh s.heap TO a b) ->
   s.heap.IsListIter C L i->s.heap.IsListIter B K i->s.heap.IsList L xs->s.heap.IsList K ys->s.heap.get? S=Mw { cls:=.type "list",dict:=Mx,data:=.seq l c,slots:=#[] } ->
   l.toList=ts.map Jp.ref->ts.length=i->ts.Nodup->(∀(j:Nat)(T:Js),ts[j]?=Mw T->N<=T/\∃x y,xs[j]?=Mw x/\ys[j]?=Mw y/\Mh s.heap T x y) ->
   (∀(h':Jt)(uc:Array Jp)(c':Nat)(n:List Js),(∀b o,b<N->b≠S->b≠z->b≠TO->b≠C->b≠B->s.heap.get? b=Mw o->h'.get? b=Mw o)->h'.get? S=Mw { cls:=.type "list",dict:=Mx,data:=.seq uc c',slots:=#[] } ->
    uc.toList=n.map Jp.ref->n.length=min xs.size ys.size->n.Nodup->(∀(j:Nat)(T:Js),n[j]?=Mw T->N<=T/\∃x y,xs[j]?=Mw x/\ys[j]?=Mw y/\Mh h' T x y)->R (.ok (.ret I)) { s with heap:=h' }) ->
   Ks (model prog w) A (.builtin "list.extend.loop" ⟨[.ref S,.ref z,I],[]⟩) R s:=by
 intro d;induction d with
 |zero =>
  intro i s l c ts e hN r Y ⟨a,b,p2⟩ t1 t2 q1 q2 g ea el nd hts v;refine Lm F.entry_extend_loop ?_;rw[JA.under_plainId F.plain_extend_loop _];show JF _ A.in1 (Kb (.ref z) >>= _) _ _ s;have tY:xs[i]?=Mx\/ys[i]?=none:=by
   by_cases hx:xs.size<=i
   .exact .inl (Array.getElem?_eq_none hx)
   .exact .inr (Array.getElem?_eq_none (by lia))
  have Q:∀h',(∀b o,b≠z->b≠TO->b≠C->b≠B->s.heap.get? b=Mw o->h'.get? b=Mw o)->R (.ok (.ret I)) { s with heap:=h' }:=λh' k=>by
   refine v h' l c ts (λb o _ _ P b2 O M q=>k b o P b2 O M q) (k S _ m.1 m.2.2.1 m.2.2.2.1 m.2.2.2.2.1 g) ea (by lia) nd λj T E=>?_
   obtain⟨h,x,y,V,H,G⟩:=hts j T E;exact⟨h,x,y,V,H,k T _ (neA hz h) (neA a8 h) (neA X h) (neA W h) G⟩
  rcases r with⟨_,r⟩|⟨T0,bb,o,J,_,r,gT,_⟩
  .exact Jl (Ml (by simp[hh]) D r Y p2 t1 t2 q1 q2 tY λh' k=>Jm (Q h' k))
  .exact Jl (yc (by simp[hh]) D r gT Y p2 t1 t2 q1 q2 tY λh' k=>Jm (Q h' λb o P _ O M q=>k b o P O M q))
 |succ d ih =>
  intro i s l c ts e hN r Y ⟨a,b,p2⟩ t1 t2 q1 q2 g ea el nd hts v;have ix:i<xs.size:=by lia
  have iy:i<ys.size:=by lia
  refine Lm F.entry_extend_loop ?_;rw[JA.under_plainId F.plain_extend_loop _];show JF _ A.in1 (Kb (.ref z) >>= _) _ _ s;have a0:l.size=i:=by rw[←Io,ea,bx,el]
  have go:∀h',Ba h' z TI TO N (i+1)->(∃a b,Mh h' TO a b)->h'.IsListIter C L (i+1)->h'.IsListIter B K (i+1)->Mh h' s.heap.objs.size xs[i] ys[i]->h'.objs.size=s.heap.objs.size+1 ->
    (∀b o,b≠z->b≠TO->b≠C->b≠B->s.heap.get? b=Mw o->h'.get? b=Mw o) ->
    JF (model prog w) A.in1 (Mc S (·.push (.ref s.heap.objs.size)) >>= λ_=>again (.builtin "list.extend.loop" ⟨[.ref S,.ref z,I],[]⟩))
     (λv s'=>match v with | .done f=>R (.ok f) s' | .again c'=>c'.quiet=Mz/\Ks (model prog w) A c' R s') (λe s'=>R (.error e) s') { s with heap:=h' }:=λh' z1 z2 z3 z4 z5 z6 k=>by
   have gS:h'.get? S=Mw { cls:=.type "list",dict:=Mx,data:=.seq l c,slots:=#[] }:=k S _ m.1 m.2.2.1 m.2.2.2.1 m.2.2.2.2.1 g;refine Jl (Md gS U ?_ (by rw[a0];lia) (by show(l.push _).size<=Ju+1;rw[Array.size_push,a0];lia));have gU:=Jt.get?_update_self (Obj.mapSeq (·.push (Jp.ref s.heap.objs.size))) gS U;generalize hH:h'.update S (Obj.mapSeq (·.push (Jp.ref s.heap.objs.size)))=h2 at gU⊢;have sb:Jt.SameBut S h' h2:=hH ▸ Jt.SameBut.update ..;have p:∀b o,b≠S->h'.get? b=Mw o->h2.get? b=Mw o:=λb o hb q=>(sb.2 b hb).trans q
   have a9:h2.objs.size=s.heap.objs.size+1:=by rw[sb.1,z6]
   refine Jm ⟨Lo F.plain_extend_loop _,ih (i+1) { s with heap:=h2 } (l.push (.ref s.heap.objs.size)) _ (ts++[s.heap.objs.size]) (by lia) (by rw[a9];lia) ?_ (p TI _ m.2.1.symm (k TI _ D.TIz D.TITO D.TIi1 D.TIi2 Y)) ?_ (z3.at λo q=>p C o m.2.2.2.1.symm q) (z4.at λo q=>p B o m.2.2.2.2.1.symm q)
    ((q1.at λo q=>k L o D.l1z D.l1TO D.l1i1 D.l1i2 q).at λo q=>p L o m.2.2.2.2.2.1.symm q) ((q2.at λo q=>k K o D.l2z D.l2TO D.l2i1 D.l2i2 q).at λo q=>p K o m.2.2.2.2.2.2.symm q) gU (by rw[Iw,ea,gI];rfl) (by simp[el]) ?_ (λj T E=>?_) λh3 uc c' n k3 g3 e3 l3 n3 f3=>?_⟩
   .rcases z1 with⟨z',_⟩|⟨T0,bb,o,h,V,H,G,Z⟩
    .exact MG z' (by lia)
    .exact .inr ⟨T0,bb,o,h,V,p z _ m.1.symm H,p T0 _ (neA hS h) G,Z⟩
   .obtain⟨a',b',q⟩:=z2;exact⟨a',b',p TO _ m.2.2.1.symm q⟩
   .rw[wj];refine⟨nd,by simp,λt ht u hu=>?_⟩;have eu:u=s.heap.objs.size:=by simpa using hu
    obtain⟨j,E⟩:=List.mem_iff_getElem?.mp ht;obtain⟨_,x,y,_,_,gp⟩:=hts j t E;have:=Jt.lt_size gp;exact λq=>CD _ (by rw[q,eu]at this;exact this)
   .rw[List.getElem?_append]at E;split at E
    .obtain⟨h,x,y,V,H,G⟩:=hts j T E;exact⟨h,x,y,V,H,p T _ (neA hS h) (k T _ (neA hz h) (neA a8 h) (neA X h) (neA W h) G)⟩
    .rename_i hlt
     have b5:j=i:=by
      obtain⟨q,_⟩:=IW.mp E;simp at q;lia
     subst b5;rw[el,E6]at E;have eT:s.heap.objs.size=T:=by simpa using E
     subst eT;exact⟨hN,xs[j],ys[j],Fg ix,Fg iy,p _ _ (neA hS hN) z5⟩
   .exact v h3 uc c' n (λb o b0 bS P b2 O M q=>k3 b o b0 bS P b2 O M (p b o bS (k b o P b2 O M q))) g3 e3 l3 n3 f3
  rcases r with⟨_,r⟩|⟨T0,bb,o,J,Dp,r,gT,cT⟩
  .refine Jl (Mj D r Y p2 t1 t2 q1 q2 (x:=xs[i]) (y:=ys[i]) (Fg ix) (Fg iy) λh' h V H G Z a6 a7=>?_);exact go h' (.inr ⟨s.heap.objs.size,MA,_,hN,AS (zW hz hN),h,Z,U⟩) ⟨_,_,V⟩ H G Z a6 a7
  .refine Jl (vZ D r gT Y p2 t1 t2 q1 q2 (x:=xs[i]) (y:=ys[i]) (Fg ix) (Fg iy) λh' h H G Z a6 a7=>?_);exact go h' (.inr ⟨T0,Mz,o,J,Dp,h,a7 T0 o Dp (neA X J) (neA W J) gT,cT⟩) ⟨_,_,a7 TO _ D.TOz D.TOi1 D.TOi2 p2⟩ H G Z a6 λb o P _ O M q=>a7 b o P O M q
end
set_option maxRecDepth 100000
theorem ue:KR (.type "zip") "__len__" = pure none:=by rw[LH,LI];kernel_rfl
theorem rN:KR (.type "zip") "__length_hint__" = pure none:=by rw[LH,LI];kernel_rfl
theorem oJ{z TI TO m l J I:Js}{xs ys:Array Jp}{Q:Jp->JB->Prop}(hh:A.handled=Mx)(D:Mi z TI TO m l J I)(H:IsZip s.heap z TI TO .none)(W:Mh s.heap TI (.ref m) (.ref l))(V:Mh s.heap TO .none .none)
  (t1:s.heap.IsListIter m J 0)(P:s.heap.IsListIter l I 0)(S:s.heap.IsList J xs)(R:s.heap.IsList I ys)(hn:min xs.size ys.size<=Ju)
  (h:∀(h':Jt)(i:Array Jp)(c:Nat)(ts:List Js),(∀b o,b≠z->b≠TO->b≠m->b≠l->s.heap.get? b=Mw o->h'.get? b=Mw o)->h'.get? s.heap.objs.size=Mw { cls:=.type "list",dict:=Mx,data:=.seq i c,slots:=#[] } ->
   i.toList=ts.map Jp.ref->ts.length=min xs.size ys.size->ts.Nodup->(∀(j:Nat)(T:Js),ts[j]?=Mw T->s.heap.objs.size+1<=T/\∃x y,xs[j]?=Mw x/\ys[j]?=Mw y/\Mh h' T x y)->Q (.ref s.heap.objs.size) { s with heap:=h' }) :
  JF (model prog w) A (call (.type "list") [.ref z]) Q E s:=by
 have M:z<s.heap.objs.size:=Jt.lt_size H;have C:TI<s.heap.objs.size:=Jt.lt_size W;have B:TO<s.heap.objs.size:=Jt.lt_size V;have v:m<s.heap.objs.size:=let ⟨_,e,_⟩:=t1;Jt.lt_size e;have u:l<s.heap.objs.size:=let ⟨_,e,_⟩:=P;Jt.lt_size e;have t:J<s.heap.objs.size:=let ⟨_,e,_⟩:=S;Jt.lt_size e;have r:I<s.heap.objs.size:=let ⟨_,e,_⟩:=R;Jt.lt_size e
 refine Mq (Q₁:=λq k=>q=.ref s.heap.objs.size/\k={ s with heap:=s.heap.push { cls:=.type "list",data:=.seq #[] } }) F.called_list (F.typeCall_list_1 _) F.entry_list_init
  (Mr _ ⟨U,U⟩) λq k G=>?_
 obtain⟨rfl,rfl⟩:=G;have L:(s.heap.push { cls:=.type "list",data:=.seq #[] }).get? s.heap.objs.size=Mw { cls:=.type "list",data:=.seq #[] }:=Jt.get?_push_size _ U;refine⟨⟨_,L,U⟩,F.args_list_init_2 _ _,?_⟩;show JF _ _ (do let O ←Kh.List.listItems (.ref s.heap.objs.size);Kh.List.listUpdate (.ref s.heap.objs.size) (λ_=>#[]);letGo O.toList.reverse;Kh.List.listExtendWith (.ref s.heap.objs.size) (.ref z) .none) _ _ _;refine Jl ?_;unfold Kh.List.listItems;refine Jl (L4 L U (Jm ?_));show JF _ _ (Mc s.heap.objs.size (λ_=>#[]) >>= λ_=>letGo (#[]:Array Jp).toList.reverse >>= λ_=>Kh.List.listExtendWith (.ref s.heap.objs.size) (.ref z) .none) _ _ _;refine Jl (Md L U ?_);have a:=Jt.get?_update_self (Obj.mapSeq (λ_=>(#[]:Array Jp))) L U;refine Jl (wpAny_letGo ?_);have K:∀b o,s.heap.get? b=Mw o->((s.heap.push { cls:=.type "list",data:=.seq #[] }).update s.heap.objs.size (Obj.mapSeq (λ_=>(#[]:Array Jp)))).get? b=Mw o:=λb o e =>
  (Jt.get?_update_other _ _ (AS (Jt.lt_size e))).trans (Jt.get?_push_of_some _ e)
 have p:((s.heap.push { cls:=.type "list",data:=.seq #[] }).update s.heap.objs.size (Obj.mapSeq (λ_=>(#[]:Array Jp)))).objs.size=s.heap.objs.size+1:=by rw[Jt.size_update,Jt.size_push]
 generalize (s.heap.push { cls:=.type "list",data:=.seq #[] }).update s.heap.objs.size (Obj.mapSeq (λ_=>(#[]:Array Jp)))=hA at a K p⊢;have N:JB.TypeIs { s with heap:=hA } (.ref z) "zip" := ⟨_,K _ _ H,U⟩;unfold Kh.List.listExtendWith;refine Jl (Ma N ?_);have h1:Kh.List.listSameRef (.ref s.heap.objs.size) (.ref z)=false:=by simp[Kh.List.listSameRef];exact AS M
 have h2:(Jp.type "zip" == Jp.type "list")=false:=by decide
 have h3:(Jp.type "zip" == Jp.type "tuple")=false:=by decide
 simp only[h1,h2,h3,Bool.or_false,I0,if_false];refine Jl (Mm (s:={ s with heap:=hA }) (K _ _ H) ?_);refine Jl (Jn ?_);unfold Kh.List.listLengthHint;refine Jl (Mb N ue ?_);show JF _ _ (specialOf (Jp.ref z) s!"__length_hint__" >>= _) _ _ _;refine Jl (Mb N rN ?_);refine Jm ?_;show JF _ _ (rule "list.extend.makes-room" >>= λ_=>Kh.List.listTouch (.ref s.heap.objs.size) >>= λ_ =>
  again (.builtin "list.extend.loop" ⟨[.ref s.heap.objs.size,.ref z,.none],[]⟩)) _ _ _
 refine Jl (LD ?_);refine Jl ?_;show JF _ _ (Mc s.heap.objs.size (·.push .none) >>= λ_=>Mc s.heap.objs.size (·.pop)) _ _ _;refine Jl (Md (s:={ s with heap:=hA }) a U ?_);have f:=Jt.get?_update_self (Obj.mapSeq (·.push Jp.none)) a U;refine Md (hz:=by seq_fits) f U ?_;have d:=Jt.get?_update_self (Obj.mapSeq (·.pop)) f U;have g:∀b o,s.heap.get? b=Mw o->((hA.update s.heap.objs.size (Obj.mapSeq (·.push Jp.none))).update s.heap.objs.size (Obj.mapSeq (·.pop))).get? b=Mw o :=
  λb o e=>(Jt.get?_update_other _ _ (AS (Jt.lt_size e))).trans ((Jt.get?_update_other _ _ (AS (Jt.lt_size e))).trans (K b o e))
 have n:((hA.update s.heap.objs.size (Obj.mapSeq (·.push Jp.none))).update s.heap.objs.size (Obj.mapSeq (·.pop))).objs.size=s.heap.objs.size+1:=by rw[Jt.size_update,Jt.size_update,p]
 generalize (hA.update s.heap.objs.size (Obj.mapSeq (·.push Jp.none))).update s.heap.objs.size (Obj.mapSeq (·.pop))=hB at d g n⊢
 refine Jm ⟨Lo F.plain_extend_loop _,ud (by simp[hh]) D (s.heap.objs.size+1) (A6 M) (A6 C) (A6 B) (A6 v) (A6 u) (A6 t) (A6 r) (BO _)
  ⟨AS M,AS C,AS B,AS v,AS u,AS t,AS r⟩ hn (min xs.size ys.size) 0 { s with heap:=hB } #[] _ [] (Nat.zero_add _).symm (by rw[n];exact zz _)
  (.inl ⟨U,g _ _ H⟩) (g _ _ W) ⟨_,_,g _ _ V⟩ (t1.at λo e=>g _ _ e) (P.at λo e=>g _ _ e) (S.at λo e=>g _ _ e) (R.at λo e=>g _ _ e) d U U xc (λj T hj=>by simp at hj) λh' i c ts Z g3 e3 Y X f3=>?_⟩
 exact⟨U,h h' i c ts (λb o b1 b2 b3 b4 e=>Z b o (A6 (Jt.lt_size e)) (zA (Jt.lt_size e)) b1 b2 b3 b4 (g b o e)) g3 e3 Y X f3⟩
set_option maxRecDepth 100000
theorem bQ:∀{l L:List Int},l.Nodup->(∀x∈l,x∈L)->l.length<=L.length
 | [],_,_,_=>Az _
 |x :: l,L,hn,hs=>by
  obtain⟨f,d⟩:=mv.mp hn;have b:=hs x fw;have c:=bQ (L:=L.erase x) d λy a=>(List.mem_erase_of_ne (λ(e:y=x)=>f (e ▸ a))).mpr (hs y (jf _ a))
  rw[List.length_erase_of_mem b]at c;have:0<L.length:=List.length_pos_of_mem b;rw[iQ];lia
theorem vd:∀{vs:List Jp},(∀v∈vs,∃u,v=.int (lr v) u)->IntsAre vs (vs.map lr)
 | [],_=>.nil
 |v :: vs,h=>by
  obtain⟨u,e⟩:=h v fw;rw[e];exact .cons _ u (vd λx a=>h x (jf _ a))
theorem pM:∀{vs:List Jp}{a:List Int},IntsAre vs a->Vals (a.map V.int) vs
 |_,_,.nil=>.nil
 |_,_,.cons n t r=>.cons ⟨t,U⟩ (pM r)
theorem iz:∀{a:List Int},a.Pairwise (· <= ·)->a.Nodup->a.Pairwise (· < ·)
 | [],_,_=>.nil
 |n :: a,h1,h2=>by
  obtain⟨f,d⟩:=xb.mp h1;obtain⟨c,b2⟩:=mv.mp h2;refine .cons (λm b=>?_) (iz d b2);have:=f m b;have:n≠m:=λe=>c (e ▸ b)
  lia
theorem uf{a:Js}{ks:List Int}{m:Nat}{Q:Jp->JB->Prop}(P:A.handled=Mx)(Y:dP s.heap a (!dS w) ks m)(hm:m<64)
  (h:∀(p:List Int)(vs:List Jp)(s':JB)(D:Js)(c:Nat),Vals (p.map V.int) vs->p.Pairwise (· < ·)->(∀k,k∈p↔k∈ks)->s.heap.objs.size<=D->(∀b u,s.heap.get? b=Mw u->s'.heap.get? b=Mw u)->s'.heap.get? D=Mw (seqObj "list" vs.toArray c)->s'.gens=s.gens->s'.os=s.os->p.length=m->Q (.ref D) s') :
  JF (model prog w) A (call (.builtin "sorted") [.ref a]) Q E s:=by
 obtain⟨o,es,ep,t,M,H,W,y,r,S,X,O,N⟩:=Y;refine Calls.call_function_entry kind_sorted plain_sorted entry_sorted (args_sorted1 _) ?_;unfold Kh.«sorted»;refine Jl (m:=checkCount "sorted" 1 1 _) (Jm ?_);refine Jl (rK (by simp[P]) M H W r S X O λord d x J R F C=>?_);have l:ord.length=m:=by rw[x.length_eq,bx,Io,N]
 have n:∀v∈ord,∃u,v=.int (lr v) u:=λv L=>by
  obtain⟨e,T,rfl⟩:=eK.mp (x.mem_iff.mp L);exact(y.ent e T).2
 have Z:=vd n;have I:(ord.map lr).Perm (es.toList.map λe=>lr e.2):=by
  have:=x.map lr;rw[List.map_map]at this;exact this
 refine Jl (wpAny_newList ?_ (by rw[Kp];lia));have f:(d.heap.push (seqObj "list" ord.toArray 0)).get? d.heap.objs.size=Mw (seqObj "list" ord.toArray 0):=Jt.get?_push_size _ U;have keep:∀b u,s.heap.get? b=Mw u->(d.heap.push (seqObj "list" ord.toArray 0)).get? b=Mw u:=λb u q=>Jt.get?_push_of_some _ (J b u q)
 show JF _ _ _ _ _ { d with heap:=d.heap.push (seqObj "list" ord.toArray 0) };refine Jl (Jn (LR slot_list_sort ⟨_,f,U⟩ entry_list_sort ?body (args_list_sort _)))
 case body =>
  refine list_sort_tree (s:={ d with heap:=d.heap.push (seqObj "list" ord.toArray 0) }) f Z (by lia) λout i a1 B a3=>⟨_,U,Jm ⟨_,U,?_⟩⟩
  have nd:i.Nodup:=B.nodup_iff.mpr (I.nodup_iff.mpr y.nd);have j:d.heap.objs.size<(d.heap.push (seqObj "list" ord.toArray 0)).objs.size:=Jt.lt_size f;obtain⟨z,G⟩:∃z,((d.heap.push (seqObj "list" ord.toArray 0)).update d.heap.objs.size (Obj.mapSeq λ_=>#[])).get? d.heap.objs.size=Mw (seqObj "list" #[] z):=⟨_,get?_update_seq f (λ_=>#[])⟩;have K:∀b,b<(d.heap.push (seqObj "list" ord.toArray 0)).objs.size->((((d.heap.push (seqObj "list" ord.toArray 0)).update d.heap.objs.size (Obj.mapSeq λ_=>#[])).push (seqObj "tuple" ord.toArray 0)).push (seqObj "list" #[] 0)).get? b=((d.heap.push (seqObj "list" ord.toArray 0)).update d.heap.objs.size (Obj.mapSeq λ_=>#[])).get? b:=λb r=>by
   rw[Jt.get?_push_ne _ _ _ (by rw[size_push',Jt.size_update];exact zA (A6 r)),Jt.get?_push_ne _ _ _ (by rw[Jt.size_update];exact zA r)]
  have e6:((((d.heap.push (seqObj "list" ord.toArray 0)).update d.heap.objs.size (Obj.mapSeq λ_=>#[])).push (seqObj "tuple" ord.toArray 0)).push (seqObj "list" #[] 0)).get? d.heap.objs.size=Mw (seqObj "list" #[] z):=by rw[K _ j];exact G
  have sz:s.heap.objs.size<=d.heap.objs.size:=BA C;refine h i out.toList { d with heap:=sortedHeap (d.heap.push (seqObj "list" ord.toArray 0)) d.heap.objs.size ord out } d.heap.objs.size _ (pM a1) (iz a3 nd) (λk=>(B.mem_iff).trans ((I.mem_iff).trans (y.mem k).symm)) sz (λb u q=>?_) (get?_update_seq e6 (λ_=>out)) R F ?_
  .have g:b<d.heap.objs.size:=Jt.lt_size (J b u q);show(Jt.update _ _ _).get? b=Mw u;rw[Jt.get?_update_ne _ _ _ _ (zA g),K _ (Nat.lt_trans g j),Jt.get?_update_ne _ _ _ _ (zA g)];exact keep b u q
  .rw[B.length_eq,bx,l]
variable{H':Hp}
theorem Inv.grow{s':JB}(I:Inv X MC σ H s)(k:∀b o,s.heap.get? b=Mw o->s'.heap.get? b=Mw o)(l:s'.gens=s.gens)(d:s'.os=s.os)(a:∀b,b<s.heap.objs.size->H' b=H b)
  (t:∀b u,s.heap.objs.size<=b->H' b=Mw u->df X.prog X.w H' s'.heap b u):Inv X MC σ H' s':=by
 obtain⟨h',g',d',t',h⟩:=s';obtain rfl:g'=s.gens:=l;obtain rfl:h=s.os:=d;have lt:∀{b u},H b=Mw u->b<s.heap.objs.size:=λ{b u} e=>by
  rcases E9 b s.heap.objs.size with z|z
  .exact z
  .rw[I.hok.fresh z]at e;cases e
 have same:∀{b u},H b=Mw u->H' b=Mw u:=λe=>by rw[a _ (lt e)];exact e
 exact I.step (h':=h') (g':=s.gens) (d':=d') (t':=t') (ch:=[]) (λ_ z=>nomatch z) (λb o _ _ _ e _=>k b o e) (λb o _ _ _ e _=>⟨o.slots,k b o e⟩)
  (λb o _ e n=>by rw[a _ (Jt.lt_size e)];exact n) (λb o _ e=>⟨o,k b o e⟩) (λb f e=>same e) (λb o u e=>same e) (λb ps e=>⟨#[],by rw[same e];simp⟩)
  (λm j=>by
   obtain⟨o,es,p,i,r⟩:=j;exact⟨o,es,p,k _ o i,r⟩)
  (λb u e=>by
   rcases E9 b s.heap.objs.size with z|z
   .rw[a _ z]at e;exact(I.hok b u e).stay (λc g _ q=>k c g q) (λc q=>same q) λc f q=>same q
   .exact t b u z e)
  I.bare
def ug(w:Jq)(a:Js)(zs:List Int):HO:=.ext λh=>∃m,dP h a (!dS w) zs m
theorem m5:∀{zs:List Int}{us:List Jp},Vals (zs.map V.int) us->∀(i:Nat)(v:Jp),us[i]?=Mw v->∃z t,zs[i]?=Mw z/\v=.int z t
 | [],_,.nil,i,v,h=>by simp at h
 |z :: zs,_,.cons ⟨t,e⟩ r,0,v,h=>by simp at h;exact⟨z,t,U,by rw[←h,e]⟩
 |z :: zs,_,.cons _ r,i+1,v,h=>by
  obtain⟨a,t,c,b⟩:=m5 r i v (by simpa using h);exact⟨a,t,by simpa using c,b⟩
theorem pN{w:Jq}(A:X.w=w)(B:X.calm=Mz):cF X (.type "set") (λxs H Q=>∃(p:Js)(zs:List Int),xs=[.ref p]/\SqL X.K H p (zs.map V.int)/\zs.length<=1000/\∀l,H l=Mx->Q (.ref l) (upd H l (ug w l zs))):=by
 subst A;intro MC s σ H xs E Q I r h;obtain⟨p,zs,rfl,C,F,q⟩:=h;obtain⟨u,rfl,j⟩:=r.one;obtain rfl:u=Jp.ref p:=j;obtain⟨D,c,n,_⟩:=I.list C;have d:=c.length;rw[bx]at d;refine vV (ks:=zs) (I.ok.hd B) n.isList (λi v e=>?_) (by simpa using d) (by unfold Lk;simp;lia) λh' f m x G z=>?_
 .exact m5 c i v (by simpa using e)
 .refine⟨.ref s.heap.objs.size,_,I.laid (a:=s.heap.objs.size) (o:=ug X.w s.heap.objs.size zs) (h':=h') (t':=f) (λb o q=>z b o (Jt.lt_size q) q) (zz _) ?_,U,q _ I.fresh⟩;refine⟨⟨m,x⟩,?_,λL J ⟨t,y⟩ k=>⟨t,y.stay k⟩⟩;obtain⟨o,_,_,_,g,_⟩:=x;exact⟨o,g⟩
theorem gh{w:Jq}(n:X.w=w)(B:X.calm=Mz):cF X (.builtin "sorted") (λus H Q=>∃(a:Js)(zs L:List Int),us=[.ref a]/\H a=Mw (ug w a zs)/\L.length<64/\(∀k∈zs,k∈L) /\
  ∀(D:Js)(d:List Int),H D=Mx->d.Pairwise (· < ·)->(∀k,k∈d↔k∈zs)->Q (.ref D) (upd H D (.lst (d.map V.int)))):=by
 subst n;intro MC s σ H us O Q I r h;obtain⟨a,zs,L,rfl,e,R,p,q⟩:=h;obtain⟨u,rfl,l⟩:=r.one;obtain rfl:u=Jp.ref a:=l;obtain⟨⟨m,x⟩,_,_⟩:=I.hok a _ e;have y:m<64:=by
  obtain⟨o,es,S,t,_,_,_,i,_,_,_,_,v⟩:=id x;have:=bQ (L:=L) i.nd λk A=>p k ((i.mem k).mpr A)
  rw[bx,Io,v]at this;lia
 refine uf (I.ok.hd B) x y λd us P D c N M K j J G F E T=>?_
 have C:H D=none:=I.hok.fresh j;refine⟨.ref D,upd H D (.lst (d.map V.int)),I.grow J F E (λb g=>by rw[az (zA (zW g j))]) (λb u g f=>?_),U,q D d C M K⟩;by_cases z:b=D
 .subst z;rw[ab]at f;cases f;exact⟨by rw[bx,Kp];lia,us,c,N,G⟩
 .rw[az z,I.hok.fresh g]at f;cases f
inductive Dq(K:W.Frag)(Q:VK)(vs:List V)(H1:Hp):Prop
 |mk (a b xs ys:_)(_:vs=[.ref a,.ref b])(_:SqL K H1 a xs)(_:SqL K H1 b ys)(_:∀(D:Js)(ts:List Js)(H2:Hp),ts.length=min xs.length ys.length->(∀c o,H1 c=Mw o->H2 c=Mw o)->H1 D=Mx->H2 D=Mw (.lst (ts.map V.ref)) ->
  (∀(j:Nat)(x y:V),xs[j]?=Mw x->ys[j]?=Mw y->∃T,ts[j]?=Mw T/\H1 T=Mx/\H2 T=Mw (.tup [x,y]))->Q (.ref D) H2):Dq K Q vs H1
def tLZ(K:W.Frag)(b:TA):TE:=λσ H Q=>b σ H λa c=>Dq K Q a c
theorem ltA{c n:Nat}(h:c<n)(k:Nat):c≠n+k:=zA (zW h (Df _ _))
def iA(xs ys:List V)(ts:List Js)(b:Js):Option HO :=
 match ts.idxOf? b with
 |some j=>match xs[j]?,ys[j]? with
  |some x,Mw y=>Mw (.tup [x,y])
  |_,_=>Mx
 |none=>Mx
theorem uh{J C:JH}{ta:TA}{p1 p2 yd Z:Pos}(a6:X.calm=Mz)(hg:Gl X "list") (hm:X.mg "list" = Mx) (a5:Gl X "zip") (a4:X.mg "zip" = Mx) (ha:PA X [J,C] ta)
  (hs:JK [J,C] X.env=[(MA,eval J X.env),(MA,eval C X.env)]:=by rfl)(M:JK [C] X.env=[(MA,eval C X.env)]:=by rfl) :
  PE X (.Call (.Name "list" p1) [.Call (.Name "zip" p2) [J,C] [] Z] [] yd) (tLZ X.K ta):=by
 intro MC s σ H Q I h;refine Jo (fb I hg hm PyProof.Rows.boot_list ?_);refine PyProof.Rows.callWith_type1 ?_ U U;show JF _ _ (spliced ((MA,eval (.Call (.Name "zip" p2) [J,C] [] Z) X.env) :: JJ yd (JK [] X.env))) _ _ s;refine Calls.spliced_cons ?_;refine Jo (fb I a5 a4 PyProof.Rows.boot_zip ?_);refine PyProof.Rows.callWith_type1 (thn (ha Z MC s σ H _ I h) λus f ⟨vs,S,B,r1,q1⟩=>?_) (by rw[hs,M]) (by rw[M];rfl);obtain⟨a,b,p,n,rfl,qa,qb,q⟩:=q1;obtain⟨u,v,rfl,ru,rv⟩:=r1.two;cases (show u=Jp.ref a from ru);cases (show v=Jp.ref b from rv);obtain⟨us,vu,pu,zu⟩:=B.list qa;obtain⟨vs,vv,pv,zv⟩:=B.list qb;obtain⟨oa,ea,_⟩:=id pu.isList;obtain⟨ob,eb,_⟩:=id pv.isList;have la:a<f.heap.objs.size:=Jt.lt_size ea;have lb:b<f.heap.objs.size:=Jt.lt_size eb;have l1:=vu.length;have l2:=vv.length;refine call_zip_2 pu.isList pv.isList λh' z1 z2 z3 z4 z5 z6 Y=>?_
 refine Calls.spliced_nil ?_;have D:Mi (f.heap.objs.size+4) (f.heap.objs.size+2) (f.heap.objs.size+3) f.heap.objs.size (f.heap.objs.size+1) a b:=by
  refine⟨?_,?_,?_,?_,?_,?_,?_,?_,?_,?_,?_,?_,?_,?_,?_,?_,?_,?_⟩ <;> first|exact zA (by lia)|exact AS (by lia)|exact zA la|exact zA lb|exact zA (zW la (Df _ _))|exact zA (zW lb (Df _ _))
 refine oJ (s:={ f with heap:=h' }) (B.ok.hd a6) D z1 z2 z3 z4 z5 (pu.isList.at λo e=>Y _ _ e) (pv.isList.at λo e=>Y _ _ e) (by simp;lia) λh2 b0 c d k3 g3 e3 n3 nd R=>?_
 have a3:JB.heap { f with heap:=h' }=h':=rfl;rw[a3]at g3 R k3;rw[z6]at g3 R;have kp:∀c o,f.heap.get? c=Mw o->h2.get? c=Mw o:=λc o e=>by
  have:=Jt.lt_size e;exact k3 c o (ltA this _) (ltA this _) (zA this) (ltA this _) (Y c o e)
 have N:d.length=min p.length n.length:=by rw[n3];simp;lia
 have F:∀(j:Nat)(T:Js),d[j]?=Mw T->d.idxOf? T=Mw j:=λj T w=>by
  obtain⟨G,ej⟩:=IW.mp w;rw[List.idxOf?,List.findIdx?_eq_some_iff_getElem];refine⟨G,by simp[ej],λi hi=>?_⟩;have:d[i]≠d[j]:=λq=>by
   have:=(yl nd).mp q;lia
  simpa[←ej]using this
 have L:∀(T:Js)(j:Nat),d.idxOf? T=Mw j->d[j]?=Mw T:=λT j w=>by
  rw[List.idxOf?,List.findIdx?_eq_some_iff_getElem]at w;obtain⟨G,e,_⟩:=w;rw[IV G];simpa using e
 have E:∀(T:Js)(j:Nat),d.idxOf? T=Mw j->f.heap.objs.size+6<=T:=λT j w=>by
  obtain⟨a1,_⟩:=R j T (L T j w);lia
 show EP X MC σ Q _ _;rw[show(JB.heap { f with heap:=h' }).objs.size=f.heap.objs.size+5 from z6];generalize m:(λ(b:Js)=>if b=f.heap.objs.size+5 then Mw (HO.lst (d.map V.ref))else match iA p n d b with|some o=>Mw o|none=>S b)=H2;have hD:H2 (f.heap.objs.size+5)=Mw (.lst (d.map V.ref)):=by rw[←m];exact ME U
 have hO:∀c,c<f.heap.objs.size->H2 c=S c:=λc hc=>by
  rw[←m];show(if c=f.heap.objs.size+5 then _ else _)=_;rw[MD (ltA hc 5)];have:iA p n d c=none:=by
   unfold iA;cases e:d.idxOf? c with
   |none=>rfl
   |some j=>exact MG (zW hc (zQ (Df _ 6) (E c j e))) (CD _)
  rw[this]
 have hT:∀(j:Nat)(x y:V)(T:Js),p[j]?=Mw x->n[j]?=Mw y->d[j]?=Mw T->H2 T=Mw (.tup [x,y]):=λj x y T l A g=>by
  have:=E T j (F j T g);rw[←m];show(if T=f.heap.objs.size+5 then _ else _)=_;rw[MD (AS (zW (BO _) this))];have:iA p n d T=Mw (.tup [x,y]):=by unfold iA;rw[F j T g];dsimp only;rw[l,A]
  rw[this]
 refine⟨.ref (f.heap.objs.size+5),H2,B.grow (s':={ f with heap:=h2 }) kp U U hO (λb u hb k=>?_),U,q _ d H2 N (λc o e=>?_) (B.hok.fresh (Df _ _)) hD λj x y l A=>?_⟩
 .rw[←m]at k;replace k:(if b=f.heap.objs.size+5 then Mw (HO.lst (d.map V.ref))else match iA p n d b with|some o=>Mw o|none=>S b)=Mw u:=k
  by_cases W:b=f.heap.objs.size+5
  .rw[ME W]at k;cases k;subst W;have rv:∀d:List Js,Vals (d.map V.ref) (d.map Jp.ref):=λd=>by
    induction d with
    |nil=>exact .nil
    |cons t r ih=>exact .cons U ih
   refine⟨by rw[bx,N];lia,d.map Jp.ref,c,rv d,?_⟩;rw[←e3];exact g3
  .rw[MD W]at k;cases g:iA p n d b with
   |none=>rw[g]at k;replace k:S b=Mw u:=k;rw[B.hok.fresh hb]at k;cases k
   |some o =>
    rw[g]at k;cases k;unfold iA at g;cases ei:d.idxOf? b with
    |none=>rw[ei]at g;cases g
    |some j =>
     rw[ei]at g;dsimp only at g;cases l:p[j]? with
     |none=>rw[l]at g;cases g
     |some x =>
      cases A:n[j]? with
      |none=>rw[l,A]at g;cases g
      |some y =>
       rw[l,A]at g;cases g;obtain⟨_,x',y',fx,fy,gp⟩:=R j b (L b j ei);obtain⟨u1,a8,a2⟩:=vu.get l;obtain⟨v1,a7,a0⟩:=vv.get A;have P:us[j]?=Mw x':=by simpa using fx
       have O:vs[j]?=Mw y':=by simpa using fy
       rw[a8]at P;rw[a7]at O;cases P;cases O;exact⟨by show 2<=Ju;decide,[x',y'],.cons a2 (.cons a0 .nil),_,gp,U,_,U⟩
 .have:c<f.heap.objs.size:=by
   rcases E9 c f.heap.objs.size with z|z
   .exact z
   .rw[B.hok.fresh z]at e;cases e
  rw[hO c this];exact e
 .have w:j<d.length:=by
   obtain⟨h1,_⟩:=IW.mp l;obtain⟨a9,_⟩:=IW.mp A;lia
  have g:d[j]?=Mw d[j]:=IV w;exact⟨d[j],g,B.hok.fresh (zQ (Df _ 6) (E _ j (F j _ g))),hT j x y _ l A g⟩
def Ite(K:W.Frag)(a:Js):It :=
 ⟨λi H=>∃b x,SqL K H a b/\b[i]?=Mw x,
 λi H v H'=>∃T,H T=Mx/\v=.ref T/\∀b x,SqL K H a b->b[i]?=Mw x->H'=upd H T (.tup [.int i,x]),
 λi H=>∃b,SqL K H a b/\b.length<=i⟩
def ye(e it a:Js)(i:Nat)(h:Jt):Prop:=(∃b,IsEnum h e it i b)/\h.IsListIter it a i
theorem v7{P:Jr}{w:Jq}{K:W.Frag}{n:List JH} {x1} {tp:Pos}{e it a:Js}(m:e≠it) :
  Turn P w K (.Tuple n x1 tp) (Ite K a) [e,it] e (ye e it a) where
 mem:=by simp
 obj:=λi h d c b=>by
  obtain⟨⟨f,l⟩,⟨Y,j,_,d2⟩⟩:=d;simp only[dV,jY,or_false]at b;rcases b with rfl|rfl
  .exact⟨_,l,λv q=>nomatch q⟩
  .exact⟨_,j,λv q=>by rw[d2]at q;cases q⟩
 keep:=λi h h' d k=>by
  obtain⟨⟨f,l⟩,j⟩:=d;exact⟨⟨f,k e (by simp) _ l⟩,j.at λo q=>k it (by simp) o q⟩
 item:=by
  intro X C A D b i MC s σ H E I r d B;subst C A D;obtain⟨Q,x,p,N⟩:=B;obtain⟨⟨f,l⟩,j⟩:=d;obtain⟨R,t,z,_⟩:=I.list p;obtain⟨u,eu,S⟩:=t.get N;refine wpAny_pyNext_enum_item l j z.isList (x:=u) (by simpa using eu) m λh1 a1 a2 a3 a4 a5=>?_
  refine⟨_,U,wpAny_letOwnedTupleGo_enum (s:={ s with heap:=h1,toks:=s.toks+1 }) a1 λF b1 b2=>?_⟩;have Z:s.heap.get? s.heap.objs.size=none:=by
   cases q:s.heap.get? s.heap.objs.size with
   |none=>rfl
   |some o=>exact MG (Jt.lt_size q) (CD _)
  have M:H s.heap.objs.size=none:=I.hok.fresh (zz _);have L:s.heap.objs.size≠e:=AS (Jt.lt_size l);have kk:∀c o,c ∉ [e,it]->s.heap.get? c=Mw o->F.get? c=Mw o:=λc o b q=>by
   simp only[dV,jY,or_false,not_or]at b;exact b2.extBut _ _ b.1 (a5 c o b.1 b.2 q)
  have J:=I.turnedPair (h':=F) (ch:=[e,it]) (T:=s.heap.objs.size) (x:=.int i) (y:=x) (u:=.int i s.toks) (v:=u) (λc b=>r c (by simp at b⊢;rcases b with q|q <;> simp[q])) kk Z M (b2.extBut _ _ L a3) ⟨_,U⟩ S;refine⟨.ref s.heap.objs.size,upd H s.heap.objs.size (.tup [.int i,x]),J.tok _,U,⟨_,M,U,λa0 x' V O=>?_⟩,⟨⟨_,b1⟩,a2.extBut b2.extBut m.symm⟩,λc b=>?_⟩
  .rw[I.list_inj V p,N]at O;cases O;rfl
  .have h0:=(r c b).1;have:c≠s.heap.objs.size:=by
    obtain⟨Y,G,_⟩:=j;simp only[dV,jY,or_false]at b;rcases b with rfl|rfl
    .exact L.symm
    .exact zA (Jt.lt_size G)
   rw[az this];exact h0
 done:=by
  intro X C A D b i MC s σ H E I r d B;subst C A D;obtain⟨Q,p,hl⟩:=B;obtain⟨⟨f,l⟩,j⟩:=d;obtain⟨R,t,z,_⟩:=I.list p;have l1:=t.length;refine wpAny_pyNext_enum_end (I.ok.hd b) l j z.isList (by simp;lia) λF k=>⟨U,I.turnedL (ch:=[e,it]) (λc b=>r c (by simp at b⊢;rcases b with q|q <;> simp[q])) λc o b q=>?_⟩
  simp only[dV,jY,or_false,not_or]at b;exact k c o b.2 q
 self:=λ_ _ _ _ _ d h=>let ⟨⟨_,g⟩,_⟩:=d;Ms g h
inductive yf(K:W.Frag)(R:It->Hp->Prop)(vs:List V)(H1:Hp):Prop
 |mk (a:_)(_:vs=[.ref a])(_:(∃xs,SqL K H1 a xs))(_:R (Ite K a) H1)
def Dr(K:W.Frag)(b:TA):TI:=λσ H R=>b σ H λa c=>yf K R a c
theorem zZ{f:JH}{i:TA}{p pos:Pos}{e:List JH} {x1} {tp:Pos}(x:Gl X "enumerate") (hm:X.mg "enumerate" = Mx) (y:PA X [f] i)
  (w:JK [f] X.env=[(MA,eval f X.env)]:=by rfl) :
  PI X (.Tuple e x1 tp) (.Call (.Name "enumerate" p) [f] [] pos) (Dr X.K i):=by
 intro MC s σ H R I h;refine Call_ (fb I x hm PyProof.Rows.boot_enumerate (PyProof.Rows.callWith_type1 (thn (y pos MC s σ H _ I h) λm b ⟨C,z,g,o,t⟩=>?_) (by rw[w];rfl) U));obtain⟨a,rfl,⟨B,r⟩,q⟩:=t;obtain⟨u,rfl,n⟩:=o.one;cases (show u=Jp.ref a from n);obtain⟨m,_,v,_⟩:=g.list r;refine call_enumerate_list v.isList λh' z1 l A k=>?_
 refine Ms (s:={ b with heap:=h' }) z1 ?_;refine⟨b.heap.objs.size+1,[b.heap.objs.size+1,b.heap.objs.size],ye (b.heap.objs.size+1) b.heap.objs.size a,Ite X.K a,z,U,g.kept (t':=b.toks) k,v7 (AS (BO _)),⟨⟨_,z1⟩,l⟩,λc j=>?_,q⟩;have d:b.heap.objs.size<=c:=by
  simp only[dV,jY,or_false]at j;rcases j with rfl|rfl
  .exact B5 _
  .exact zz _
 exact g.fpOk d (g.hok.fresh d)
variable{gt:TG}{fr:List Nat}{tt:TT}{te:TE}
theorem uj{K:W.Frag}{a:Js}{xs:List V}{σ:St}{f:Hp}{Q:VK}(c:Js->Nat->List V->Hp->Prop)(t:∀D,f D=Mx->c D 0 [] (upd f D (.lst [])))
  (r:∀D i ys H,f D=Mx->i<=xs.length->c D i ys H->SqL K H a xs)
  (o:∀D i x ys H T,f D=Mx->xs[i]?=Mw x->c D i ys H->H T=Mx->∀ts:St,ts.length=k->gt (.ref T) (dh σ fr ts) (upd H T (.tup [.int i,x])) λd u=>(∃g:St,g.length=k/\d=dh σ fr g)/\tt d u λb n=>if b=Mz then te d n (cH c D i xs.length)else d9 c D i xs.length n)
  (hd:∀D ys H,f D=Mx->c D xs.length ys H->Q (.ref D) H):i6 (Ite K a) gt k fr tt te σ Q f:=by
 intro D h;refine⟨λi m H=>m=xs.length-i/\i<=xs.length/\∃ys,c D i ys H,⟨_,U,Az _,[],t D h⟩,?_⟩;rintro i m H ⟨rfl,hi,ys,p⟩;have q:=r D i ys H h hi p;by_cases l:i<xs.length
 .have j:xs[i]?=Mw xs[i]:=IV l;refine .inr ⟨⟨xs,xs[i],q,j⟩,λx H' y=>?_⟩;obtain⟨T,s,rfl,e⟩:=y;rw[e xs _ q j];exact o D i _ ys _ T h j p s
 .have e:i=xs.length:=by lia
  subst e;exact .inl ⟨⟨xs,q,zz _⟩,hd D ys H h p⟩
theorem v9{K:W.Frag}{a b:Js}{xs ys:List V}{σ:St}{f:Hp}{Q:VK}(c:Js->Nat->List V->Hp->Prop)(u:∀D,f D=Mx->c D 0 [] (upd f D (.lst [])))
  (s:∀D i zs H,f D=Mx->i<=min xs.length ys.length->c D i zs H->SqL K H a xs/\SqL K H b ys)
  (r:∀D i x y zs H T,f D=Mx->xs[i]?=Mw x->ys[i]?=Mw y->c D i zs H->H T=Mx->∀ts:St,ts.length=k->gt (.ref T) (dh σ fr ts) (upd H T (.tup [x,y])) λd v=>(∃g:St,g.length=k/\d=dh σ fr g)/\tt d v λb q=>if b=Mz then te d q (cH c D i (min xs.length ys.length))else d9 c D i (min xs.length ys.length) q)
  (hd:∀D zs H,f D=Mx->c D (min xs.length ys.length) zs H->Q (.ref D) H):i6 (Itz K a b) gt k fr tt te σ Q f:=by
 intro D h;refine⟨λi m H=>m=min xs.length ys.length-i/\i<=min xs.length ys.length/\∃zs,c D i zs H,⟨_,U,Az _,[],u D h⟩,?_⟩;rintro i m H ⟨rfl,hi,zs,p⟩;obtain⟨l,j⟩:=s D i zs H h hi p;by_cases w:i<min xs.length ys.length
 .have o:xs[i]?=Mw xs[i]:=IV (by lia);have n:ys[i]?=Mw ys[i]:=IV (by lia);refine .inr ⟨⟨xs,ys,xs[i],ys[i],l,j,o,n⟩,λx H' y=>?_⟩;obtain⟨T,t,rfl,e⟩:=y;rw[e xs ys _ _ l j o n];exact r D i _ _ zs _ T h o n p t
 .have e:i=min xs.length ys.length:=by lia
  subst e;exact .inl ⟨⟨xs,ys,l,j,by lia⟩,hd D zs H h p⟩
theorem fI{X:Cx}{N:List Str}{k:Nat}{fr:List Nat}{scope:JC}{cl:List (Str×Js)}(clos:K6 scope X.env=pure cl)(kind:scope.kind=.function)(a:∀y∈scope.names,y.2≠.cell)
  (names:∀y∈scope.names,y.2=.local->scope.names.lookup y.1=Mw .local)(b:N.length=k+fr.length)
  (sub:((List.range fr.length).all λi=>match N[k+i]?,fr[i]? with|some y,Mw j=>(X.N[j]? == Mw y) && ((X.env.kindOf y == Mw .cell) && ((relabel scope X.env).names.lookup y == Mw .cell))|_,_=>MA)=Mz)
  (cells:∀p∈cl,X.env.cells.lookup p.1=Mw p.2)(d:((relabel scope X.env).names.all λp=>(p.2 != .cell && p.2 != .free) || (cl.lookup p.1).isSome)=Mz):mP X N k fr scope cl:=by
 refine⟨clos,kind,a,names,b,λi y e=>?_,λy c e=>cells _ (mem_of_lookup e),λy h=>?_⟩
 .have hi:i<fr.length:=by have:=(IW.mp e).1;lia
  have z:=jO.mp sub i (jN.mpr hi);rw[e,IV hi]at z;simp only[IZ,beq_iff_eq]at z;exact⟨_,IV hi,z.1,.inl z.2.1,.inl z.2.2⟩
 .have look:∀k,(relabel scope X.env).names.lookup y=Mw k->(k=.cell\/k=.free)->∃c,cl.lookup y=Mw c:=λk e f=>by
   have z:=jO.mp d _ (mem_of_lookup e);rcases f with rfl|rfl
   .exact Jj.mp (by simpa using z)
   .exact Jj.mp (by simpa using z)
  rcases h with h|h
  .exact look _ h (.inl U)
  .exact look _ h (.inr U)
theorem wa{K:W.Frag}(f:X.K=K){a:JH}{c:TE}(e:PE X a c)(d:∀b,JI a X.env b=(do let v ←b;JQ a.pos;holding [v] (truthy v)):=by intro _;rfl) :
  PT X a (λσ H Q=>c σ H λx H'=>∃k,BD K x H' k/\Q k H'):=f ▸ dH e d
section
variable{elt iter tg:JH}{ifs:List JH}{cl:List (Str×Js)}
theorem yg{B:TI}{i:Nat}{y:Str}{c x:Pos}(hN:X.N.Nodup)(E:X.N[i]?=Mw y)(R:Loc X.env.scope y)(hi:PI X tg iter B)(O:mP X N k fr scope cl)(Y:X.calm=Mz)(S:∀d C s H,PG (bE X N scope cl d C s H) tg gt)
  (F:∀d C s H,PIf (bE X N scope cl d C s H) ifs tt)(W:∀d C s H,PE (bE X N scope cl d C s H) elt te)(G:∀v,Ki iter X.env v=pure v:=by intro _;rfl)
  (n:JU (.ListComp elt [⟨tg,iter,ifs,0⟩] scope pos) (Mw (.Name y c)) x.line X.env=pure true:=by rfl)(V:X.fn y=Mz\/X.env.scope.names.lookup y=Mw .local:=by first|exact .inl U|exact .inr U|assumption) :
  PS X (.Assign [.Name y c] (.ListComp elt [⟨tg,iter,ifs,0⟩] scope pos) x) (zE (xP B gt k fr tt te) (o9 i)):=by
 intro MC s σ H j I h;rw[Lg _ _ _ _ n];refine Jl (JY (Jl ?_));show JF _ X.A (do let _ ←comprehension (.ListComp elt [⟨tg,iter,ifs,0⟩] scope pos) scope X.env _ (K8 []) MA (eval iter X.env) (Mw (assign (.Name y c) X.env))) _ _ s;refine Jl (JM (Le (use:=Mw (assign (.Name y c) X.env)) (Q:=λ_ b=>SP X MC j .next b) U G O.clos O.kind O.names (thn (hi MC s σ H _ I h) λv s1 h1=>thn h1 λa0 s2 h2=>?_)) (λ_ b K=>Jm (Jm K)) λ_ _ z=>z);obtain⟨it,d,tn,J,H2,e,f,T,l,f2,hW⟩:=h2;subst e;refine mQ (Q:=λv H1=>o9 i v σ H1 j.nx) (RR:=λu C=>Lf (model X.prog X.w) X.A X.xe (Mw (assign (.Name y c) X.env)) (λ_ b=>SP X MC j .next b) u C) O Y f T l f2 F W S hW λD C b H' g M ⟨m,P⟩ I' q=>?_
 show JF _ X.A (assign (.Name y c) X.env (.ref D)) _ _ b;refine JX (kR I' hN E R (v:=.ref D) U (λs3 I3 ⟨a,p,Z⟩=>?_) V);have t:C≠a:=by
  rcases Z with z|z
  .rw[z];exact AS (zW f.lt g)
  .obtain⟨v,o,L,_⟩:=f.cell y a z;exact AS (zW (Jt.lt_size L) g)
 exact⟨m,P.sameBut p t,λh' r=>⟨_,H',f.left I3 g M r,q⟩⟩
end
set_option maxRecDepth 100000
theorem B3:PIp X .Mult (λx y H Q=>∃i j,x=.int i/\y=.int j/\Kk i j/\Q (.int (i*j)) H):=by
 intro MC s σ H x y v u Q I b a h;obtain⟨i,j,e,d,c,q⟩:=h;subst e;subst d;obtain⟨t,rfl⟩:=b;obtain⟨f,rfl⟩:=a;exact PyProof.Rows.imul_int ⟨.int _,H,I.tok _,⟨_,U⟩,q⟩ c
set_option maxRecDepth 100000
theorem wc:KR (.type "list_reverseiterator") "__len__" = pure none:=by rw[LH,LI];kernel_rfl
theorem yh:KR (.type "list_reverseiterator") "__length_hint__" = pure (Mw (.builtin "list_reverseiterator.__length_hint__")):=by rw[LH,LI];kernel_rfl
theorem oK{l I:Js}{items:Array Jp}{Q:Jp->JB->Prop}(S:A.handled=Mx)(B:l≠I)(h:s.heap.IsRevIter I l ((items.size:Int)-1))(K:s.heap.IsList l items)(R:items.size<=Ju)
  (V:∀(h':Jt)(G:Nat)(m:Array Jp)(c:Nat),s.toks<=G->(∀b o,b≠I->s.heap.get? b=Mw o->h'.get? b=Mw o)->h'.get? s.heap.objs.size=Mw { cls:=.type "list",dict:=Mx,data:=.seq m c,slots:=#[] } ->
   m.size=items.size->(∀(j:Nat) v,m[j]?=Mw v->items[items.size-1-j]?=Mw v)->∀d,d=s.drawn->Q (.ref s.heap.objs.size) { s with heap:=h',toks:=G,drawn:=d }) :
  JF (model prog w) A (call (.type "list") [.ref I]) Q E s:=by
 have W:=(Kf.listRev (prog:=prog) (w:=w) (A:=A.in1.in1) (by simp[S]) I l B items).toS;have H:I<s.heap.objs.size:=let ⟨_,e,_⟩:=h;Jt.lt_size e;have P:l<s.heap.objs.size:=let ⟨_,e,_⟩:=K;Jt.lt_size e;have C:s.heap.objs.size ∉ [I,l]:=λf=>by
  rcases dV.mp f with e|f
  .exact CD _ (e ▸ H)
  .exact CD _ ((iv.mp f) ▸ P)
 refine Mq (Q₁:=λp g=>p=.ref s.heap.objs.size/\g={ s with heap:=s.heap.push { cls:=.type "list",data:=.seq #[] } }) F.called_list (F.typeCall_list_1 _) F.entry_list_init
  (Mr _ ⟨U,U⟩) λp g t=>?_
 obtain⟨rfl,rfl⟩:=t;have x:(s.heap.push { cls:=.type "list",data:=.seq #[] }).get? s.heap.objs.size=Mw { cls:=.type "list",data:=.seq #[] }:=Jt.get?_push_size _ U;refine⟨⟨_,x,U⟩,F.args_list_init_2 _ _,?_⟩;show JF _ _ (do let z ←Kh.List.listItems (.ref s.heap.objs.size);Kh.List.listUpdate (.ref s.heap.objs.size) (λ_=>#[]);letGo z.toList.reverse;Kh.List.listExtendWith (.ref s.heap.objs.size) (.ref I) .none) _ _ _;refine Jl ?_;unfold Kh.List.listItems;refine Jl (L4 x U (Jm ?_));show JF _ _ (Mc s.heap.objs.size (λ_=>#[]) >>= λ_=>letGo (#[]:Array Jp).toList.reverse >>= λ_=>Kh.List.listExtendWith (.ref s.heap.objs.size) (.ref I) .none) _ _ _;refine Jl (Md x U ?_);have a:=Jt.get?_update_self (Obj.mapSeq (λ_=>(#[]:Array Jp))) x U;refine Jl (wpAny_letGo ?_);have n:∀b o,s.heap.get? b=Mw o->((s.heap.push { cls:=.type "list",data:=.seq #[] }).update s.heap.objs.size (Obj.mapSeq (λ_=>(#[]:Array Jp)))).get? b=Mw o:=λb o e =>
  (Jt.get?_update_other _ _ (AS (Jt.lt_size e))).trans (Jt.get?_push_of_some _ e)
 generalize (s.heap.push { cls:=.type "list",data:=.seq #[] }).update s.heap.objs.size (Obj.mapSeq (λ_=>(#[]:Array Jp)))=hA at a n⊢;have u:JB.TypeIs { s with heap:=hA } (.ref I) "list_reverseiterator" := (h.at λo e=>n _ o e:Jt.IsRevIter hA I l _).typeIs;have r:(λ(i:Nat)(s:JB)=>i<=items.size/\s.heap.IsRevIter I l ((items.size:Int)-1-(i:Int))/\s.heap.IsList l items) 0 { s with heap:=hA } :=
  ⟨Az _,by rw[show(items.size:Int)-1-((0:Nat):Int)=(items.size:Int)-1 by lia];exact h.at λo e=>n _ o e,K.at λo e=>n _ o e⟩
 unfold Kh.List.listExtendWith;refine Jl (Ma u ?_);have X:Kh.List.listSameRef (.ref s.heap.objs.size) (.ref I)=false:=by simp[Kh.List.listSameRef];exact AS H
 rw[MD (by rw[X];decide)];refine Jl (W.self 0 _ _ _ r ?_);refine Jl (Jn ?_);unfold Kh.List.listLengthHint;refine Jl (Mb u wc ?_);show JF _ _ (specialOf (Jp.ref I) s!"__length_hint__" >>= _) _ _ _;refine Jl (Mb u yh ?_)
 (generalize k:("list_reverseiterator.__length_hint__" : String)=id0;(fail_if_success (clear k id0));wp_delta;rw[show splitId id0=Mw ("list_reverseiterator","__length_hint__")from by subst k;decide+kernel];subst k)
 refine Jl (L1 (b:=Mz) u (by rw[LJ];kernel_rfl) ?_);refine Jm ?_;rw[MD (by decide)];refine Jm ⟨Lo F.plain_extend_loop _,Me W R _ C _ items.size 0 _ _ _ (by lia) (Az _) r a (ItemsOf.nil _) λN L c' f D J=>?_⟩;refine⟨U,?_⟩;obtain⟨h',Y,Z,M,O⟩:=N;obtain rfl:Y=s.gens:=f.gens;obtain rfl:O=s.os:=f.os;exact V h' M L c' f.toks (λb o T e=>f.heap b o (λy=>by
  rcases dV.mp y with q|y
  .exact zA (Jt.lt_size e) q
  .exact T (iv.mp y)) (n b o e)) D J.1 J.2 Z f.drawn
inductive Ds(K:W.Frag)(Q:VK)(vs:List V)(H1:Hp):Prop
 |mk (a xs:_)(_:vs=[.ref a])(_:SqL K H1 a xs)(_:∀p,H1 p=Mx->Q (.ref p) (upd H1 p (.lst xs.reverse)))
def tLR(K:W.Frag)(b:TA):TE:=λσ H Q=>b σ H λa c=>Ds K Q a c
theorem uk{k:JH}{B:TA}{O C z p:Pos}(x:X.calm=Mz)(W:Gl X "list") (hm:X.mg "list" = Mx) (w:Gl X "reversed") (v:X.mg "reversed" = Mx) (Y:PA X [k] B)
  (V:JK [k] X.env=[(MA,eval k X.env)]:=by rfl) :
  PE X (.Call (.Name "list" O) [.Call (.Name "reversed" C) [k] [] p] [] z) (tLR X.K B):=by
 intro MC s σ H Q I h;refine Jo (fb I W hm PyProof.Rows.boot_list ?_);refine PyProof.Rows.callWith_type1 ?_ U U;show JF _ _ (spliced ((MA,eval (.Call (.Name "reversed" C) [k] [] p) X.env) :: JJ z (JK [] X.env))) _ _ s;refine Calls.spliced_cons ?_;refine Jo (fb I w v PyProof.Rows.boot_reversed ?_);refine PyProof.Rows.callWith_type1 (thn (Y p MC s σ H _ I h) λg f ⟨vs,H1,n,L,N⟩=>?_) (by rw[V];rfl) U;obtain⟨a,F,rfl,M,q⟩:=N;obtain⟨u,rfl,J⟩:=vals1 L;cases (show u=Jp.ref a from J);obtain⟨g,A,r,E⟩:=n.list M;obtain⟨oa,ea,_⟩:=id r.isList;have R:a<f.heap.objs.size:=Jt.lt_size ea;have l1:=A.length;refine call_reversed_list r.isList ?_;refine Calls.spliced_nil ?_;have m:∀b o,f.heap.get? b=Mw o->(f.heap.push (Mt a ((g.toArray.size:Int)-1))).get? b=Mw o:=λb o e=>Jt.get?_push_of_some _ e
 have Z:(f.heap.push (Mt a ((g.toArray.size:Int)-1))).get? f.heap.objs.size=Mw (Mt a ((g.toArray.size:Int)-1)):=Jt.get?_push_size _ U;have sz:(f.heap.push (Mt a ((g.toArray.size:Int)-1))).objs.size=f.heap.objs.size+1:=Jt.size_push ..;refine oK (s:={ f with heap:=f.heap.push (Mt a ((g.toArray.size:Int)-1)) }) (l:=a) (items:=g.toArray) (n.ok.hd x) (zA R) ⟨_,Z,U,U⟩ (r.isList.at λo e=>m _ o e) (by simp;lia) λt G i c a1 T g3 P f3 d hd=>?_
 subst hd;have S:∀b o,f.heap.get? b=Mw o->t.get? b=Mw o:=λb o e=>T b o (zA (Jt.lt_size e)) (m b o e)
 have Fe:i.toList=g.reverse:=by
  apply xf
  intro j;have a0:i.size=g.length:=by simpa using P
  rw[IE];by_cases D:j<i.size
  .have:=f3 j i[j] (Fg D);rw[Fg D,List.getElem?_reverse (by lia),←this];simp
  .rw[Array.getElem?_eq_none (by lia),ot (by simp;lia)]
 have y:t.get? (f.heap.objs.size+1)=Mw { cls:=.type "list",dict:=Mx,data:=.seq g.reverse.toArray c,slots:=#[] }:=by
  rw[←Fe];rw[←sz];exact g3
 show EP X MC σ Q _ _;refine⟨.ref (f.heap.objs.size+1),_,n.laid (h':=t) (t':=G) (a:=f.heap.objs.size+1) (o:=.lst F.reverse) S (B5 _) ⟨by simpa using E,g.reverse,c,(Vals.reverse A),y⟩,?_,q _ (n.hok.fresh (B5 _))⟩;show Jp.ref _=_;rw[sz]
theorem yi{X:Cx}{K:W.Frag}(h:X.K=K):SlR X (BM K):=h ▸ dZ
structure Ff(X:Cx)(N:List Str)(k:Nat)(fr:List Nat)(scope:JC)(cl:List (Str×Js)):Prop where
 clos:K6 scope X.env=pure cl
 kind:scope.kind=.function
 names:∀y∈scope.names,y.2=.local->scope.names.lookup y.1=Mw .local
 len:N.length=k+fr.length
 sub:∀(i:Nat)(y:Str),N[k+i]?=Mw y->∃j,fr[i]?=Mw j/\X.N[j]?=Mw y/\(X.env.kindOf y=Mw .cell\/X.env.kindOf y=Mw .free)/\((relabel scope X.env).names.lookup y=Mw .cell\/(relabel scope X.env).names.lookup y=Mw .free)/\∃c,cl.lookup y=Mw c/\∀C:Js,(KI (C+1) scope.names cl).lookup y=Mw c
 cells:∀y c,cl.lookup y=Mw c->X.env.cells.lookup y=Mw c
 has:∀(C:Js)(y:Str),((relabel scope X.env).names.lookup y=Mw .cell\/(relabel scope X.env).names.lookup y=Mw .free)->∃c,(KI (C+1) scope.names cl).lookup y=Mw c
section
variable{elt iter tg:JH}{ifs:List JH}{cl:List (Str×Js)}
end
section
variable{st b₀:JL}{su:List JL}{tb:TSX}{ts:Js->Js->TS}{Tn:Str}{B:Js}{E5:Pos}
end
theorem we{K:W.Frag}{a:Js}{xs:List V}{σ:St}{f:Hp}{Q:VK}(c:Js->Nat->List V->Hp->Prop)(r:∀D,f D=Mx->c D 0 [] (upd f D (.lst [])))
  (o:∀D i ys H,f D=Mx->i<=xs.length->c D i ys H->SqT K H a xs)
  (n:∀D i x ys H,f D=Mx->xs[i]?=Mw x->c D i ys H->∀ts:St,ts.length=k->gt x (dh σ fr ts) H λd s=>(∃g:St,g.length=k/\d=dh σ fr g)/\tt d s λb l=>if b=Mz then te d l (cH c D i xs.length)else d9 c D i xs.length l)
  (hd:∀D ys H,f D=Mx->c D xs.length ys H->Q (.ref D) H):i6 (Itt K a) gt k fr tt te σ Q f:=by
 intro D h;refine⟨λi m H=>m=xs.length-i/\i<=xs.length/\∃ys,c D i ys H,⟨_,U,Az _,[],r D h⟩,?_⟩;rintro i m H ⟨rfl,hi,ys,p⟩;have q:=o D i ys H h hi p;by_cases j:i<xs.length
 .refine .inr ⟨⟨xs,xs[i],q,by simp[j]⟩,λx H' y=>?_⟩;obtain⟨e,y⟩:=y;subst e;exact n D i x ys _ h (y xs q) p
 .have e:i=xs.length:=by lia
  subst e;exact .inl ⟨⟨xs,q,zz _⟩,hd D ys H h p⟩
abbrev TTh:HO:=.ext λ_=>True
theorem rO{P:Jr}{w:Jq}{H:Hp}{h:Jt}{a:Js}{o:Obj}(e:h.get? a=Mw o):df P w H h a (.frz o TTh):=⟨e,trivial,⟨o,e⟩,λ_ _ _ _=>trivial⟩
def hideL(H:Hp)(a:List Js):Hp:=λb=>if b∈a then Mx else H b
def iB(H:Hp)(fz:List (Js×Obj)):Hp:=λb=>match fz.lookup b with
 |some o=>Mw (.frz o TTh)
 |none=>H b
def backL(H H':Hp)(a:List Js):Hp:=λb=>if b∈a then H b else H' b
theorem kv{H:Hp}{a:List Js}{b:Js}(h:b∈a):hideL H a b=none:=ME h
theorem b8{H:Hp}{a:List Js}{b:Js}(h:b ∉ a):hideL H a b=H b:=MD h
theorem m6{H H':Hp}{a:List Js}{b:Js}(h:b∈a):backL H H' a b=H b:=ME h
theorem de{H H':Hp}{a:List Js}{b:Js}(h:b ∉ a):backL H H' a b=H' b:=MD h
theorem gJ{H:Hp}{a:List Js}{b:Js}(h:H b=Mx):hideL H a b=none:=by
 unfold hideL;split
 .rfl
 .exact h
theorem um{H:Hp}{a:List Js}{b:Js}{o:HO}(h:hideL H a b=Mw o):b ∉ a/\H b=Mw o:=by
 unfold hideL at h;split at h
 .cases h
 .rename_i n
  exact⟨n,h⟩
def Fzs(H:Hp)(a:List Js):Prop:=∀c∈a,∃o,H c=Mw (.frz o TTh)
theorem Fzs.out{H:Hp}{a:List Js}(h:Fzs H a){b:Js}{u:HO}(e:H b=Mw u)(n:∀o,u≠.frz o TTh):b ∉ a:=λz=>by
 obtain⟨o,q⟩:=h b z;rw[e]at q;exact n o (Option.some.inj q)
section
variable{h:Jt}{cs:List Js}
theorem HOk.hideL(x:HOk P w H h)(f:Fzs H cs):HOk P w (hideL H cs) h:=λb o e=>by
 obtain⟨n,e⟩:=um e;refine(x b o e).stay (λ_ _ _ q=>q) (λc q=>?_) λc a q=>?_
 .rw[b8 (f.out q λ_ z=>by cases z)];exact q
 .rw[b8 (f.out q λ_ z=>by cases z)];exact q
theorem HOk.backL(x:HOk P w H' h')(f:Fzs H cs)(n:∀c∈cs,H' c=Mx)(k:∀c∈cs,∀o,H c=Mw (.frz o TTh)->h'.get? c=Mw o):HOk P w (backL H H' cs) h':=λb o e=>by
 by_cases a:b∈cs
 .rw[m6 a]at e;obtain⟨d,q⟩:=f b a;rw[q]at e;cases e;exact rO (k b a d q)
 .rw[de a]at e;have out:∀{c:Js}{u:HO},H' c=Mw u->c ∉ cs:=λ{c u} q z=>by rw[n c z]at q;cases q
  refine(x b o e).stay (λ_ _ _ q=>q) (λc q=>?_) λc g q=>?_
  .rw[de (out q)];exact q
  .rw[de (out q)];exact q
theorem m7(s:au (hideL H cs) H'):au H (backL H H' cs):=λb o e=>by
 by_cases a:b∈cs
 .rw[m6 a];exact e
 .rw[de a];exact s b o (by rw[b8 a];exact e)
end
section
variable{fs:List Js}{h:Jt}{cs:List Js}
theorem Un.backL(u:Un fs [] (hideL H cs) H' h h')(f:Fzs H cs):Un fs [] H (backL H H' cs) h h' where
 keep:=λb o e n a c=>u.keep b o e (gJ n) a c
 slot:=λb o e n a c=>u.slot b o e (gJ n) a c
 free:=λb o e n c=>by
  have:b ∉ cs:=λz=>by obtain⟨g,q⟩:=f b z;rw[n]at q;cases q
  rw[de this];exact u.free b o e (gJ n) c
 there:=u.there
 tups:=λb d e=>by
  have a:=f.out e λ_ z=>by cases z
  rw[de a];exact u.tups b d (by rw[b8 a];exact e)
 frzs:=λb o v e=>by
  by_cases a:b∈cs
  .rw[m6 a];exact e
  .rw[de a];exact u.frzs b o v (by rw[b8 a];exact e)
 tbls:=λb ps e=>by
  have a:=f.out e λ_ z=>by cases z
  rw[de a];exact u.tbls b ps (by rw[b8 a];exact e)
end
def rP(b:Obj)(qual:Str):Prop:=∃a t,b.data=.fields a/\a[1]?=Mw (.str qual t)
structure qz(N ps:List Str)(sc:JC)(cl:List (Str×Js)):Prop where
 kind:sc.kind=.function
 co:sc.isCoroutine=MA
 gen:sc.isGenerator=MA
 nd:N.Nodup
 pre:N.take ps.length=ps
 par:∀x∈ps,sc.names.lookup x=Mw .local
 nocell:∀y∈sc.names,y.2≠.cell
 has:∀y∈sc.names,y.2=.free->∃c,cl.lookup y.1=Mw c
def cxC(CX:CXT)(P:Jr)(w:Jq)(K:W.Frag)(mg:Str->Option Jp)(base:Jt)(N:List Str)(qual:Str)(scope:JC)(f:Js)(b:Jp)(cl:List (Str×Js))(A:JA)(outer:List Env)(s:JB)(H:Hp)(E:XK):Cx where
 prog:=P
 w:=w
 K:=K
 mg:=mg
 base:=base
 A:=A.deeper (W.envX qual scope s.heap.objs.size f b cl)
 N:=N
 s₀:=s
 H₀:=hideL H (cl.map (·.2))
 env:=W.envX qual scope s.heap.objs.size f b cl
 outer:=outer
 stack:=W.envX qual scope s.heap.objs.size f b cl :: outer
 ex:=[]
 calm:=Mz
 fn:=λ_=>MA
 pn:=[]
 xe:=λe c=>JF (model P w) (A.deeper (W.envX qual scope s.heap.objs.size f b cl)) (leaving (W.envX qual scope s.heap.objs.size f b cl) e) (λ_ a=>CX outer H s E e a) (λd a=>CX outer H s E d a) c
def fJ(H:Hp)(cl:List (Str×Js))(ws:List (Str×V)):Prop :=
 (∀c∈cl.map (·.2),∃o v,H c=Mw (.frz o TTh)/\o.data=.cell v)/\∀(x:Str)(v:V),ws.lookup x=Mw v->∃c o u,cl.lookup x=Mw c/\H c=Mw (.frz o TTh)/\o.data=.cell (Mw u)/\RelV v u
theorem fJ.fzs{H:Hp}{cl:List (Str×Js)}{ws:List (Str×V)}(h:fJ H cl ws):Fzs H (cl.map (·.2)):=λc a=>let ⟨o,_,e,_⟩:=h.1 c a;⟨o,e⟩
theorem fJ.same{H H':Hp}{cl:List (Str×Js)}{ws:List (Str×V)}(h:fJ H cl ws)(s:au H H'):fJ H' cl ws :=
 ⟨λc f=>let ⟨o,v,e,d⟩:=h.1 c f;⟨o,v,s _ _ e,d⟩,λx v e=>let ⟨c,o,u,a,b,d,r⟩:=h.2 x v e;⟨c,o,u,a,s _ _ b,d,r⟩⟩
def lA(N ps:List Str)(vs:List V)(ws:List (Str×V)):St:=vs.map Mw++(N.drop ps.length).map λx=>ws.lookup x
theorem m8{cl:List (Str×Js)}{x:Str}{c:Js}(h:cl.lookup x=Mw c):c∈cl.map (·.2):=eK.mpr ⟨(x,c),mem_of_lookup h,U⟩
theorem uo{ps:List Str}{us:List Jp}{i:Nat}{y:Str}{u:Jp}(d:ps.Nodup)(g:ps[i]?=Mw y)(f:us[i]?=Mw u)(h:us.length=ps.length):(ps.zip us).reverse.lookup y=Mw u:=by
 have c:((ps.zip us).map (·.1)).Nodup:=by rw[xg (by lia)];exact d
 rw[PySem.lookup_reverse_of_nodup _ c];have b:(y,u)∈ps.zip us:=by
  have:(ps.zip us)[i]?=Mw (y,u):=by rw[pk];exact⟨g,f⟩
  exact IX this
 cases e:(ps.zip us).lookup y with
 |none =>
  exact MG b (by
   intro b;have:=List.lookup_eq_none_iff.mp e (y,u) b;simp at this)
 |some v =>
  have:=mem_of_lookup e;obtain⟨j,a⟩:=jP this;rw[pk]at a;have:=kh d a.1 g;subst this;rw[f]at a;rw[Option.some.inj a.2]
def HFn(P:Jr)(w:Jq)(K:W.Frag)(mg:Str->Option Jp)(base:Jt)(k:Nat)(f:Js)(sp:Sp):Prop:=∃fd ps,aK P w K mg base CX0 k f fd ps sp/\Binds K fd ps []
def FnO(H:Hp)(f:Js):Prop:=∃o fd,H f=Mw (.frz o TTh)/\o.data=.func fd
variable{i:Nat}
inductive yj(X:Cx)(k i:Nat)(t:TA)(σ:St)(H:Hp)(Q:VK):Prop
 |mk (f:Js)(sp:Sp)(_:σ[i]?=Mw (Mw (.ref f)))(_:FnO H f)(_:HFn X.prog X.w X.K X.mg X.base k f sp)(_:t σ H λvs H1=>FnO H1 f/\sp vs H1 Q E0)
theorem qA(D:bY k X.A)(L:X.N[i]?=Mw x)(C:Vis X.env.scope x)(K:PA X (e :: es) t)(G:(x == ("__debug__" : Str))=false:=by decide) (c:(x == ("__classdict__" : Str))=false:=by decide)
  (he:JK (e :: es) X.env=(MA,eval e X.env) :: JK es X.env:=by rfl)(b:(JJ pos (JK es X.env)).any (·.1)=false:=by rfl):PE X (.Call (.Name x p) (e :: es) [] pos) (yj X k i t):=by
 intro MC s σ H Q I h;obtain⟨f,sp,O,M,⟨fd,V,F,J⟩,h⟩:=h;have a:∀{H:Hp}{s:JB}{σ:St},Inv X MC σ H s->FnO H f->W.FnAt f s.heap:=λP ⟨o,fd,e,d⟩=>by
  have:=(P.hok f _ e).1;obtain⟨B,z,Y,m⟩:=o;simp only at d;subst d;exact⟨B,z,fd,m,this⟩
 refine Jo (thn (sX L C G c MC s σ H (λv H'=>v=.ref f/\H'=H) I ⟨_,O,U,U⟩) λu n ⟨v,R,l,r,y⟩=>?_);obtain⟨rfl,rfl⟩:=y;cases (show u=Jp.ref f from r);refine W.callWith_F (a l M) (thn (K pos MC n σ R _ l h) λT s2 ⟨S,Z,j,q,g,w⟩=>⟨a j g,?_⟩) he b;exact qk (E:=E0) (dvs:=[]) (ds:=[]) F D J .nil bT j q (by rw[jQ];exact w)
theorem cS{H:Hp}{fz:List (Js×Obj)}{b:Js}(h:b ∉ fz.map (·.1)):iB H fz b=H b:=by
 unfold iB;cases e:fz.lookup b with
 |none=>rfl
 |some o=>exact MG (eK.mpr ⟨(b,o),W.mem_of_lookupK e,U⟩) h
theorem gK{H:Hp}{fz:List (Js×Obj)}{b:Js}(h:b∈fz.map (·.1)):∃o,(b,o)∈fz/\iB H fz b=Mw (.frz o TTh):=by
 unfold iB;cases e:fz.lookup b with
 |none =>
  obtain⟨⟨c,o⟩,a,rfl⟩:=eK.mp h;have:=List.lookup_eq_none_iff.mp e _ a;simp at this
 |some o=>exact⟨o,W.mem_of_lookupK e,U⟩
structure qB(X:Cx)(s:JB)(fz:List (Js×Obj)):Prop where
 cell:∀p∈fz,∃x,X.env.cells.lookup x=Mw p.1
 nb:∀p∈fz,X.base.get? p.1=Mx
 nf:∀p∈fz,p.1 ∉ X.fs
 at_:∀p∈fz,s.heap.get? p.1=Mw p.2
theorem qB.free{fz:List (Js×Obj)}(z:qB X s fz)(I:Inv X MC σ H s):∀b∈fz.map (·.1),H b=none:=λb c=>by
 obtain⟨p,a,rfl⟩:=eK.mp c;obtain⟨x,e⟩:=z.cell p a;exact I.freeC x _ e
theorem qB.hok{fz:List (Js×Obj)}(z:qB X s fz)(I:Inv X MC σ H s):HOk X.prog X.w (iB H fz) s.heap:=λb u e=>by
 by_cases a:b∈fz.map (·.1)
 .obtain⟨o,c,q⟩:=gK (H:=H) a;rw[q]at e;cases e;exact rO (z.at_ _ c)
 .rw[cS a]at e;have out:∀{d:Js}{u:HO},H d=Mw u->iB H fz d=Mw u:=λ{d u} q=>by
   rw[cS λm=>by rw[z.free I d m]at q;cases q];exact q
  exact(I.hok b u e).stay (λ_ _ _ q=>q) (λd q=>out q) λd f q=>out q
theorem qB.env0{fz:List (Js×Obj)}(z:qB X s fz)(I:Inv X MC σ H s):rh X.prog X.w X.K X.mg X.base X.A X.stack s (iB H fz):=by
 have e:=I.env0;refine⟨e.frames,e.mod,λb o q=>⟨(e.bs b o q).1,?_⟩,e.bsz,e.funs,λb c=>?_,z.hok I,e.bare⟩
 .rw[cS λm=>?_]
  .exact(e.bs b o q).2
  .obtain⟨p,a,rfl⟩:=eK.mp m;rw[z.nb p a]at q;cases q
 .rw[cS λm=>?_]
  .exact e.frf b c
  .obtain⟨p,a,rfl⟩:=eK.mp m;rcases dV.mp (I.stkSub _ c)with q|q
   .obtain⟨x,d⟩:=z.cell p a;exact I.cne x _ d q
   .exact z.nf p a q
theorem Inv.cellNew(I:Inv X MC σ H s){x:Str}{c:Js}(e:X.env.cells.lookup x=Mw c)(d:X.fn x=Mz):X.base.get? c=Mx/\c ∉ X.fs:=by
 have a:=I.ok.cab x c d e;refine⟨Jt.get?_none_of_le (zQ I.ok.bsz a),λq=>?_⟩;obtain⟨_,o,b,_⟩:=I.ok.funs.mem q;exact MG (Jt.lt_size b) (Fd.mpr a)
theorem qB.after{fz:List (Js×Obj)}{Q:VK}{u:Jp}{s':JB}(z:qB X s fz)(I:Inv X MC σ H s)(h:CE X.stack X.prog X.w (iB H fz) s (λv k=>Q v (hideL k (fz.map (·.1)))) u s'):EP X MC σ Q u s':=by
 obtain⟨v,k,A,j,un,hok,r,q⟩:=h;have fzs:Fzs k (fz.map (·.1)):=λc B=>by
  obtain⟨o,_,e⟩:=gK (H:=H) B;exact⟨o,un.frzs c o _ e⟩
 have out:∀{d:Js}{u:HO},H d=Mw u->d ∉ fz.map (·.1):=λ{d u} q m=>by rw[z.free I d m]at q;cases q
 refine⟨v,hideL k (fz.map (·.1)),I.call' (ch:=[]) A ⟨λb o e n g f=>?_,λb o e n g f=>?_,λb o e n f=>?_,un.there,λb x e=>?_,λb o y e=>?_,λb ps e=>?_⟩ (hok.hideL fzs) j (λb g=>MG g (by simp)),r,q⟩
 .by_cases a:b∈fz.map (·.1)
  .obtain⟨p,t,l⟩:=gK (H:=H) a;have:=(hok b _ (un.frzs b p _ l)).1;have i:=z.at_ _ t;rw[e]at i;cases i;exact this
  .exact un.keep b o e (by rw[cS a];exact n) g f
 .by_cases a:b∈fz.map (·.1)
  .obtain⟨p,t,l⟩:=gK (H:=H) a;have:=(hok b _ (un.frzs b p _ l)).1;have i:=z.at_ _ t;rw[e]at i;cases i;exact⟨_,this⟩
  .exact un.slot b o e (by rw[cS a];exact n) g f
 .by_cases a:b∈fz.map (·.1)
  .exact kv a
  .rw[b8 a];exact un.free b o e (by rw[cS a];exact n) f
 .have a:=out e;rw[b8 a];exact un.tups b x (by rw[cS a];exact e)
 .have a:=out e;rw[b8 a];exact un.frzs b o y (by rw[cS a];exact e)
 .have a:=out e;rw[b8 a];exact un.tbls b ps (by rw[cS a];exact e)
def tZ(zs:List (Str×Nat×Js))(sp:Sp)(t:TA):TE:=λσ H Q=>t σ H λc b=>∀a:List Obj,a.length=zs.length->(∀z∈zs,b z.2.2=Mx) ->
 (∀(j:Nat)(z:Str×Nat×Js),zs[j]?=Mw z->∃o w,a[j]?=Mw o/\o.data=.cell w/\∀v,σ[z.2.1]?=Mw (Mw v)->∃u,w=Mw u/\RelV v u) ->
 sp c (iB b ((zs.map (·.2.2)).zip a)) (λv d=>Q v (hideL d (zs.map (·.2.2)))) E0
theorem pO{MC:List (Js×Obj)}{σ:St}{H:Hp}{s:JB}(I:Inv X MC σ H s):∀(zs:List (Str×Nat×Js)),(∀z∈zs,X.N[z.2.1]?=Mw z.1/\(X.env.scope.names.lookup z.1=Mw .cell\/X.env.scope.names.lookup z.1=Mw .free)/\X.env.cells.lookup z.1=Mw z.2.2/\(X.fn z.1=Mz\/(X.base.get? z.2.2=Mx/\z.2.2 ∉ X.fs))) ->
  ∃f:List Obj,f.length=zs.length/\(∀(j:Nat)(z:Str×Nat×Js),zs[j]?=Mw z->∃o w,f[j]?=Mw o/\s.heap.get? z.2.2=Mw o/\o.data=.cell w/\∀v,σ[z.2.1]?=Mw (Mw v)->∃u,w=Mw u/\RelV v u)
 | [],_=>⟨[],U,λj z e=>by simp at e⟩
 |z :: zs,h=>by
  obtain⟨f,y,x⟩:=pO I zs λq a=>h q (jf _ a)
  obtain⟨A,b,n,E⟩:=h z fw;obtain⟨w,o,e,d⟩:=I.cell _ _ n;refine⟨o :: f,by rw[iQ,iQ,y],λj q a=>?_⟩
  match j,a with
  |0,a =>
   cases a;refine⟨o,w,U,e,d,λv t=>?_⟩;obtain⟨m,D,B⟩:=I.loc;obtain⟨u,r,l⟩:=B _ _ v A t (.inr b);rcases l with⟨g,_⟩|⟨_,c,k,C,p,i⟩
   .have g:X.env.scope.names.lookup z.1=Mw .local:=g;rcases b with b|b <;> rw[b]at g <;> cases g
   .rw[n]at k;cases k;rw[e]at p;cases p;rw[d]at i;injection i with i;exact⟨u,i,r⟩
  |j+1,a=>exact x j q (by simpa using a)
theorem B4{MC:List (Js×Obj)}{σ:St}{H:Hp}{s:JB}{zs:List (Str×Nat×Js)}{g:List Obj}(I:Inv X MC σ H s)
  (hz:∀z∈zs,X.N[z.2.1]?=Mw z.1/\(X.env.scope.names.lookup z.1=Mw .cell\/X.env.scope.names.lookup z.1=Mw .free)/\X.env.cells.lookup z.1=Mw z.2.2/\(X.fn z.1=Mz\/(X.base.get? z.2.2=Mx/\z.2.2 ∉ X.fs)))(n:g.length=zs.length)
  (k:∀(j:Nat)(z:Str×Nat×Js),zs[j]?=Mw z->∃o w,g[j]?=Mw o/\s.heap.get? z.2.2=Mw o/\o.data=.cell w/\∀v,σ[z.2.1]?=Mw (Mw v)->∃u,w=Mw u/\RelV v u):qB X s ((zs.map (·.2.2)).zip g):=by
 have b:∀p∈(zs.map (·.2.2)).zip g,∃z∈zs,z.2.2=p.1/\s.heap.get? p.1=Mw p.2:=λp a=>by
  obtain⟨j,d⟩:=jP a;rw[pk,gg]at d;cases ez:zs[j]? with
  |none=>rw[ez]at d;cases d.1
  |some z =>
   rw[ez]at d;have i:z.2.2=p.1:=Option.some.inj d.1;obtain⟨o,w,h,m,_⟩:=k j z ez;rw[d.2]at h;cases h;exact⟨z,IX ez,i,i ▸ m⟩
 have new:∀z∈zs,X.base.get? z.2.2=Mx/\z.2.2 ∉ X.fs:=λz c=>by
  obtain⟨_,_,l,f⟩:=hz z c;rcases f with f|f
  .exact I.cellNew l f
  .exact f
 refine⟨λp a=>?_,λp a=>?_,λp a=>?_,λp a=>?_⟩
 .obtain⟨z,c,e,_⟩:=b p a;exact⟨z.1,e ▸ (hz z c).2.2.1⟩
 .obtain⟨z,c,e,_⟩:=b p a;rw[←e];exact(new z c).1
 .obtain⟨z,c,e,_⟩:=b p a;rw[←e];exact(new z c).2
 .obtain⟨z,c,e,h⟩:=b p a;exact h
theorem yk{zs:List (Str×Nat×Js)}(C:Callee X.prog X.w X.K X.mg X.base k x ps sp)(O:bY k X.A)(R:Gl X x)(S:PA X (e :: es) t)(hz:∀z∈zs,X.N[z.2.1]?=Mw z.1/\(X.env.scope.names.lookup z.1=Mw .cell\/X.env.scope.names.lookup z.1=Mw .free)/\X.env.cells.lookup z.1=Mw z.2.2/\(X.fn z.1=Mz\/(X.base.get? z.2.2=Mx/\z.2.2 ∉ X.fs)))
  (v:(x == ("__debug__" : Str))=false:=by decide) (he:JK (e :: es) X.env=(MA,eval e X.env) :: JK es X.env:=by rfl)(l:(JJ pos (JK es X.env)).any (·.1)=false:=by rfl):PE X (.Call (.Name x p) (e :: es) [] pos) (tZ zs sp t):=by
 obtain⟨f,fd,F,b,M,m⟩:=C;intro MC s σ H Q I h;refine Jo (gD I R m ?_ v);refine W.callWith_K (h₀:=X.base) I.ok.mod.kin M (thn (S pos MC s σ H _ I h) λg i ⟨J,V,a,r,q⟩=>⟨a.kIn,?_⟩) he l;obtain⟨B,G,E⟩:=pO a zs hz;have Y:((zs.map (·.2.2)).zip B).map (·.1)=zs.map (·.2.2):=xg (by rw[bx];lia);have d:=B4 a hz G E;have D:=q B G (λz P=>a.freeC z.1 _ (hz z P).2.2.1) λj z T=>let ⟨o,w,a1,_,a3,a4⟩:=E j z T;⟨o,w,a1,a3,a4⟩
 have n:g.length=ps.length:=by rw[←r.length];exact F.len _ _ _ _ D
 refine KA (KC (F.run X.A X.stack i _ ⟨g,[]⟩ g J _ E0 O (d.env0 a) (by have:=b i g a.kIn (by rw[jQ];exact n);rw[jQ]at this;exact this) r D) λL y c=>?_);cases L with
 |error e=>exact bT MC σ V i e y a c
 |ok fl =>
  cases fl with
  |ret u =>
   have c:CE X.stack X.prog X.w _ i _ u y:=c;refine d.after a ?_;rw[Y];exact c
  |next=>exact False.elim c
  |brk=>exact False.elim c
  |cont=>exact False.elim c
open PySem.W
def ym(tabs:List (Js×Js))(H:Hp):Prop:=∀b,H b=Mx\/(∃o a,H b=Mw (.frz o (.lst a)))\/(b∈tabs.map (·.2)/\H b=Mw (.tbl #[]))
theorem wg{P:Jr}{w:Jq}{K:W.Frag}{mg mb:Str->Option Jp}{CX:CXT}{k:Nat}{fa a:Js}{fd:Kx}{x:Str}{sp:Sp}{c:JB}{vs:List Jp}{L:List Int}{tabs:List (Js×Js)}
  (KX:K.In c.heap)(C:c.heap.Ns Jx mg)(hb:c.heap.Ns Jy mb)(a9:∀x:Str,x ≠ "__name__" -> mb x=Jz x) (Fh:c.heap.NoLimit)(hg:c.gens = #[])
  (G:c.heap.get? a=Mw { cls:=.type "list",data:=.seq vs.toArray }) (hi:IntsAre vs L)(hl:L.length<=Ju)(hr:bY k K4)
  (M:TabsAt tabs c.heap)(a7:noTabs K=Mz)(a8:∃Q A,mg "__builtins__" = Mw (.ref Q)/\Q≠Jy/\c.heap.get? Q=Mw A/\A.cls=.type "module" /\ A.dict=Mw Jy/\A.data=.plain)
  (F:∀base:Jt,K.In base->base.Ns Jx mg->(∀q∈tabs,CodeHd base q.1 q.2/\base.BuiltinsAt mg q.2)->aK P w K mg base CX k fa fd [x] sp)(Dt:∀(s:JB)(u:Jp),Ky s fd ⟨[u],[]⟩ [(x,u)])
  (a5:∀H:Hp,ym tabs H->SqL K H a (L.map V.int)->(∀q∈tabs,H q.2=Mw (.tbl #[]))->sp [.ref a] H (λv _=>v=.bl Mz) λ_ _ _=>False)
  (c1:∀H e s',CX [] H c (λ_ _ _=>False) e s'->False) :
  Ks (model P w) K4 (.call (.ref fa) ⟨[.ref a],[]⟩) (λr s'=>r=.ok (.ret (.bool Mz))/\OldK c.heap s'.heap/\s'.os=c.os/\AllBare s'.gens) c:=by
 have rv:=pq hi;have Fi:=hi.length;have E:∀b∈tabs.map (·.2),c.heap.get? b=Mw (tabObj #[]):=λb f=>by
  obtain⟨q,i,rfl⟩:=eK.mp f;exact(M q i).2
 have aT:a ∉ tabs.map (·.2):=λz=>by
  have e:=E a z;rw[G]at e;cases e
 have B:∀H:Hp,ym tabs H->SqL K H a (L.map V.int)->HOk P w H c.heap->(∀b,H b≠Mx->b=a\/b∈tabs.map (·.2))->(H a≠Mx->K.lookup a=Mx)->(∀q∈tabs,H q.2=Mw (.tbl #[])) ->
   Ks (model P w) K4 (.call (.ref fa) ⟨[.ref a],[]⟩) (λr s'=>r=.ok (.ret (.bool Mz))/\OldK c.heap s'.heap/\s'.os=c.os/\AllBare s'.gens) c:=by
  intro H hO hS hok hA hK X;have mC:∀{b:Js}{o:Obj},c.heap.get? b=Mw o->H b=Mx->(mG c.heap H).get? b=Mw o:=λe n=>xj e n
  have R:∀{b:Js}{o:Obj},c.heap.get? b=Mw o->(b=a->False)->o≠tabObj #[]->H b=none:=λ{b o} e n1 n2=>by
   cases q:H b with
   |none=>rfl
   |some u =>
    rcases hA b (by rw[q];simp)with z|z
    .exact(n1 z).elim
    .have:=E b z;rw[e]at this;exact MG (Option.some.inj this) n2
  have a3:∀{b:Js}{o:Obj}{es:Array DictEntry}{I:Nat},c.heap.get? b=Mw o->o.data=.dict es I->H b=none:=λ{b o es I} e d=>R e (λz=>by
   subst z;rw[G]at e;cases e;have O:Data.seq vs.toArray _=Data.dict es I:=d;cases O) (λz=>by rw[z]at d;cases d)
  have S:∀{b:Js}{o:Obj}{T:String},c.heap.get? b=Mw o->o.cls=.type T->T ≠ "list" -> H b=none:=λ{b o T} e d c0=>R e (λz=>by
   subst z;rw[G]at e;cases e;have O:Jp.type "list" = Jp.type T:=d;injection O with O;exact c0 O.symm) (λz=>by rw[z]at d;cases d)
  have y:∀{b:Js}{m:Str->Option Jp},c.heap.Ns b m->(mG c.heap H).Ns b m:=λ{b m} ⟨o,es,I,e,d,r⟩=>⟨o,es,I,mC e (a3 e d),d,r⟩
  have Y:K.In (mG c.heap H):=λb o e=>mC (KX b o e) (by
   cases q:H b with
   |none=>rfl
   |some u =>
    rcases hA b (by rw[q];simp)with z|z
    .subst z;rw[hK (by rw[q];simp)]at e;cases e
    .have j:=E b z;rw[KX b o e]at j;cases j;have h2:=jO.mp a7 (b,tabObj #[]) (mem_of_lookupK e);exact MG (show MA=Mz from h2) Bool.false_ne_true)
  have hM:Mod K mg (mG c.heap H):=⟨Y,y C,⟨mb,y hb,a9⟩,let ⟨mc,h1,h2⟩:=Fh;⟨mc,y h1,h2⟩⟩;have e0:rh P w K mg (mG c.heap H) K4 [] c H:=⟨U,hM,λb o e=>zC e,Nat.le_of_eq (vF _ _),trivial,λb hb=>MG (show b∈([]:List Js)from hb) (by simp),hok,.of_eq hg⟩;have b0:∀q∈tabs,CodeHd (mG c.heap H) q.1 q.2/\(mG c.heap H).BuiltinsAt mg q.2:=λq i=>by
   obtain⟨o,a2,a0,tf,D,tg,a4,Z,tt,N,r1,r2⟩:=(M q i).1;obtain⟨Q,A,b1,b2,J,b4,b5,b6⟩:=a8;refine⟨⟨o,a2,a0,tf,D,tg,a4,Z,tt,mC N (S N r1 (by decide)),r1,r2⟩,Q,A,b1,b2,λz=>?_,λz=>?_,mC J (S J b4 (by decide)),b4,b5,b6⟩
   .obtain⟨o',es,I,e,d,_⟩:=C;rw[z,e]at J;cases J;rw[d]at b6;cases b6
   .have j:=(M q i).2;rw[z,j]at J;cases J;cases b4
  refine KC ((F _ Y (y C) b0).run K4 [] c H ⟨[.ref a],[]⟩ [.ref a] [.ref a] _ _ hr e0 (Dt c (.ref a)) (.cons U .nil) (a5 H hO hS X)) λr s' h=>?_
  cases r with
  |error e=>exact(c1 H e s' h).elim
  |ok fl =>
   cases fl with
   |next=>exact False.elim h
   |brk=>exact False.elim h
   |cont=>exact False.elim h
   |ret u =>
    obtain⟨v,H',os,a1,un,Du,r',q⟩:=h;have q':v=.bl true:=q;subst q';obtain rfl:u=Jp.bool true:=r';have kept:∀b o,b ∉ tabs.map (·.2)->c.heap.get? b=Mw o->s'.heap.get? b=Mw o:=λb o f e=>by
     cases q:H b with
     |none=>exact un.keep b o e q (by intro z;exact MG (show b∈([]:List Js)from z) (by simp)) (by simp)
     |some u =>
      rcases hO b with z|⟨A,xs,z⟩|⟨z,_⟩
      .rw[q]at z;cases z
      .have z2:=un.frzs b A _ z;obtain⟨N,_⟩:=hok b _ z;obtain⟨j,_⟩:=Du b _ z2;rw[e]at N;cases N;exact j
      .exact MG z f
    have l:∀b∈tabs.map (·.2),isCodeTable c.heap b/\∃g,s'.heap.get? b=Mw (tabObj g):=λb f=>by
     obtain⟨qq,i,rfl⟩:=eK.mp f;obtain⟨g,e⟩:=un.tbls _ _ (X qq i);have j:s'.heap.get? qq.2=Mw (tabObj (#[]++g)):=Du _ _ e;exact⟨((M qq i).1.tab (M qq i).2).isCodeTable,_,j⟩
    refine⟨U,⟨λb o e=>?_,λb o e=>?_⟩,os,a1⟩
    .by_cases f:b∈tabs.map (·.2)
     .obtain⟨ht,g,j⟩:=l b f;have e3:=E b f;rw[e]at e3;cases e3;exact .inr (.inl ⟨ht,U,#[],g,U,by rw[Array.empty_append];exact j⟩)
     .exact .inl (kept b o f e)
    .by_cases f:b∈tabs.map (·.2)
     .obtain⟨_,g,j⟩:=l b f;exact⟨_,j⟩
     .exact⟨o,kept b o f e⟩
 cases hk:K.lookup a with
 |some o =>
  have e:=KX a o hk;rw[G]at e;cases e;refine B (λb=>if b∈tabs.map (·.2)then Mw (.tbl #[])else Mx) (λb=>?_) (.inr ⟨_,vs.toArray,_,hk,U,U,U,by rw[en,Fi];exact hl,by simpa using rv⟩) (λb u z=>?_) (λb z=>?_) (λz=>MG (MD aT) z) λq i=>ME (eK.mpr ⟨q,i,U⟩)
  .by_cases f:b∈tabs.map (·.2)
   .exact .inr (.inr ⟨f,ME f⟩)
   .exact .inl (MD f)
  .by_cases f:b∈tabs.map (·.2)
   .have t:=(ME f).symm.trans z;cases t;exact E b f
   .have t:=(MD f).symm.trans z;cases t
  .by_cases f:b∈tabs.map (·.2)
   .exact .inr f
   .exact MG (MD f) z
 |none =>
  refine B (λb=>if b=a then Mw (.frz { cls:=.type "list",data:=.seq vs.toArray } (.lst (L.map V.int)))else if b∈tabs.map (·.2)then Mw (.tbl #[])else Mx) (λb=>?_) (.inl (.inr ⟨{ cls:=.type "list",data:=.seq vs.toArray },ME U⟩)) (λb u z=>?_) (λb z=>?_) (λ_=>hk) λq i=>?_
  .by_cases f:b=a
   .exact .inr (.inl ⟨_,_,ME f⟩)
   .by_cases p:b∈tabs.map (·.2)
    .exact .inr (.inr ⟨p,(MD f).trans (ME p)⟩)
    .exact .inl ((MD f).trans (MD p))
  .by_cases f:b=a
   .have t:=(ME f).symm.trans z;cases t;subst f;exact⟨G,by rw[bx];exact hl,vs,_,rv,G⟩
   .by_cases p:b∈tabs.map (·.2)
    .have t:=((MD f).trans (ME p)).symm.trans z;cases t;exact E b p
    .have t:=((MD f).trans (MD p)).symm.trans z;cases t
  .by_cases f:b=a
   .exact .inl f
   .by_cases p:b∈tabs.map (·.2)
    .exact .inr p
    .exact MG ((MD f).trans (MD p)) z
  .have hm:q.2∈tabs.map (·.2):=eK.mpr ⟨q,i,U⟩;have a6:q.2≠a:=λz=>aT (z ▸ hm)
   exact(MD a6).trans (ME hm)
theorem walk_ofT{l:W.OpenLaw}{n k:Nat}{q:Jr}{i:List Str}{XP:(Str->Option Jp)->Jt->Prop}{O:Jq->Jt->Prop}{d:DefRec}{K:K3->W.Frag}{CX:Jq->CXT}{sp:Jq->Sp}{x:Str}{tabs:K3->List (Js×Js)}{xs:List Str}
  (Z:l.most=Mw n)(E:n<=Ju)(J:d.params.defaults=[])(X:bY k K4)
  (hY:∀(w:Jq)(h:Jt),O w h->(K w.params).In h)(D:∀p:K3,noTabs (K p)=Mz)
  (B:∀y∈xs,∃d',(recsOf q).find? (λe=>e.name == y)=Mw d')(Q:∀p:K3,∀t∈tabs p,∃y∈xs,tabIn (K p) y=Mw t)
  (F:∀(w:Jq)(mg:Str->Option Jp)(z:Js)(h:Jt),(K w.params).In h->h.Ns Jx mg->mg d.name=Mw (.ref z) ->
   ∃fd:Kx,(∀(s:JB)(u:Jp),Ky s fd ⟨[u],[]⟩ [(x,u)]) /\
    ∀base:Jt,(K w.params).In base->base.Ns Jx mg->(∀q∈tabs w.params,CodeHd base q.1 q.2/\base.BuiltinsAt mg q.2)->aK l.prog w (K w.params) mg base (CX w) k z fd [x] (sp w))
  (C:∀(w:Jq)(H:Hp)(a:Js)(r:List Int),r.length<=n->ym (tabs w.params) H->SqL (K w.params) H a (r.map V.int)->(∀q∈tabs w.params,H q.2=Mw (.tbl #[]))->sp w [.ref a] H (λv _=>v=.bl Mz) λ_ _ _=>False)
  (N:∀(w:Jq)(H:Hp)(s:JB)(e:Jp)(s':JB),CX w [] H s (λ_ _ _=>False) e s'->False) :
  W.WalkO q i XP O l.row.toRowW d [] (λf vs=>PySem.call f vs):=by
 refine Att.attach_call Z J λw P m mg mb z o pm cd a1 a vs r G Y ho hd a0 I BP j c hg=>?_
 have A:=hY w _ Y;obtain⟨fd,hb,hF⟩:=F w mg z _ A G.T.g I;refine wg A G.T.g G.T.b G.T.builtins G.T.nolimit hg BP j (zQ c E) X (tabs:=tabs w.params) (λt S=>?_) (D w.params) G.T.bmain hF hb (λH hO hS M=>C w H a r c hO hS M) λH e s'=>N w H m e s'
 obtain⟨y,R,e⟩:=Q w.params t S;obtain⟨d',L⟩:=B y R;exact tab_of G.T A L e
theorem Fun.okT{x qual:Str}{st:JL}{f c:Js}{fd:Kx}{N ps:List Str}{k:Nat}{sp:Sp}(F:Fun K x qual st f fd)(b:fd.code=.ref c)(S:ar N ps (ak st))(d:∀vs H Q E,sp vs H Q E->vs.length=ps.length)
  (l:∀(A:JA)(a:List Env)(s:JB)(H:Hp)(vs:List V)(Q:VK)(E:XK),bY k (A.deeper (envOfC qual (ak st) s.heap.objs.size f (.ref c)))->sp vs H Q E ->
   ∃t,PSs (cR CX0 P w K mg base N qual (ak st) f (.ref c) A a s H E).nox (dI st) t/\t { nx:=λ_ H'=>Q .non H',rt:=Q } (start N vs) H):aK P w K mg base CX0 (k+1) f fd ps sp:=by
 obtain⟨u,r,kV,o,p,y,i,v,n,rfl,j,g⟩:=F.ex;have b:i=.ref c:=b;subst b;refine AY j g S d λA a s H vs Q E m e=>?_
 obtain⟨t,h,q⟩:=l A a s H vs Q E m e;exact⟨t,h.nox,q⟩
def jw(H:Hp)(f c':Js)(b:Obj)(qual:Str)(cl:List (Str×Js))(ws:List (Str×V)):Prop:=H f=Mw (.frz b TTh)/\(∃a,H c'=Mw (.frz a TTh)/\rP a qual)/\fJ H cl ws
theorem jw.same{H H':Hp}{f c':Js}{a:Obj}{qual:Str}{cl:List (Str×Js)}{ws:List (Str×V)}(h:jw H f c' a qual cl ws)(s:au H H'):jw H' f c' a qual cl ws :=
 ⟨s _ _ h.1,let ⟨oc,e,q⟩:=h.2.1;⟨oc,s _ _ e,q⟩,h.2.2.same s⟩
theorem rQ{zs:List (Str×Nat×Js)}{f:List Obj}{H:Hp}{σ:St}{cl:List (Str×Js)}{ws:List (Str×V)}(K:f.length=zs.length)(s:(zs.map (·.2.2)).Nodup)
  (t:∀(j:Nat)(z:Str×Nat×Js),zs[j]?=Mw z->∃o w,f[j]?=Mw o/\o.data=.cell w/\∀v,σ[z.2.1]?=Mw (Mw v)->∃u,w=Mw u/\RelV v u)
  (C:∀c∈cl.map (·.2),∃z∈zs,z.2.2=c)(B:∀(x:Str)(v:V),ws.lookup x=Mw v->∃z∈zs,cl.lookup x=Mw z.2.2/\σ[z.2.1]?=Mw (Mw v)):fJ (iB H ((zs.map (·.2.2)).zip f)) cl ws:=by
 have h:∀z∈zs,∃o w,iB H ((zs.map (·.2.2)).zip f) z.2.2=Mw (.frz o TTh)/\o.data=.cell w/\∀v,σ[z.2.1]?=Mw (Mw v)->∃u,w=Mw u/\RelV v u:=λz g=>by
  obtain⟨j,p⟩:=jP g;obtain⟨o,w,m,l,G⟩:=t j z p;have J:((zs.map (·.2.2)).zip f).map (·.1)=zs.map (·.2.2):=xg (by rw[bx];lia);obtain⟨q,y,F⟩:=gK (H:=H) (fz:=(zs.map (·.2.2)).zip f) (b:=z.2.2) (by rw[J];exact eK.mpr ⟨z,g,U⟩);obtain⟨i,k⟩:=jP y;rw[pk]at k;have D:(zs.map (·.2.2))[j]?=Mw z.2.2:=by rw[gg,p];rfl
  obtain⟨M,I⟩:=IW.mp k.1;obtain⟨L,b2⟩:=IW.mp D;have n:i=j:=(yl s).mp (I.trans b2.symm);subst n;have E:o=q:=Option.some.inj (m.symm.trans k.2);subst E;exact⟨o,w,F,l,G⟩
 refine⟨λc A=>?_,λx v e=>?_⟩
 .obtain⟨z,g,rfl⟩:=C c A;obtain⟨o,w,a,b,_⟩:=h z g;exact⟨o,w,a,b⟩
 .obtain⟨z,g,m,l⟩:=B x v e;obtain⟨o,w,a,b,d⟩:=h z g;obtain⟨u,rfl,r⟩:=d v l;exact⟨z.2.2,o,u,m,a,b,r⟩
theorem yp{a:JC}{cl:List (Str×Js)}(h:(a.names.all λy=>match y.2 with | .free=>(cl.map (·.1)).any (y.1 == ·)|_=>Mz)=Mz):∀y∈a.names,y.2=.free->∃c,cl.lookup y.1=Mw c:=λy d e=>by
 have:=jO.mp h y d;rw[e]at this;obtain⟨z,b,g⟩:=zx.mp this;obtain⟨p,f,rfl⟩:=eK.mp b;cases q:cl.lookup y.1 with
 |some c=>exact⟨c,U⟩
 |none =>
  have:=List.lookup_eq_none_iff.mp q p f;simp[bne,g]at this
theorem ve{N:List Str}{a:JC}{ws:List (Str×V)}(h:((ws.map (·.1)).all λx=>match a.names.lookup x with|some .free=>Mz|_=>MA)=Mz):∀y∈N,∀v,ws.lookup y=Mw v->a.names.lookup y=Mw .free:=λy _ v e=>by
 have:=jO.mp h y (eK.mpr ⟨(y,v),mem_of_lookup e,U⟩);split at this
 .assumption
 .cases this
theorem tab_mk{K:Frag}{x qual:Str}{st:JL}{f c P:Js}{g kV doc pm m:Jp}{d n:Option Js}{b:Array (Option Jp)}{j:Jp}{i:Option Js}{vs:Array Jp}{h:Array (Option Jp)}(a:nsIn K Jx x=Mw (Mw (.ref f)))
  (l:K.lookup f=Mw ⟨g,d,.func (fnOf x qual (gG st) (dI st) (ak st) .none kV doc pm n (.ref c) m),b⟩)(k:K.lookup c=Mw ⟨j,i,.fields vs,h⟩)(e:vs[11]?=Mw (.ref P)):tabIn K x=Mw (c,P):=by
 unfold tabIn;rw[a];simp only[l];show(match K.lookup c with|some ⟨_,_,.fields vs,_⟩=>(match (vs[11]?:Option Jp)with|some (.ref P)=>Mw (c,P)|_=>Mx)|_=>Mx)=Mw (c,P);rw[k];simp only[e]
section
variable{zs:List (Str×Nat×Js)}{os:List Obj}{H2:Hp}
theorem nh(a:os.length=zs.length):((zs.map (·.2.2)).zip os).map (·.1)=zs.map (·.2.2):=xg (by rw[bx];lia)
theorem ni(c:os.length=zs.length)(d:∀z∈zs,H z.2.2=Mx):au H (iB H ((zs.map (·.2.2)).zip os)):=λb u e=>by
 rw[cS λm=>?_]
 .exact e
 .rw[nh c]at m;obtain⟨z,a,rfl⟩:=eK.mp m;rw[d z a]at e;cases e
theorem hide_same(d:os.length=zs.length)(a:∀z∈zs,H z.2.2=Mx)(s:au (iB H ((zs.map (·.2.2)).zip os)) H2):au H (hideL H2 (zs.map (·.2.2))):=λb u e=>by
 rw[b8 λm=>?_]
 .exact s _ _ (ni d a _ _ e)
 .obtain⟨z,c,rfl⟩:=eK.mp m;rw[a z c]at e;cases e
end
abbrev T3a(α:Type):=Int×Int×α
def Fm(L:Type):Nat->Type
 |0=>L
 |n+1=>List (Int×Int×Fm L n)
def Fm.dec{L:Type} [d:DecidableEq L]:(n:Nat)->DecidableEq (Fm L n)
 |0=>d
 |n+1=>have:=Fm.dec (L:=L) n;(inferInstance:DecidableEq (List (Int×Int×Fm L n)))
instance {L:Type} [DecidableEq L] (n:Nat):DecidableEq (Fm L n):=Fm.dec n
section
variable{α:Type}
def dg [DecidableEq α] (f:List (T3a α))(t:T3a α):List (T3a α):=match f.getLast? with
 |some l=>if l.2.2=t.2.2 then f.dropLast++[(l.1,t.2.1,t.2.2)]else f++[t]
 |none=>f++[t]
def eN [DecidableEq α] (ts:List (T3a α)):List (T3a α):=ts.foldl dg []
def Ch3:List (T3a α)->Int->Int->Prop
 | [],lo,hi=>lo=hi+1
 |t :: r,lo,hi=>t.1=lo/\lo<=t.2.1/\Ch3 r (t.2.1+1) hi
theorem Ch3.snoc{t:T3a α}:∀{f:List (T3a α)}{lo mid:Int},Ch3 f lo mid->t.1=mid+1->t.1<=t.2.1->Ch3 (f++[t]) lo t.2.1
 | [],lo,mid,h,e,l=>⟨by rw[e];exact h.symm,by have:lo=mid+1:=h;lia,U⟩
 |u :: f,lo,mid,h,e,l=>⟨h.1,h.2.1,Ch3.snoc (f:=f) h.2.2 e l⟩
theorem Ch3.unsnoc{t:T3a α}:∀{f:List (T3a α)}{lo hi:Int},Ch3 (f++[t]) lo hi->t.2.1=hi/\t.1<=t.2.1/\Ch3 f lo (t.1-1)
 | [],lo,hi,h=>⟨by have:t.2.1+1=hi+1:=h.2.2;lia,by have:=h.1;have:=h.2.1;lia,by show lo=t.1-1+1;have:=h.1;lia⟩
 |u :: f,lo,hi,h=>let ⟨a,b,c⟩:=Ch3.unsnoc (f:=f) h.2.2;⟨a,b,h.1,h.2.1,c⟩
def Nbx(ys:List α):Prop:=∀(i:Nat)(a b:α),ys[i]?=Mw a->ys[i+1]?=Mw b->a≠b
theorem Nbx.snoc{ys:List α}{y:α}(h:Nbx ys)(e:∀l,ys.getLast?=Mw l->l≠y):Nbx (ys++[y]):=λi a b d c=>by
 have hi:=(IW.mp c).1;simp only[dt,gy]at hi;by_cases g:i+1<ys.length
 .rw[je (by lia)]at d;rw[je g]at c;exact h i a b d c
 .have f:i+1=ys.length:=by lia
  rw[je (by lia)]at d;rw[f]at c;simp at c;subst c;refine e a ?_;rw[List.getLast?_eq_getElem?];rw[show ys.length-1=i by lia];exact d
def vAt(f:List (T3a α))(c:Int):Option α:=(f.find? λt=>decide (c<=t.2.1)).map (·.2.2)
theorem i7(f g:List (T3a α))(c:Int):vAt (f++g) c=(vAt f c).or (vAt g c):=by
 unfold vAt;rw[List.find?_append];cases f.find? _ <;> rfl
theorem qC(t:T3a α)(c:Int):vAt [t] c=if c<=t.2.1 then Mw t.2.2 else none:=by
 unfold vAt;by_cases h:c<=t.2.1 <;> simp[h]
structure wm(ts f:List (T3a α))(lo hi:Int):Prop where
 ch:Ch3 f lo hi
 nb:Nbx (f.map (·.2.2))
 va:∀c,vAt f c=vAt ts c
 mem:∀t∈f,∃t'∈ts,t'.2.2=t.2.2
 ne:ts≠[]->f≠[]
theorem wm.step [DecidableEq α] {ts f:List (T3a α)}{lo mid:Int}{t:T3a α}(h:wm ts f lo mid)(e:t.1=mid+1)(l:t.1<=t.2.1):wm (ts++[t]) (dg f t) lo t.2.1:=by
 rcases xh f with j|⟨g,u,j⟩
 .subst j;have:dg [] t=[t]:=rfl;rw[this];refine⟨Ch3.snoc (f:=[]) h.ch e l,λi a b y p=>by simp at p,λc=>?_,λv d=>⟨t,by simp,by rw[iv.mp d]⟩,λ_=>by simp⟩;rw[i7,←h.va c];rfl
 .rw[xi]at j;subst j;have o:=h.ch.unsnoc;have s:(g++[u]).getLast?=Mw u:=by simp
  unfold dg;rw[s];simp only;by_cases q:u.2.2=t.2.2
  .rw[ME q];have w:(g++[u]).dropLast=g:=by simp
   rw[w];have r:(g++[((u.1,t.2.1,t.2.2):T3a α)]).map (·.2.2)=(g++[u]).map (·.2.2):=by simp[q]
   refine⟨Ch3.snoc (t:=((u.1,t.2.1,t.2.2):T3a α)) o.2.2 (by show u.1=u.1-1+1;lia) (by show u.1<=t.2.1;lia),by rw[r];exact h.nb,λc=>?_,λv d=>?_,λ_=>by simp⟩
   .rw[i7 ts,←h.va c,i7,i7,qC,qC,qC];show(vAt g c).or (if c<=t.2.1 then Mw t.2.2 else Mx)=((vAt g c).or (if c<=u.2.1 then Mw u.2.2 else Mx)).or (if c<=t.2.1 then Mw t.2.2 else Mx);cases vAt g c with
    |some x=>rfl
    |none =>
     by_cases n:c<=u.2.1
     .rw[ME n,ME (by lia),q];rfl
     .rw[MD n];rfl
   .rcases ik.mp d with d|d
    .obtain⟨k,a,b⟩:=h.mem v (lg _ d);exact⟨k,lg _ a,b⟩
    .rw[iv.mp d];exact⟨t,by simp,U⟩
  .rw[MD q];refine⟨h.ch.snoc e l,?_,λc=>?_,λv d=>?_,λ_=>by simp⟩
   .rw[gI];refine Nbx.snoc h.nb λz m=>?_
    rw[gI]at m;simp at m;rw[←m];exact q
   .rw[i7,i7 ts,h.va c]
   .rcases ik.mp d with d|d
    .obtain⟨k,a,b⟩:=h.mem v d;exact⟨k,lg _ a,b⟩
    .rw[iv.mp d];exact⟨t,by simp,U⟩
theorem rR [DecidableEq α]:∀{r ts f:List (T3a α)}{lo mid hi:Int},wm ts f lo mid->Ch3 r (mid+1) hi->wm (ts++r) (r.foldl dg f) lo hi
 | [],ts,f,lo,mid,hi,h,c=>by
  have:mid=hi:=by have:mid+1=hi+1:=c;lia
  subst this;rw[jQ];exact h
 |t :: r,ts,f,lo,mid,hi,h,c=>by
  have:=rR (r:=r) (h.step c.1 (by have:=c.1;have:=c.2.1;lia)) c.2.2;rw[rF]at this;exact this
theorem eA [DecidableEq α] {ts:List (T3a α)}{lo hi:Int}(h:Ch3 ts lo hi):wm ts (eN ts) lo hi :=
 rR (ts:=[]) (f:=[]) (mid:=lo-1) ⟨by show lo=lo-1+1;lia,λi a b e d=>by simp at d,λ_=>U,λt c=>by simp at c,λz=>MG U z⟩ (by rw[show lo-1+1=lo by lia];exact h)
theorem Ch3.at:∀{f:List (T3a α)}{lo hi c:Int},Ch3 f lo hi->lo<=c->c<=hi->∃(j:Nat)(t:T3a α),f[j]?=Mw t/\t.1<=c/\c<=t.2.1/\(∀(i:Nat)(u:T3a α),i<j->f[i]?=Mw u->u.2.1<c)/\vAt f c=Mw t.2.2
 | [],lo,hi,c,h,h1,h2=>by have:lo=hi+1:=h;lia
 |t :: r,lo,hi,c,h,h1,h2=>by
  by_cases q:c<=t.2.1
  .exact⟨0,t,U,by have:=h.1;lia,q,λi u hi=>MG hi (CQ i),by unfold vAt;rw[lH (by simpa using q)];rfl⟩
  .obtain⟨j,u,a,b,d,e,v⟩:=Ch3.at (f:=r) h.2.2 (c:=c) (by lia) h2;refine⟨j+1,u,by simpa using a,b,d,λi w hi g=>?_,by unfold vAt at v⊢;rw[lI (by simpa using q)];exact v⟩
   match i,g with
   |0,g=>cases g;lia
   |i+1,g=>exact e i w (by lia) (by simpa using g)
end
def lay{L:Type} [DecidableEq L] (g:List Int->L):(cols:List (List (Int×Int)))->List Int->Fm L cols.length
 | [],ah=>g ah
 |c :: cs,ah=>eN (c.map λp=>((p.1,p.2,lay g cs (ah++[p.1])):T3a (Fm L cs.length)))
def ShS{α:Type}(S:α->List (Int×Int)->Prop)(f:List (T3a α))(ps:List (Int×Int)):Prop:=∃p r,ps=p :: r/\f≠[]/\Ch3 f p.1 p.2/\Nbx (f.map (·.2.2))/\∀t∈f,S t.2.2 r
def cc{L:Type}:(n:Nat)->Fm L n->List (Int×Int)->Prop
 |0,_,ps=>ps=[]
 |n+1,f,ps=>ShS (cc n) f ps
def Aa:List (Int×Int)->Int->Int->Prop
 | [],lo,hi=>lo=hi+1
 |p :: r,lo,hi=>p.1=lo/\lo<=p.2/\Aa r (p.2+1) hi
theorem yq{α:Type}(F:Int×Int->α):∀{c:List (Int×Int)}{lo hi:Int},Aa c lo hi->Ch3 (c.map λp=>((p.1,p.2,F p):T3a α)) lo hi
 | [],lo,hi,h=>h
 |p :: r,lo,hi,h=>⟨h.1,h.2.1,yq F h.2.2⟩
inductive gi:List (List (Int×Int))->List (Int×Int)->Prop
 |nil:gi [] []
 |cons {c:List (Int×Int)}{cs:List (List (Int×Int))}{p:Int×Int}{ps:List (Int×Int)}:c≠[]->Aa c p.1 p.2->gi cs ps->gi (c :: cs) (p :: ps)
theorem nj{L:Type} [DecidableEq L] {g:List Int->L}{a:List (List (Int×Int))}{ps:List (Int×Int)}(h:gi a ps):∀b:List Int,cc a.length (lay g a b) ps:=by
 induction h with
 |nil=>intro b;exact(rfl:([]:List (Int×Int))=[])
 | @cons c cs p ps hne hc _ ih =>
  intro b;have k:=eA (yq (λq=>lay g cs (b++[q.1])) hc);refine⟨p,ps,U,k.ne (by simpa using hne),k.ch,k.nb,λt d=>?_⟩;obtain⟨i,f,e⟩:=k.mem t d;obtain⟨q,_,rfl⟩:=eK.mp f;rw[←e];exact ih _
def cj(a:List (Int×Int))(c:Int):Int:=((a.find? λp=>decide (c<=p.2)).map (·.1)).getD 0
theorem vf{α:Type}(F:Int×Int->α)(c:Int):∀a:List (Int×Int),vAt (a.map λp=>((p.1,p.2,F p):T3a α)) c=(a.find? λp=>decide (c<=p.2)).map F
 | []=>rfl
 |p :: r=>by
  unfold vAt;rw[jS];by_cases q:c<=p.2
  .rw[lH (by simpa using q),lH (by simpa using q)];rfl
  .rw[lI (by simpa using q),lI (by simpa using q)];exact vf F c r
inductive Tel{L:Type}:(n:Nat)->Fm L n->List Int->L->Prop
 |nil (x:L):Tel 0 x [] x
 |cons {n:Nat}{f:List (T3a (Fm L n))}{c:Int}{cs:List Int}{x:L}{j:Nat}{t:T3a (Fm L n)}:f[j]?=Mw t->c<=t.2.1->(∀(i:Nat)(u:T3a (Fm L n)),i<j->f[i]?=Mw u->u.2.1<c)->Tel n t.2.2 cs x->Tel (n+1) f (c :: cs) x
inductive InB:List Int->List (Int×Int)->Prop
 |nil:InB [] []
 |cons {c:Int}{cs:List Int}{p:Int×Int}{ps:List (Int×Int)}:p.1<=c->c<=p.2->InB cs ps->InB (c :: cs) (p :: ps)
theorem mD{L:Type} [DecidableEq L] {g:List Int->L}{a:List (List (Int×Int))}{ps:List (Int×Int)}(h:gi a ps):∀(d b:List Int),InB b ps->Tel a.length (lay g a d) b (g (d++List.zipWith cj a b)):=by
 induction h with
 |nil=>intro d b e;cases e;rw[List.zipWith_nil_left,jQ];exact .nil _
 | @cons c a p ps hne hc _ ih =>
  intro d b e;cases e with
  | @cons x b _ _ h1 h2 e =>
   have k:=eA (yq (λq=>lay g a (d++[q.1])) hc);obtain⟨j,t,o,r,n,m,f⟩:=k.ch.at h1 h2;rw[k.va,vf]at f;cases e6:c.find? (λp=>decide (x<=p.2)) with
   |none=>rw[e6]at f;cases f
   |some q =>
    rw[e6]at f;have l:lay g a (d++[q.1])=t.2.2:=Option.some.inj f;have i:cj c x=q.1:=by unfold cj;rw[e6];rfl
    refine .cons o n m ?_;rw[←l,List.zipWith_cons_cons,i];have:=ih (d++[q.1]) b e;rw[rF]at this;exact this
def FmL{α:Type}(R:α->V->Prop)(H:Hp)(f:List (T3a α))(xs:List V):Prop:=xs.length=f.length/\∀(i:Nat)(t:T3a α),f[i]?=Mw t->∃(r:Js)(u:V),xs[i]?=Mw (.ref r)/\H r=Mw (.tup [.int t.1,.int t.2.1,u])/\R t.2.2 u
def mf(K:W.Frag)(H:Hp):Prop:=∀(r:Js)(b a:List V),SqT K H r b->SqT K H r a->b=a
inductive eO(K:W.Frag)(H:Hp):Nat->V->V->Bool->Prop where
 |of {n:Nat}{x y:V}{b:Bool}(h:DEq K H n x y b):eO K H n x y b
 |ti {n:Nat}{a:Js}{xs:List V}{i:Int}(h:SqT K H a xs):eO K H n (.ref a) (.int i) MA
 |it {n:Nat}{a:Js}{xs:List V}{i:Int}(h:SqT K H a xs):eO K H n (.int i) (.ref a) MA
 |tup {n:Nat}{a b:Js}{xs ys:List V}{f:Nat->Bool}(ne:a≠b)(ha:SqT K H a xs)(hb:SqT K H b ys)(h:∀(j:Nat)(x y:V),xs[j]?=Mw x->ys[j]?=Mw y->eO K H n x y (f j)):eO K H (n+1) (.ref a) (.ref b) ((List.range (min xs.length ys.length)).all f && xs.length == ys.length)
theorem eO.mono{K:W.Frag}{H:Hp}{n m:Nat}{x y:V}{b:Bool}(e:eO K H n x y b)(h:n<=m):eO K H m x y b:=by
 induction e generalizing m with
 |of e=>exact .of (e.mono h)
 |ti e=>exact .ti e
 |it e=>exact .it e
 |tup ne d c _ a =>
  obtain⟨m,rfl⟩:∃k,m=k+1:=⟨m-1,by lia⟩;exact .tup ne d c λj x y g f=>a j x y g f (by lia)
theorem Dv(I:Inv X MC σ H s):mf X.K H:=λr p m l k=>by
 obtain⟨c,h,j,_⟩:=I.tuple l;obtain⟨a,f,i,_⟩:=I.tuple k;obtain⟨o,e,_,n,d⟩:=j;obtain⟨q,g,_,t,b⟩:=i;rw[e]at g;cases g;rw[d]at b;injection b with b;have:c=a:=by simpa using b
 rw[←this]at f;exact Vals.inj h f
theorem eO.at{n:Nat}{x y:V}{b:Bool}(e:eO X.K H n x y b)(I:Inv X MC σ H s):∀{A:JA}{u v:Jp},A.units+n<Kv->RelV x u->RelV y v->SeqAt.EqAt A s u v b:=by
 induction e with
 |of e=>intro A u v l k g;exact e.at I l k g
 | @ti n a xs i h =>
  intro A u v l k g;cases (show u=Jp.ref a from k);obtain⟨t,rfl⟩:=g;obtain⟨c,r,p,_⟩:=I.tuple h;exact SeqAt.EqAt.tuple_int i t (show s.heap.IsTuple a c.toArray from p) (by lia)
 | @it n a xs i h =>
  intro A u v l k g;obtain⟨t,rfl⟩:=k;cases (show v=Jp.ref a from g);obtain⟨c,r,p,_⟩:=I.tuple h;exact SeqAt.EqAt.int_tuple i t (show s.heap.IsTuple a c.toArray from p) (by lia)
 | @tup n a b xs ys f ne ha hb h ih =>
  intro A u v l k g;cases (show u=Jp.ref a from k);cases (show v=Jp.ref b from g);obtain⟨c,r,p,_⟩:=I.tuple ha;obtain⟨d,m,z,_⟩:=I.tuple hb;have G:=r.length;have F:=m.length;have o:=SeqAt.RcAt.tuples (A:=A) (e:=f) (show s.heap.IsTuple a c.toArray from p) (show s.heap.IsTuple b d.toArray from z) (by lia) (λj C B=>by
   obtain⟨x,E,w⟩:=eJ r C;obtain⟨y,D,q⟩:=eJ m B;exact ih j x y E D (by show A.units+1+n<Kv;lia) w q)
  rw[show c.toArray.size=xs.length by simp only[en];lia,show d.toArray.size=ys.length by simp only[en];lia]at o;exact SeqAt.EqAt.of_refs ne o
inductive qD(K:W.Frag)(neg:Bool)(x:V)(y:V)(H:Hp)(Q:VK):Prop
 |tt (a b:Js)(xs ys:List V)(_:x=.ref a)(_:y=.ref b)(_:SqT K H a xs)(_:SqT K H b ys)(f:Nat->Bool)(_:(∀(j:Nat)(x y:V),xs[j]?=Mw x->ys[j]?=Mw y->eO K H 60 x y (f j)))(_:Q (.bl (if neg then !((List.range (min xs.length ys.length)).all f && xs.length == ys.length) else(List.range (min xs.length ys.length)).all f && xs.length == ys.length)) H):qD K neg x y H Q
 |ti (a:Js)(xs:List V)(i:Int)(_:x=.ref a)(_:y=.int i)(_:SqT K H a xs)(_:Q (.bl neg) H):qD K neg x y H Q
 |it (a:Js)(xs:List V)(i:Int)(_:x=.int i)(_:y=.ref a)(_:SqT K H a xs)(_:Q (.bl neg) H):qD K neg x y H Q
theorem rS{MC:List (Js×Obj)}{σ:St}{H:Hp}{s:JB}{A:JA}{xs ys:List V}{a its':List Jp}{f:Nat->Bool}(I:Inv X MC σ H s)(h:A.units+60<Kv)(r:Vals xs a)(d:Vals ys its')
  (hf:∀(j:Nat)(x y:V),xs[j]?=Mw x->ys[j]?=Mw y->eO X.K H 60 x y (f j)):∀j (c:j<a.toArray.size)(b:j<its'.toArray.size),SeqAt.EqAt A s a.toArray[j] its'.toArray[j] (f j):=λj c b=>by
 obtain⟨x,k,g⟩:=eJ r c;obtain⟨y,i,e⟩:=eJ d b;exact(hf j x y k i).at I h g e
theorem B6{k:Nat}(E:bY k X.A):OpR X (Km .Eq) (qD X.K MA):=by
 intro MC s σ H x y v u Q I n m h;have L:=E.units;cases h with
 |tt a b o J j g d G f F q =>
  subst j g;cases (show v=Jp.ref a from n);cases (show u=Jp.ref b from m);obtain⟨c,r,p,_⟩:=I.tuple d;obtain⟨l,z,B,_⟩:=I.tuple G;have D:=r.length;have C:=z.length;refine SeqAt.eq_tupleAt (e:=f) (show s.heap.IsTuple a c.toArray from p) (show s.heap.IsTuple b l.toArray from B) (by lia) (rS I (by show X.A.units+1+60<Kv;lia) r z F) ⟨.bl _,H,I,U,?_⟩;simp only[en];rw[←D,←C];exact q
 |ti a o i j g d q =>
  subst j g;cases (show v=Jp.ref a from n);obtain⟨t,rfl⟩:=m;obtain⟨c,r,p,_⟩:=I.tuple d;exact SeqAt.RcAt.tuple_int i t (show s.heap.IsTuple a c.toArray from p) (by lia) X.prog X.w X.xe _ ⟨.bl _,H,I,U,q⟩
 |it a o i j g d q =>
  subst j g;obtain⟨t,rfl⟩:=n;cases (show u=Jp.ref a from m);obtain⟨c,r,p,_⟩:=I.tuple d;exact SeqAt.RcAt.int_tuple i t (show s.heap.IsTuple a c.toArray from p) (by lia) X.prog X.w X.xe _ ⟨.bl _,H,I,U,q⟩
theorem B7{k:Nat}(E:bY k X.A):OpR X (Km .NotEq) (qD X.K Mz):=by
 intro MC s σ H x y v u Q I n m h;have L:=E.units;cases h with
 |tt a b o J j g d G f F q =>
  subst j g;cases (show v=Jp.ref a from n);cases (show u=Jp.ref b from m);obtain⟨c,r,p,_⟩:=I.tuple d;obtain⟨l,z,B,_⟩:=I.tuple G;have D:=r.length;have C:=z.length;refine SeqAt.RcNeAt.tuples (e:=f) (show s.heap.IsTuple a c.toArray from p) (show s.heap.IsTuple b l.toArray from B) (by lia) (rS I (by show X.A.units+1+60<Kv;lia) r z F) X.prog X.w X.xe _ ⟨.bl _,H,I,U,?_⟩;simp only[en];rw[←D,←C];exact q
 |ti a o i j g d q =>
  subst j g;cases (show v=Jp.ref a from n);obtain⟨t,rfl⟩:=m;obtain⟨c,r,p,_⟩:=I.tuple d;exact SeqAt.RcNeAt.tuple_int i t (show s.heap.IsTuple a c.toArray from p) (by lia) X.prog X.w X.xe _ ⟨.bl _,H,I,U,q⟩
 |it a o i j g d q =>
  subst j g;obtain⟨t,rfl⟩:=n;cases (show u=Jp.ref a from m);obtain⟨c,r,p,_⟩:=I.tuple d;exact SeqAt.RcNeAt.int_tuple i t (show s.heap.IsTuple a c.toArray from p) (by lia) X.prog X.w X.xe _ ⟨.bl _,H,I,U,q⟩
def rFm(K:W.Frag):R2:=λx y H Q=>mf K H->rEq x y H Q\/qD K MA x y H Q
def Dw(K:W.Frag):R2:=λx y H Q=>mf K H->rNe x y H Q\/qD K Mz x y H Q
structure Lfp(K:W.Frag)(L:Type) [DecidableEq L] where
 R:Hp->L->V->Prop
 mono:∀{H H':Hp}{x:L}{v:V},bM H H'->R H x v->R H' x v
 inj:∀{H:Hp}{x y:L}{v:V},mf K H->R H x v->R H y v->x=y
 deq:∀{H:Hp}{x y:L}{u v:V},mf K H->R H x u->R H y v->eO K H 2 u v (MB (x=y))
 eq:∀{H:Hp}{x y:L}{u v:V}{Q:VK},mf K H->R H x u->R H y v->Q (.bl (MB (x=y))) H->rEq u v H Q\/qD K MA u v H Q
 ne:∀{H:Hp}{x y:L}{u v:V}{Q:VK},mf K H->R H x u->R H y v->Q (.bl (!MB (x=y))) H->rNe u v H Q\/qD K Mz u v H Q
def FmV{K:W.Frag}{L:Type} [DecidableEq L] (A:Lfp K L)(H:Hp):(n:Nat)->Fm L n->V->Prop
 |0,x,v=>A.R H x v
 |n+1,f,v=>∃(a:Js)(xs:List V),v=.ref a/\H a=Mw (.tup xs)/\FmL (FmV A H n) H f xs
theorem FmL.mono{α:Type}{R d:α->V->Prop}{H H':Hp}{f:List (T3a α)}{xs:List V}(h:FmL R H f xs)(k:∀x u,R x u->d x u)(s:bM H H'):FmL d H' f xs:=⟨h.1,λi t e=>by
 obtain⟨r,u,a,b,c⟩:=h.2 i t e;exact⟨r,u,a,s _ _ b,k _ _ c⟩⟩
theorem FmV.mono{K:W.Frag}{L:Type} [DecidableEq L] {A:Lfp K L}{H H':Hp}(s:bM H H'):∀{n:Nat}{f:Fm L n}{v:V},FmV A H n f v->FmV A H' n f v
 |0,_,_,h=>A.mono s h
 |n+1,_,_,h=>by
  obtain⟨a,xs,d,c,b⟩:=h;exact⟨a,xs,d,s _ _ c,b.mono (λ_ _ q=>FmV.mono s q) s⟩
theorem FmL.nil{α:Type}{R:α->V->Prop}{H:Hp}:FmL R H [] []:=⟨U,λi t e=>by simp at e⟩
theorem FmL.snoc{α:Type}{R:α->V->Prop}{H:Hp}{f:List (T3a α)}{xs:List V}{t:T3a α}{r:Js}{u:V}(h:FmL R H f xs)(k:H r=Mw (.tup [.int t.1,.int t.2.1,u]))(q:R t.2.2 u):FmL R H (f++[t]) (xs++[.ref r]):=by
 refine⟨by simp[h.1],λi v e=>?_⟩;by_cases hi:i<f.length
 .rw[je hi]at e;obtain⟨j,g,a,b,c⟩:=h.2 i v e;exact⟨j,g,by rw[je (by rw[h.1];exact hi)];exact a,b,c⟩
 .have d:i=f.length:=by
   have:=(IW.mp e).1;simp at this;lia
  subst d;simp at e;subst e;exact⟨r,u,by rw[←h.1];simp,k,q⟩
theorem FmL.init{α:Type}{R:α->V->Prop}{H:Hp}{f:List (T3a α)}{xs:List V}{t:T3a α}(h:FmL R H (f++[t]) xs):∃(ys:List V)(r:Js)(u:V),xs=ys++[.ref r]/\FmL R H f ys/\H r=Mw (.tup [.int t.1,.int t.2.1,u])/\R t.2.2 u:=by
 obtain⟨r,u,a,b,c⟩:=h.2 f.length t (by simp);have g:=h.1;rw[dt,gy]at g;rcases xh xs with d|⟨ys,y,d⟩
 .subst d;simp at g
 .rw[xi]at d;subst d;have j:ys.length=f.length:=by simpa using g
  rw[←j]at a;simp at a;subst a;refine⟨ys,r,u,U,⟨j,λi v e=>?_⟩,b,c⟩;have hi:=(IW.mp e).1;obtain⟨m,l,k,o,n⟩:=h.2 i v (by rw[je hi];exact e);rw[je (by lia)]at k;exact⟨m,l,k,o,n⟩
theorem FmL.inj{α:Type}{R:α->V->Prop}{H:Hp}{f g:List (T3a α)}{xs:List V}(k:∀x y u,R x u->R y u->x=y)(h:FmL R H f xs)(h':FmL R H g xs):f=g:=by
 refine xf λi=>?_
 cases e:f[i]? with
 |none =>
  have:f.length<=i:=List.getElem?_eq_none_iff.mp e;rw[List.getElem?_eq_none_iff.mpr (by rw[←h'.1,h.1];exact this)]
 |some t =>
  have hi:=(IW.mp e).1;obtain⟨j,m⟩:∃j,g[i]?=Mw j:=⟨_,IV (l:=g) (i:=i) (by rw[←h'.1,h.1];exact hi)⟩;obtain⟨r,u,a,b,c⟩:=h.2 i t e;obtain⟨A,s,o,d,n⟩:=h'.2 i _ m;rw[a]at o;cases o;rw[b]at d;obtain⟨z,w,v⟩:=t;obtain⟨D,C,B⟩:=j;simp only at d c n;injection d with d;injection d with d;simp only[List.cons.injEq,V.int.injEq,and_true]at d;obtain⟨q,p,rfl⟩:=d;rw[m,q,p,k _ _ _ c n]
theorem FmV.inj{K:W.Frag}{L:Type} [DecidableEq L] {A:Lfp K L}{H:Hp}(e:mf K H):∀{n:Nat}{f g:Fm L n}{v:V},FmV A H n f v->FmV A H n g v->f=g
 |0,_,_,_,h,h'=>A.inj e h h'
 |n+1,_,_,_,h,h'=>by
  obtain⟨a,xs,l,k,j⟩:=h;obtain⟨o,m,c,b,d⟩:=h';rw[l]at c;cases c;rw[k]at b;cases b;exact FmL.inj (R:=FmV A H n) (λx y u q i=>FmV.inj e q i) j d
theorem FmL.deq{α:Type} [DecidableEq α] {R:α->V->Prop}{K:W.Frag}{H:Hp}{m:Nat}{f g:List (T3a α)}{xs ys:List V}(inj:∀x y u,R x u->R y u->x=y)(k:∀x y u v,R x u->R y v->eO K H m u v (MB (x=y)))
  (h:FmL R H f xs)(h':FmL R H g ys):(∀(j:Nat)(x y:V),xs[j]?=Mw x->ys[j]?=Mw y->eO K H (m+1) x y (MB (f[j]?=g[j]?)))/\((List.range (min xs.length ys.length)).all (λj=>decide (f[j]?=g[j]?)) && xs.length == ys.length)=MB (f=g):=by
 refine⟨λj x y l o=>?_,?_⟩
 .have P:j<f.length:=by rw[←h.1];exact(IW.mp l).1
  have E:j<g.length:=by rw[←h'.1];exact(IW.mp o).1
  have J:=IV P;have I:=IV E;obtain⟨r,u,a,b,c⟩:=h.2 j _ J;obtain⟨N,F,L,p,D⟩:=h'.2 j _ I;rw[l]at a;cases a;rw[o]at L;cases L;rw[J,I];generalize f[j]=t at *
  generalize g[j]=t' at *
  obtain⟨w,s,B⟩:=t;obtain⟨A,z,C⟩:=t';simp only at b p c D;by_cases G:r=N
  .subst G;rw[b]at p;injection p with p;injection p with p;simp only[List.cons.injEq,V.int.injEq,and_true]at p;obtain⟨z1,M,rfl⟩:=p;have:decide (Mw (w,s,B)=Mw (A,z,C))=true:=by rw[z1,M,inj _ _ _ c D];simp
   rw[this];exact .of (.same r)
  .have d:=eO.tup (K:=K) (H:=H) (n:=m) (f:=λi=>match i with|0=>decide (w=A)|1=>decide (s=z)|_=>decide (B=C)) G (SqT.of b) (SqT.of p) λi x y l o=>?_
   .have e:((List.range (min [V.int w,V.int s,u].length [V.int A,V.int z,F].length)).all (λi=>match i with|0=>decide (w=A)|1=>decide (s=z)|_=>decide (B=C)) && [V.int w,V.int s,u].length == [V.int A,V.int z,F].length)=MB (Mw (w,s,B)=Mw (A,z,C)):=by
     show((List.range 3).all (λi=>match i with|0=>decide (w=A)|1=>decide (s=z)|_=>decide (B=C)) && Mz)=_;have:List.range 3=[0,1,2]:=rfl;rw[this];simp only[ri,List.all_nil,Bool.and_true,Option.some.injEq,Prod.mk.injEq,Bool.decide_and]
    rw[e]at d;exact d
   .match i,l,o with
    |0,l,o=>cases l;cases o;exact .of (.flat U U)
    |1,l,o=>cases l;cases o;exact .of (.flat U U)
    |2,l,o=>cases l;cases o;exact k _ _ _ _ c D
    |i+3,l,_=>simp at l
 .rw[h.1,h'.1];by_cases e:f=g
  .subst e;simp
  .rw[MI e];by_cases O:f.length=g.length
   .rw[Bool.and_eq_false_iff];left
    refine IY.mpr λq=>e (xf λi=>?_)
    rw[jO]at q;by_cases hi:i<f.length
    .exact MJ (q i (jN.mpr (by lia)))
    .rw[List.getElem?_eq_none_iff.mpr (by lia),List.getElem?_eq_none_iff.mpr (by lia)]
   .simp[O]
theorem FmV.deq{K:W.Frag}{L:Type} [DecidableEq L] {A:Lfp K L}{H:Hp}(j:mf K H):∀{n:Nat}{f g:Fm L n}{u v:V},FmV A H n f u->FmV A H n g v->eO K H (2*n+2) u v (MB (f=g))
 |0,f,g,_,_,h,h'=>A.deq j h h'
 |n+1,f,g,_,_,h,h'=>by
  obtain⟨a,xs,rfl,l,k⟩:=h;obtain⟨b,r,rfl,c,i⟩:=h';obtain⟨p,o⟩:=FmL.deq (R:=FmV A H n) (K:=K) (m:=2*n+2) (λx y u q d=>FmV.inj j q d) (λx y u v q d=>FmV.deq j q d) k i;by_cases e:a=b
  .subst e;rw[l]at c;cases c;have:f=g:=FmL.inj (R:=FmV A H n) (λx y u q d=>FmV.inj j q d) k i;rw[MH this];exact .of (.same a)
  .have:=eO.tup e (SqT.of l) (SqT.of c) p;rw[o]at this;exact this
theorem pP{f:Jp->Jp->Sem Jp}{r e:R2}(a:OpR X f r)(b:OpR X f e):OpR X f (λx y H Q=>r x y H Q\/e x y H Q):=λMC s σ H x y v u Q I d c h=>h.elim (a MC s σ H x y v u Q I d c) (b MC s σ H x y v u Q I d c)
theorem B8{k:Nat}(c:bY k X.A):OpR X (Km .Eq) (rFm X.K):=λMC s σ H x y v u Q I b a h=>pP bA (B6 c) MC s σ H x y v u Q I b a (h (Dv I))
theorem yr{k:Nat}(c:bY k X.A):OpR X (Km .NotEq) (Dw X.K):=λMC s σ H x y v u Q I b a h=>pP lQ (B7 c) MC s σ H x y v u Q I b a (h (Dv I))
theorem FmV.eq_to{K:W.Frag}{L:Type} [DecidableEq L] {A:Lfp K L}{H:Hp}{Q:VK}:∀{n:Nat}{f g:Fm L n}{u v:V},n<=20->FmV A H n f u->FmV A H n g v->Q (.bl (MB (f=g))) H->rFm K u v H Q
 |0,f,g,_,_,_,h,h',q=>λc=>A.eq c h h' q
 |n+1,f,g,_,_,hn,h,h',q=>λc=>by
  obtain⟨a,xs,rfl,o,l⟩:=h;obtain⟨b,k,rfl,i,e⟩:=h';obtain⟨t,s⟩:=FmL.deq (R:=FmV A H n) (K:=K) (m:=2*n+2) (λx y u q d=>FmV.inj c q d) (λx y u v q d=>FmV.deq c q d) l e;refine .inr <| .tt a b xs k U U (SqT.of o) (SqT.of i) _ (λj x y r p=>(t j x y r p).mono (by lia)) ?_;rw[MD (by decide),s];exact q
theorem yt(x y:Int):decide (V.int x=V.int y)=MB (x=y):=by
 by_cases e:x=y
 .rw[MH e,e];simp
 .rw[MI e];exact MI λz=>e (V.int.inj z)
theorem qE(x y:Int):eqV (.int x) (.int y)=MB (x=y):=by
 show((x:Int) == (y:Int))=MB (x=y);by_cases e:x=y
 .rw[MH e,e];simp
 .rw[MI e];exact beq_eq_false_iff_ne.mpr e
def yu{K:W.Frag}:Lfp K Int where
 R _ x v:=v=.int x
 mono _ h:=h
 inj _ h h':=V.int.inj (h.symm.trans h')
 deq {H x y u v} _ h h':=by
  cases h;cases h';rw[←qE];exact .of (.flat U U)
 eq {H x y u v Q} _ h h' q:=by
  cases h;cases h';refine .inl ⟨U,?_⟩;rw[yt];exact q
 ne {H x y u v Q} _ h h' q:=by
  cases h;cases h';refine .inl ⟨U,?_⟩;rw[yt];exact q
abbrev SI2:=Str×Int
def tp2(p:SI2):List V:=[.str p.1,.int p.2]
theorem Ab{p q:SI2}(h:tp2 p=tp2 q):p=q:=by
 injection h with b a;injection a with a c;exact Prod.ext (V.str.inj b) (V.int.inj a)
def Vd(K:W.Frag)(H:Hp)(r:Js)(x:SI2):Prop:=H r=Mw (.tup (tp2 x))\/ModT K r (tp2 x)
theorem Vd.sq{K:W.Frag}{H:Hp}{r:Js}{x:SI2}(h:Vd K H r x):SqT K H r (tp2 x):=h.elim (λh=>SqT.of h) λh=>h.sq H
theorem Vd.mono{K:W.Frag}{H H':Hp}{r:Js}{x:SI2}(s:bM H H')(h:Vd K H r x):Vd K H' r x:=h.imp (λh=>s _ _ h) id
theorem Vd.inj{K:W.Frag}{H:Hp}{r:Js}{x y:SI2}(a:mf K H)(h:Vd K H r x)(h':Vd K H r y):x=y:=Ab (a r _ _ h.sq h'.sq)
theorem yv(x y:Str):eqV (.str x) (.str y)=MB (x=y):=by unfold eqV;rw[Bool.eq_iff_iff];simp
def fSI(x y:SI2)(j:Nat):Bool:=if j=0 then decide (x.1=y.1)else decide (x.2=y.2)
theorem qF(x y:SI2):((List.range (min (tp2 x).length (tp2 y).length)).all (fSI x y) && (tp2 x).length == (tp2 y).length)=MB (x=y):=by
 show((List.range 2).all (fSI x y) && (2 == 2:Bool))=_;obtain⟨d,c⟩:=x;obtain⟨b,a⟩:=y;unfold fSI;by_cases f:d=b <;> by_cases e:c=a <;> simp[ll,f,e]
theorem uq{K:W.Frag}{H:Hp}{n:Nat}{x y:SI2}(j:Nat)(u v:V)(a:(tp2 x)[j]?=Mw u)(b:(tp2 y)[j]?=Mw v):eO K H n u v (fSI x y j):=by
 match j,a,b with
 |0,a,b =>
  cases a;cases b;show eO K H n _ _ (MB (x.1=y.1));rw[←yv];exact .of (.flat U U)
 |1,a,b =>
  cases a;cases b;show eO K H n _ _ (MB (x.2=y.2));rw[←qE];exact .of (.flat U U)
 |j+2,a,_=>simp[tp2]at a
theorem Vd.deq{K:W.Frag}{H:Hp}{n:Nat}{a b:Js}{x y:SI2}(c:mf K H)(h:Vd K H a x)(h':Vd K H b y):eO K H (n+1) (.ref a) (.ref b) (MB (x=y)):=by
 by_cases e:a=b
 .subst e;rw[MH (Vd.inj c h h')];exact .of (.same a)
 .have:=eO.tup (n:=n) e h.sq h'.sq (f:=fSI x y) uq;rw[qF]at this;exact this
def LVd{K:W.Frag}:Lfp K SI2 where
 R H x v:=∃r,v=.ref r/\Vd K H r x
 mono s:=λ⟨r,e,h⟩=>⟨r,e,h.mono s⟩
 inj {H x y v} hT h h':=by
  obtain⟨r,rfl,h⟩:=h;obtain⟨a,e,h'⟩:=h';cases e;exact Vd.inj hT h h'
 deq {H x y u v} hT h h':=by
  obtain⟨r,rfl,h⟩:=h;obtain⟨a,rfl,h'⟩:=h';exact Vd.deq (n:=1) hT h h'
 eq {H x y u v Q} hT h h' q:=by
  obtain⟨r,rfl,h⟩:=h;obtain⟨a,rfl,h'⟩:=h';refine .inr (.tt r a _ _ U U h.sq h'.sq (fSI x y) uq ?_);rw[MD (by decide),qF];exact q
 ne {H x y u v Q} hT h h' q:=by
  obtain⟨r,rfl,h⟩:=h;obtain⟨a,rfl,h'⟩:=h';refine .inr (.tt r a _ _ U U h.sq h'.sq (fSI x y) uq ?_);rw[ME U,qF];exact q
def PdV(K:W.Frag)(H:Hp)(t:Js)(p:SI2×SI2):Prop:=∃a b,H t=Mw (.tup [.ref a,.ref b])/\Vd K H a p.1/\Vd K H b p.2
theorem PdV.mono{K:W.Frag}{H H':Hp}{t:Js}{p:SI2×SI2}(s:bM H H')(h:PdV K H t p):PdV K H' t p:=by obtain⟨a,b,e,d,c⟩:=h;exact⟨a,b,s _ _ e,d.mono s,c.mono s⟩
def fPd(x y:SI2×SI2)(j:Nat):Bool:=if j=0 then decide (x.1=y.1)else decide (x.2=y.2)
theorem qG(x y:SI2×SI2)(a b c d:V):((List.range (min [a,b].length [c,d].length)).all (fPd x y) && [a,b].length == [c,d].length)=MB (x=y):=by
 show((List.range 2).all (fPd x y) && (2 == 2:Bool))=_;obtain⟨h,g⟩:=x;obtain⟨f,e⟩:=y;unfold fPd;by_cases j:h=f <;> by_cases i:g=e <;> simp[ll,j,i]
theorem ur{K:W.Frag}{H:Hp}{n:Nat}{x y:SI2×SI2}{a b c d:Js}(g:mf K H)(l:Vd K H a x.1)(k:Vd K H b x.2)(i:Vd K H c y.1)(h:Vd K H d y.2)(j:Nat)(u v:V)(e:[V.ref a,V.ref b][j]?=Mw u)(f:[V.ref c,V.ref d][j]?=Mw v):eO K H (n+1) u v (fPd x y j):=by
 match j,e,f with
 |0,e,f=>cases e;cases f;exact Vd.deq g l i
 |1,e,f=>cases e;cases f;exact Vd.deq g k h
 |j+2,e,_=>simp at e
theorem nq{α:Type} [DecidableEq α] (x y:α):decide (Mw x=Mw y)=MB (x=y):=by
 by_cases e:x=y
 .rw[MH e,e];exact MH U
 .rw[MI e];exact MI λz=>e (Option.some.inj z)
def RPd(K:W.Frag)(H:Hp):Option (SI2×SI2)->V->Prop
 |none,v=>v=.int 0
 |some p,v=>∃t,v=.ref t/\PdV K H t p
def LPd{K:W.Frag}:Lfp K (Option (SI2×SI2)) where
 R:=RPd K
 mono {H H' x v} s h:=by
  cases x with
  |none=>exact h
  |some p=>obtain⟨t,e,h⟩:=h;exact⟨t,e,h.mono s⟩
 inj {H x y v} hT h h':=by
  cases x with
  |none =>
   cases y with
   |none=>rfl
   |some p=>obtain⟨t,e,_⟩:=h';rw[show v=.int 0 from h]at e;cases e
  |some p =>
   obtain⟨t,rfl,a,b,e,j,i⟩:=h;cases y with
   |none=>cases (show V.ref t=.int 0 from h')
   |some q =>
    obtain⟨k,g,r,o,l,d,c⟩:=h';cases g;rw[e]at l;cases l;rw[Prod.ext (Vd.inj hT j d) (Vd.inj hT i c)]
 deq {H x y u v} hT h h':=by
  cases x with
  |none =>
   cases (show u=.int 0 from h);cases y with
   |none=>cases (show v=.int 0 from h');exact .of (.flat U U)
   |some p=>obtain⟨t,rfl,a,b,e,_⟩:=h';exact .it (SqT.of e)
  |some p =>
   obtain⟨t,rfl,a,b,e,j,i⟩:=h;cases y with
   |none=>cases (show v=.int 0 from h');exact .ti (SqT.of e)
   |some q =>
    obtain⟨k,rfl,r,o,g,d,c⟩:=h';rw[nq];by_cases w:t=k
    .subst w;rw[e]at g;cases g;rw[MH (Prod.ext (Vd.inj hT j d) (Vd.inj hT i c))];exact .of (.same t)
    .have:=eO.tup (n:=1) w (SqT.of e) (SqT.of g) (f:=fPd p q) (ur (n:=0) hT j i d c);rw[qG]at this;exact this
 eq {H x y u v Q} hT h h' q:=by
  cases x with
  |none =>
   cases (show u=.int 0 from h);cases y with
   |none=>cases (show v=.int 0 from h');exact .inl ⟨U,q⟩
   |some p=>obtain⟨t,rfl,a,b,e,_⟩:=h';exact .inr (.it t _ 0 U U (SqT.of e) q)
  |some p =>
   obtain⟨t,rfl,a,b,e,j,i⟩:=h;cases y with
   |none=>cases (show v=.int 0 from h');exact .inr (.ti t _ 0 U U (SqT.of e) q)
   |some m =>
    obtain⟨k,rfl,r,o,g,d,c⟩:=h';refine .inr (.tt t k _ _ U U (SqT.of e) (SqT.of g) (fPd p m) (ur (n:=59) hT j i d c) ?_);rw[MD (by decide),qG,←nq];exact q
 ne {H x y u v Q} hT h h' q:=by
  cases x with
  |none =>
   cases (show u=.int 0 from h);cases y with
   |none=>cases (show v=.int 0 from h');exact .inl ⟨U,q⟩
   |some p=>obtain⟨t,rfl,a,b,e,_⟩:=h';exact .inr (.it t _ 0 U U (SqT.of e) q)
  |some p =>
   obtain⟨t,rfl,a,b,e,j,i⟩:=h;cases y with
   |none=>cases (show v=.int 0 from h');exact .inr (.ti t _ 0 U U (SqT.of e) q)
   |some m =>
    obtain⟨k,rfl,r,o,g,d,c⟩:=h';refine .inr (.tt t k _ _ U U (SqT.of e) (SqT.of g) (fPd p m) (ur (n:=59) hT j i d c) ?_);rw[ME U,qG,←nq];exact q
theorem pQ(p:Pos)(a b:Int)(c:Jp):∀(l:List Jp),TriplesOk l->Mu p (l++[Ke a,Ke b,c])=(Mu p l).or (Mu p [Ke a,Ke b,c])
 | [],_=>rfl
 | .int x t :: .int y u :: d :: rest,h=>by
  have e:=pQ p a b c rest h;show Mu p (.int x t :: .int y u :: d :: (rest++[Ke a,Ke b,c]))=_;rw[Mu,Mu];split
  .rfl
  .exact e
def dD(H:Hp)(P:Js)(L:List (Pos×Str)):Prop:=∃ps,H P=Mw (.tbl ps)/\TriplesOk ps.toList/\∀p∈L,Mu p.1 ps.toList=Mx\/∃(b:Js)(a:Obj),Mu p.1 ps.toList=Mw (.ref b)/\H b=Mw (.frz a TTh)/\rP a p.2
theorem dD.same{H H':Hp}{P:Js}{L:List (Pos×Str)}(h:dD H P L)(s:au H H'):dD H' P L:=by
 obtain⟨ps,i,g,f⟩:=h;exact⟨ps,s _ _ i,g,λp e=>(f p e).imp id λ⟨c,o,a,b,d⟩=>⟨c,o,a,s _ _ b,d⟩⟩
theorem dD.new{H:Hp}{P:Js}{L:List (Pos×Str)}(h:H P=Mw (.tbl #[])):dD H P L:=⟨#[],h,trivial,λ_ _=>.inl U⟩
def Fj(P:Js)(pos:Pos)(qual:Str)(mk:Jp->Js->Jp->Obj)(clos:List (Str×Js)):TE:=λ_ H Q=>∃L,(pos,qual)∈L/\(∀p∈L,p.1.line=pos.line->p.1.col=pos.col->p.2=qual)/\dD H P L /\
 ∀(f e:Js)(d:Obj)(g c:Jp)(H':Hp),H f=Mx->(∀b o,b≠P->H b=Mw o->H' b=Mw o)->H' f=Mw (.frz (mk g e c) TTh)->H' e=Mw (.frz d TTh)->rP d qual->dD H' P L->(∀x y a,clos.lookup x=Mw a->clos.lookup y=Mw a->x=y)->Q (.ref f) H'
theorem yw{params:KJ}{body:JH}{scope:JC}{pos:Pos}{c P:Js}{clos:List (Str×Js)}(Bb:X.env.code=.ref c)
  (C:W.CodeHd X.base c P)(hb:X.base.BuiltinsAt X.mg P)(V:K6 scope X.env=pure clos)(S:∀p∈clos,X.env.cells.lookup p.1=Mw p.2)(Dx:defaultsOf params X.env=([],[]):=by rfl) :
  PE X (.Lambda params body scope pos) (Fj P pos (X.env.qual ++ "<lambda>") (λpm c' ctv=>W.kla_obj "<lambda>" (X.env.qual ++ "<lambda>") params body scope clos pm c' ctv) clos):=by
 intro MC s σ H Q I h;obtain⟨L,hL,b0,⟨ps,r,N,G⟩,k⟩:=h;have B:s.heap.get? P=Mw (W.tabObj ps):=I.hok P _ r;have J:s.heap.Ns Jx X.mg:=I.mod.glob.keeps I.bk;have a8:Jx≠P:=λq=>by
  obtain⟨o,es,ep,e,M,_⟩:=J;rw[q,B]at e;cases e;cases M
 have inj:∀x y a,clos.lookup x=Mw a->clos.lookup y=Mw a->x=y:=λx y a E h2=>I.ok.inj x y a (S _ (mem_of_lookup E)) (S _ (mem_of_lookup h2))
 rcases G _ hL with a7|⟨c',j,hf,K,A⟩
 .refine W.kla_eval Dx (W.kla_makeFunction V I.ok.glob J Bb (C.keeps I.bk) B N a7 a8 (hb.keeps I.bk) λc' ctv h' tk a5 l R Fl O=>?_);obtain⟨b1,j,vs,t,e2,a6,a9,hv⟩:=Fl;cases e2;have T:∀b,s.heap.objs.size<=b->H b=none:=λb f=>I.hok.fresh f
  have Y:P<s.heap.objs.size:=Jt.lt_size B;have a4:c'≠P:=λz=>by rw[z]at l;exact MG Y (Fd.mpr l)
  have g:s.heap.objs.size<=h'.objs.size:=zQ l (BA R);have a3:h'.objs.size≠P:=λz=>by rw[z]at g;exact MG Y (Fd.mpr g)
  have a2:h'.objs.size≠c':=AS R;have m:=T _ g;have K:=T _ l;have i:∀{b:Js}{u:HO},b≠P->H b=Mw u->upd (upd (upd H P (.tbl (ps ++ #[Ke pos.line,Ke pos.col,.ref c']))) c' (.frz j TTh)) h'.objs.size (.frz (W.kla_obj "<lambda>" (X.env.qual ++ "<lambda>") params body scope clos ((X.mg "__name__").getD .none) c' ctv) TTh) b=Mw u:=λ{b u} f e=>by
   rw[az (bp e m),az (bp e K),az f];exact e
  have a0:upd (upd (upd H P (.tbl (ps ++ #[Ke pos.line,Ke pos.col,.ref c']))) c' (.frz j TTh)) h'.objs.size (.frz (W.kla_obj "<lambda>" (X.env.qual ++ "<lambda>") params body scope clos ((X.mg "__name__").getD .none) c' ctv) TTh) P=Mw (.tbl (ps ++ #[Ke pos.line,Ke pos.col,.ref c'])):=by
   rw[az a3.symm,az a4.symm,ab]
  have F:∀{b:Js},H b=Mx->b≠P:=λe z=>by rw[z,r]at e;cases e
  have keep:∀b o,b≠P->s.heap.get? b=Mw o->(h'.push (W.kla_obj "<lambda>" (X.env.qual ++ "<lambda>") params body scope clos ((X.mg "__name__").getD .none) c' ctv)).get? b=Mw o:=λb o f e=>Jt.get?_push_of_some _ (a5 b o f e)
  have un:Un X.fs [] H (upd (upd (upd H P (.tbl (ps ++ #[Ke pos.line,Ke pos.col,.ref c']))) c' (.frz j TTh)) h'.objs.size (.frz (W.kla_obj "<lambda>" (X.env.qual ++ "<lambda>") params body scope clos ((X.mg "__name__").getD .none) c' ctv) TTh)) s.heap (h'.push (W.kla_obj "<lambda>" (X.env.qual ++ "<lambda>") params body scope clos ((X.mg "__name__").getD .none) c' ctv)):=by
   refine⟨λb o e n _ _=>keep b o (F n) e,λb o e n _ _=>⟨o.slots,keep b o (F n) e⟩,λb o e n _=>?_,λb o e _=>?_,λb xs e=>i (λz=>by rw[z,r]at e;cases e) e,λb o u e=>i (λz=>by rw[z,r]at e;cases e) e,λb a1 e=>?_⟩
   .have f:=Jt.lt_size e;rw[az (zA (zW f g)),az (zA (zW f l)),az (F n)];exact n
   .by_cases f:b=P
    .subst f;exact⟨_,Jt.get?_push_of_some _ O⟩
    .exact⟨o,keep b o f e⟩
   .by_cases f:b=P
    .subst f;rw[r]at e;cases e;exact⟨_,a0⟩
    .exact⟨#[],by rw[i f e];simp⟩
  have hok:HOk X.prog X.w (upd (upd (upd H P (.tbl (ps ++ #[Ke pos.line,Ke pos.col,.ref c']))) c' (.frz j TTh)) h'.objs.size (.frz (W.kla_obj "<lambda>" (X.env.qual ++ "<lambda>") params body scope clos ((X.mg "__name__").getD .none) c' ctv) TTh)) (h'.push (W.kla_obj "<lambda>" (X.env.qual ++ "<lambda>") params body scope clos ((X.mg "__name__").getD .none) c' ctv)):=λb u e=>by
   by_cases E:b=h'.objs.size
   .subst E;rw[ab]at e;cases e;exact rO (Jt.get?_push_size _ U)
   rw[az E]at e;by_cases h2:b=c'
   .subst h2;rw[ab]at e;cases e;exact rO (Jt.get?_push_of_some _ a6)
   rw[az h2]at e;by_cases h3:b=P
   .subst h3;rw[ab]at e;cases e;exact Jt.get?_push_of_some _ O
   rw[az h3]at e;refine(I.hok b u e).stay (λd v M q=>keep d v ?_ q) (λd q=>i (λz=>by rw[z,r]at q;cases q) q) λd xs q=>i (λz=>by rw[z,r]at q;cases q) q
   rcases M with rfl|M
   .exact h3
   .exact λz=>by rw[z,r]at M;cases M
  have I2:=I.un (t':=tk) un hok;have A:rP j (X.env.qual ++ "<lambda>"):=⟨vs,t,a9,hv⟩;have Z:upd (upd (upd H P (.tbl (ps ++ #[Ke pos.line,Ke pos.col,.ref c']))) c' (.frz j TTh)) h'.objs.size (.frz (W.kla_obj "<lambda>" (X.env.qual ++ "<lambda>") params body scope clos ((X.mg "__name__").getD .none) c' ctv) TTh) c'=Mw (.frz j TTh):=(az a2.symm).trans ab;refine⟨.ref h'.objs.size,_,I2,U,k _ c' j _ ctv _ m (λb o f e=>i f e) ab Z A ⟨_,a0,?_,λp hp=>?_⟩ inj⟩
  .rw[Array.toList_append];exact TriplesOk_snoc _ _ _ _ N
  .rw[Array.toList_append];show Mu p.1 (ps.toList++[Ke pos.line,Ke pos.col,.ref c'])=Mx\/∃(d:Js)(j:Obj),Mu p.1 (ps.toList++[Ke pos.line,Ke pos.col,.ref c'])=Mw (.ref d)/\_;rw[pQ _ _ _ _ _ N];rcases G p hp with q|⟨d,od,q1,q2,q3⟩
   .rw[q];show Mu p.1 [Ke pos.line,Ke pos.col,.ref c']=Mx\/∃(d:Js)(j:Obj),Mu p.1 [Ke pos.line,Ke pos.col,.ref c']=Mw (.ref d)/\_;by_cases e:p.1.line=pos.line/\p.1.col=pos.col
    .have e3:Mu p.1 [Ke pos.line,Ke pos.col,.ref c']=Mw (.ref c'):=by
      show(if ((pos.line:Int) == (p.1.line:Int) && (pos.col:Int) == (p.1.col:Int))=Mz then Mw (Jp.ref c')else Mx)=_;rw[e.1,e.2];simp
     exact .inr ⟨c',j,e3,Z,by rw[b0 p hp e.1 e.2];exact A⟩
    .left
     show(if ((pos.line:Int) == (p.1.line:Int) && (pos.col:Int) == (p.1.col:Int))=Mz then Mw (Jp.ref c')else Mx)=Mx;rw[MD λz=>e ?_];rw[IZ,beq_iff_eq,beq_iff_eq]at z;lia
   .exact .inr ⟨d,od,by rw[q1];rfl,i (λz=>by rw[z,r]at q2;cases q2) q2,q3⟩
 .refine W.kla_eval Dx (W.kla_makeFunctionHit V I.ok.glob J Bb (C.keeps I.bk) B N hf (hb.keeps I.bk) λctv h' tk kp g=>?_);have m:H h'.objs.size=none:=I.hok.fresh g;have D:au H (upd H h'.objs.size (.frz (W.kla_obj "<lambda>" (X.env.qual ++ "<lambda>") params body scope clos ((X.mg "__name__").getD .none) c' ctv) TTh)):=ag m _;have keep:∀b o,s.heap.get? b=Mw o->(h'.push (W.kla_obj "<lambda>" (X.env.qual ++ "<lambda>") params body scope clos ((X.mg "__name__").getD .none) c' ctv)).get? b=Mw o:=λb o e=>Jt.get?_push_of_some _ (kp b o e)
  have un:Un X.fs [] H (upd H h'.objs.size (.frz (W.kla_obj "<lambda>" (X.env.qual ++ "<lambda>") params body scope clos ((X.mg "__name__").getD .none) c' ctv) TTh)) s.heap (h'.push (W.kla_obj "<lambda>" (X.env.qual ++ "<lambda>") params body scope clos ((X.mg "__name__").getD .none) c' ctv)):=by
   refine⟨λb o e n _ _=>keep b o e,λb o e n _ _=>⟨o.slots,keep b o e⟩,λb o e n _=>?_,λb o e _=>⟨o,keep b o e⟩,λb xs e=>D _ _ e,λb o u e=>D _ _ e,λb a1 e=>⟨#[],by rw[D _ _ e];simp⟩⟩;have f:=Jt.lt_size e;rw[az (zA (zW f g))];exact n
  have hok:HOk X.prog X.w (upd H h'.objs.size (.frz (W.kla_obj "<lambda>" (X.env.qual ++ "<lambda>") params body scope clos ((X.mg "__name__").getD .none) c' ctv) TTh)) (h'.push (W.kla_obj "<lambda>" (X.env.qual ++ "<lambda>") params body scope clos ((X.mg "__name__").getD .none) c' ctv)):=λb u e=>by
   by_cases E:b=h'.objs.size
   .subst E;rw[ab]at e;cases e;exact rO (Jt.get?_push_size _ U)
   rw[az E]at e;exact(I.hok b u e).stay (λd v _ q=>keep d v q) (λd q=>D _ _ q) λd xs q=>D _ _ q
  have I2:=I.un (t':=tk) un hok;exact⟨.ref h'.objs.size,_,I2,U,k _ c' j _ ctv _ m (λb o _ e=>D _ _ e) ab (D _ _ K) A (dD.same ⟨ps,r,N,G⟩ D) inj⟩
theorem B9{CX:CXT}{P:Jr}{w:Jq}{K:W.Frag}{mg:Str->Option Jp}{base:Jt}{k:Nat}{f c':Js}{name qual:Str}{params:KJ}{body:JH}{scope:JC}{cl:List (Str×Js)}{pm ctv:Jp}{N ps:List Str}{sp:Sp}
  (S:qz N ps scope cl)(inj:∀x y c,cl.lookup x=Mw c->cl.lookup y=Mw c->x=y)
  (len:∀vs H Q E,sp vs H Q E->vs.length=ps.length)
  (iu:∀(A:JA)(g:List Env)(s:JB)(H:Hp)(vs:List V)(Q:VK)(E:XK),bY k (A.deeper (W.envX qual scope s.heap.objs.size f (.ref c') cl))->sp vs H Q E ->
   (∃M,H f=Mw (.frz (W.kla_obj name qual params body scope cl pm c' ctv) TTh)/\H c'=Mw (.frz M TTh)/\rP M qual)/\∃ws,fJ H cl ws/\(∀x∈N.drop ps.length,∀v,ws.lookup x=Mw v->scope.names.lookup x=Mw .free) /\
   ((∀c∈cl.map (·.2),base.get? c=Mx/\c ∉ frs g)->∃t:TE,PE (cxC CX P w K mg base N qual scope f (.ref c') cl A g s H E) body t/\t (lA N ps vs ws) (hideL H (cl.map (·.2))) λv H'=>(∀c∈cl.map (·.2),H' c=Mx)->Q v (backL H H' (cl.map (·.2))))) :
  aK P w K mg base CX (k+1) f (W.kla_fn name qual params body scope cl pm (.ref c') ctv) ps sp:=by
 refine⟨len,λA g s H b0 us vs Q E hr l hb r R=>?_⟩;have hl:=len _ _ _ _ R;obtain⟨⟨M,ef,ec,a0,t',a7,a6⟩,ws,Y,uS,xV⟩:=iu A g s H vs Q E (hr.deeper _) R;obtain⟨t,ht,hq⟩:=xV λc D=>by
  obtain⟨o,e⟩:=Y.fzs c D;refine⟨?_,λz=>by rw[l.frf c z]at e;cases e⟩;cases eb:base.get? c with
  |none=>rfl
  |some ob=>rw[(l.bs c ob eb).2]at e;cases e
 have a2:s.heap.NoLimit:=l.mod.nolimit.keeps λb o e=>(l.bs b o e).1
 have eo:s.heap.get? f=Mw (W.kla_obj name qual params body scope cl pm c' ctv):=(l.hok f _ ef).1;have a9:s.heap.get? c'=Mw M:=(l.hok c' _ ec).1;have a3:us.length=ps.length:=by rw[←r.length];exact hl
 have a1:ps.Nodup:=by rw[←S.pre];exact S.nd.sublist (vl _ _)
 have fz:=Y.fzs;have T:∀{x:Str}{c:Js},cl.lookup x=Mw c->c∈cl.map (·.2):=λe=>m8 e
 refine W.kla_callFunE hr.depth eo U S.co S.gen U ⟨c',M,a0,t',U,a9,a7,a6⟩ (hb _ _ _ _ ?_);refine Lb S.nocell (λx n=>S.par x.1 (uR n).1) (λB a5 a4=>?_) S.kind;have j:∀b o,s.heap.get? b=Mw o->B.get? b=Mw o:=λb o e=>a4.extBut b o (zA (Jt.lt_size e)) (Jt.get?_push_of_some _ e)
 refine⟨a2.keeps j,W.kla_codeExpr ?_⟩;have G:∀{b:Js},H b=Mx->hideL H (cl.map (·.2)) b=none:=λh=>gJ h
 have I:Inv (cxC CX P w K mg base N qual scope f (.ref c') cl A g s H E) [] (lA N ps vs ws) (hideL H (cl.map (·.2))) { s with heap:=B,toks:=s.toks+(ps.zip us).length }:=by
  have F:∀b:Js,b ∉ (cxC CX P w K mg base N qual scope f (.ref c') cl A g s H E).ex:=λb z=>MG (show b∈([]:List Js)from z) (by simp)
  refine⟨⟨l.mod,S.kind,U,U,zz _,λx y c L m=>inj x y c L m,λx n=>?_,λx c hf=>?_,λ_=>hr.hd,JA.frames_deeper l.frames,.inr ⟨U,U⟩,λb z=>MG z (F b),λb o e=>⟨(l.bs b o e).1,G (l.bs b o e).2⟩,l.bsz,λb _ _=>F b,λb z=>MG z (F b),l.funs,λb hb=>G (l.frf b hb)⟩,
   rfl,l.bare,Un.kept j,⟨_,a5,λi x v L m h3=>?_⟩,λx c h=>?_,G (l.hok.fresh (zz _)),λx c h=>kv (T h),λp Z=>MG (show p∈([]:List (Js×Obj))from Z) (by simp),(l.hok.hideL fz).kept j,?_⟩
  .have n:scope.names.lookup x=Mw .cell\/scope.names.lookup x=Mw .free:=n;rcases n with n|n
   .exact MG U (S.nocell _ (mem_of_lookup n))
   .exact S.has _ (mem_of_lookup n) U
  .exact MG (show MA=Mz from hf) Bool.false_ne_true
  .have L:N[i]?=Mw x:=L;unfold lA at m;by_cases hi:i<vs.length
   .rw[je (by simpa using hi),gg]at m;have ha:vs[i]?=Mw v:=by
     cases e:vs[i]? with
     |none=>rw[e]at m;cases m
     |some a=>rw[e]at m;cases m;rfl
    obtain⟨u,hu,C⟩:=r.get ha;have Z:ps[i]?=Mw x:=by rw[←S.pre,List.getElem?_take_of_lt (by lia)];exact L
    exact⟨u,C,.inl ⟨S.par x (IX Z),uo a1 Z hu a3⟩⟩
   .rw[lh (by simpa using hi),gg,bx]at m;cases e:(N.drop ps.length)[i-vs.length]? with
    |none=>rw[e]at m;cases m
    |some y =>
     rw[e]at m;have m:Mw (ws.lookup y)=Mw (Mw v):=m;have m:=Option.some.inj m;have hy:y=x:=by
      rw[vr,show ps.length+(i-vs.length)=i by lia,L]at e;exact(Option.some.inj e).symm
     subst hy;obtain⟨c,o,u,e1,e2,e3,C⟩:=Y.2 y v m;exact⟨u,C,.inr ⟨.inr (uS y (IX e) v m),c,e1,o,j _ _ (l.hok c _ e2).1,e3⟩⟩
  .obtain⟨o,v,e,d⟩:=Y.1 c (T h);exact⟨v,o,j _ _ (l.hok c _ e).1,d⟩
  .unfold lA;show _=N.length;have b1:ps.length<=N.length:=by have:=MK List.length S.pre;rw[iP]at this;lia
   rw[dt,bx,bx,ki];lia
 refine JM (ht [] _ (lA N ps vs ws) _ _ I hq) (λu X hs=>?_) λe X hs=>hs
 have a8:∀{O:St}{H':Hp}{v:V}{u:Jp},Inv (cxC CX P w K mg base N qual scope f (.ref c') cl A g s H E) [] O H' X->RelV v u->((∀c∈cl.map (·.2),H' c=Mx)->Q v (backL H H' (cl.map (·.2))))->CE g P w H s Q u X:=λ{O H' v u} J C q=>by
  have un:Un (frs g) [] (hideL H (cl.map (·.2))) H' s.heap X.heap:=J.base;have nc:∀c∈cl.map (·.2),H' c=none:=λc D=>by
   obtain⟨⟨x,d⟩,hm,rfl⟩:=eK.mp D;obtain⟨o,e⟩:=fz d D;exact un.free d o (l.hok d _ e).1 (kv D) (by simp)
  refine⟨v,backL H H' (cl.map (·.2)),J.os,J.bare,un.backL fz,J.hok.backL fz nc λc D o e=>?_,C,q nc⟩;refine un.keep c o (l.hok c _ e).1 (kv D) (λz=>?_) (by simp);rw[l.frf c z]at e;cases e
 obtain⟨v,H',J,C,q⟩:=hs;exact a8 J C q
def Bc(st:JL)(k:Nat):JH:=match st with
 | .Assign _ (.Call _ as _ _) _=>as.getD k (.Name "" ⟨0,0,0,0⟩)
 | .Return (Mw (.Call _ as _ _)) _=>as.getD k (.Name "" ⟨0,0,0,0⟩)
 |_=>.Name "" ⟨0,0,0,0⟩
def qH(e:JH):KJ:=match e with
 | .Lambda a _ _ _=>a
 |_=>gG (.Pass ⟨0,0,0,0⟩)
def oM(e:JH):JH:=match e with
 | .Lambda _ b _ _=>b
 |e=>e
def kx(e:JH):JC:=match e with
 | .Lambda _ _ s _=>s
 |_=>ak (.Pass ⟨0,0,0,0⟩)
def rT(e:JH):Pos:=match e with
 | .Lambda _ _ _ p=>p
 |_=>⟨0,0,0,0⟩
theorem yx{qual:Str}{ps:List Str}{e:JH}{f c':Js}{cl:List (Str×Js)}{pm ctv:Jp}{N:List Str}{k:Nat}{sp:Sp}(S:qz N ps (kx e) cl)(inj:∀x y c,cl.lookup x=Mw c->cl.lookup y=Mw c->x=y)
  (n:∀us:List Jp,us.length=ps.length->Kz (W.kla_fn "<lambda>" qual (qH e) (oM e) (kx e) cl pm (.ref c') ctv) ⟨us,[]⟩=pure (ps.zip us))
  (len:∀vs H Q E,sp vs H Q E->vs.length=ps.length)
  (i:∀(A:JA)(d:List Env)(s:JB)(H:Hp)(vs:List V)(Q:VK)(E:XK),bY k (A.deeper (W.envX qual (kx e) s.heap.objs.size f (.ref c') cl))->sp vs H Q E ->
   ∃ws,jw H f c' (W.kla_obj "<lambda>" qual (qH e) (oM e) (kx e) cl pm c' ctv) qual cl ws/\(∀y∈N.drop ps.length,∀v,ws.lookup y=Mw v->(kx e).names.lookup y=Mw .free) /\
   ((∀c∈cl.map (·.2),base.get? c=Mx/\c ∉ frs d)->∃t:TE,PE (cxC CX0 P w K mg base N qual (kx e) f (.ref c') cl A d s H E).nox (oM e) t/\t (lA N ps vs ws) (hideL H (cl.map (·.2))) λv H'=>(∀c∈cl.map (·.2),H' c=Mx)->Q v (backL H H' (cl.map (·.2))))) :
  HFn P w K mg base (k+1) f sp:=by
 refine⟨_,ps,B9 (name := "<lambda>") (qual:=qual) (c':=c') (params:=qH e) (body:=oM e) (pm:=pm) (ctv:=ctv) S inj len λA d s H vs Q E j g=>?_,.all λus l=>?_⟩
 .obtain⟨ws,⟨z,⟨h,u,r⟩,q⟩,p,o⟩:=i A d s H vs Q E j g;refine⟨⟨h,z,u,r⟩,ws,q,p,λm=>?_⟩;obtain⟨t,a,b⟩:=o m;exact⟨t,a.nox,b⟩
 .exact n us l
inductive TFn(K:W.Frag)(x:Str)(st:JL):Prop
 |mk {f c t:Js}{fd:Kx}(a:W.nsIn K Jx x=Mw (Mw (.ref f)))(F:Fun K x x st f fd)(hc:fd.code=.ref c)(ht:W.tabIn K x=Mw (c,t))
theorem tfn_mk{K:W.Frag}{x:Str}{st:JL}{f c t:Js}{g kV doc pm n:Jp}{d p:Option Js}{b:Array (Option Jp)}{j:Jp}{i:Option Js}{vs:Array Jp}{h:Array (Option Jp)}(a:W.nsIn K Jx x=Mw (Mw (.ref f)))
  (l:K.lookup f=Mw ⟨g,d,.func (W.fnOf x x (gG st) (dI st) (ak st) .none kV doc pm p (.ref c) n),b⟩)(o:W.codeIn K (.ref c) x=Mz)(m:W.keepIn K (.ref f)=Mz)(k:K.lookup c=Mw ⟨j,i,.fields vs,h⟩)(e:vs[11]?=Mw (.ref t)):TFn K x st :=
 ⟨a,fun_mk l o m,U,tab_mk a l k e⟩
theorem mkT{P:Jr}{w:Jq}{K:W.Frag}{mg:Str->Option Jp}{base:Jt}{k:Nat}{x:Str}{ps:List Str}{sp:Sp}{st:JL}(Z:Zb P w K mg base)(h:TFn K x st)(e:∀q∈(W.tabIn K x).toList,W.CodeHd base q.1 q.2/\base.BuiltinsAt mg q.2)
  (O:∀{f c t:Js}{fd:Kx},Fun K x x st f fd->fd.code=.ref c->W.tabIn K x=Mw (c,t)->W.CodeHd base c t/\base.BuiltinsAt mg t->aK P w K mg base CX0 k f fd ps sp)
  (b:∀{f:Js}{fd:Kx},Fun K x x st f fd->Binds K fd ps []:=by trivial):Callee P w K mg base k x ps sp:=by
 cases h with|mk a F i d=>exact⟨_,_,O F i d (e _ (by rw[d];exact fw)),b F,F.kp,Z.g a⟩
theorem vg{K:W.Frag}{x:Str}{t:Js×Js}(h:t∈(W.tabIn K x).toList):W.tabIn K x=Mw t:=by
 cases e:W.tabIn K x with
 |none=>rw[e]at h;cases h
 |some z=>rw[e]at h;rw[iv.mp h]
inductive uu(X:Cx)(k i:Nat)(t:TA)(σ:St)(H:Hp)(Q:VK):Prop
 |h (_:yj X k i t σ H Q):uu X k i t σ H Q
 |k (f:Js)(sp:Sp)(_:σ[i]?=Mw (Mw (.ref f)))(_:W.keepIn X.K (.ref f)=Mz)(_:HFn X.prog X.w X.K X.mg X.base k f sp)(_:t σ H λvs H1=>sp vs H1 Q E0):uu X k i t σ H Q
theorem yy(d:bY k X.A)(l:X.N[i]?=Mw x)(c:Vis X.env.scope x)(j:PA X (e :: es) t)(g:(x == ("__debug__" : Str))=false:=by decide) (b:(x == ("__classdict__" : Str))=false:=by decide)
  (he:JK (e :: es) X.env=(MA,eval e X.env) :: JK es X.env:=by rfl)(a:(JJ pos (JK es X.env)).any (·.1)=false:=by rfl):PE X (.Call (.Name x p) (e :: es) [] pos) (uu X k i t):=by
 intro MC s σ H Q I h;cases h with
 |h h=>exact qA d l c j g b he a MC s σ H Q I h
 |k f sp D z C h =>
  obtain⟨fd,L,F,B⟩:=C;refine Jo (thn (sX l c g b MC s σ H (λv H'=>v=.ref f/\H'=H) I ⟨_,D,U,U⟩) λu o ⟨v,G,n,r,y⟩=>?_);obtain⟨rfl,rfl⟩:=y;cases (show u=Jp.ref f from r);refine W.callWith_K (h₀:=X.base) n.ok.mod.kin z (thn (j pos MC o σ G _ n h) λK s2 ⟨J,M,m,q,w⟩=>⟨m.kIn,?_⟩) he a;exact qk (E:=E0) (dvs:=[]) (ds:=[]) F d B .nil bT m q (by rw[jQ];exact w)
def Fn(X:Cx)(k:Nat)(sp:Sp):TE:=λ_ H Q=>∀f,HFn X.prog X.w X.K X.mg X.base k f sp->W.keepIn X.K (.ref f)=Mz->Q (.ref f) H
theorem Ca{ps:List Str}{sp:Sp}(C:Callee X.prog X.w X.K X.mg X.base k x ps sp)(c:Gl X x)(d:(x == ("__debug__" : Str))=false:=by decide):PE X (.Name x pos) (Fn X k sp):=by
 obtain⟨f,fd,F,b,a,m⟩:=C;intro MC s σ H Q I h;exact gD I c m ⟨.ref f,H,I,U,h f ⟨fd,_,F,b⟩ a⟩ d
theorem wo:cF X (.builtin "isinstance") (λxs H Q=>∃(a:Js)(ys:List V),xs=[.ref a,.ty "tuple"]/\SqT X.K H a ys/\W.kitOne X.K (.type "tuple") (.type "tuple")=Mw Mz/\Q (.bl Mz) H):=by
 intro MC s σ H xs k Q I r h;obtain⟨a,ys,rfl,f,e,q⟩:=h;obtain⟨u,v,rfl,c,b⟩:=r.two;cases (show u=Jp.ref a from c);cases (show v=Jp.type "tuple" from b);obtain⟨j,m,d,_⟩:=I.tuple f;obtain⟨o,i,g,_⟩:=id d;exact W.kia_one W.kitx_tuple I.kIn ⟨o,i,g⟩ e (λz=>nomatch z) λl=>⟨.bl Mz,H,I.tok _,U,q⟩
theorem nu:cF X (.builtin "isinstance") (λxs H Q=>(∃x c d t b,xs=[x,c]/\ClV c d/\TyG X.K H x t/\W.kitOne X.K t d=Mw b/\Q (.bl b) H)\/∃(a:Js)(ys:List V),xs=[.ref a,.ty "tuple"]/\SqT X.K H a ys/\W.kitOne X.K (.type "tuple") (.type "tuple")=Mw Mz/\Q (.bl Mz) H):=bG.or wo
end L2
set_option Elab.async false
set_option maxRecDepth 100000
set_option maxHeartbeats 4000000
set_option linter.all false
namespace My
open PySem L2
def top(i:Nat):JL:=PySem.Challenge.pw_rowjudge_k47_whole_changes.main.body.getD i (.Pass ⟨0,0,0,0⟩)
abbrev Y32:JL:=top 15
abbrev Y48:JL:=top 16
abbrev Y47:JL:=top 17
abbrev Y31:JL:=top 21
abbrev Y46:JL:=top 23
abbrev Y42:JL:=top 24
abbrev Y87:JL:=top 25
abbrev Y45:JL:=top 28
abbrev Y40:JL:=top 29
abbrev Y35:JL:=top 30
abbrev Y75:JL:=top 31
abbrev Y38:JL:=top 32
abbrev Y76:JL:=top 33
abbrev Y79:JL:=top 34
abbrev Y33:JL:=top 35
abbrev Y44:JL:=top 36
abbrev Y91:JL:=top 47
abbrev Y81:JL:=top 52
abbrev Y80:JL:=top 53
abbrev Y85:JL:=top 54
abbrev Y82:JL:=top 55
abbrev Y78:JL:=top 56
abbrev Y43:JL:=top 57
abbrev Y77:JL:=top 58
abbrev Y49:JL:=top 59
abbrev Y88:JL:=top 61
abbrev Y89:JL:=top 62
abbrev Y39:JL:=top 63
abbrev s_row_form:JL:=top 64
abbrev s_verdict_form:JL:=top 65
abbrev Y34:JL:=top 68
abbrev Y37:JL:=top 69
abbrev Y36:JL:=top 70
abbrev Y41:JL:=top 71
abbrev Y83:JL:=top 72
abbrev Y84:JL:=top 73
abbrev Y52:JL:=top 75
abbrev Y62:JL:=top 76
abbrev Y67:JL:=top 77
abbrev Y57:JL:=top 78
abbrev Y74:JL:=top 79
abbrev Y53:JL:=top 80
abbrev Y65:JL:=top 81
abbrev Y64:JL:=top 82
abbrev Y72:JL:=top 83
abbrev Y68:JL:=top 84
abbrev Y70:JL:=top 85
abbrev Y71:JL:=top 86
abbrev Y63:JL:=top 87
abbrev Y66:JL:=top 88
abbrev Y51:JL:=top 89
abbrev Y56:JL:=top 90
abbrev Y54:JL:=top 91
abbrev Y73:JL:=top 92
abbrev Y58:JL:=top 93
abbrev Y61:JL:=top 94
abbrev Y69:JL:=top 95
abbrev Y60:JL:=top 96
abbrev Y55:JL:=top 97
abbrev Y59:JL:=top 98
abbrev Y17:JL:=inClass (top 51) 0
abbrev Y4:JL:=inClass (top 41) 0
abbrev Y18:JL:=inClass (top 40) 0
abbrev Y13:JL:=inClass (top 42) 0
abbrev Y22:JL:=inClass (top 40) 0
abbrev Y8:JL:=inClass (top 43) 0
abbrev Y20:JL:=inClass (top 40) 0
abbrev Y10:JL:=inClass (top 44) 0
abbrev Y21:JL:=inClass (top 40) 0
abbrev Y6:JL:=inClass (top 45) 0
abbrev Y19:JL:=inClass (top 40) 0
abbrev Y15:JL:=inClass (top 46) 0
abbrev Y23:JL:=inClass (top 40) 0
abbrev Y2:JL:=inClass (top 18) 5
abbrev Y3:JL:=inClass (top 18) 5
abbrev Y12:JL:=inClass (top 19) 0
abbrev Y0:JL:=inClass (top 18) 0
abbrev Y30:JL:=inClass (top 20) 0
abbrev Y1:JL:=inClass (top 18) 0
abbrev Y24:JL:=inClass (top 40) 1
abbrev Y5:JL:=inClass (top 41) 1
abbrev Y28:JL:=inClass (top 40) 1
abbrev Y14:JL:=inClass (top 42) 1
abbrev Y26:JL:=inClass (top 40) 1
abbrev Y9:JL:=inClass (top 43) 1
abbrev Y27:JL:=inClass (top 40) 1
abbrev Y11:JL:=inClass (top 44) 1
abbrev Y25:JL:=inClass (top 40) 1
abbrev Y7:JL:=inClass (top 45) 1
abbrev Y29:JL:=inClass (top 40) 1
abbrev Y16:JL:=inClass (top 46) 1
abbrev Y50:JL:=top 99
abbrev Y86:JH:=Bc ((dI s_row_form).getD 0 (.Pass ⟨0,0,0,0⟩)) 2
theorem Z87{c_0:Js}:qz ["codes","table"] ["codes"] (kx Y86) [("table",c_0)]:=⟨U,U,U,by decide+kernel,U,by decide+kernel,by decide+kernel,yp U⟩
abbrev Y90:JH:=Bc ((dI s_verdict_form).getD 0 (.Pass ⟨0,0,0,0⟩)) 2
theorem Z92{c_0:Js}:qz ["rows","table"] ["rows"] (kx Y90) [("table",c_0)]:=⟨U,U,U,by decide+kernel,U,by decide+kernel,by decide+kernel,yp U⟩
theorem Z32:ar ["text","signs","sign"] ["text","signs"] (ak Y32):=fsc
theorem Z48:ar ["text"] ["text"] (ak Y48):=fsc
theorem Z47:ar ["value"] ["value"] (ak Y47):=fsc
theorem Z31:ar ["one","other"] ["one","other"] (ak Y31):=fsc
theorem Z46:ar ["spans","number","low","high"] ["spans","number"] (ak Y46):=fsc
theorem Z42:ar ["spans","low","high","turns","first","last"] ["spans","low","high"] (ak Y42):=fsc
theorem Z88:ar ["low","high","marks","cuts","lows","highs"] ["low","high","marks"] (ak Y87):=fsc
theorem Z45:ar ["bounds","marks","product","parts"] ["bounds","marks"] (ak Y45):=fsc
theorem Z40:ar ["bounds","marks"] ["bounds","marks"] (ak Y40):=fsc
theorem Z35:ar ["bounds","marks","leaf"] ["bounds","marks","leaf"] (ak Y35):=fsc
theorem Z75:ar ["columns","ahead","leaf"] ["columns","ahead","leaf"] (ak Y75):=fsc
theorem Z38:ar ["triples","form","low","high","beneath"] ["triples"] (ak Y38):=fsc
theorem Z76:ar ["form","deep","change"] ["form","deep","change"] (ak Y76):=fsc
theorem Z79:ar ["one","other","deep","pair","triples","low","at_one","at_other","high"] ["one","other","deep","pair"] (ak Y79):=fsc
theorem Z33:ar ["form","deep","told","low","high","beneath","box","leaf"] ["form","deep"] (ak Y33):=fsc
theorem Z44:ar ["lists","numbers","some"] ["lists"] (ak Y44):=fsc
theorem Z93:ar ["name","way"] ["name"] (ak Y91):=fsc
theorem Z81:ar ["names","name"] ["names"] (ak Y81):=fsc
theorem Z80:ar ["names","rows"] ["names","rows"] (ak Y80):=fsc
theorem Z85:ar ["way","outcome"] ["way","outcome"] (ak Y85):=fsc
theorem Z82:ar ["domains","outcome","cells","code","domain","spans","low","high"] ["domains","outcome","cells","code"] (ak Y82):=fsc
theorem Z78:ar ["cells","code"] ["cells","code"] (ak Y78):=fsc
theorem Z43:ar ["table","k","codes","cells","spans","code"] ["table","k","codes"] (ak Y43):=fsc
theorem Z77:ar ["table","codes"] ["table","codes"] (ak Y77):=fsc
theorem Z49:ar ["table","rows","codes"] ["table","rows"] (ak Y49):=fsc
theorem Z89:ar ["table"] ["table"] (ak Y88):=fsc
theorem Z90:ar ["table"] ["table"] (ak Y89):=fsc
theorem Z39:ar ["table","column","domain"] ["table","column"] (ak Y39):=fsc
theorem Z86:ar ["table"] ["table"] (ak s_row_form):=fsc
theorem Z91:ar ["table"] ["table"] (ak s_verdict_form):=fsc
theorem Z34:ar ["form","deep"] ["form","deep"] (ak Y34):=fsc
theorem Z37:ar ["one","other"] ["one","other"] (ak Y37):=fsc
theorem Z36:ar ["old","new","deep","differing"] ["old","new","deep"] (ak Y36):=fsc
theorem Z41:ar ["old","new"] ["old","new"] (ak Y41):=fsc
theorem Z83:ar ["one","other"] ["one","other"] (ak Y83):=fsc
theorem Z84:ar ["ones","others","one","other"] ["ones","others"] (ak Y84):=fsc
theorem Z52:ar ["script","k"] ["script","k"] (ak Y52):=fsc
theorem Z62:ar ["script","start","most","told","k"] ["script","start","most"] (ak Y62):=fsc
theorem Z67:ar ["cell","count","at","told","k","part","step"] ["cell","count"] (ak Y67):=fsc
theorem Z57:ar ["script","most","told","k","cell"] ["script","most"] (ak Y57):=fsc
theorem Z74:ar ["cell","k","stem","at"] ["cell","k"] (ak Y74):=fsc
theorem Z53:ar ["cell","points"] ["cell","points"] (ak Y53):=fsc
theorem Z65:ar ["cell","gap","low"] ["cell"] (ak Y65):=fsc
theorem Z64:ar ["cell","outs"] ["cell","outs"] (ak Y64):=fsc
theorem Z72:ar ["cell","words"] ["cell","words"] (ak Y72):=fsc
theorem Z68:ar ["cell","points","outs","bits","k","size","mixed"] ["cell","points","outs"] (ak Y68):=fsc
theorem Z70:ar ["points","bits","told","k"] ["points","bits"] (ak Y70):=fsc
theorem Z71:ar ["script","points","outs","way","rows","turn","domains","names","cell","made","row"] ["script","points","outs","way","rows","turn"] (ak Y71):=fsc
theorem Z63:ar ["rows","cell","points","outs","kind","k","bits","column","one_bit","coded_row"] ["rows","cell","points","outs"] (ak Y63):=fsc
theorem Z66:ar ["points","told","row","longer","at","k"] ["points"] (ak Y66):=fsc
theorem Z51:ar ["points","at"] ["points","at"] (ak Y51):=fsc
theorem Z56:ar ["rows","at","told","k","good","j"] ["rows","at"] (ak Y56):=fsc
theorem Z54:ar ["codes","way","outs"] ["codes","way","outs"] (ak Y54):=fsc
theorem Z73:ar ["found"] ["found"] (ak Y73):=fsc
theorem Z58:ar ["box","points","k"] ["box","points"] (ak Y58):=fsc
theorem Z61:ar ["one","other","k"] ["one","other"] (ak Y61):=fsc
theorem Z69:ar ["box","count","pair"] ["box"] (ak Y69):=fsc
theorem Z60:ar ["told","tiles","due","points","left","k","box","j"] ["told","tiles","due","points"] (ak Y60):=fsc
theorem Z55:ar ["points","two","ways","outs","told","at","old","new"] ["points","two","ways","outs"] (ak Y55):=fsc
theorem Z59:ar ["told"] ["told"] (ak Y59):=fsc
theorem Z17:ar ["self","name","names","domains","outcome","way","rows","cells","code"] ["self","name","names","domains","outcome","way","rows"] (ak Y17):=fsc
theorem Z4:ar ["self"] ["self"] (ak Y4):=fsc
theorem Z18:ar ["self","called"] ["self","called"] (ak Y18):=fsc
theorem Z13:ar ["self"] ["self"] (ak Y13):=fsc
theorem Z22:ar ["self","called"] ["self","called"] (ak Y22):=fsc
theorem Z8:ar ["self"] ["self"] (ak Y8):=fsc
theorem Z20:ar ["self","called"] ["self","called"] (ak Y20):=fsc
theorem Z10:ar ["self"] ["self"] (ak Y10):=fsc
theorem Z21:ar ["self","called"] ["self","called"] (ak Y21):=fsc
theorem Z6:ar ["self"] ["self"] (ak Y6):=fsc
theorem Z19:ar ["self","called"] ["self","called"] (ak Y19):=fsc
theorem Z15:ar ["self"] ["self"] (ak Y15):=fsc
theorem Z23:ar ["self","called"] ["self","called"] (ak Y23):=fsc
theorem Z2:ar ["self","value"] ["self","value"] (ak Y2):=fsc
theorem Z3:ar ["self","value"] ["self","value"] (ak Y3):=fsc
theorem Z12:ar ["self","low","high"] ["self","low","high"] (ak Y12):=fsc
theorem Z0:ar ["self","low","high"] ["self","low","high"] (ak Y0):=fsc
theorem Z30:ar ["self","words","word"] ["self","words"] (ak Y30):=fsc
theorem Z1:ar ["self","low","high"] ["self","low","high"] (ak Y1):=fsc
theorem Z24:ar ["self","codes","outcome"] ["self","codes","outcome"] (ak Y24):=fsc
theorem Z5:ar ["self","codes","outcome"] ["self","codes","outcome"] (ak Y5):=fsc
theorem Z28:ar ["self","codes","outcome"] ["self","codes","outcome"] (ak Y28):=fsc
theorem Z14:ar ["self","codes","outcome"] ["self","codes","outcome"] (ak Y14):=fsc
theorem Z26:ar ["self","codes","outcome"] ["self","codes","outcome"] (ak Y26):=fsc
theorem Z9:ar ["self","codes","outcome"] ["self","codes","outcome"] (ak Y9):=fsc
theorem Z27:ar ["self","codes","outcome"] ["self","codes","outcome"] (ak Y27):=fsc
theorem Z11:ar ["self","codes","outcome"] ["self","codes","outcome"] (ak Y11):=fsc
theorem Z25:ar ["self","codes","outcome"] ["self","codes","outcome"] (ak Y25):=fsc
theorem Z7:ar ["self","codes","outcome"] ["self","codes","outcome"] (ak Y7):=fsc
theorem Z29:ar ["self","codes","outcome"] ["self","codes","outcome"] (ak Y29):=fsc
theorem Z16:ar ["self","codes","outcome"] ["self","codes","outcome"] (ak Y16):=fsc
theorem Z50:ar ["script","points","outs","words","ways","rows","two","one","other","tiles","found","part","told"] ["script"] (ak Y50):=fsc
structure AD where (a b c d e f g h i j k l m:Js)
structure Bk(K:W.Frag)(Y:AD):Prop where
 n_Way:W.nsIn K Jx "Way" = Mw (Mw (.ref Y.a))
 n_First:W.nsIn K Jx "First" = Mw (Mw (.ref Y.b))
 n_Only:W.nsIn K Jx "Only" = Mw (Mw (.ref Y.c))
 n_Like:W.nsIn K Jx "Like" = Mw (Mw (.ref Y.d))
 n_Low:W.nsIn K Jx "Low" = Mw (Mw (.ref Y.e))
 n_High:W.nsIn K Jx "High" = Mw (Mw (.ref Y.f))
 n_Sum:W.nsIn K Jx "Sum" = Mw (Mw (.ref Y.g))
 n_Domain:W.nsIn K Jx "Domain" = Mw (Mw (.ref Y.h))
 n_Numbers:W.nsIn K Jx "Numbers" = Mw (Mw (.ref Y.i))
 n_Words:W.nsIn K Jx "Words" = Mw (Mw (.ref Y.j))
 n_Table:W.nsIn K Jx "Table" = Mw (Mw (.ref Y.k))
 n_NONE:W.nsIn K Jx "NONE" = Mw (Mw (.ref Y.l))
 n_CLASH:W.nsIn K Jx "CLASH" = Mw (Mw (.ref Y.m))
 k_First:Cls K Y.b
 k_Only:Cls K Y.c
 k_Like:Cls K Y.d
 k_Low:Cls K Y.e
 k_High:Cls K Y.f
 k_Sum:Cls K Y.g
 k_Numbers:Cls K Y.i
 k_Words:Cls K Y.j
 k_Table:Cls K Y.k
 t_First:m4 K Y.b
 t_Only:m4 K Y.c
 t_Like:m4 K Y.d
 t_Low:m4 K Y.e
 t_High:m4 K Y.f
 t_Sum:m4 K Y.g
 t_Numbers:m4 K Y.i
 t_Words:m4 K Y.j
 t_Table:m4 K Y.k
 q_NONE:ModT K Y.l [.str "none",.int (0)]
 q_CLASH:ModT K Y.m [.str "clash",.int (0)]
 na_First_called:NoAttr K Y.b "called"
 na_Only_called:NoAttr K Y.c "called"
 na_Like_called:NoAttr K Y.d "called"
 na_Low_called:NoAttr K Y.e "called"
 na_High_called:NoAttr K Y.f "called"
 na_Sum_called:NoAttr K Y.g "called"
 na_Numbers_low:NoAttr K Y.i "low"
 na_Numbers_high:NoAttr K Y.i "high"
 na_Numbers_words:NoAttr K Y.i "words"
 na_Words_low:NoAttr K Y.j "low"
 na_Words_high:NoAttr K Y.j "high"
 na_Words_words:NoAttr K Y.j "words"
 na_Table_name:NoAttr K Y.k "name"
 na_Table_names:NoAttr K Y.k "names"
 na_Table_domains:NoAttr K Y.k "domains"
 na_Table_outcome:NoAttr K Y.k "outcome"
 na_Table_way:NoAttr K Y.k "way"
 na_Table_rows:NoAttr K Y.k "rows"
 f_nn:W.kitOne K (.ref Y.i) (.ref Y.i)=Mw Mz
 f_wn:W.kitOne K (.ref Y.j) (.ref Y.i)=Mw MA
 f_ww:W.kitOne K (.ref Y.j) (.ref Y.j)=Mw Mz
 f_nw:W.kitOne K (.ref Y.i) (.ref Y.j)=Mw MA
 nt0:∀z z',W.tabIn K "row_form" = Mw z->W.tabIn K "verdict_form" = Mw z'->z.2≠z'.2
structure Bl(K:W.Frag)(mg:Str->Option Jp)(Y:AD):Prop extends Bk K Y where
 Way_:mg "Way" = Mw (.ref Y.a)
 First_:mg "First" = Mw (.ref Y.b)
 Only_:mg "Only" = Mw (.ref Y.c)
 Like_:mg "Like" = Mw (.ref Y.d)
 Low_:mg "Low" = Mw (.ref Y.e)
 High_:mg "High" = Mw (.ref Y.f)
 Sum_:mg "Sum" = Mw (.ref Y.g)
 Domain_:mg "Domain" = Mw (.ref Y.h)
 Numbers_:mg "Numbers" = Mw (.ref Y.i)
 Words_:mg "Words" = Mw (.ref Y.j)
 Table_:mg "Table" = Mw (.ref Y.k)
 NONE_:mg "NONE" = Mw (.ref Y.l)
 CLASH_:mg "CLASH" = Mw (.ref Y.m)
 len_:mg "len" = Mx
 isinstance_:mg "isinstance" = Mx
 int_:mg "int" = Mx
 bool_:mg "bool" = Mx
 sorted_:mg "sorted" = Mx
 list_:mg "list" = Mx
 set_:mg "set" = Mx
 zip_:mg "zip" = Mx
 tuple_:mg "tuple" = Mx
 min_:mg "min" = Mx
 sum_:mg "sum" = Mx
 range_:mg "range" = Mx
 enumerate_:mg "enumerate" = Mx
 reversed_:mg "reversed" = Mx
 max_:mg "max" = Mx
 str_:mg "str" = Mx
 MOST_SIGNS_:∃u,mg "MOST_SIGNS" = Mw u/\RelV (V.int 12) u
 SMALL_LETTERS_:∃u,mg "SMALL_LETTERS" = Mw u/\RelV (V.str "abcdefghijklmnopqrstuvwxyz") u
 MOST_GRAIN_:∃u,mg "MOST_GRAIN" = Mw u/\RelV (V.int 300) u
 MOST_ROWS_:∃u,mg "MOST_ROWS" = Mw u/\RelV (V.int 200) u
 MOST_COLUMNS_:∃u,mg "MOST_COLUMNS" = Mw u/\RelV (V.int 4) u
 NOTHING_:∃u,mg "NOTHING" = Mw u/\RelV (V.int 0) u
 MOST_WORDS_:∃u,mg "MOST_WORDS" = Mw u/\RelV (V.int 40) u
theorem uv{a:List Int}{i:Nat}{x:V}(e:(a.map V.int)[i]?=Mw x):∃c,x=.int c:=by
 rw[gg]at e;cases q:a[i]? with
 |none=>rw[q]at e;cases e
 |some c=>rw[q]at e;cases e;exact⟨c,U⟩
theorem p10(n:Nat):(0:Int)<10^n:=Je (by decide)
theorem Fo{n:Int}{p:Int×Int}(c:decide (p.1<=n)=Mz)(d:decide (n<=p.2)=Mz):inR n p=true:=by unfold inR;rw[c,d];rfl
theorem Dy{n:Int}{p:Int×Int}(c:¬ decide (p.1<=n)=Mz):inR n p=false:=by unfold inR;rw[IY.mpr c];rfl
theorem Dz{n:Int}{p:Int×Int}(d:¬ decide (n<=p.2)=Mz):inR n p=false:=by unfold inR;rw[IY.mpr d,Bool.and_false]
theorem oN{xs:List V}{i:Nat}{x:V}(e:xs[i]?=Mw x):atI xs (0+(i:Int))=Mw x:=by
 rw[I1];exact aL e
theorem z0(a b:Int):atI [V.int a,V.int b] 0=Mw (V.int a):=rfl
theorem z1(a b:Int):atI [V.int a,V.int b] 1=Mw (V.int b):=rfl
theorem cU{H:Hp}{r:Js}{o:HO}{b:Js}{u:HO}(h:H r=Mw u)(n:H b=Mx):upd H b o r=Mw u:=by rw[az (bp h n)];exact h
theorem iC{n:Nat}(h:0<n):ixN n (-1)=Mw (n-1):=by
 unfold ixN;rw[MD (by decide),ME (by lia)]
 congr 1
 lia
theorem rV{α:Type}(l:List α)(x y:α):(l++[x]).set ((l++[x]).length-1) y=l++[y]:=by
 have e:(l++[x]).length-1=l.length:=by simp
 rw[e,List.set_append_right _ _ (zz _),E6];rfl
theorem take_snoc{α:Type}{l:List α}{i:Nat}{x:α}(e:l[i]?=Mw x):l.take (i+1)=l.take i++[x]:=by rw[nS,e];rfl
theorem get_map{a:List Int}{i:Nat}{c:Int}(e:a[i]?=Mw c):(a.map V.int)[i]?=Mw (.int c):=by rw[gg,e];rfl
theorem of_map{a:List Int}{i:Nat}{x:V}(e:(a.map V.int)[i]?=Mw x):∃c,x=.int c/\a[i]?=Mw c:=by
 rw[gg]at e;cases q:a[i]? with
 |none=>rw[q]at e;cases e
 |some c=>rw[q]at e;cases e;exact⟨c,U,U⟩
abbrev OP:=Option ((Str×Int)×(Str×Int))
def lets:Str := "abcdefghijklmnopqrstuvwxyz"
def isw(z:Str):Bool:=MB ((1:Int)<=((z.length:Nat):Int)) && (MB (((z.length:Nat):Int)<=12) && (!MB (V.str z=V.str "not") && mS z lets))
theorem Cb{l:List Nat}{i:Nat}{c:Nat}{p:Nat->Bool}(e:l[i]?=Mw c)(h:p c=MA):l.all p=false:=by
 cases q:l.all p with
 |false=>rfl
 |true=>rw[jO.mp q c (IX e)]at h;cases h
theorem all_succ{l:List Nat}{i:Nat}{c:Nat}{p:Nat->Bool}(e:l[i]?=Mw c)(h:p c=Mz)(a:(l.take i).all p=Mz):(l.take (i+1)).all p=true:=by
 rw[take_snoc e,List.all_append,a];simp[h]
theorem yz{z g:Str}(h:(z.cps.toList.take z.cps.size).all (sg g)=Mz):mS z g=true:=by
 have e:z.cps.toList.take z.cps.size=z.cps.toList:=by rw[←Io];exact hE
 rw[e]at h;exact h
theorem Cc{g:Str}{c:Nat}(h:(!(!(Kh.Str.occurrences g ⟨#[c]⟩ 0 g.length 1).isEmpty))=Mz):sg g c=false:=by unfold sg;simpa using h
theorem DA{g:Str}{c:Nat}(h:¬ (!(!(Kh.Str.occurrences g ⟨#[c]⟩ 0 g.length 1).isEmpty))=Mz):sg g c=true:=by unfold sg;simpa using h
theorem big{n:Nat}(h:n<=1000):n<=Ju:=BA (ay h)
def mkd(C:Js)(H:Hp)(x a:Js)(lo hi:Int):Hp:=upd (upd H x (.ins C a [("low",.int lo)])) x (.ins C a [("low",.int lo),("high",.int hi)])
theorem put2(v u:V):bC s!"high" u [(s!"low",v)]=[(s!"low",v),(s!"high",u)]:=by
 unfold bC bC;rw[MD (by decide)]
theorem put3(v u t:V):bC s!"words" t [(s!"low",v),(s!"high",u)]=[(s!"low",v),(s!"high",u),(s!"words",t)]:=by
 unfold bC bC bC;rw[MD (by decide),MD (by decide)]
def hiW(zs:List Str):Int:=((zs.length:Nat):Int)-1
structure Good(zs:List Str):Prop where
 some_:1<=zs.length
 few:zs.length<=40
 words:∀z∈zs,isw z=Mz
 once:zs.Nodup
theorem ky{zs:List Str}{i:Nat}{x:V}(e:(zs.map V.str)[i]?=Mw x):∃z,x=.str z/\zs[i]?=Mw z:=by
 rw[gg]at e;cases q:zs[i]? with
 |none=>rw[q]at e;cases e
 |some z=>rw[q]at e;cases e;exact⟨z,U,U⟩
def six:List Str:=[s!"first",s!"only",s!"like",s!"low",s!"high",s!"sum"]
theorem Ac{i j:Nat}{z:Str}(h:six[i]?=Mw z)(k:six[j]?=Mw z):i=j:=kh (show six.Nodup by decide+kernel) h k
def WyN(C:Js)(H:Hp)(x:Js)(z:Str):Prop:=∃a,H x=Mw (.ins C a [("called",.str z)])
theorem WyN.same{C:Js}{H H':Hp}{x:Js}{z:Str}(h:WyN C H x z)(s:au H H'):WyN C H' x z:=by obtain⟨a,e⟩:=h;exact⟨a,s _ _ e⟩
def wq(C:Js)(z:Str):Sp:=λb H Q _=>∃(x a:Js),b=[.ref x]/\H x=Mw (.ins C a [])/\Q .non (upd H x (.ins C a [("called",.str z)]))
theorem bf:2<=Ju:=by decide
def cl6(a b c d e f:Js):List Js:=[a,b,c,d,e,f]
def Cd(C:Js)(H:Hp)(a:Js)(lo hi:Int):Prop:=∃b fs,H a=Mw (.ins C b fs)/\fs.lookup s!"low"=Mw (.int lo)/\fs.lookup s!"high"=Mw (.int hi)/\fs.lookup s!"has_code"=Mx
def Dom(d c:Js)(H:Hp)(a:Js)(b:Int×Int):Prop:=∃C,(C=d\/C=c)/\Cd C H a b.1 b.2
theorem Dom.same{d c:Js}{H H':Hp}{a:Js}{b:Int×Int}(h:Dom d c H a b)(s:au H H'):Dom d c H' a b:=by obtain⟨C,f,g,fs,e,r⟩:=h;exact⟨C,f,g,fs,s _ _ e,r⟩
theorem Dom.upd{d c:Js}{H:Hp}{a D:Js}{b:Int×Int}{o:HO}{zs:List V}(h:Dom d c H a b)(e:H D=Mw (.lst zs)):Dom d c (upd H D o) a b:=by
 obtain⟨C,g,i,fs,f,r⟩:=h;exact⟨C,g,i,fs,(az (dG f e (by intro z;cases z))).trans f,r⟩
def aF{α:Type}(xs:List V)(b:List α)(P:Js->α->Prop):Prop:=xs.length=b.length/\∀(j:Nat)(a:α),b[j]?=Mw a->∃r,xs[j]?=Mw (.ref r)/\P r a
theorem aF.mono{α:Type}{xs:List V}{b:List α}{P Q:Js->α->Prop}(h:aF xs b P)(k:∀r a,P r a->Q r a):aF xs b Q:=⟨h.1,λj a e=>let ⟨r,e1,p⟩:=h.2 j a e;⟨r,e1,k r a p⟩⟩
theorem aF.nil{α:Type}{P:Js->α->Prop}:aF [] [] P:=⟨U,(λj a e=>by simp at e)⟩
theorem aF.snoc{α:Type}{xs:List V}{c:List α}{P:Js->α->Prop}{r:Js}{a:α}(h:aF xs c P)(p:P r a):aF (xs++[.ref r]) (c++[a]) P:=by
 refine⟨by simp[h.1],λj b e=>?_⟩;by_cases f:j<c.length
 .rw[je f]at e;obtain⟨g,i,q⟩:=h.2 j b e;exact⟨g,by rw[je (by rw[h.1];exact f)];exact i,q⟩
 .have d:j=c.length:=by
   have:=(IW.mp e).1;simp at this;lia
  subst d;simp at e;subst e;exact⟨r,by rw[←h.1];simp,p⟩
theorem aF.get{α:Type}{xs:List V}{b:List α}{P:Js->α->Prop}(h:aF xs b P){j:Nat}{x:V}(e:xs[j]?=Mw x):∃r a,x=.ref r/\b[j]?=Mw a/\P r a:=by
 have f:=(IW.mp e).1;have c:=IV (l:=b) (i:=j) (by rw[←h.1];exact f);obtain⟨r,d,p⟩:=h.2 j _ c;rw[e]at d;cases d;exact⟨r,_,U,c,p⟩
abbrev Prs:=List (Int×Int)
def SpA(N:Js->Prop)(H:Hp)(l:Js)(ps:Prs):Prop:=N l/\∃a,H l=Mw (.lst a)/\PL H a ps
def CL(N:Js->Prop)(H:Hp)(xs:List V)(pss:List Prs):Prop:=aF xs pss (SpA N H)
abbrev Rw:=List Prs×Int
def jF(N:Js->Prop)(H:Hp)(r:Js)(a:Rw):Prop:=∃b c,H r=Mw (.tup [.ref b,.int a.2])/\N b/\H b=Mw (.lst c)/\CL N H c a.1
def RL(N:Js->Prop)(H:Hp)(xs:List V)(rws:List Rw):Prop:=aF xs rws (jF N H)
theorem SpA.same{N:Js->Prop}{H H':Hp}{l:Js}{ps:Prs}(h:SpA N H l ps)(s:au H H'):SpA N H' l ps:=by obtain⟨n,a,e,p⟩:=h;exact⟨n,a,s _ _ e,p.mono s.tups⟩
theorem CL.same{N:Js->Prop}{H H':Hp}{xs:List V}{pss:List Prs}(h:CL N H xs pss)(s:au H H'):CL N H' xs pss:=aF.mono h λ_ _ p=>p.same s
theorem jF.same{N:Js->Prop}{H H':Hp}{r:Js}{w:Rw}(h:jF N H r w)(s:au H H'):jF N H' r w:=by obtain⟨b,a,e,n,f,c⟩:=h;exact⟨b,a,s _ _ e,n,s _ _ f,c.same s⟩
theorem RL.same{N:Js->Prop}{H H':Hp}{xs:List V}{rws:List Rw}(h:RL N H xs rws)(s:au H H'):RL N H' xs rws:=aF.mono h λ_ _ p=>p.same s
abbrev NT:Js->Prop:=λ_=>True
theorem SpA.any{N:Js->Prop}{H:Hp}{l:Js}{ps:Prs}(h:SpA N H l ps):SpA NT H l ps:=⟨trivial,h.2⟩
theorem CL.any{N:Js->Prop}{H:Hp}{xs:List V}{pss:List Prs}(h:CL N H xs pss):CL NT H xs pss:=aF.mono h λ_ _ p=>p.any
theorem jF.any{N:Js->Prop}{H:Hp}{r:Js}{w:Rw}(h:jF N H r w):jF NT H r w:=by obtain⟨b,a,e,_,f,c⟩:=h;exact⟨b,a,e,trivial,f,c.any⟩
theorem RL.any{N:Js->Prop}{H:Hp}{xs:List V}{rws:List Rw}(h:RL N H xs rws):RL NT H xs rws:=aF.mono h λ_ _ p=>p.any
theorem SpA.wk{N b:Js->Prop}{H:Hp}{l:Js}{ps:Prs}(h:SpA N H l ps)(k:∀a,N a->b a):SpA b H l ps:=⟨k _ h.1,h.2⟩
theorem CL.wk{N b:Js->Prop}{H:Hp}{xs:List V}{pss:List Prs}(h:CL N H xs pss)(k:∀a,N a->b a):CL b H xs pss:=aF.mono h λ_ _ p=>p.wk k
theorem jF.wk{N b:Js->Prop}{H:Hp}{r:Js}{w:Rw}(h:jF N H r w)(k:∀a,N a->b a):jF b H r w:=by obtain⟨g,d,e,n,f,c⟩:=h;exact⟨g,d,e,k _ n,f,c.wk k⟩
theorem SpA.updN{N:Js->Prop}{D:Js}{H:Hp}{l:Js}{ps:Prs}{zs:List V}{o:HO}(h:SpA N H l ps)(n:¬ N D)(e:H D=Mw (.lst zs)):SpA N (upd H D o) l ps:=by
 obtain⟨m,a,f,p⟩:=h;exact⟨m,a,(az (λz=>n (by rw[←z];exact m))).trans f,p.mono (aQ e)⟩
theorem CL.updN{N:Js->Prop}{D:Js}{H:Hp}{xs:List V}{pss:List Prs}{zs:List V}{o:HO}(h:CL N H xs pss)(n:¬ N D)(e:H D=Mw (.lst zs)):CL N (upd H D o) xs pss:=aF.mono h λ_ _ p=>p.updN n e
theorem jF.updN{N:Js->Prop}{D:Js}{H:Hp}{r:Js}{w:Rw}{zs:List V}{o:HO}(h:jF N H r w)(n:¬ N D)(e:H D=Mw (.lst zs)):jF N (upd H D o) r w:=by
 obtain⟨b,a,f,m,g,c⟩:=h;exact⟨b,a,(az (dG f e (by intro z;cases z))).trans f,m,(az (λz=>n (by rw[←z];exact m))).trans g,c.updN n e⟩
theorem RL.updN{N:Js->Prop}{D:Js}{H:Hp}{xs:List V}{rws:List Rw}{zs:List V}{o:HO}(h:RL N H xs rws)(n:¬ N D)(e:H D=Mw (.lst zs)):RL N (upd H D o) xs rws:=aF.mono h λ_ _ p=>p.updN n e
def Fr(H:Hp)(D:Js):Js->Prop:=λa=>H a=Mx/\a≠D
theorem Fr.out{H:Hp}{D:Js}:¬ Fr H D D:=λh=>h.2 U
structure Ip(b:Int×Int)(zs:List Str):Prop where
 le:b.1<=b.2
 ws:zs≠[]->Good zs/\b=(0,hiW zs)
structure lX(bs:Prs)(o:Int×Int)(w:Rw):Prop where
 len:w.1.length=bs.length
 inn:∀(j:Nat)(ps:Prs)(b:Int×Int),w.1[j]?=Mw ps->bs[j]?=Mw b->∀p∈ps,b.1<=p.1/\p.2<=b.2
 lo:o.1<=w.2
 hi:w.2<=o.2
def oO(pss:List Prs)(a:List Int):Bool:=(List.range a.length).all λj=>inP (pss.getD j []) (a.getD j 0)
theorem pf1(b a:V):bC s!"names" a [(s!"name",b)]=[(s!"name",b),(s!"names",a)]:=by
 unfold bC bC;rw[MD (by decide)]
theorem pf2(c b a:V):bC s!"domains" a [(s!"name",c),(s!"names",b)]=[(s!"name",c),(s!"names",b),(s!"domains",a)]:=by
 unfold bC bC bC;rw[MD (by decide),MD (by decide)]
theorem pf3(d c b a:V):bC s!"outcome" a [(s!"name",d),(s!"names",c),(s!"domains",b)]=[(s!"name",d),(s!"names",c),(s!"domains",b),(s!"outcome",a)]:=by
 unfold bC bC bC bC;rw[MD (by decide),MD (by decide),MD (by decide)]
theorem pf4(e d c b a:V):bC s!"way" a [(s!"name",e),(s!"names",d),(s!"domains",c),(s!"outcome",b)]=[(s!"name",e),(s!"names",d),(s!"domains",c),(s!"outcome",b),(s!"way",a)]:=by
 unfold bC bC bC bC bC;rw[MD (by decide),MD (by decide),MD (by decide),MD (by decide)]
theorem pf5(f e d c b a:V):bC s!"rows" a [(s!"name",f),(s!"names",e),(s!"domains",d),(s!"outcome",c),(s!"way",b)]=[(s!"name",f),(s!"names",e),(s!"domains",d),(s!"outcome",c),(s!"way",b),(s!"rows",a)]:=by
 unfold bC bC bC bC bC bC;rw[MD (by decide),MD (by decide),MD (by decide),MD (by decide),MD (by decide)]
def hide(H:Hp)(x:Js):Hp:=λb=>if b=x then Mx else H b
theorem dr{H:Hp}{x b:Js}{o:HO}(e:H b=Mw o)(n:b≠x):hide H x b=Mw o:=by unfold hide;rw[MD n];exact e
theorem hide_same{H H':Hp}{x:Js}(k:∀b o,b≠x->H b=Mw o->H' b=Mw o):au (hide H x) H':=λb o e=>by
 unfold hide at e;by_cases h:b=x
 .rw[ME h]at e;cases e
 .rw[MD h]at e;exact k b o h e
theorem PL.hide{H:Hp}{x C c:Js}{fs:List (Str×V)}(a:H x=Mw (.ins C c fs)){ys:List V}{ps:Prs}(h:PL H ys ps):PL (hide H x) ys ps :=
 h.mono λb d e=>dr e (dG e a (by intro z;cases z))
theorem RL.hide{H:Hp}{x C d:Js}{fs:List (Str×V)}(a:H x=Mw (.ins C d fs)){xs:List V}{rws:List Rw}(h:RL NT H xs rws):RL NT (My.hide H x) xs rws :=
 aF.mono h λr w ⟨j,i,e,_,f,c⟩=>⟨j,i,dr e (dG e a (by intro z;cases z)),trivial,dr f (dG f a (by intro z;cases z)),aF.mono c λl k ⟨_,b,g,p⟩=>⟨trivial,b,dr g (dG g a (by intro z;cases z)),PL.hide a p⟩⟩
def wcs(c k:Int):List Nat:=List.replicate (c / 26%6).toNat (97+(c%26).toNat)++([97+(k / 7%7).toNat,97+(k%7).toNat]++List.replicate (k%5).toNat (97+(c / 156%26).toNat))
def wd(c k:Int):Str:=⟨(wcs c k).toArray⟩
theorem Ce{c:Nat}(h:97<=c/\c<=122):sg lets c=true:=by
 have:∀d:Nat,d<26->sg lets (97+d)=true:=by decide+kernel
 have z:=this (c-97) (by lia);rw[show 97+(c-97)=c by lia]at z;exact z
theorem Ad{s:Str}{n:Nat}(h:s.cps.toList=(List.range n).map (97 + ·)){k:Int}(c:0<=k)(b:k<n):atI s.cps.toList k=Mw (97+k.toNat):=by
 have a:k.toNat<n:=by lia
 have z:s.cps.toList[k.toNat]?=Mw (97+k.toNat):=by rw[h,gg,List.getElem?_range a];rfl
 have q:=aL z;rw[show((k.toNat:Nat):Int)=k by lia]at q;exact q
abbrev SI:=Str×Int
def tp(p:SI):List V:=[.str p.1,.int p.2]
def say(i:Int):SI:=(s!"say",i)
def vh:SI:=(s!"clash",0)
def Fp:SI:=(s!"none",0)
def least(a:List Int):Int:=a.foldl (λm c=>if c<m then c else m) (a.headD 0)
def great(a:List Int):Int:=a.foldl (λm c=>if c>m then c else m) (a.headD 0)
theorem fold_min(a:List Int):∀m:Int,(a.foldl (λm c=>if c<m then c else m) m=m\/a.foldl (λm c=>if c<m then c else m) m∈a)/\a.foldl (λm c=>if c<m then c else m) m<=m/\∀x∈a,a.foldl (λm c=>if c<m then c else m) m<=x:=by
 induction a with
 |nil=>intro m;exact⟨.inl U,Int.le_refl _,λx h=>by cases h⟩
 |cons n a f =>
  intro m;obtain⟨b,e,g⟩:=f (if n<m then n else m);rw[sG];refine⟨?_,?_,λx d=>?_⟩
  .rcases b with b|b
   .rw[b];split
    .exact .inr fw
    .exact .inl U
   .exact .inr (jf _ b)
  .split at e <;> split <;> lia
  .rcases dV.mp d with rfl|d
   .split at e <;> split <;> lia
   .exact g x d
theorem fold_max(a:List Int):∀m:Int,(a.foldl (λm c=>if c>m then c else m) m=m\/a.foldl (λm c=>if c>m then c else m) m∈a)/\m<=a.foldl (λm c=>if c>m then c else m) m/\∀x∈a,x<=a.foldl (λm c=>if c>m then c else m) m:=by
 induction a with
 |nil=>intro m;exact⟨.inl U,Int.le_refl _,λx h=>by cases h⟩
 |cons n a f =>
  intro m;obtain⟨b,e,g⟩:=f (if n>m then n else m);rw[sG];refine⟨?_,?_,λx d=>?_⟩
  .rcases b with b|b
   .rw[b];split
    .exact .inr fw
    .exact .inl U
   .exact .inr (jf _ b)
  .split at e <;> split <;> lia
  .rcases dV.mp d with rfl|d
   .split at e <;> split <;> lia
   .exact g x d
theorem fh{n:Int}{a:List Int}:least (n :: a)∈n :: a/\∀x∈n :: a,least (n :: a)<=x:=by
 obtain⟨b,d,c⟩:=fold_min (n :: a) n;refine⟨?_,c⟩;rcases b with b|b
 .show(n :: a).foldl _ n∈_;rw[b];exact fw
 .exact b
theorem gj{n:Int}{a:List Int}:great (n :: a)∈n :: a/\∀x∈n :: a,x<=great (n :: a):=by
 obtain⟨b,d,c⟩:=fold_max (n :: a) n;refine⟨?_,c⟩;rcases b with b|b
 .show(n :: a).foldl _ n∈_;rw[b];exact fw
 .exact b
theorem nv{n m:Int}{c:List Int}(e:m∈n :: c)(d:∀b∈n :: c,m<=b):m=least (n :: c):=by
 have a:=d _ fh.1;have b:=fh.2 _ e;lia
theorem ny{n m:Int}{c:List Int}(e:m∈n :: c)(d:∀b∈n :: c,b<=m):m=great (n :: c):=by
 have a:=d _ gj.1;have b:=gj.2 _ e;lia
def Fq(a:List Int):SI:=say (least a)
def DB(a:List Int):SI:=say (great a)
def kz(a:List Int):SI:=if least a=great a then say (least a)else vh
theorem pR{n:Int}{a:List Int}:(∀x∈a,x=n)↔least (n :: a)=great (n :: a):=by
 constructor
 .intro h;have e:∀x∈n :: a,x=n:=λx b=>by
   rcases dV.mp b with r|b
   .exact r
   .exact h x b
  rw[e _ fh.1,e _ gj.1]
 .intro h x b;have g:=fh.2 x (jf n b);have f:=gj.2 x (jf n b);have d:=fh.2 n (fw (l:=a));have c:=gj.2 n (fw (l:=a));lia
theorem wu{n:Int}{a:List Int}(h:∀x∈a,x=n):least (n :: a)=n:=by
 have e:∀x∈n :: a,x=n:=λx b=>by
  rcases dV.mp b with r|b
  .exact r
  .exact h x b
 exact e _ fh.1
def ver(f:List Int->SI):List Int->SI
 | []=>Fp
 |n :: ns=>f (n :: ns)
def Wy(C:Js)(H:Hp)(x:Js):Prop:=∃a z,H x=Mw (.ins C a [("called",.str z)])
def yA(a:List Int):SI:=say (a.headD 0)
def kA(a:List Int):SI:=if a.length=1 then say (a.headD 0)else vh
def near(lo hi n:Int):Int:=if n<lo then lo else if n>hi then hi else n
def wf:Nat->Int->Int->List Int->SI
 |0,_,_=>yA
 |1,_,_=>kA
 |2,_,_=>kz
 |3,_,_=>Fq
 |4,_,_=>DB
 |_,lo,hi=>λa=>say (near lo hi a.sum)
theorem at0(n:Int)(a:List Int):atI ((n :: a).map V.int) 0=Mw (.int n):=aL (j:=0) U
def wz(K:W.Frag)(C g f:Js)(i:Nat):Sp:=λe H Q _=>∃(x c o:Js)(n:Int)(a:List Int)(b:Int×Int),e=[.ref x,.ref c,.ref o]/\Wy C H x/\Dom g f H o b/\b.1<=b.2/\SqL K H c ((n :: a).map V.int)/\a.length<900/\∀(r:Js)(d:Hp),au H d->Vd K d r (wf i b.1 b.2 (n :: a))->Q (.ref r) d
def kB(K:W.Frag)(C g f:Js)(i:Nat):Sp:=λe H Q _=>∃(x c o:Js)(a:List Int)(b:Int×Int),e=[.ref x,.ref c,.ref o]/\Wy C H x/\Dom g f H o b/\b.1<=b.2/\SqL K H c (a.map V.int)/\a.length<900/\∀(r:Js)(d:Hp),au H d->Vd K d r (ver (wf i b.1 b.2) a)->Q (.ref r) d
def msk(f:Nat->Bool):Nat->Nat
 |0=>0
 |n+1=>(if f n then 2^n else 0)+msk f n
theorem kC(f:Nat->Bool)(n:Nat):msk f (n+1)=(if f n then 2^n else 0)+msk f n:=rfl
theorem uw(f:Nat->Bool):∀n,msk f n<2^n
 |0=>Nat.one_pos
 |n+1=>by
  have:=uw f n;unfold msk;rw[EX];split <;> lia
theorem vi(f:Nat->Bool)(k:Nat):∀n,(msk f n).testBit k=(MB (k<n) && f k)
 |0=>by simp[msk]
 |n+1=>by
  have b:=vi f k n;have lt:=uw f n;unfold msk;rcases Nat.lt_trichotomy k n with h|h|h
  .split
   .rw[Nat.testBit_two_pow_add_gt h,b];simp[h,A6 h]
   .rw[Nat.zero_add,b];simp[h,A6 h]
  .subst h;split
   .rename_i hf
    rw[Nat.testBit_two_pow_add_eq,Nat.testBit_lt_two_pow lt];simp[hf]
   .rename_i hf
    rw[Nat.zero_add,Nat.testBit_lt_two_pow lt];simp[hf]
  .have a:(if f n=Mz then 2^n else 0)+msk f n<2^k:=zW (uw f (n+1)) (Nat.pow_le_pow_right (by decide) h);rw[Nat.testBit_lt_two_pow a];simp;lia
def bZ(m:Int)(k:Nat):Bool:=Kh.bitAnd (m / 2^k) 1 != 0
theorem wA(f:Nat->Bool)(n k:Nat):bZ ((msk f n:Nat):Int) k=(MB (k<n) && f k):=by
 rw[←vi];unfold bZ;have e:((msk f n:Nat):Int) / 2^k=((msk f n / 2^k:Nat):Int):=by simp
 rw[e,PyProof.Rows.bitAnd_pp (Int.natCast_nonneg _) (by decide)];unfold Nat.testBit;rw[Nat.shiftRight_eq_div_pow,Jc,Nat.and_comm];show((((1:Int).toNat &&& (msk f n / 2^k):Nat):Int) != 0)=_;rw[Bool.eq_iff_iff,bne_iff_ne,bne_iff_ne];constructor
 .intro h z;exact h (by rw[show(1:Int).toNat=1 from U,z];rfl)
 .intro h z;exact h (by rw[show(1:Int).toNat=1 from U]at z;lia)
def pkF(rws:List Rw)(f:Nat->Bool)(n:Nat):List Int:=((List.range n).filter f).map λk=>(rws.getD k ([],0)).2
theorem yB(rws:List Rw)(f:Nat->Bool)(n:Nat):pkF rws f (n+1)=pkF rws f n++(if f n then[(rws.getD n ([],0)).2] else[]):=by
 unfold pkF;rw[ll,md,gI];cases h:f n with
 |true=>rw[ow h];simp
 |false=>rw[oD (by rw[h];exact Bool.false_ne_true)];simp
theorem vj(rws:List Rw)(f:Nat->Bool)(n:Nat):(pkF rws f n).length<=n:=by
 unfold pkF;rw[bx];exact zQ (lG ..) (by simp)
theorem Ae(rws:List Rw)(f:Nat->Bool)(n:Nat):pkF rws (bZ ((msk f n:Nat):Int)) n=pkF rws f n:=by
 unfold pkF
 congr 1
 apply List.filter_congr
 intro k a;rw[wA];simp[jN.mp a]
def Tbl(g h f:Js)(H:Hp)(t:Js)(rws:List Rw)(i:Nat)(o:Int×Int):Prop:=∃(c d e:Js)(fs:List (Str×V))(a:List V)(b:Str),H t=Mw (.ins g e fs)/\fs.lookup s!"rows"=Mw (.ref c)/\fs.lookup s!"way"=Mw (.str b)/\fs.lookup s!"outcome"=Mw (.ref d)/\H c=Mw (.lst a)/\RL NT H a rws/\six[i]?=Mw b/\Dom h f H d o/\o.1<=o.2/\a.length<=200
theorem Tbl.same{c d b:Js}{H H':Hp}{t:Js}{rws:List Rw}{i:Nat}{o:Int×Int}(h:Tbl c d b H t rws i o)(s:au H H'):Tbl c d b H' t rws i o:=by
 obtain⟨g,j,w,fs,e,f,v,u,r,q,p,n,m,l,k,a⟩:=h;exact⟨g,j,w,fs,e,f,s _ _ v,u,r,q,s _ _ p,n.same s,m,l.same s,k,a⟩
def jd(rws:List Rw)(a:List Int)(k:Nat):Bool:=oO (rws.getD k ([],0)).1 a
theorem getD_at{rws:List Rw}{k:Nat}{w:Rw}(e:rws[k]?=Mw w):rws.getD k ([],0)=w:=by rw[dO,e];rfl
def fl(rws:List Rw)(a:List Int):List Int:=(rws.filter λw=>oO w.1 a).map (·.2)
def ord:List Nat:=[3,4,2,1,0,5]
structure Lay(H:Hp)(r1:Js)(F2 F3:Js->Prop)(m:Nat):Prop where
 top:∃xs,H r1=Mw (.lst xs)/\xs.length<=63/\∀x∈xs,∃(t ce:Js)(c:Int),x=.ref t/\H t=Mw (.tup [.ref ce,.int c])/\F2 ce
 mid:∀ce,F2 ce->∃ys,H ce=Mw (.lst ys)/\ys.length<=4/\∀y∈ys,∃l,y=.ref l/\F3 l
 low:∀l,F3 l->∃zs,H l=Mw (.lst zs)/\zs.length<=m
 n2:¬ F2 r1
 n3:¬ F3 r1
 n23:∀a,F2 a->F3 a->False
theorem yC(x:V)(xs:List V):kl (x :: xs) (Mw 1) Mx=xs:=by
 unfold kl;simp[HT.sIx]
theorem RL.hideN{N:Js->Prop}{H:Hp}{x C d:Js}{fs:List (Str×V)}(a:H x=Mw (.ins C d fs)){xs:List V}{rws:List Rw}(h:RL N H xs rws):RL N (My.hide H x) xs rws :=
 aF.mono h λr w ⟨j,i,e,n,f,c⟩=>⟨j,i,dr e (dG e a (by intro z;cases z)),n,dr f (dG f a (by intro z;cases z)),aF.mono c λl k ⟨n,b,g,p⟩=>⟨n,b,dr g (dG g a (by intro z;cases z)),PL.hide a p⟩⟩
def mh(N:Js->Prop)(j:Js)(H:Hp)(t:Js)(rws:List Rw)(g e:Str)(f:Js)(zs:List Str)(i:List V):Prop:=∃(b h c d:Js)(fs:List (Str×V))(a:List V),H t=Mw (.ins j h fs)/\fs.lookup s!"rows"=Mw (.ref b)/\fs.lookup s!"name"=Mw (.str g)/\fs.lookup s!"way"=Mw (.str e)/\fs.lookup s!"outcome"=Mw (.ref f)/\fs.lookup s!"names"=Mw (.ref c)/\fs.lookup s!"domains"=Mw (.ref d)/\H c=Mw (.lst (zs.map V.str))/\H d=Mw (.lst i)/\H b=Mw (.lst a)/\RL N H a rws/\N c/\N d/\N b/\a.length<=200
theorem mh.same{N:Js->Prop}{g:Js}{H H':Hp}{t:Js}{rws:List Rw}{e c:Str}{d:Js}{zs:List Str}{f:List V}(h:mh N g H t rws e c d zs f)(s:au H H'):mh N g H' t rws e c d zs f:=by
 obtain⟨j,x,k,y,fs,i,w,v,u,q,p,o,n,m,l,b,a,r⟩:=h;exact⟨j,x,k,y,fs,i,s _ _ w,v,u,q,p,o,n,s _ _ m,s _ _ l,s _ _ b,a.same s,r⟩
theorem mh.tbl{N:Js->Prop}{f g e:Js}{H:Hp}{t:Js}{rws:List Rw}{m a:Str}{b:Js}{zs:List Str}{w:List V}{i:Nat}{o:Int×Int}(h:mh N f H t rws m a b zs w)(hi:six[i]?=Mw a)(n:Dom g e H b o)(p:o.1<=o.2):Tbl f g e H t rws i o:=by
 obtain⟨l,v,_,_,fs,j,u,s,_,r,q,_,_,_,_,d,c,_,_,_,k⟩:=h;exact⟨l,b,v,fs,j,a,u,s,r,q,d,c.any,hi,n,p,k⟩
section
variable{H G:Hp}{Bad N:Js->Prop}
end
theorem rW{xs:List V}{k:Int}(c:0<=k)(b:k<=xs.length):kl xs (Mw k) Mx=xs.drop k.toNat:=by
 unfold kl;have e:HT.sIx xs.length 0 (Mw k)=k.toNat:=by
  simp only[HT.sIx];split <;> lia
 have a:HT.sIx xs.length xs.length Mx=xs.length:=by simp[HT.sIx]
 rw[e,a,←ki,hE]
theorem Fs{k:Int}(c:0<=k)(b:k<5):∃(a:Str)(i:Nat),atI [V.str s!"first",.str s!"only",.str s!"like",.str s!"low",.str s!"high"] k=Mw (.str a)/\six[i]?=Mw a/\a≠s!"sum" := by
 have:k=0\/k=1\/k=2\/k=3\/k=4:=by lia
 rcases this with rfl|rfl|rfl|rfl|rfl
 .exact⟨_,0,U,U,by decide⟩
 .exact⟨_,1,U,U,by decide⟩
 .exact⟨_,2,U,U,by decide⟩
 .exact⟨_,3,U,U,by decide⟩
 .exact⟨_,4,U,U,by decide⟩
def cI(a:List Int)(k:Int):Int:=a.getD k.toNat 0
structure Pts(ps:List Int):Prop where
 two:2<=ps.length
 few:ps.length<=13
 asc:ps.Pairwise (· < ·)
def loP(ps:List Int):Int:=ps.getD 0 0
def hiP(ps:List Int):Int:=ps.getD (ps.length-1) 0-1
theorem Pts.mono{ps:List Int}(h:Pts ps){i j:Nat}{x y:Int}(d:ps[i]?=Mw x)(c:ps[j]?=Mw y)(a:i<j):x<y:=by
 obtain⟨hi,rfl⟩:=IW.mp d;obtain⟨b,rfl⟩:=IW.mp c;exact rr.mp h.asc i j hi b a
theorem Pts.lo{ps:List Int}(h:Pts ps){i:Nat}{x:Int}(a:ps[i]?=Mw x):loP ps<=x:=by
 have c:=h.two;have b:ps[0]?=Mw (loP ps):=by
  unfold loP;rw[dO,IV (by lia)];rfl
 rcases Nat.eq_zero_or_pos i with rfl|hi
 .rw[b]at a;cases a;exact Int.le_refl _
 .exact Int.le_of_lt (h.mono b a hi)
theorem Pts.last{ps:List Int}(h:Pts ps):ps[ps.length-1]?=Mw (hiP ps+1):=by
 have a:=h.two;unfold hiP;rw[dO,IV (by lia)];simp
theorem Pts.hi{ps:List Int}(h:Pts ps){i:Nat}{x:Int}(a:ps[i]?=Mw x):x-1<=hiP ps:=by
 have hi:=(IW.mp a).1;by_cases e:i=ps.length-1
 .rw[e,h.last]at a;cases a;lia
 .have:=h.mono a h.last (by lia);lia
theorem Pts.le{ps:List Int}(h:Pts ps):loP ps<=hiP ps:=by
 have b:=h.two;have a:ps[0]?=Mw (loP ps):=by
  unfold loP;rw[dO,IV (by lia)];rfl
 have:=h.mono a h.last (by lia);lia
def cV(n:Nat):List Int:=(List.range n).map λj:Nat=>(0:Int)+(j:Int)
theorem rX(n:Nat):cV (n+1)=cV n++[(0:Int)+(n:Int)]:=by unfold cV;rw[ll,gI];rfl
theorem cn(n:Nat):(cV n).length=n:=by unfold cV;simp
theorem ja{n i:Nat}(h:i<n):(cV n)[i]?=Mw (i:Int):=by unfold cV;rw[gg,List.getElem?_range h];simp
theorem uy{n:Nat}(f:1<=n)(e:n<=12):Pts (cV (n+1)):=by
 refine⟨by rw[cn];lia,by rw[cn];lia,?_⟩;rw[rr];intro i j hi a d;rw[cn]at hi a;have c:=ja hi;have b:=ja a;rw[IV (by rw[cn];exact hi)]at c;rw[IV (by rw[cn];exact a)]at b;rw[Option.some.inj c,Option.some.inj b];lia
theorem wC{n:Nat}(h:1<=n):loP (cV (n+1))=0:=by
 unfold loP;rw[dO,ja (by lia)];rfl
theorem wD(n:Nat):hiP (cV (n+1))=(n:Int)-1:=by
 unfold hiP;rw[cn,dO,show n+1-1=n by lia,ja (by lia)];rfl
def PTL(H:Hp)(xs:List V)(pss:List (List Int)):Prop:=aF xs pss λl a=>H l=Mw (.lst (a.map V.int))
theorem PTL.same{H H':Hp}{xs:List V}{pss:List (List Int)}(h:PTL H xs pss)(s:au H H'):PTL H' xs pss:=aF.mono h λ_ _ e=>s _ _ e
structure qI(ns:List Int)(pss:List (List Int)):Prop where
 pts:∀ps∈pss,Pts ps
 wrd:∀(j:Nat)(ps:List Int),pss[j]?=Mw ps->cI ns (1+(0+(j:Int)))%3=1->∃n:Nat,1<=n/\n<=12/\ps=cV (n+1)
theorem Ft{k:Int}(b:0<=k)(a:k<5):∃v:Int,atI [V.int 10007,.int 10009,.int 10037,.int 10039,.int 10061] k=Mw (.int v)/\0<v:=by
 have:k=0\/k=1\/k=2\/k=3\/k=4:=by lia
 rcases this with rfl|rfl|rfl|rfl|rfl
 .exact⟨_,U,by decide⟩
 .exact⟨_,U,by decide⟩
 .exact⟨_,U,by decide⟩
 .exact⟨_,U,by decide⟩
 .exact⟨_,U,by decide⟩
def s2(c:Int):List Nat:=[113+(c%8).toNat,121+(c / 8%2).toNat]
def w3l(c k:Int):List Nat:=(s2 c).take (c / 16%3).toNat++([97+k.toNat]++(s2 c).drop (c / 16%3).toNat)
def w3(c k:Int):Str:=⟨(w3l c k).toArray⟩
theorem Fu(c:Int):(c / 16%3).toNat<=2:=by
 have:=Jb (c / 16) (show(0:Int)<3 by decide);lia
theorem yD(c k:Int):(w3l c k).length=3:=by
 have:=Fu c;unfold w3l s2;simp;lia
theorem uz(c k:Int)(f:0<=k)(e:k<12):∀x∈w3l c k,97<=x/\x<=122/\x≠110:=λx a=>by
 have j:=Ja c (show(8:Int)≠0 by decide);have i:=Jb c (show(0:Int)<8 by decide);have h:=Ja (c / 8) (show(2:Int)≠0 by decide);have g:=Jb (c / 8) (show(0:Int)<2 by decide);have d:∀y∈s2 c,97<=y/\y<=122/\y≠110:=λy b=>by
  unfold s2 at b;simp only[dV,jY,or_false]at b;lia
 unfold w3l at a;rcases ik.mp a with a|a
 .exact d x (sU a)
 .rcases ik.mp a with a|a
  .have:x=97+k.toNat:=by simpa using a
   lia
  .exact d x (sV a)
theorem Cf{l:List Nat}(j:1<=l.length)(i:l.length<=12)(f:∀x∈l,97<=x/\x<=122)(d:l≠[110,111,116]):isw ⟨l.toArray⟩=true:=by
 have c:mS ⟨l.toArray⟩ lets=true:=by
  unfold mS;rw[jO];intro x a;exact Ce (f x (by simpa using a))
 have b:¬ (V.str ⟨l.toArray⟩=V.str s!"not"):=λh=>by
  injection h with h;have e:s!"not" = ⟨[110,111,116].toArray⟩:=by decide+kernel
  rw[e]at h;injection h with h;exact d (by simpa using MK Array.toList h)
 have g:(⟨l.toArray⟩:Str).length=l.length:=by simp[Str.length]
 unfold isw;rw[c,MH (show(1:Int)<=(((⟨l.toArray⟩:Str).length:Nat):Int) by lia),MH (show(((⟨l.toArray⟩:Str).length:Nat):Int)<=12 by lia)];show(Mz && (Mz && (!MB (V.str ⟨l.toArray⟩=V.str s!"not") && Mz)))=Mz;rw[MI b];rfl
theorem yE(c k:Int)(b:0<=k)(a:k<12):isw (w3 c k)=true :=
 Cf (by rw[yD];decide) (by rw[yD];decide) (λx d=>⟨(uz c k b a x d).1,(uz c k b a x d).2.1⟩) λh=>(uz c k b a 110 (by rw[h];simp)).2.2 U
theorem yF{c k a:Int}(d:0<=k)(b:0<=a)(e:w3 c k=w3 c a):k=a:=by
 unfold w3 at e;injection e with e;have e:w3l c k=w3l c a:=by simpa using MK Array.toList e
 unfold w3l at e;have e:=List.append_cancel_left e;injection e with e _;lia
def w3s(c:Int)(n:Nat):List Str:=(List.range n).map λj:Nat=>w3 c (0+(j:Int))
theorem nA(c:Int)(n:Nat):w3s c (n+1)=w3s c n++[w3 c (0+(n:Int))]:=by unfold w3s;rw[ll,gI];rfl
theorem fK(c:Int)(n:Nat):(w3s c n).length=n:=by unfold w3s;simp
theorem pS(c:Int)(n:Nat):(w3s c n).Nodup:=by
 unfold w3s;rw[List.nodup_iff_pairwise_ne,List.pairwise_map];refine List.Pairwise.imp_of_mem (R:=λa b=>a≠b) (λ{a b} g f d e=>?_) List.nodup_range;have:=yF (by lia) (by lia) e;lia
theorem vk{c:Int}{n:Nat}(h:n<=12):∀z∈w3s c n,isw z=true:=λz a=>by
 unfold w3s at a;obtain⟨j,b,rfl⟩:=eK.mp a;have:=jN.mp b;exact yE _ _ (by lia) (by lia)
theorem rY{c:Int}{n:Nat}(b:1<=n)(a:n<=12):Good (w3s c n):=⟨by rw[fK];exact b,by rw[fK];lia,vk a,pS c n⟩
theorem DC(x y:Nat){t:Int}(b:0<=t)(a:t<3):Txt.slice ⟨#[x,y]⟩ Mx (Mw t)=⟨([x,y].take t.toNat).toArray⟩:=by
 have:t=0\/t=1\/t=2:=by lia
 rcases this with rfl|rfl|rfl <;> rfl
theorem DD(x y:Nat){t:Int}(a:0<=t)(b:t<3):Txt.slice ⟨#[x,y]⟩ (Mw t) Mx=⟨([x,y].drop t.toNat).toArray⟩:=by
 have h:=StrLaws.sliceText_from (x:=⟨#[x,y]⟩) (i:=t) ⟨a,by show t<=2;lia⟩;have e:Txt.slice ⟨#[x,y]⟩ (Mw t) Mx=StrLaws.sliceText ⟨#[x,y]⟩ (Mw t) none:=rfl;rw[e,h];have:t=0\/t=1\/t=2:=by lia
 rcases this with rfl|rfl|rfl <;> simp
theorem qx8{k:Int}(b:0<=k)(a:k<8):atI s!"qrstuvwx".cps.toList k=Mw (113+k.toNat):=by
 have:k=0\/k=1\/k=2\/k=3\/k=4\/k=5\/k=6\/k=7:=by lia
 rcases this with rfl|rfl|rfl|rfl|rfl|rfl|rfl|rfl <;> decide+kernel
theorem yz2{k:Int}(b:0<=k)(a:k<2):atI s!"yz".cps.toList k=Mw (121+k.toNat):=by
 have:k=0\/k=1:=by lia
 rcases this with rfl|rfl <;> decide+kernel
theorem DE:s!"abcdefghijkl".cps.toList=(List.range 12).map (97 + ·):=by decide+kernel
def gL(c:Int)(g:List Int):Prop:=∃f e d b a:Int,g=[f,e,d,b,a]/\f<=e/\e<=d/\d<=b/\b<=a/\(c%3=1->f=0/\a=4)
def o0(a:List Int):Int:=a.getD 0 0
def o4(a:List Int):Int:=a.getD 4 0
theorem Af{c:Int}{a:List Int}(h:gL c a):∀x∈a,o0 a<=x/\x<=o4 a:=by
 obtain⟨e,i,g,f,d,rfl,m,l,k,j,_⟩:=h;intro x b;show e<=x/\x<=d;simp only[dV,jY,or_false]at b;rcases b with rfl|rfl|rfl|rfl|rfl <;> lia
theorem Fv{k:Int}(c:0<=k)(b:k<6):∃(a:Str)(i:Nat),atI [V.str s!"first",.str s!"only",.str s!"like",.str s!"low",.str s!"high",.str s!"sum"] k=Mw (.str a)/\six[i]?=Mw a:=by
 have:k=0\/k=1\/k=2\/k=3\/k=4\/k=5:=by lia
 rcases this with rfl|rfl|rfl|rfl|rfl|rfl
 .exact⟨_,0,U,U⟩
 .exact⟨_,1,U,U⟩
 .exact⟨_,2,U,U⟩
 .exact⟨_,3,U,U⟩
 .exact⟨_,4,U,U⟩
 .exact⟨_,5,U,U⟩
def BRL(H:Hp)(a:List V)(bms:List (List Int×Int)):Prop:=aF a bms λr b=>∃bl:Js,H r=Mw (.tup [.ref bl,.int b.2])/\H bl=Mw (.lst (b.1.map V.int))
theorem BRL.same{H H':Hp}{a:List V}{bms:List (List Int×Int)}(h:BRL H a bms)(s:au H H'):BRL H' a bms:=aF.mono h λ_ _ ⟨bl,e,f⟩=>⟨bl,s _ _ e,s _ _ f⟩
theorem yG{xs:List V}{k:Nat}(b:k<=xs.length):kl xs Mx (Mw (k:Int))=xs.take k:=by
 unfold kl;have e:HT.sIx xs.length xs.length (Mw (k:Int))=k:=by
  simp only[HT.sIx];split <;> lia
 have a:HT.sIx xs.length 0 Mx=0:=by simp[HT.sIx]
 rw[e,a,List.drop_zero,Nat.sub_zero]
theorem mh.wk{N:Js->Prop}{g:Js}{H:Hp}{t:Js}{rws:List Rw}{e c:Str}{d:Js}{zs:List Str}{f:List V}(h:mh N g H t rws e c d zs f):mh (λ_=>True) g H t rws e c d zs f:=by
 obtain⟨j,x,k,y,fs,i,w,v,u,s,q,o,n,m,l,b,a,_,_,_,r⟩:=h;exact⟨j,x,k,y,fs,i,w,v,u,s,q,o,n,m,l,b,aF.mono a λ_ _ p=>p.wk λ_ _=>trivial,trivial,trivial,trivial,r⟩
theorem wF{K:W.Frag}{H:Hp}{Q:VK}{a b:Js}{xs ys:List V}(e:SqL K H a xs)(d:SqL K H b ys)(c:xs.length=ys.length)(h:∀(j:Nat)(x y:V),xs[j]?=Mw x->ys[j]?=Mw y->DEq K H 60 x y Mz)(q:Q (.bl Mz) H):xT K MA (.ref a) (.ref b) H Q:=by
 refine⟨a,b,xs,ys,U,U,e,d,.inr ⟨c,λ_=>Mz,h,?_⟩⟩;rw[show(List.range xs.length).all (λ_=>Mz)=Mz by simp];exact q
def ck(lo hi:Int)(a:List Int):List (Int×Int):=(lo :: a).zip (a.map (· - 1)++[hi])
def Chn:List (Int×Int)->Int->Int->Prop
 | [],lo,hi=>lo=hi+1
 |p :: r,lo,hi=>p.1=lo/\lo<=p.2/\Chn r (p.2+1) hi
theorem rZ:∀{a:List Int}{lo hi:Int},a.Pairwise (· < ·)->(∀c∈a,lo<c/\c<=hi)->lo<=hi->Chn (ck lo hi a) lo hi
 | [],lo,hi,_,_,h=>⟨U,h,U⟩
 |c :: a,lo,hi,hp,hb,h=>by
  obtain⟨i,g⟩:=xb.mp hp;have f:=hb c fw;have e:ck lo hi (c :: a)=(lo,c-1) :: ck c hi a:=rfl;rw[e];refine⟨U,by show lo<=c-1;lia,?_⟩;show Chn (ck c hi a) (c-1+1) hi;rw[show c-1+1=c by lia];exact rZ g (λd b=>⟨i d b,(hb d (jf _ b)).2⟩) f.2
theorem gk(lo hi:Int)(a:List Int):(ck lo hi a).length=a.length+1:=by simp[ck]
theorem PL.of_get{H:Hp}:∀{ts:List Js}{ps:List (Int×Int)},ts.length=ps.length->(∀(j:Nat)(p:Int×Int),ps[j]?=Mw p->∃T,ts[j]?=Mw T/\H T=Mw (.tup [.int p.1,.int p.2]))->PL H (ts.map V.ref) ps
 | [],[],_,_=>.nil
 | [],p :: ps,h,_=>by simp at h
 |t :: ts,[],h,_=>by simp at h
 |t :: ts,p :: ps,h,g=>by
  obtain⟨T,c,b⟩:=g 0 p U;have:t=T:=by simpa using c
  subst this;exact .cons ⟨t,U,b⟩ (PL.of_get (by simpa using h) λj q a=>by simpa using g (j+1) q (by simpa using a))
theorem zip_get{lo hi:Int}{a:List Int}{j:Nat}{p:Int×Int}(e:(ck lo hi a)[j]?=Mw p):((lo :: a).map V.int)[j]?=Mw (.int p.1)/\((a.map (· - 1)++[hi]).map V.int)[j]?=Mw (.int p.2):=by
 unfold ck at e;rw[pk]at e;obtain⟨c,b⟩:=e;exact⟨get_map c,get_map b⟩
def nB(lo hi:Int)(a:List Int)(m:Int):List Int:=if lo<m/\m<=hi/\m ∉ a then a++[m]else a
def dd(lo hi:Int)(a:List Int):List Int:=a.foldl (nB lo hi) []
theorem qJ(lo hi:Int):∀(e d:List Int),d.Nodup->(e.foldl (nB lo hi) d).Nodup/\∀c,c∈e.foldl (nB lo hi) d↔(c∈d\/(c∈e/\lo<c/\c<=hi))
 | [],d,h=>⟨h,λc=>by simp⟩
 |m :: e,d,h=>by
  have k:(nB lo hi d m).Nodup:=by
   unfold nB;split
   .rename_i g
    rw[wj];refine⟨h,by simp,λa j b i=>?_⟩;have:b=m:=by simpa using i
    subst this;exact λz=>g.2.2 (z ▸ j)
   .exact h
  obtain⟨n,l⟩:=qJ lo hi e (nB lo hi d m) k;refine⟨n,λc=>(l c).trans ?_⟩;unfold nB;by_cases g:lo<m/\m<=hi/\m ∉ d
  .rw[ME g];simp only[ik,dV,jY,or_false];constructor
   .rintro((h|rfl)|⟨h,h'⟩)
    .exact .inl h
    .exact .inr ⟨.inl U,g.1,g.2.1⟩
    .exact .inr ⟨.inr h,h'⟩
   .rintro(h|⟨rfl|h,h'⟩)
    .exact .inl (.inl h)
    .exact .inl (.inr U)
    .exact .inr ⟨h,h'⟩
  .rw[MD g];simp only[dV];constructor
   .rintro(h|⟨h,h'⟩)
    .exact .inl h
    .exact .inr ⟨.inr h,h'⟩
   .rintro(h|⟨rfl|h,h'⟩)
    .exact .inl h
    .by_cases f:c∈d
     .exact .inl f
     .exact MG ⟨h'.1,h'.2,f⟩ g
    .exact .inr ⟨h,h'⟩
theorem Cg{lo hi:Int}{a b:List Int}(g:b.Pairwise (· < ·))(i:∀c,c∈b↔(c∈a/\lo<c/\c<=hi)):b.length=(dd lo hi a).length:=by
 obtain⟨j,f⟩:=qJ lo hi a [] xc;have e:∀c,c∈b↔c∈dd lo hi a:=λc=>by
  rw[i c];exact⟨λh=>(f c).mpr (.inr h),λh=>by rcases(f c).mp h with z|z;cases z;exact z⟩
 exact Nat.le_antisymm (bQ (g.imp λh=>Int.ne_of_lt h) λx d=>(e x).mp d) (bQ j λx d=>(e x).mpr d)
theorem DF(lo hi:Int)(a:List Int):(dd lo hi a).length<=a.length:=by
 obtain⟨d,c⟩:=qJ lo hi a [] xc;exact bQ d λx b=>by rcases(c x).mp b with z|z;cases z;exact z.1
def gl(ps:List (Int×Int))(a:List (List Int))(j:Nat):Nat:=(dd (ps.getD j (0,0)).1 (ps.getD j (0,0)).2 (a.getD j [])).length+1
def gr(ps:List (Int×Int))(a:List (List Int)):Nat->Nat
 |0=>1
 |n+1=>gr ps a n*gl ps a n
theorem DG{ps:List (Int×Int)}{a:List (List Int)}(h:∀b∈a,b.length<=57)(j:Nat):gl ps a j<=58:=by
 unfold gl;have:=DF (ps.getD j (0,0)).1 (ps.getD j (0,0)).2 (a.getD j []);have c:(a.getD j []).length<=57:=by
  rw[dO];cases e:a[j]? with
  |none=>simp
  |some b=>exact h b (IX e)
 lia
theorem Bd{ps:List (Int×Int)}{c:List (List Int)}(h:∀ms∈c,ms.length<=57):∀n,gr ps c n<=58^n
 |0=>zz _
 |n+1=>by
  have a:=Bd (ps:=ps) h n;have b:=DG (ps:=ps) h n;show gr ps c n*gl ps c n<=58^n*58;exact EB a b
def MLs(H:Hp)(c:List Js)(a:List (List Int)):Prop:=c.length=a.length/\∀(j:Nat)(b:List Int),a[j]?=Mw b->∃r,c[j]?=Mw r/\H r=Mw (.lst (b.map V.int))
theorem MLs.keep{H H':Hp}{b:List Js}{a:List (List Int)}(h:MLs H b a)(k:∀r∈b,∀o,H r=Mw o->H' r=Mw o):MLs H' b a :=
 ⟨h.1,λj c e=>let ⟨r,e1,e2⟩:=h.2 j c e;⟨r,e1,k r (IX e1) _ e2⟩⟩
theorem MLs.same{H H':Hp}{b:List Js}{a:List (List Int)}(h:MLs H b a)(s:au H H'):MLs H' b a:=h.keep λ_ _ _ e=>s _ _ e
theorem yH{a:List Js}{j:Nat}{x:V}(e:(a.map V.ref)[j]?=Mw x):∃r,x=.ref r/\a[j]?=Mw r:=by
 rw[gg]at e;cases h:a[j]? with
 |none=>rw[h]at e;cases e
 |some r=>rw[h]at e;cases e;exact⟨r,U,U⟩
def MOK(ps:List (Int×Int))(a:List (List Int)):Prop:=ps.length=a.length/\ps.length<=6/\∀ms∈a,ms.length<=57
abbrev Tri:=Int×Int×V
structure At(ts:List Tri)(c:Int)(j:Nat)(t:Tri):Prop where
 at_:ts[j]?=Mw t
 le:c<=t.2.1
 lt:∀(i:Nat)(u:Tri),i<j->ts[i]?=Mw u->u.2.1<c
theorem Be:∀{c:List (Int×Int)}{lo hi:Int},Chn c lo hi->Aa c lo hi
 | [],_,_,h=>h
 |_ :: _,_,_,h=>⟨h.1,h.2.1,Be h.2.2⟩
theorem nC:∀{a:List Int}{lo hi c:Int},a.Pairwise (· < ·)->(∀x∈a,lo<x)->lo<=c->c<=hi->cj (ck lo hi a) c<=c/\(cj (ck lo hi a) c=lo\/cj (ck lo hi a) c∈a)/\lo<=cj (ck lo hi a) c/\∀x∈a,x<=c->x<=cj (ck lo hi a) c
 | [],lo,hi,c,_,_,h1,h2=>by
  have e:cj (ck lo hi []) c=lo:=by simp[ck,cj,h2]
  rw[e];exact⟨h1,.inl U,Int.le_refl _,λx b=>by cases b⟩
 |d :: a,lo,hi,c,hp,hb,h1,h2=>by
  obtain⟨h,j⟩:=xb.mp hp;have e:ck lo hi (d :: a)=(lo,d-1) :: ck d hi a:=rfl;by_cases q:c<=d-1
  .have g:cj (ck lo hi (d :: a)) c=lo:=by rw[e];unfold cj;rw[lH (by simpa using q)];rfl
   rw[g];refine⟨h1,.inl U,Int.le_refl _,λx b i=>?_⟩;rcases dV.mp b with rfl|b
   .lia
   .have:=h x b;lia
  .have g:cj (ck lo hi (d :: a)) c=cj (ck d hi a) c:=by rw[e];unfold cj;rw[lI (by simpa using q)]
   rw[g];obtain⟨m,f,l,k⟩:=nC j h (c:=c) (by lia) h2;have n:=hb d fw;refine⟨m,.inr ?_,by lia,λx b i=>?_⟩
   .rcases f with f|f
    .rw[f];exact fw
    .exact jf _ f
   .rcases dV.mp b with rfl|b
    .exact l
    .exact k x b i
def CoL(H:Hp)(xs:List V)(a:List (List (Int×Int))):Prop:=aF xs a λr c=>∃b,H r=Mw (.lst b)/\PL H b c
theorem CoL.same{H H':Hp}{xs:List V}{a:List (List (Int×Int))}(h:CoL H xs a)(s:au H H'):CoL H' xs a:=aF.mono h λ_ _ ⟨b,e,p⟩=>⟨b,s _ _ e,PL.mono p s.tups⟩
structure Ci{K':W.Frag}{L:Type} [DecidableEq L] (A:Lfp K' L)(P:Jr)(w:Jq)(K:W.Frag)(mg:Str->Option Jp)(base:Jt)(f:Js)(m:Nat)(g:List Int->L)(J:Hp->Prop):Prop where
 fn:∃sp,HFn P w K mg base 8 f sp/\∀(H:Hp)(a:Js)(cs:List Int)(Q:VK),J H->cs.length=m->H a=Mw (.lst (cs.map V.int))->(∀v H',(∀b o,b≠a->H b=Mw o->H' b=Mw o)->A.R H' (g cs) v->Q v H')->sp [.ref a] H Q E0
 ob:∀H,J H->FnO H f
 st:∀H H',J H->au H H'->J H'
theorem pT{α:Type} [DecidableEq α] (ts:List (T3a α)):(eN ts).length<=ts.length:=by
 have:∀(r f:List (T3a α)),(r.foldl dg f).length<=f.length+r.length:=by
  intro r;induction r with
  |nil=>intro f;exact zz _
  |cons t r a =>
   intro f;have c:(dg f t).length<=f.length+1:=by
    unfold dg;split
    .split
     .rw[dt,List.length_dropLast,gy];lia
     .rw[dt,gy];lia
    .rw[dt,gy];lia
   have b:=a (dg f t);rw[iQ];show((r.foldl dg (dg f t)).length)<=_;lia
 have h:=this ts [];rw[wh,Nat.zero_add]at h;exact h
def below(a:List Int)(c:Int):Int:=((a.filter λm=>decide (m<=c)).length:Int)
def Cj(a:List (List Int))(b:Int)(c:List Int):Nat->Int
 |0=>0
 |k+1=>Cj a b c k*b+(1+Cj a b c k)%3*below (a.getD k []) (c.getD k 0)
def told(a:List (List Int))(c d st:Int)(b:List Int):Int:=Cj a c b b.length%d*st
def SmS{α:Type}(b:Nat)(S:α->Prop)(f:List (T3a α)):Prop:=f.length<=b/\∀t∈f,S t.2.2
def SmF{L:Type}(b:Nat):(n:Nat)->Fm L n->Prop
 |0,_=>True
 |n+1,f=>SmS b (SmF b n) f
theorem uA{b:Nat}{L:Type} [DecidableEq L] {g:List Int->L}:∀{a:List (List (Int×Int))}{ps:List (Int×Int)},gi a ps->(∀c∈a,c.length<=b)->∀e:List Int,SmF b a.length (lay g a e)
 | [],_,_,_,_=>trivial
 |c :: a,_,hok,h,e=>by
  cases hok with
  | @cons _ _ p ps hne d hok =>
   have k:=eA (yq (λq=>lay g a (e++[q.1])) d);refine⟨zQ (pT _) (by rw[bx];exact h c fw),λt f=>?_⟩;obtain⟨l,j,i⟩:=k.mem t f;obtain⟨q,_,rfl⟩:=eK.mp j;rw[←i];exact uA hok (λc d=>h c (jf _ d)) _
theorem Ck{ps:List (Int×Int)}{c:List (List Int)}{m:Nat}(g:∀d∈c,∃L:List Int,L.length<=m/\∀x∈d,x∈L)(j:Nat):gl ps c j<=m+1:=by
 unfold gl;have:(dd (ps.getD j (0,0)).1 (ps.getD j (0,0)).2 (c.getD j [])).length<=m:=by
  rw[show c.getD j []=(c[j]?).getD []from dO ..];cases e:c[j]? with
  |none=>exact Az _
  |some d =>
   obtain⟨L,i,h⟩:=g d (IX e);obtain⟨a,b⟩:=qJ (ps.getD j (0,0)).1 (ps.getD j (0,0)).2 d [] xc;refine zQ (bQ a λx f=>?_) i;rcases(b x).mp f with z|z
   .cases z
   .exact h x z.1
 lia
theorem uB:∀{ps:List (Int×Int)}{css:List (List Int)},css.length=ps.length->(∀p∈ps,p.1<=p.2)->(∀(j:Nat)(p:Int×Int)(d:List Int),ps[j]?=Mw p->css[j]?=Mw d->d.Pairwise (· < ·)/\∀c∈d,p.1<c/\c<=p.2)->gi (List.zipWith (λp d=>ck p.1 p.2 d) ps css) ps
 | [],[],_,_,_=>.nil
 | [],_ :: _,h,_,_=>by simp at h
 |_ :: _,[],h,_,_=>by simp at h
 |p :: ps,d :: css,h,hle,hk=>by
  obtain⟨a,b⟩:=hk 0 p d U U;refine .cons (λz=>?_) (Be (rZ a b (hle p fw))) (uB (by simpa using h) (λq e=>hle q (jf _ e)) λj q c g f=>hk (j+1) q c (by simpa using g) (by simpa using f));have:=MK List.length z;rw[gk]at this;simp at this
def oP{L M:Type} [DecidableEq M] (h:L->M):(n:Nat)->Fm L n->Fm M n
 |0,x=>h x
 |n+1,f=>eN (List.map (λt:T3a (Fm L n)=>((t.1,t.2.1,oP h n t.2.2):T3a (Fm M n))) f)
theorem qK{α a:Type}(F:α->a):∀{f:List (T3a α)}{lo hi:Int},Ch3 f lo hi->Ch3 (f.map λt=>((t.1,t.2.1,F t.2.2):T3a a)) lo hi
 | [],_,_,h=>h
 |_ :: _,_,_,h=>⟨h.1,h.2.1,qK F h.2.2⟩
theorem sd{α a:Type}(F:α->a)(c:Int):∀f:List (T3a α),vAt (f.map λt=>((t.1,t.2.1,F t.2.2):T3a a)) c=(vAt f c).map F
 | []=>rfl
 |t :: f=>by
  have b:=sd F c f;unfold vAt at b⊢;rw[jS];by_cases q:c<=t.2.1
  .rw[lH (by simpa using q),lH (by simpa using q)];rfl
  .rw[lI (by simpa using q),lI (by simpa using q)];exact b
theorem eZ{α:Type}{c:Int}:∀{f:List (T3a α)}{j:Nat}{t:T3a α},f[j]?=Mw t->c<=t.2.1->(∀(i:Nat)(u:T3a α),i<j->f[i]?=Mw u->u.2.1<c)->vAt f c=Mw t.2.2
 | [],j,t,e,_,_=>by simp at e
 |u :: f,0,t,e,h,_=>by
  cases e;unfold vAt;rw[lH (by simpa using h)];rfl
 |u :: f,j+1,t,e,h,k=>by
  have a:=k 0 u (Dk _) U;have:=eZ (f:=f) (j:=j) (t:=t) (by simpa using e) h λi w hi b=>k (i+1) w (by lia) (by simpa using b)
  unfold vAt at this⊢;rw[lI (by simpa using a)];exact this
theorem yI{L M:Type} [DecidableEq M] {h:L->M}:∀{n:Nat}{F:Fm L n}{ps:List (Int×Int)},cc n F ps->cc n (oP h n F) ps
 |0,_,_,hs=>hs
 |n+1,F,ps,hs=>by
  obtain⟨G,rfl⟩:∃G:List (T3a (Fm L n)),(G:Fm L (n+1))=F:=⟨F,U⟩;obtain⟨p,r,rfl,c,d,i,g⟩:ShS (cc n) G ps:=hs;have k:=eA (qK (oP h n) d);refine⟨p,r,U,k.ne (by simpa using c),k.ch,k.nb,λt f=>?_⟩;obtain⟨j,a,b⟩:=k.mem t f;obtain⟨u,e,rfl⟩:=eK.mp a;rw[←b];exact yI (g u e)
theorem Ag{L M:Type} [DecidableEq M] {h:L->M}{n:Nat}{F:Fm L n}{a:List Int}{x:L}(i:Tel n F a x):∀{ps:List (Int×Int)},cc n F ps->InB a ps->Tel n (oP h n F) a (h x):=by
 induction i with
 |nil x=>intro ps _ _;exact .nil (h x)
 | @cons n f c a x j t e1 e2 e3 _ ih =>
  intro ps l d;obtain⟨p,r,rfl,w,e,y,q⟩:ShS (cc n) f ps:=l;cases d with
  |cons o m d =>
   have k:=eA (qK (oP h n) e);obtain⟨z,g,v,A,u,s,b⟩:=k.ch.at o m;rw[k.va,sd,eZ e1 e2 e3]at b;have b:oP h n t.2.2=g.2.2:=Option.some.inj b;refine .cons (f:=(oP h (n+1) f:List (T3a (Fm M n)))) v u s ?_;rw[←b];exact ih (q t (IX e1)) d
structure DH{K':W.Frag}{L M:Type} [DecidableEq L] [DecidableEq M] (A:Lfp K' L)(B:Lfp K' M)(P:Jr)(w:Jq)(K:W.Frag)(mg:Str->Option Jp)(base:Jt)(f:Js)(h:L->M)(J:Hp->Prop):Prop where
 fn:∃sp,HFn P w K mg base 8 f sp/\∀(H:Hp)(v:V)(x:L)(Q:VK),J H->A.R H x v->(∀u H',au H H'->B.R H' (h x) u->Q u H')->sp [v] H Q E0
 ob:∀H,J H->FnO H f
 st:∀H H',J H->au H H'->J H'
def lB{α b a:Type}(G:α->b->a):Int->List (T3a α)->List (T3a b)->List (T3a a)
 |_,[],_=>[]
 |_,_ :: _,[]=>[]
 |lo,s :: f,t :: g =>
  if s.2.1<t.2.1 then(lo,s.2.1,G s.2.2 t.2.2) :: lB G (s.2.1+1) f (t :: g)
  else if t.2.1<s.2.1 then(lo,t.2.1,G s.2.2 t.2.2) :: lB G (t.2.1+1) (s :: f) g
  else(lo,s.2.1,G s.2.2 t.2.2) :: lB G (s.2.1+1) f g
termination_by _ f g=>f.length+g.length
def Cov{α:Type}:List (T3a α)->Int->Int->Prop
 | [],lo,hi=>lo=hi+1
 |t :: r,lo,hi=>lo<=t.2.1/\Ch3 r (t.2.1+1) hi
theorem _root_.L2.Ch3.cov{α:Type}:∀{f:List (T3a α)}{lo hi:Int},Ch3 f lo hi->Cov f lo hi
 | [],_,_,h=>h
 |_ :: _,_,_,h=>⟨h.2.1,h.2.2⟩
theorem _root_.L2.Ch3.le{α:Type}:∀{f:List (T3a α)}{lo hi:Int},Ch3 f lo hi->lo<=hi+1
 | [],_,_,h=>Int.le_of_eq h
 |t :: f,lo,hi,h=>by have:=L2.Ch3.le h.2.2;have:=h.2.1;lia
theorem cm{α:Type}(t:T3a α)(r:List (T3a α))(c:Int):vAt (t :: r) c=if c<=t.2.1 then Mw t.2.2 else vAt r c:=by
 unfold vAt;by_cases h:c<=t.2.1
 .rw[lH (by simpa using h),ME h];rfl
 .rw[lI (by simpa using h),MD h]
structure Bf{α β γ:Type}(G:α->β->γ)(f:List (T3a α))(g:List (T3a β))(z:List (T3a γ))(lo hi:Int):Prop where
 ch:Ch3 z lo hi
 va:∀c x y,lo<=c->c<=hi->vAt f c=Mw x->vAt g c=Mw y->vAt z c=Mw (G x y)
 mem:∀t∈z,∃s∈f,∃u∈g,t.2.2=G s.2.2 u.2.2
 len:z.length<=f.length+g.length
 ne:f≠[]->g≠[]->z≠[]
theorem mE{α v B:Type}{G:α->v->B}:∀{f:List (T3a α)}{g:List (T3a v)}{lo hi:Int},Cov f lo hi->Cov g lo hi->Bf G f g (lB G lo f g) lo hi
 | [],g,lo,hi,l,m=>by
  rw[lB];have l:lo=hi+1:=l;exact⟨l,λc _ _ u r=>by lia,(λt C=>by cases C),Az _,λh=>MG U h⟩
 |s :: f,[],lo,hi,l,m=>by
  have m:lo=hi+1:=m;have:=l.1;have:=l.2.le;lia
 |s :: f,t :: g,lo,hi,l,m=>by
  rw[lB];have w:=l.1;have D:=m.1;by_cases u:s.2.1<t.2.1
  .rw[ME u];have k:=mE (G:=G) (f:=f) (g:=t :: g) (lo:=s.2.1+1) (hi:=hi) l.2.cov ⟨by lia,m.2⟩;refine⟨⟨U,w,k.ch⟩,λc x y A p d i=>?_,λz j=>?_,by have:=k.len;simp at this⊢;lia,λ_ _=>by simp⟩
   .rw[cm]at d⊢;by_cases q:c<=s.2.1
    .rw[ME q]at d;rw[cm,ME (by lia)]at i;cases d;cases i;rw[ME q]
    .rw[MD q]at d;rw[MD q];exact k.va c x y (by lia) p d i
   .rcases dV.mp j with rfl|j
    .exact⟨s,by simp,t,by simp,U⟩
    .obtain⟨a,o,b,n,e⟩:=k.mem z j;exact⟨a,jf _ o,b,n,e⟩
  .rw[MD u];by_cases r:t.2.1<s.2.1
   .rw[ME r];have k:=mE (G:=G) (f:=s :: f) (g:=g) (lo:=t.2.1+1) (hi:=hi) ⟨by lia,l.2⟩ m.2.cov;refine⟨⟨U,D,k.ch⟩,λc x y A p d i=>?_,λz j=>?_,by have:=k.len;simp at this⊢;lia,λ_ _=>by simp⟩
    .rw[cm];by_cases q:c<=t.2.1
     .rw[cm,ME (by lia)]at d;rw[cm,ME q]at i;cases d;cases i;rw[ME q]
     .rw[cm,MD q]at i;rw[MD q];exact k.va c x y (by lia) p d i
    .rcases dV.mp j with rfl|j
     .exact⟨s,by simp,t,by simp,U⟩
     .obtain⟨a,o,b,n,e⟩:=k.mem z j;exact⟨a,o,b,jf _ n,e⟩
   .rw[MD r];have e:s.2.1=t.2.1:=by lia
    have k:=mE (G:=G) (f:=f) (g:=g) (lo:=s.2.1+1) (hi:=hi) l.2.cov (by rw[e];exact m.2.cov);refine⟨⟨U,w,k.ch⟩,λc x y A p d i=>?_,λz j=>?_,by have:=k.len;simp at this⊢;lia,λ_ _=>by simp⟩
    .rw[cm]at d i⊢;by_cases q:c<=s.2.1
     .rw[ME q]at d;rw[ME (by lia)]at i;cases d;cases i;rw[ME q]
     .rw[MD q]at d;rw[MD (by lia)]at i;rw[MD q];exact k.va c x y (by lia) p d i
    .rcases dV.mp j with rfl|j
     .exact⟨s,by simp,t,by simp,U⟩
     .obtain⟨a,o,b,n,e⟩:=k.mem z j;exact⟨a,jf _ o,b,jf _ n,e⟩
termination_by f g=>f.length+g.length
def loF{α:Type}(f:List (T3a α)):Int:=(f.head?.map (·.1)).getD 0
def pairF{L M N:Type} [DecidableEq N] (h:L->M->N):(n:Nat)->Fm L n->Fm M n->Fm N n
 |0,x,y=>h x y
 |n+1,f,g=>eN (α:=Fm N n) (lB (pairF h n) (loF (show List (T3a (Fm L n))from f)) (show List (T3a (Fm L n))from f) (show List (T3a (Fm M n))from g))
theorem _root_.L2.Ch3.lo{α:Type}:∀{f:List (T3a α)}{lo hi:Int},Ch3 f lo hi->f≠[]->loF f=lo
 | [],_,_,_,h=>MG U h
 |_ :: _,_,_,h,_=>h.1
section
variable{L M N:Type} [DecidableEq N] {h:L->M->N}
theorem nE{n:Nat}{f:List (T3a (Fm L n))}{g:List (T3a (Fm M n))}{p:Int×Int}(a:Ch3 f p.1 p.2)(b:f≠[])(c:Ch3 g p.1 p.2):∃z,z=lB (pairF h n) p.1 f g/\Bf (pairF h n) f g z p.1 p.2/\(pairF h (n+1) f g:List (T3a (Fm N n)))=eN z:=by
 refine⟨_,U,mE a.cov c.cov,?_⟩;show eN (lB (pairF h n) (loF f) f g)=_;rw[a.lo b]
theorem mF:∀{n:Nat}{F:Fm L n}{G:Fm M n}{ps:List (Int×Int)},cc n F ps->cc n G ps->cc n (pairF h n F G) ps
 |0,_,_,_,c,_=>c
 |n+1,F,G,ps,c,hs'=>by
  obtain⟨f,rfl⟩:∃f:List (T3a (Fm L n)),(f:Fm L (n+1))=F:=⟨F,U⟩;obtain⟨g,rfl⟩:∃g:List (T3a (Fm M n)),(g:Fm M (n+1))=G:=⟨G,U⟩;obtain⟨p,r,rfl,d,j,y,w⟩:ShS (cc n) f ps:=c;obtain⟨B,A,e,x,m,C,o⟩:ShS (cc n) g (p :: r):=hs';cases e;obtain⟨z,_,i,e⟩:=nE (h:=h) j d m;show ShS (cc n) (pairF h (n+1) f g:List (T3a (Fm N n))) (p :: r);rw[e];have k:=eA i.ch;refine⟨p,r,U,k.ne (i.ne d x),k.ch,k.nb,λt v=>?_⟩;obtain⟨l,a,b⟩:=k.mem t v;obtain⟨s,c,u,q,e⟩:=i.mem l a;rw[←b,e];exact mF (w s c) (o u q)
theorem yJ{n:Nat}{g:List (T3a (Fm M n))}{c:Int}{e:List Int}{y:M}(h:Tel (n+1) (g:Fm M (n+1)) (c :: e) y):∃(j:Nat)(t:T3a (Fm M n)),g[j]?=Mw t/\c<=t.2.1/\(∀(i:Nat)(u:T3a (Fm M n)),i<j->g[i]?=Mw u->u.2.1<c)/\Tel n t.2.2 e y:=by
 cases h with
 |cons a b c d=>exact⟨_,_,a,b,c,d⟩
theorem yK{n:Nat}{F:Fm L n}{a:List Int}{x:L}(D:Tel n F a x):∀{G:Fm M n}{y:M}{ps:List (Int×Int)},Tel n G a y->cc n F ps->cc n G ps->InB a ps->Tel n (pairF h n F G) a (h x y):=by
 induction D with
 |nil x =>
  intro G y ps d _ _ _;cases d;exact .nil _
 | @cons n f c a x j t e1 e2 e3 _ ih =>
  intro G y ps d E l i;obtain⟨g,rfl⟩:∃g:List (T3a (Fm M n)),(g:Fm M (n+1))=G:=⟨G,U⟩;obtain⟨W,q,w,Q,P,O⟩:=(yJ d);obtain⟨p,r,rfl,m,o,R,H⟩:ShS (cc n) f ps:=E;obtain⟨T,S,e,Y,B,X,C⟩:ShS (cc n) g (p :: r):=l;cases e;obtain⟨z,_,s,e⟩:=nE (h:=h) o m B;cases i with
  |cons v u i =>
   have k:=eA s.ch;obtain⟨V,A,K,b2,J,I,b⟩:=k.ch.at v u;rw[k.va,s.va c _ _ v u (eZ e1 e2 e3) (eZ w Q P)]at b;have b:pairF h n t.2.2 q.2.2=A.2.2:=Option.some.inj b;refine .cons (f:=(pairF h (n+1) f g:List (T3a (Fm N n)))) (by rw[e];exact K) J (by rw[e];exact I) ?_;rw[←b];exact ih O (H t (IX e1)) (C q (IX w)) i
end
theorem gM{α:Type}{f:List α}{i:Nat}{t:α}(e:f[i]?=Mw t):f.drop i=t :: f.drop (i+1):=by
 obtain⟨h,rfl⟩:=IW.mp e;exact List.drop_eq_getElem_cons h
theorem SmF.le{L:Type}{b a:Nat}:∀{n:Nat}{F:Fm L n},SmF b n F->b<=a->SmF a n F
 |0,_,_,_=>trivial
 |n+1,F,h,l=>by
  obtain⟨f,rfl⟩:∃f:List (T3a (Fm L n)),(f:Fm L (n+1))=F:=⟨F,U⟩;obtain⟨e,d⟩:SmS b (SmF b n) f:=h;exact⟨zQ e l,λt c=>SmF.le (d t c) l⟩
structure DI{K':W.Frag}{L M N:Type} [DecidableEq L] [DecidableEq M] [DecidableEq N] (A:Lfp K' L)(B:Lfp K' M)(C:Lfp K' N)(P:Jr)(w:Jq)(K:W.Frag)(mg:Str->Option Jp)(base:Jt)(f:Js)(h:L->M->N)(J:Hp->Prop):Prop where
 fn:∃sp,HFn P w K mg base 8 f sp/\∀(H:Hp)(v u:V)(x:L)(y:M)(Q:VK),J H->A.R H x v->B.R H y u->(∀r H',au H H'->C.R H' (h x y) r->Q r H')->sp [v,u] H Q E0
 ob:(∀H,J H->FnO H f)\/W.keepIn K (.ref f)=Mz
 st:∀H H',J H->au H H'->J H'
theorem Aj{ps:List (Int×Int)}{css:List (List Int)}{a:List Int}{k:Nat}{p:Int×Int}{ks:List Int}{c:Int}(b:ps[k]?=Mw p)(d:css[k]?=Mw ks)(e:a[k]?=Mw c):(List.zipWith cj (List.zipWith (λp a=>ck p.1 p.2 a) ps css) a)[k]?=Mw (cj (ck p.1 p.2 ks) c):=by
 rw[kM,kM,b,d,e]
theorem pU{α:Type}:∀{f g:List (T3a α)}{lo hi:Int},Ch3 f lo hi->Ch3 g lo hi->Nbx (f.map (·.2.2))->Nbx (g.map (·.2.2))->(∀c,lo<=c->c<=hi->vAt f c=vAt g c)->f=g
 | [],[],_,_,_,_,_,_,_=>rfl
 | [],t :: g,lo,hi,e,d,_,_,_=>by
  have e:lo=hi+1:=e;have:=d.2.1;have:=d.2.2.le;lia
 |s :: f,[],lo,hi,e,d,_,_,_=>by
  have d:lo=hi+1:=d;have:=e.2.1;have:=e.2.2.le;lia
 |s :: f,t :: g,lo,hi,e,d,nf,ng,hv=>by
  obtain⟨B,A,o⟩:=e;obtain⟨z,w,n⟩:=d;have P:=o.le;have O:=n.le;have j:=hv lo (by lia) (by lia);rw[cm,cm,ME A,ME w]at j;have j:s.2.2=t.2.2:=Option.some.inj j;have k:∀{a b:T3a α}{r:List (T3a α)}{q:List (T3a α)},Ch3 r (a.2.1+1) hi->Nbx ((a :: r).map (·.2.2))->a.2.1<b.2.1->b.2.1<=hi->lo<=a.2.1->a.2.2=b.2.2->vAt (a :: r) (a.2.1+1)=vAt (b :: q) (a.2.1+1)->False:=λ{a b r q} l C S R Q D m=>by
   rw[cm,cm,MD (by lia),ME (by lia)]at m;cases r with
   |nil =>
    have l:a.2.1+1=hi+1:=l;lia
   |cons u r =>
    rw[cm,ME l.2.1]at m;exact C 0 _ _ U U (D.trans (Option.some.inj m).symm)
  have p:s.2.1=t.2.1:=by
   rcases Int.lt_trichotomy s.2.1 t.2.1 with h|h|h
   .exact(k o nf h (by lia) A j (hv _ (by lia) (by lia))).elim
   .exact h
   .exact(k n ng h (by lia) w j.symm (hv _ (by lia) (by lia)).symm).elim
  have H:s=t:=by
   obtain⟨N,s2,M⟩:=s;obtain⟨L,K,J⟩:=t;simp only at B z j p;rw[B,z,j,p]
  have v:∀{α:Type}{a:α}{r:List α},Nbx (a :: r)->Nbx r:=λ{α a r} h i x y F E=>h (i+1) x y (by simpa using F) (by simpa using E)
  have G:f=g:=pU o (by rw[p];exact n) (v nf) (v ng) λc T I=>by
   have:=hv c (by lia) I;rw[cm,cm,MD (by lia),MD (by lia)]at this;exact this
  rw[H,G]
section
variable{L:Type}
theorem _root_.L2.Tel.inv{n:Nat}{g:List (T3a (Fm L n))}{c:Int}{e:List Int}{y:L}(h:Tel (n+1) (g:Fm L (n+1)) (c :: e) y):∃(j:Nat)(t:T3a (Fm L n)),g[j]?=Mw t/\c<=t.2.1/\(∀(i:Nat)(u:T3a (Fm L n)),i<j->g[i]?=Mw u->u.2.1<c)/\Tel n t.2.2 e y:=by
 cases h with
 |cons a b c d=>exact⟨_,_,a,b,c,d⟩
theorem fL{n:Nat}{F:Fm L n}{b:List Int}{x:L}(h:Tel n F b x):∀{y:L},Tel n F b y->x=y:=by
 induction h with
 |nil x=>intro y a;cases a;rfl
 | @cons n f c b x j t e1 e2 e3 _ ih =>
  intro y a;obtain⟨m,l,k,i,g,d⟩:=a.inv;have e:=(eZ e1 e2 e3).symm.trans (eZ k i g);rw[←Option.some.inj e]at d;exact ih d
theorem jb:∀{n:Nat}{F G:Fm L n}{ps:List (Int×Int)},cc n F ps->cc n G ps->(∀b,InB b ps->∀x y,Tel n F b x->Tel n G b y->x=y)->F=G
 |0,F,G,ps,a,_,hv=>by
  have a:ps=[]:=a;subst a;exact hv [] .nil F G (.nil F) (.nil G)
 |n+1,F,G,ps,a,hs',hv=>by
  obtain⟨f,rfl⟩:∃f:List (T3a (Fm L n)),(f:Fm L (n+1))=F:=⟨F,U⟩;obtain⟨g,rfl⟩:∃g:List (T3a (Fm L n)),(g:Fm L (n+1))=G:=⟨G,U⟩;obtain⟨p,r,rfl,J,d,k,z⟩:ShS (cc n) f ps:=a;obtain⟨M,K,e,Q,m,I,u⟩:ShS (cc n) g (p :: r):=hs';cases e;refine pU d m k I λc i h=>?_
  obtain⟨j,t,o,O,C,B,A⟩:=d.at i h;obtain⟨N,s,q,P,H,E,D⟩:=m.at i h;rw[A,D];rw[jb (z t (IX o)) (u s (IX q)) λb l x y w v=>hv (c :: b) (.cons i h l) x y (.cons o C B w) (.cons q H E v)]
end
theorem kD{α:Type}:∀{f:List (T3a α)}{lo hi:Int}{j:Nat}{s:T3a α},Ch3 f lo hi->f[j]?=Mw s->lo<=s.1/\s.1<=s.2.1/\s.2.1<=hi/\(∀t,f[j+1]?=Mw t->t.1=s.2.1+1)/\(∀(i:Nat)(u:T3a α),i<j->f[i]?=Mw u->u.2.1<s.1)/\(j=0->s.1=lo)
 | [],_,_,j,s,_,e=>by simp at e
 |t :: f,lo,hi,0,s,h,e=>by
  cases e;have c:=h.1;have b:=h.2.1;have n:=h.2.2.le;refine⟨by lia,by lia,by lia,λt e=>?_,λi u hi=>MG hi (CQ i),λ_=>c⟩;cases f with
  |nil=>simp at e
  |cons u f=>simp at e;subst e;exact h.2.2.1
 |t :: f,lo,hi,j+1,s,h,e=>by
  have d:f[j]?=Mw s:=by simpa using e
  obtain⟨p,m,l,k,g,o⟩:=kD (f:=f) h.2.2 d;have b:=h.2.1;refine⟨by lia,m,l,λt e=>k t (by simpa using e),λi u hi a=>?_,λz=>by lia⟩
  match i,a with
  |0,a=>cases a;lia
  |i+1,a=>exact g i u (by lia) (by simpa using a)
section
variable{L:Type}
theorem qM{n:Nat}{f:List (T3a (Fm L n))}{lo hi:Int}{j:Nat}{t:T3a (Fm L n)}{c:Int}{a:List Int}{x:L}(h:Ch3 f lo hi)(e:f[j]?=Mw t)(l:t.1<=c)(d:c<=t.2.1)(b:Tel n t.2.2 a x):Tel (n+1) (f:Fm L (n+1)) (c :: a) x:=by
 obtain⟨_,_,_,_,k,_⟩:=kD h e;exact .cons e d (λi u hi g=>by have:=k i u hi g;lia) b
end
structure LfS(P:Jr)(w:Jq)(K:W.Frag)(mg:Str->Option Jp)(base:Jt)(f:Js)(m:Nat)(g:List Int->Int)(J:Hp->Prop):Prop where
 fn:∃sp,HFn P w K mg base 8 f sp/\∀(H:Hp)(a:Js)(cs:List Int)(Q:VK),J H->cs.length=m->H a=Mw (.lst (cs.map V.int))->(∀H',au H H'->Q (.int (g cs)) H')->sp [.ref a] H Q E0
 ob:∀H,J H->FnO H f
 st:∀H H',J H->au H H'->J H'
theorem vm{n j:Nat}(h:j<n):ixN n (j:Int)=Mw j:=by
 unfold ixN;rw[ME (by lia),ME (by lia),Jc]
theorem lY{α:Type}:∀{f:List (T3a α)}{lo hi:Int},Ch3 f lo hi->(f.map (·.1)).Pairwise (· < ·)/\∀t∈f,lo<=t.1
 | [],_,_,_=>⟨.nil,λt e=>by cases e⟩
 |t :: f,lo,hi,h=>by
  obtain⟨a,b⟩:=lY h.2.2;have i:=h.1;have g:=h.2.1;refine⟨.cons (λx d=>?_) a,λu c=>?_⟩
  .obtain⟨u,c,rfl⟩:=eK.mp d;have:=b u c;show t.1<u.1;lia
  .rcases dV.mp c with rfl|c
   .lia
   .have:=b u c;lia
theorem wG{n:Nat}(h:n<=2000):n<Ju:=D0 h (by decide)
theorem cE{α c:Type}{R:α->c->Prop}:∀{xs:List α}{d:List c}{i:Nat}{x:α},Paired R xs d->xs[i]?=Mw x->∃a,d[i]?=Mw a/\R x a
 |_,_,_,_,.nil,e=>by simp at e
 |_,_,0,_,.cons (b:=b) h _,e=>by simp at e;subst e;exact⟨b,U,h⟩
 |_,_,i+1,x,.cons _ tl,e=>by
  obtain⟨a,q⟩:=cE (i:=i) (x:=x) tl (by simpa using e);exact⟨a,by simpa using q.1,q.2⟩
theorem fi{α b:Type}{R:α->b->Prop}{xs ys:List α}{c bs:List b}(h:Paired R xs c)(h':Paired R ys bs):Paired R (xs++ys) (c++bs):=by
 induction h with
 |nil=>exact h'
 |cons a _ d=>exact .cons a d
theorem yL{K:W.Frag}{H:Hp}{Q:VK}{a b:Js}{xs ys:List V}(d:H a=Mw (.tup xs))(c:H b=Mw (.tup ys))(hz:xs.length+ys.length<=Ju)(q:∀(r:Js)(H':Hp),au H H'->H' r=Mw (.tup (xs++ys))->Q (.ref r) H'):tS K (.ref a) (.ref b) H Q:=by
 refine⟨a,b,xs,ys,U,U,SqT.of d,SqT.of c,hz,λz=>?_,λ_ z=>?_,λ_ _ p e=>q p _ (ag e _) ab⟩
 .subst z;exact q b H (au.refl _) c
 .subst z;exact q a H (au.refl _) (by rw[jQ];exact d)
def BxA(H:Hp)(a:Js)(B:List (Int×Int)):Prop:=∃b,H a=Mw (.tup b)/\PL H b B
theorem BxA.mono{H H':Hp}{a:Js}{B:List (Int×Int)}(h:BxA H a B)(s:bM H H'):BxA H' a B:=by obtain⟨b,e,p⟩:=h;exact⟨b,s _ _ e,p.mono s⟩
def bxs{L:Type}:(n:Nat)->Fm L n->List (List (Int×Int)×L)
 |0,f=>[([],f)]
 |n+1,l=>List.flatMap (λe:T3a (Fm L n)=>(bxs n e.2.2).map λq=>((e.1,e.2.1) :: q.1,q.2)) l
theorem qN{L:Type}(n:Nat)(l m:List (T3a (Fm L n))):bxs (n+1) (show Fm L (n+1)from l++m)=bxs (n+1) (show Fm L (n+1)from l)++bxs (n+1) (show Fm L (n+1)from m):=List.flatMap_append
theorem vn{L:Type}(n:Nat)(e:T3a (Fm L n)):bxs (n+1) (show Fm L (n+1) from[e])=(bxs n e.2.2).map λq=>((e.1,e.2.1) :: q.1,q.2):=by
 show List.flatMap (λe:T3a (Fm L n)=>(bxs n e.2.2).map λq=>((e.1,e.2.1) :: q.1,q.2)) [e]=_;rw[List.flatMap_singleton]
def vol(B:List (Int×Int)):Int:=B.foldl (λv p=>v*(p.2-p.1+1)) 1
theorem se{B:List (Int×Int)}{i:Nat}{p:Int×Int}(e:B[i]?=Mw p):vol (B.take (i+1))=vol (B.take i)*(p.2-p.1+1):=by unfold vol;rw[take_snoc e,xF];rfl
theorem yM{ps:List (Int×Int)}{a:List (List Int)}{b:Nat}(h:∀j,gl ps a j<=b):∀n,gr ps a n<=b^n
 |0=>zz _
 |n+1=>by
  show gr ps a n*gl ps a n<=b^n*b;exact EB (yM h n) (h n)
theorem yN{L:Type}{n:Nat}{f:List (T3a (Fm L n))}{q:List (Int×Int)×L}:q∈bxs (n+1) (f:Fm L (n+1))↔∃e∈f,∃r∈bxs n e.2.2,q=((e.1,e.2.1) :: r.1,r.2):=by
 constructor
 .intro h;obtain⟨e,b,c⟩:=ro.mp h;obtain⟨r,a,rfl⟩:=eK.mp c;exact⟨e,b,r,a,U⟩
 .rintro⟨e,b,r,a,rfl⟩;exact ro.mpr ⟨e,b,eK.mpr ⟨r,a,U⟩⟩
structure Cm(B ps:List (Int×Int)):Prop where
 len:B.length=ps.length
 get:∀(k:Nat)(b p:Int×Int),B[k]?=Mw b->ps[k]?=Mw p->p.1<=b.1/\b.1<=b.2/\b.2<=p.2
theorem sf{L:Type}:∀{n:Nat}{F:Fm L n}{ps:List (Int×Int)},cc n F ps->∀q∈bxs n F,Cm q.1 ps/\Tel n F (q.1.map (·.1)) q.2/\Tel n F (q.1.map (·.2)) q.2
 |0,F,ps,c,q,d=>by
  have c:ps=[]:=c;have d:q∈[(([]:List (Int×Int)),F)]:=d;rw[iv.mp d,c];exact⟨⟨U,λk b p e=>by simp at e⟩,.nil _,.nil _⟩
 |n+1,F,ps,c,q,d=>by
  obtain⟨f,rfl⟩:∃f:List (T3a (Fm L n)),(f:Fm L (n+1))=F:=⟨F,U⟩;obtain⟨p,r,rfl,A,a,B,w⟩:ShS (cc n) f ps:=c;obtain⟨e,o,t,m,rfl⟩:=yN.mp d;obtain⟨j,v,g⟩:=List.getElem_of_mem o;have g:f[j]?=Mw e:=by rw[IV v,g]
  obtain⟨z,l,y,-,-,-⟩:=kD a g;obtain⟨s,b2,x⟩:=sf (w e o) t m;refine⟨⟨by rw[iQ,iQ,s.len],λk b u i h=>?_⟩,qM a g (Int.le_refl _) l b2,qM a g l (Int.le_refl _) x⟩
  match k,i,h with
  |0,i,h=>cases i;cases h;exact⟨z,l,y⟩
  |k+1,i,h=>exact s.get k b u (by simpa using i) (by simpa using h)
inductive Asc:List (Int×Int)->List (Int×Int)->Prop
 |here {a b:Int×Int}{A B:List (Int×Int)}:a.1<b.1->a.2<b.1->Asc (a :: A) (b :: B)
 |there {a:Int×Int}{A B:List (Int×Int)}:Asc A B->Asc (a :: A) (a :: B)
theorem vo{A B:List (Int×Int)}(h:Asc A B):∃(k:Nat)(a b:Int×Int),A[k]?=Mw a/\B[k]?=Mw b/\a.1<b.1/\a.2<b.1/\∀(i:Nat),i<k->A[i]?=B[i]?:=by
 induction h with
 | @here a b A B d c=>exact⟨0,a,b,U,U,d,c,λi hi=>MG hi (CQ i)⟩
 | @there a A B _ ih =>
  obtain⟨k,x,y,g,f,d,c,e⟩:=ih;refine⟨k+1,x,y,by simpa using g,by simpa using f,d,c,λi hi=>?_⟩
  match i with
  |0=>rfl
  |i+1=>simpa using e i (by lia)
theorem yO{α:Type}:∀{f:List (T3a α)}{lo hi:Int},Ch3 f lo hi->f.Pairwise λa b=>a.1<b.1/\a.2.1<b.1
 | [],_,_,_=>.nil
 |t :: f,lo,hi,h=>by
  have e:=h.1;have d:=h.2.1;refine .cons (λu c=>?_) (yO h.2.2);have:=(lY h.2.2).2 u c;exact⟨by lia,by lia⟩
theorem yP{L:Type}:∀{n:Nat}{F:Fm L n}{ps:List (Int×Int)},cc n F ps->(bxs n F).Pairwise λq r=>Asc q.1 r.1
 |0,F,_,_=>ui _ _
 |n+1,F,ps,hs=>by
  obtain⟨f,rfl⟩:∃f:List (T3a (Fm L n)),(f:Fm L (n+1))=F:=⟨F,U⟩;obtain⟨p,r,rfl,l,d,m,k⟩:ShS (cc n) f ps:=hs;show(List.flatMap (λe:T3a (Fm L n)=>(bxs n e.2.2).map λq=>((e.1,e.2.1) :: q.1,q.2)) f).Pairwise _;rw[List.pairwise_flatMap];refine⟨λe j=>?_,(yO d).imp λ{a b} c x i y g=>?_⟩
  .rw[List.pairwise_map];exact(yP (k e j)).imp λh=>.there h
  .obtain⟨s,_,rfl⟩:=eK.mp i;obtain⟨o,_,rfl⟩:=eK.mp g;exact .here c.1 c.2
theorem Cn(B:List (Int×Int)):∀v:Int,B.foldl (λv p=>v*(p.2-p.1+1)) v=v*B.foldl (λv p=>v*(p.2-p.1+1)) 1:=by
 induction B with
 |nil=>intro v;exact(Jh v).symm
 |cons p B a =>
  intro v;rw[sG,sG,a,a (1*(p.2-p.1+1)),Jd,Int.mul_assoc]
theorem yQ(p:Int×Int)(B:List (Int×Int)):vol (p :: B)=(p.2-p.1+1)*vol B:=by
 unfold vol;rw[sG,Cn,Jd]
def fv:List (List (Int×Int)×OP)->Int
 | []=>0
 |q :: r=>vol q.1+fv r
theorem si:∀a b:List (List (Int×Int)×OP),fv (a++b)=fv a+fv b
 | [],b=>(I1 _).symm
 |q :: a,b=>by show vol q.1+fv (a++b)=vol q.1+fv a+fv b;rw[si a b,Jf]
theorem wH{l:List (List (Int×Int)×OP)}{i:Nat}{q:List (Int×Int)×OP}(e:l[i]?=Mw q):fv (l.take (i+1))=fv (l.take i)+vol q.1:=by
 rw[take_snoc e,si];show _+(vol q.1+0)=_;rw[Jg]
theorem sj{α a:Type}{b:Nat}{F:α->List a}:∀{l:List α},(∀x∈l,(F x).length<=b)->(l.flatMap F).length<=l.length*b
 | [],_=>Az _
 |x :: l,h=>by
  have e:=h x fw;have d:=sj λy c=>h y (jf _ c)
  rw[List.flatMap_cons,dt,iQ,Nat.succ_mul];lia
theorem yR{b:Nat}{L:Type} [DecidableEq L] {g:List Int->L}:∀{a:List (List (Int×Int))}{ps:List (Int×Int)},gi a ps->(∀c∈a,c.length<=b)->∀d:List Int,(bxs a.length (lay g a d)).length<=b^a.length
 | [],_,_,_,_=>zz _
 |c :: a,ps,h,hb,d=>by
  cases h with
  | @cons _ _ p ps hne e h =>
  have k:=eA (yq (λq=>lay g a (d++[q.1])) e);have j:(eN (c.map λp=>((p.1,p.2,lay g a (d++[p.1])):T3a (Fm L a.length)))).length<=b:=zQ (pT _) (by rw[bx];exact hb c fw);have i:(bxs (a.length+1) (show Fm L (a.length+1)from eN (c.map λp=>((p.1,p.2,lay g a (d++[p.1])):T3a (Fm L a.length))))).length<=(eN (c.map λp=>((p.1,p.2,lay g a (d++[p.1])):T3a (Fm L a.length)))).length*b^a.length:=sj λt f=>by
   rw[bx];obtain⟨n,m,l⟩:=k.mem t f;obtain⟨q,_,rfl⟩:=eK.mp m;rw[←l];exact yR h (λc e=>hb c (jf _ e)) _
  show(bxs (a.length+1) _).length<=b^(a.length+1);rw[EX,Nat.mul_comm];exact zQ i (Nat.mul_le_mul_right _ j)
theorem qO{K:W.Frag}{H:Hp}{n:Nat}{a b:Js}{xs ys:List V}(g:H a=Mw (.tup xs))(d:H b=Mw (.tup ys))(c:xs.length=ys.length)(h:∀(j:Nat)(x y:V),xs[j]?=Mw x->ys[j]?=Mw y->DEq K H n x y Mz):DEq K H (n+1) (.ref a) (.ref b) true:=by
 by_cases e:a=b
 .subst e;exact .same a
 .have:=DEq.tup (f:=λ_=>Mz) e (SqT.of g) (SqT.of d) h;rw[jO.mpr (λ_ _=>U),c,Bool.true_and,beq_self_eq_true]at this;exact this
theorem vp{K:W.Frag}{H:Hp}{n:Nat}{a b:Js}{p:Int×Int}(g:H a=Mw (.tup [.int p.1,.int p.2]))(f:H b=Mw (.tup [.int p.1,.int p.2])):DEq K H (n+1) (.ref a) (.ref b) true :=
 qO g f U λj x y d e=>by
  rw[d]at e;cases e;have:∃c:Int,x=.int c:=by
   match j,d with
   |0,d=>cases d;exact⟨_,U⟩
   |1,d=>cases d;exact⟨_,U⟩
   |j+2,d=>simp at d
  obtain⟨c,rfl⟩:=this;have:=DEq.flat (K:=K) (H:=H) (n:=n) (x:=.int c) (y:=.int c) U U;rw[show eqV (.int c) (.int c)=Mz by simp[eqV]]at this;exact this
theorem Co{K:W.Frag}{H:Hp}{n:Nat}{a b:Js}{B:List (Int×Int)}(i:BxA H a B)(h:BxA H b B):DEq K H (n+2) (.ref a) (.ref b) true:=by
 obtain⟨s,m,f⟩:=i;obtain⟨r,l,e⟩:=h;refine qO m l (by rw[f.length,e.length]) λj x y q o=>?_
 obtain⟨p,t,k,rfl,g⟩:=f.get q;obtain⟨v,u,c,rfl,d⟩:=e.get o;rw[k]at c;cases c;exact vp g d
theorem Cp{K:W.Frag}{H:Hp}{n:Nat}{t u:Js}{a c:Int×Int}(b:H t=Mw (.tup [.int a.1,.int a.2]))(k:H u=Mw (.tup [.int c.1,.int c.2]))(h:a.1≠c.1):DEq K H (n+1) (.ref t) (.ref u) false:=by
 have ne:t≠u:=λz=>by
  rw[z,k]at b;injection b with b;injection b with b;injection b with i l;injection i with i;exact h i.symm
 have:=DEq.tup (K:=K) (n:=n) (f:=λj=>if j=0 then eqV (.int a.1) (.int c.1)else eqV (.int a.2) (.int c.2)) ne (SqT.of b) (SqT.of k) λj x y d g=>by
  match j,d,g with
  |0,d,g=>cases d;cases g;exact DEq.flat U U
  |1,d,g=>cases d;cases g;exact DEq.flat U U
  |j+2,d,_=>simp at d
 have e:eqV (.int a.1) (.int c.1)=false:=by rw[qE];exact MI h
 have r:((List.range (min [V.int a.1,V.int a.2].length [V.int c.1,V.int c.2].length)).all (λj=>if j=0 then eqV (.int a.1) (.int c.1)else eqV (.int a.2) (.int c.2)) && [V.int a.1,V.int a.2].length == [V.int c.1,V.int c.2].length)=false:=by
  rw[List.all_eq_false.mpr ⟨0,jN.mpr (by show 0<2;decide),by rw[ME U,e];decide⟩];rfl
 rw[r]at this;exact this
theorem yS{α:Type}{R:α->α->Prop}{l:List α}(h:l.Pairwise R){i j:Nat}{x y:α}(a:i<j)(e:l[i]?=Mw x)(d:l[j]?=Mw y):R x y:=by
 obtain⟨c,rfl⟩:=IW.mp e;obtain⟨b,rfl⟩:=IW.mp d;exact(rr.mp h) i j c b a
def TD(g h f:Js)(H:Hp)(t:Js)(c:List V)(bs:Prs)(rws:List Rw):Prop:=∃(b e d:Js)(fs:List (Str×V))(a:List V),H t=Mw (.ins g e fs)/\fs.lookup s!"rows"=Mw (.ref b)/\fs.lookup s!"domains"=Mw (.ref d)/\H d=Mw (.lst c)/\aF c bs (Dom h f H)/\H b=Mw (.lst a)/\RL NT H a rws
theorem TD.same{c d b:Js}{H H':Hp}{t:Js}{a:List V}{bs:Prs}{rws:List Rw}(h:TD c d b H t a bs rws)(s:au H H'):TD c d b H' t a bs rws:=by
 obtain⟨f,o,q,fs,e,n,m,l,k,j,i,g⟩:=h;exact⟨f,o,q,fs,e,s _ _ n,m,l,s _ _ k,aF.mono j λ_ _ p=>p.same s,s _ _ i,g.same s⟩
theorem nG{H:Hp}{D:Js}{o:HO}:hide (upd H D o) D=hide H D:=by
 funext b
 unfold hide;by_cases h:b=D
 .rw[ME h,ME h]
 .rw[MD h,MD h,az h]
theorem lC{H H':Hp}{D:Js}(s:au H H'):au (hide H D) (hide H' D):=λb o e=>by
 unfold hide at e⊢;by_cases h:b=D
 .rw[ME h]at e;cases e
 .rw[MD h]at e⊢;exact s b o e
theorem qP(H:Hp)(D:Js):au (hide H D) H:=λb o e=>by
 unfold hide at e;by_cases h:b=D
 .rw[ME h]at e;cases e
 .rw[MD h]at e;exact e
theorem MLs.nil{H:Hp}:MLs H [] []:=⟨U,λj a e=>by simp at e⟩
theorem MLs.snoc{H:Hp}{g:List Js}{a:List (List Int)}{r:Js}{d:List Int}(h:MLs H g a)(e:H r=Mw (.lst (d.map V.int))):MLs H (g++[r]) (a++[d]):=by
 refine⟨by rw[dt,dt,h.1];rfl,λj m b=>?_⟩;by_cases f:j<a.length
 .rw[je f]at b;obtain⟨i,l,k⟩:=h.2 j m b;exact⟨i,by rw[je (by rw[h.1];exact f)];exact l,k⟩
 .rw[lh (by lia)]at b;have c:j-a.length=0:=by
   have:=(IW.mp b).1;rw[gy]at this;lia
  rw[c]at b;cases b;exact⟨r,by rw[lh (by rw[h.1];lia),h.1,c];rfl,e⟩
def rmk(c:Nat)(b:Int×Int)(w:Rw):List Int:=(ends (w.1.getD c [])).filter λt=>decide (b.1<t) && decide (t<=b.2)
def MkC(rws:List Rw)(c:Nat)(b:Int×Int)(x:Int):Prop:=∃w∈rws,x∈rmk c b w
theorem sk:∀R:Prs,(ends R).length=2*R.length
 | []=>rfl
 |p :: R=>by
  rw[vQ,iQ,iQ,sk R,iQ];lia
theorem Ak(c:Nat)(b:Int×Int){w:Rw}(h:(w.1.getD c []).length<=6):(rmk c b w).length<=12:=zQ (lG _ _) (by rw[sk];lia)
theorem sr(c:Nat)(b:Int×Int):∀{rws:List Rw},(∀w∈rws,(w.1.getD c []).length<=6)->((rws.map (rmk c b)).flatten).length<=12*rws.length
 | [],_=>zz _
 |w :: rws,h=>by
  have e:=Ak c b (h w (.head _));have d:=sr c b (rws:=rws) λw a=>h w (.tail _ a)
  rw[jS,List.flatten_cons,dt,iQ];lia
theorem vq{rws:List Rw}{c:Nat}{b:Int×Int}{x:Int}:x∈(rws.map (rmk c b)).flatten↔MkC rws c b x:=by
 rw[List.mem_flatten];constructor
 .rintro⟨l,e,a⟩;obtain⟨w,d,rfl⟩:=eK.mp e;exact⟨w,d,a⟩
 .rintro⟨w,d,a⟩;exact⟨_,eK.mpr ⟨w,d,U⟩,a⟩
def uC:HO->Prop
 | .frz _ _=>False
 | .tbl _=>False
 |_=>True
def So(H H':Hp):Prop:=∀d o,uC o->H d=Mw o->H' d=Mw o
theorem So.of{H H':Hp}(s:au H H'):So H H':=λd o _ e=>s d o e
theorem So.trans{H f c:Hp}(a:So H f)(b:So f c):So H c:=λd o p e=>b d o p (a d o p e)
theorem So.tups{H H':Hp}(s:So H H'):bM H H':=λd a e=>s d _ trivial e
theorem So.lst{H H':Hp}{a:Js}{xs:List V}(s:So H H')(e:H a=Mw (.lst xs)):H' a=Mw (.lst xs):=s _ _ trivial e
theorem So.hide{H:Hp}{a:List Js}(f:Fzs H a):So H (hideL H a):=λd o p e=>by
 rw[b8 (f.out e λz q=>by rw[q]at p;exact p)];exact e
section
variable{H H':Hp}(s:So H H')
include s
theorem SpA.so{N:Js->Prop}{l:Js}{ps:Prs}(h:SpA N H l ps):SpA N H' l ps:=by obtain⟨n,a,e,p⟩:=h;exact⟨n,a,s _ _ trivial e,p.mono s.tups⟩
theorem RL.so{N:Js->Prop}{xs:List V}{rws:List Rw}(h:RL N H xs rws):RL N H' xs rws:=aF.mono h λ_ _ ⟨b,a,e,n,f,c⟩=>⟨b,a,s _ _ trivial e,n,s _ _ trivial f,aF.mono c λ_ _ p=>SpA.so s p⟩
theorem Dom.so{d c a:Js}{b:Int×Int}(h:Dom d c H a b):Dom d c H' a b:=by obtain⟨C,f,g,fs,e,r⟩:=h;exact⟨C,f,g,fs,s _ _ trivial e,r⟩
theorem Tbl.so{b c a t:Js}{rws:List Rw}{i:Nat}{o:Int×Int}(h:Tbl b c a H t rws i o):Tbl b c a H' t rws i o:=by
 obtain⟨f,g,v,fs,d,e,u,r,q,p,n,m,l,k,j⟩:=h;exact⟨f,g,v,fs,d,e,s _ _ trivial u,r,q,p,s _ _ trivial n,RL.so s m,l,Dom.so s k,j⟩
theorem MLs.so{b:List Js}{a:List (List Int)}(h:MLs H b a):MLs H' b a:=⟨h.1,λj c e=>let ⟨r,e1,e2⟩:=h.2 j c e;⟨r,e1,s _ _ trivial e2⟩⟩
theorem TD.so{c d b t:Js}{a:List V}{bs:Prs}{rws:List Rw}(h:TD c d b H t a bs rws):TD c d b H' t a bs rws:=by
 obtain⟨f,o,q,fs,e,n,m,l,k,j,i,g⟩:=h;exact⟨f,o,q,fs,e,s _ _ trivial n,m,l,s _ _ trivial k,aF.mono j λ_ _ p=>Dom.so s p,s _ _ trivial i,RL.so s g⟩
end
theorem yT{a L:List Int}(b:a.Pairwise (· < ·))(h:∀x∈a,x∈L):a.length<=L.length:=bQ (b.imp λh=>Int.ne_of_lt h) h
structure RfH(cT cN cW:Js)(H:Hp)(t:Js)(dv:List V)(bs:Prs)(rws:List Rw)(L:Nat->List Int)(kk:Nat)(i:Nat)(o:Int×Int):Prop where
 td:TD cT cN cW H t dv bs rws
 tb:Tbl cT cN cW H t rws i o
 b4:bs.length<=4
 r60:rws.length<=60
 row:∀x∈rws,x.1.length=bs.length/\∀c,(x.1.getD c []).length<=6
 mrk:∀(c:Nat)(b:Int×Int),bs[c]?=Mw b->(L c).length<=kk/\∀x,MkC rws c b x->x∈L c
 few:(kk+1)^bs.length<=300
 k57:kk<=57
 le:∀p∈bs,p.1<=p.2
theorem RfH.so{d e c t:Js}{H H':Hp}{b:List V}{bs:Prs}{rws:List Rw}{L:Nat->List Int}{a i:Nat}{o:Int×Int}(h:RfH d e c H t b bs rws L a i o)(s:So H H'):RfH d e c H' t b bs rws L a i o:=⟨TD.so s h.td,Tbl.so s h.tb,h.b4,h.r60,h.row,h.mrk,h.few,h.k57,h.le⟩
theorem RfH.gr{p q n t:Js}{H:Hp}{m:List V}{bs:Prs}{rws:List Rw}{L:Nat->List Int}{g i:Nat}{o:Int×Int}(h:RfH p q n H t m bs rws L g i o)(a:List (List Int))(r:a.length=bs.length)(l:∀(c:Nat)(b:Int×Int)(d:List Int),bs[c]?=Mw b->a[c]?=Mw d->d.Pairwise (· < ·)/\∀x,x∈d↔MkC rws c b x):My.gr bs a bs.length<=300 :=
 zQ (yM (b:=g+1) (Ck λd f=>by
  obtain⟨c,j⟩:=jP f;have s:=(IW.mp j).1;obtain⟨b,e⟩:∃b,bs[c]?=Mw b:=⟨_,IV (by lia)⟩;exact⟨L c,(h.mrk c b e).1,λx k=>(h.mrk c b e).2 x (((l c b d e j).2 x).mp k)⟩) _) h.few
def oQ(K:W.Frag)(H:Hp):Prop:=∀z,W.tabIn K "row_form" = Mw z->dD H z.2 [(rT Y86,"row_form.<locals>.<lambda>")]
theorem oQ.same{K:W.Frag}{H H':Hp}(h:oQ K H)(s:au H H'):oQ K H':=λz e=>(h z e).same s
structure DJ(bs:Prs)(rws:List Rw)(cols:List (List (Int×Int))):Prop where
 ok:gi cols bs
 ex:∃css:List (List Int),css.length=bs.length/\cols=List.zipWith (λp cs=>ck p.1 p.2 cs) bs css/\∀(j:Nat)(p:Int×Int)(cs:List Int),bs[j]?=Mw p->css[j]?=Mw cs->cs.Pairwise (· < ·)/\∀x,x∈cs↔MkC rws j p x
theorem yU{rws:List Rw}{c:Nat}{b:Int×Int}{x:Int}(h:MkC rws c b x):b.1<x/\x<=b.2:=by
 obtain⟨d,_,a⟩:=h;have:=(jZ.mp a).2;rw[IZ,ML,ML]at this;exact this
abbrev mkg(rws:List Rw)(a:List Int):Int:=((msk (jd rws a) rws.length:Nat):Int)
structure SpG(ps:List Int)(m:Int)(n:Nat)(qs:Prs):Prop where
 le:∀p∈qs,p.1<=p.2
 pw:qs.Pairwise λp q=>p.2<q.1
 bel:∀a,ps[n]?=Mw a->∀p∈qs,p.2<a
 iff:∀x,inP qs x=Mz↔∃(k:Nat)(a b:Int),k<n/\ps[k]?=Mw a/\ps[k+1]?=Mw b/\bZ m k=Mz/\a<=x/\x<b
 ep:∀p∈qs,p.1∈ps/\p.2+1∈ps
 lenA:2*qs.length<=n+1
 lenB:(∀p∈qs,∀a,ps[n]?=Mw a->p.2≠a-1)->2*qs.length<=n
theorem SpG.nil{ps:List Int}{m:Int}:SpG ps m 0 []:=⟨(λp h=>by cases h),List.Pairwise.nil,(λ_ _ p h=>by cases h),λx=>⟨(λh=>by cases h),λ⟨k,_,_,h,_⟩=>MG h (CQ _)⟩,(λp h=>by cases h),by decide,λ_=>zz _⟩
section
variable{ps:List Int}{m:Int}{n:Nat}{a b:Int}(hp:Pts ps)(ea:ps[n]?=Mw a)(eb:ps[n+1]?=Mw b)
include hp ea eb
theorem uD:a<b:=xQ hp.asc ea eb (by lia)
theorem SpG.skip{c:Prs}(h:SpG ps m n c)(g:bZ m n=MA):SpG ps m (n+1) c:=by
 have l:=uD hp ea eb;refine⟨h.le,h.pw,λo e p d=>?_,λx=>(h.iff x).trans ⟨λ⟨k,u,v,f,r⟩=>⟨k,u,v,by lia,r⟩,λ⟨k,u,v,f,j,i,b,r⟩=>⟨k,u,v,?_,j,i,b,r⟩⟩,h.ep,?_,λ_=>h.lenA⟩
 .rw[eb]at e;cases e;have:=h.bel a ea p d;lia
 .by_cases q:k=n
  .rw[q,g]at b;cases b
  .lia
 .have:=h.lenA;lia
theorem SpG.put{d:Prs}(h:SpG ps m n d)(w:bZ m n=Mz)(l:∀p∈d,p.2≠a-1):SpG ps m (n+1) (d++[(a,b-1)]):=by
 have A:=uD hp ea eb;refine⟨λp c=>?_,?_,λo e p c=>?_,λx=>?_,λp c=>?_,?_,λ_=>?_⟩
 .rcases ik.mp c with c|c
  .exact h.le p c
  .rw[iv.mp c];show a<=b-1;lia
 .rw[qd];refine⟨h.pw,ui _ _,λp c q i=>?_⟩;rw[iv.mp i];exact h.bel a ea p c
 .rw[eb]at e;cases e;rcases ik.mp c with c|c
  .have:=h.bel a ea p c;lia
  .rw[iv.mp c];show b-1<b;lia
 .rw[rn,Bool.or_eq_true,h.iff x];constructor
  .rintro(⟨k,u,v,t,r⟩|r)
   .exact⟨k,u,v,by lia,r⟩
   .unfold inR at r;rw[IZ,ML,ML]at r;exact⟨n,a,b,BO _,ea,eb,w,r.1,by have:=r.2;show x<b;lia⟩
  .rintro⟨k,u,v,t,g,f,y,j,s⟩;by_cases q:k=n
   .right
    subst q;rw[ea]at g;rw[eb]at f;cases g;cases f;unfold inR;rw[MH j,MH (show x<=b-1 by lia)];rfl
   .exact .inl ⟨k,u,v,by lia,g,f,y,j,s⟩
 .rcases ik.mp c with c|c
  .exact h.ep p c
  .rw[iv.mp c];exact⟨IX ea,by show b-1+1∈ps;rw[show b-1+1=b by lia];exact IX eb⟩
 .have:=h.lenB λp c o e=>by rw[ea]at e;cases e;exact l p c
  rw[dt,gy];lia
 .have:=h.lenB λp c o e=>by rw[ea]at e;cases e;exact l p c
  rw[dt,gy];exfalso
  rename_i z
  exact z (a,b-1) (jy _ (iv.mpr U)) b eb U
theorem SpG.join{s:Prs}{l:Int×Int}(h:SpG ps m n (s++[l]))(w:bZ m n=Mz)(D:l.2=a-1):SpG ps m (n+1) (s++[(l.1,b-1)]):=by
 have C:=uD hp ea eb;have B:=h.le l (jy _ (iv.mpr U));refine⟨λp c=>?_,?_,λE e p c=>?_,λx=>?_,λp c=>?_,?_,λz=>?_⟩
 .rcases ik.mp c with c|c
  .exact h.le p (lg _ c)
  .rw[iv.mp c];show l.1<=b-1;lia
 .have:=qd.mp h.pw;rw[qd];refine⟨this.1,ui _ _,λp c q i=>?_⟩;rw[iv.mp i];exact this.2.2 p c l (iv.mpr U)
 .rw[eb]at e;cases e;rcases ik.mp c with c|c
  .have:=h.bel a ea p (lg _ c);lia
  .rw[iv.mp c];show b-1<b;lia
 .have hi:=h.iff x;rw[rn,Bool.or_eq_true]at hi⊢;have A:inR x (l.1,b-1)=Mz↔inR x l=Mz\/(a<=x/\x<b):=by
   unfold inR;simp only[IZ,decide_eq_true_eq];lia
  rw[A];constructor
  .rintro(r|r|r)
   .obtain⟨k,u,v,t,d⟩:=hi.mp (.inl r);exact⟨k,u,v,by lia,d⟩
   .obtain⟨k,u,v,t,d⟩:=hi.mp (.inr r);exact⟨k,u,v,by lia,d⟩
   .exact⟨n,a,b,BO _,ea,eb,w,r⟩
  .rintro⟨k,u,v,t,g,f,y,o,j⟩;by_cases q:k=n
   .subst q;rw[ea]at g;rw[eb]at f;cases g;cases f;exact .inr (.inr ⟨o,j⟩)
   .rcases hi.mpr ⟨k,u,v,by lia,g,f,y,o,j⟩with r|r
    .exact .inl r
    .exact .inr (.inl r)
 .rcases ik.mp c with c|c
  .exact h.ep p (lg _ c)
  .rw[iv.mp c];exact⟨(h.ep l (jy _ (iv.mpr U))).1,by show b-1+1∈ps;rw[show b-1+1=b by lia];exact IX eb⟩
 .have:=h.lenA;rw[dt,gy]at this⊢;lia
 .exact MG U (z (l.1,b-1) (jy _ (iv.mpr U)) b eb)
end
theorem yV{m:Int}(b:0<=m)(k:Nat):decide (V.int (Kh.bitAnd (m / 2^(0+(k:Int)).toNat) 1)=V.int 1)=bZ m k:=by
 unfold bZ;rw[show(0+(k:Int)).toNat=k by lia];have a:0<=m / 2^k:=Int.ediv_nonneg b (Int.le_of_lt (Je (by decide)));generalize m / 2^k=x at a⊢;have:Kh.bitAnd x 1=0\/Kh.bitAnd x 1=1:=by
  rw[PyProof.Rows.bitAnd_pp a (by decide)];have:x.toNat &&& (1:Int).toNat=x.toNat%2:=Nat.and_one_is_mod _;rw[this];have:=EW x.toNat (show 0<2 by decide);lia
 rcases this with h|h <;> rw[h] <;> rfl
def GrR(pss:List (List Int))(b:List Int×Int)(x:Rw):Prop:=x.2=b.2/\x.1.length=pss.length/\∀(j:Nat)(a:List Int)(c:Prs)(m:Int),pss[j]?=Mw a->x.1[j]?=Mw c->b.1[j]?=Mw m->SpG a m (a.length-1) c
def vN(bs:List Nat):List V:=bs.map λb:Nat=>V.int (b:Int)
theorem dz(bs:List Nat):(vN bs).length=bs.length:=by unfold vN;rw[bx]
theorem Bg{bs:List Nat}{j b:Nat}(e:bs[j]?=Mw b):(vN bs)[j]?=Mw (.int (b:Int)):=by unfold vN;rw[gg,e];rfl
theorem Bh{bs:List Nat}{j:Nat}{x:V}(e:(vN bs)[j]?=Mw x):∃b:Nat,x=.int (b:Int)/\bs[j]?=Mw b:=by
 unfold vN at e;rw[gg]at e;cases q:bs[j]? with
 |none=>rw[q]at e;cases e
 |some b=>rw[q]at e;cases e;exact⟨b,U,U⟩
theorem yW(bs a:List Nat):vN bs++vN a=vN (bs++a):=by unfold vN;rw[gI]
def grow(a:List (List Nat))(n:Nat):List (List Nat):=a.flatMap λp=>(List.range n).map λk=>p++[k]
def cy(a:List Nat):List (List Nat):=a.foldl grow [[]]
theorem gN(a:List Nat)(n:Nat):cy (a++[n])=grow (cy a) n:=by unfold cy;rw[xF];rfl
theorem yX{a:List (List Nat)}{n:Nat}{q:List Nat}:q∈grow a n↔∃p∈a,∃k,k<n/\q=p++[k]:=by
 unfold grow;rw[ro];constructor
 .rintro⟨p,b,h⟩;obtain⟨k,c,rfl⟩:=eK.mp h;exact⟨p,b,k,jN.mp c,U⟩
 .rintro⟨p,b,k,c,rfl⟩;exact⟨p,b,eK.mpr ⟨k,jN.mpr c,U⟩⟩
theorem wI{b:List (List Nat)}{n a:Nat}{p:List Nat}(e:b[a]?=Mw p):grow (b.take (a+1)) n=grow (b.take a) n++(List.range n).map λk=>p++[k]:=by
 unfold grow;rw[take_snoc e,List.flatMap_append];simp
theorem nH(a:List (List Nat))(n:Nat):(grow a n).length=a.length*n:=by
 unfold grow;induction a with
 |nil=>simp
 |cons p a b=>rw[List.flatMap_cons,dt,b,bx,lz,iQ,Nat.succ_mul];lia
def lD(b:List Nat)(p:List Nat):Prop:=p.length=b.length/\∀(j a m:Nat),p[j]?=Mw a->b[j]?=Mw m->a<m
theorem pV:∀{r b:List Nat}(_:b.reverse=r){p:List Nat},p∈cy b↔lD b p
 | [],b,h,p=>by
  have:b=[]:=List.reverse_eq_nil_iff.mp h;subst this;show p∈[[]]↔_;rw[iv];constructor
  .rintro rfl;exact⟨U,λj a m e=>by simp at e⟩
  .rintro⟨h,_⟩;exact List.length_eq_zero_iff.mp h
 |n :: r,b,h,p=>by
  have e:b=r.reverse++[n]:=by rw[←mu b,h,qg]
  subst e;rw[gN,yX];have l:∀{p:List Nat},p∈cy r.reverse↔lD r.reverse p:=pV (mu r);constructor
  .rintro⟨q,s,k,t,rfl⟩;obtain⟨c,d⟩:=l.mp s;refine⟨by rw[dt,dt,c];rfl,λj a m f g=>?_⟩;by_cases o:j<q.length
   .rw[je o]at f;rw[je (by rw[←c];exact o)]at g;exact d j a m f g
   .have:j=q.length:=by have:=(IW.mp f).1;simp at this;lia
    subst this;simp at f;subst f;rw[c]at g;simp at g;subst g;exact t
  .rintro⟨c,d⟩;rw[dt,gy]at c;rcases xh p with rfl|⟨q,k,rfl⟩
   .simp at c
   .rw[xi]at c d⊢;rw[dt,gy]at c;have i:q.length=r.reverse.length:=by lia
    refine⟨q,l.mpr ⟨i,λj a m f g=>?_⟩,k,?_,U⟩
    .refine d j a m ?_ ?_
     .rw[je (IW.mp f).1];exact f
     .rw[je (IW.mp g).1];exact g
    .refine d q.length k n (by simp) ?_;rw[i];simp
theorem lD.iff{a p:List Nat}:p∈cy a↔lD a p:=pV U
def PtL(N:Js->Prop)(H:Hp)(xs:List V)(a:List (List Nat)):Prop:=aF xs a λr p=>N r/\H r=Mw (.lst (vN p))
theorem PtL.same{N:Js->Prop}{H H':Hp}{xs:List V}{a:List (List Nat)}(h:PtL N H xs a)(s:au H H'):PtL N H' xs a:=aF.mono h λ_ _ p=>⟨p.1,s _ _ p.2⟩
theorem PtL.updN{N:Js->Prop}{D:Js}{H:Hp}{xs:List V}{a:List (List Nat)}{o:HO}(h:PtL N H xs a)(n:¬ N D):PtL N (upd H D o) xs a:=aF.mono h λ_ _ p=>⟨p.1,(az (λz=>n (by rw[←z];exact p.1))).trans p.2⟩
theorem PtL.any{N:Js->Prop}{H:Hp}{xs:List V}{a:List (List Nat)}(h:PtL N H xs a):PtL NT H xs a:=aF.mono h λ_ _ p=>⟨trivial,p.2⟩
def gls(pss:List (List Int)):List Nat:=pss.map λa=>a.length-1
theorem Al{m:Int}(a:0<=m)(k:Nat):decide (V.int (Kh.bitAnd (m / 2^((k:Int)).toNat) 1)=V.int 0) = !bZ m k:=by
 have b:=yV a k;rw[show(0+(k:Int))=(k:Int) by lia]at b;rw[←b];rw[Jc];have c:0<=m / 2^k:=Int.ediv_nonneg a (Int.le_of_lt (Je (by decide)));generalize m / 2^k=x at c⊢;have:Kh.bitAnd x 1=0\/Kh.bitAnd x 1=1:=by
  rw[PyProof.Rows.bitAnd_pp c (by decide)];have:x.toNat &&& (1:Int).toNat=x.toNat%2:=Nat.and_one_is_mod _;rw[this];have:=EW x.toNat (show 0<2 by decide);lia
 rcases this with h|h <;> rw[h] <;> rfl
def nI(at_:List Nat)(b:List Int×Int):Bool:=(List.range at_.length).all λj=>bZ (b.1.getD j 0) (at_.getD j 0)
def oR(bms:List (List Int×Int))(at_:List Nat):List Nat:=(List.range bms.length).filter λk=>nI at_ (bms.getD k ([],0))
theorem nJ(f:Nat->Bool)(n:Nat):(List.range (n+1)).all f=((List.range n).all f && f n):=by
 rw[ll,List.all_append];simp
def cdF(bms:List (List Int×Int))(ks:List Nat):List Int:=ks.map λk=>(bms.getD k ([],0)).2
theorem vt{bms:List (List Int×Int)}{at_:List Nat}:∀k∈oR bms at_,k<bms.length:=λk a=>jN.mp (jZ.mp a).1
theorem sv(bms:List (List Int×Int))(at_:List Nat):(oR bms at_).length<=bms.length:=zQ (lG _ _) (by rw[lz];exact zz _)
theorem yY{A:Prs}{m n:Int}(f:m<=n)(h:∀e∈ends A,e<=m\/n<e):inP A n=inP A m:=by
 rw[Bool.eq_iff_iff,vc,vc];constructor
 .rintro⟨p,a,c,b⟩;have d:=h _ (mR.mpr ⟨p,a,.inl U⟩);exact⟨p,a,by lia,by lia⟩
 .rintro⟨p,a,c,b⟩;have d:=h _ (mR.mpr ⟨p,a,.inr U⟩);exact⟨p,a,by lia,by lia⟩
theorem lE{f g:Nat->Bool}:∀{n:Nat},(∀k,k<n->f k=g k)->msk f n=msk g n
 |0,_=>rfl
 |n+1,h=>by rw[kC,kC,h n (BO n),lE λk a=>h k (A6 a)]
def kE(pss:List (List Int))(at_:List Nat)(d:List Int):Prop:=at_.length=pss.length/\d.length=pss.length/\∀(j:Nat)(b:List Int)(a:Nat)(c:Int),pss[j]?=Mw b->at_[j]?=Mw a->d[j]?=Mw c->∃u v,b[a]?=Mw u/\b[a+1]?=Mw v/\u<=c/\c<v
theorem Cq{ps:List Int}(i:Pts ps){m:Int}{g:Prs}(h:SpG ps m (ps.length-1) g){a:Nat}{u v c:Int}(f:ps[a]?=Mw u)(b:ps[a+1]?=Mw v)(n:u<=c)(l:c<v):inP g c=bZ m a:=by
 have r:=(IW.mp b).1;rw[Bool.eq_iff_iff,h.iff c];constructor
 .rintro⟨k,x,y,q,j,e,d,p,o⟩;have:k=a:=by
   rcases Nat.lt_trichotomy k a with z|z|z
   .by_cases w:k+1=a
    .rw[w,f]at e;cases e;lia
    .have:=xQ i.asc e f (by lia);lia
   .exact z
   .by_cases w:a+1=k
    .rw[w,j]at b;cases b;lia
    .have:=xQ i.asc b j (by lia);lia
  rw[←this];exact d
 .intro d;exact⟨a,u,v,by lia,f,b,d,n,l⟩
section
variable{pss:List (List Int)}{bms:List (List Int×Int)}{rws:List Rw}(hpt:∀ps∈pss,Pts ps)(hn:rws.length=bms.length)(hGr:∀(k:Nat)(b:List Int×Int)(x:Rw),bms[k]?=Mw b->rws[k]?=Mw x->GrR pss b x)(hb:∀b∈bms,b.1.length=pss.length)
include hpt hn hGr hb
theorem Cr{at_:List Nat}{e:List Int}(h:kE pss at_ e){k:Nat}(z:k<bms.length):jd rws e k=nI at_ (bms.getD k ([],0)):=by
 obtain⟨b,l⟩:∃b,bms[k]?=Mw b:=⟨_,IV z⟩;obtain⟨x,p⟩:∃x,rws[k]?=Mw x:=⟨_,IV (by lia)⟩;obtain⟨_,F,n⟩:=hGr k b x l p;have E:=hb b (IX l);obtain⟨B,A,o⟩:=h;unfold jd nI oO;rw[dO,p,dO,l,B,A];show(List.range pss.length).all (λj=>inP (x.1.getD j []) (e.getD j 0))=(List.range pss.length).all λj=>bZ (b.1.getD j 0) (at_.getD j 0)
 rw[Bool.eq_iff_iff,jO,jO];have f:∀j∈List.range pss.length,inP (x.1.getD j []) (e.getD j 0)=bZ (b.1.getD j 0) (at_.getD j 0):=λj d=>by
  have d:=jN.mp d;obtain⟨ps,i⟩:∃ps,pss[j]?=Mw ps:=⟨_,IV d⟩;obtain⟨g,q⟩:∃g,x.1[j]?=Mw g:=⟨_,IV (by lia)⟩;obtain⟨m,r⟩:∃m,b.1[j]?=Mw m:=⟨_,IV (by lia)⟩;obtain⟨a,t⟩:∃a,at_[j]?=Mw a:=⟨_,IV (by lia)⟩;obtain⟨c,s⟩:∃c,e[j]?=Mw c:=⟨_,IV (by lia)⟩;obtain⟨u,v,D,C,y,w⟩:=o j ps a c i t s;rw[dO,dO,dO,dO,q,s,r,t];exact Cq (hpt ps (IX i)) (n j ps g m i q r) D C y w
 exact⟨λh j d=>by rw[←f j d];exact h j d,λh j d=>by rw[f j d];exact h j d⟩
theorem uE{at_:List Nat}{a:List Int}(h:kE pss at_ a):mkg rws a=((msk (λk=>nI at_ (bms.getD k ([],0))) bms.length:Nat):Int):=by
 show((msk (jd rws a) rws.length:Nat):Int)=_;rw[hn,lE λk b=>Cr hpt hn hGr hb h b]
end
theorem kF:∀{a:List Int}{ps:List (Int×Int)},InB a ps->a.length=ps.length/\∀(j:Nat)(c:Int)(p:Int×Int),a[j]?=Mw c->ps[j]?=Mw p->p.1<=c/\c<=p.2
 |_,_,.nil=>⟨U,λj c p e=>by simp at e⟩
 |_,_,.cons h1 h2 h=>by
  obtain⟨f,g⟩:=kF h;refine⟨by rw[iQ,iQ,f],λj c p d b=>?_⟩;cases j with
  |zero=>cases d;cases b;exact⟨h1,h2⟩
  |succ j=>exact g j c p (by simpa using d) (by simpa using b)
theorem Am{bs:Prs}{rws:List Rw}{a:List (List (Int×Int))}(F:DJ bs rws a)(A:∀x∈rws,x.1.length=bs.length){b:List Int}(h:InB b bs):mkg rws (List.zipWith cj a b)=mkg rws b:=by
 obtain⟨css,L,e,D⟩:=F.ex;obtain⟨I,s⟩:=kF h;have r:(List.zipWith cj a b).length=b.length:=by rw[e,jR,jR];lia
 show((msk (jd rws (List.zipWith cj a b)) rws.length:Nat):Int)=((msk (jd rws b) rws.length:Nat):Int);rw[lE λk E=>?_];obtain⟨x,ex⟩:∃x,rws[k]?=Mw x:=⟨_,IV E⟩;have g:=IX ex;have H:=A x g;unfold jd oO;rw[dO,ex,r];show(List.range b.length).all (λj=>inP (x.1.getD j []) ((List.zipWith cj a b).getD j 0))=(List.range b.length).all λj=>inP (x.1.getD j []) (b.getD j 0)
 have f:∀j∈List.range b.length,inP (x.1.getD j []) ((List.zipWith cj a b).getD j 0)=inP (x.1.getD j []) (b.getD j 0):=λj d=>by
  have d:=jN.mp d;obtain⟨c,q⟩:∃c,b[j]?=Mw c:=⟨_,IV d⟩;obtain⟨p,o⟩:∃p,bs[j]?=Mw p:=⟨_,IV (by lia)⟩;obtain⟨m,u⟩:∃m,css[j]?=Mw m:=⟨_,IV (by lia)⟩;obtain⟨v,i⟩:=D j p m o u;obtain⟨G,b2⟩:=s j c p q o;have t:=Aj (css:=css) o u q;rw[←e]at t;obtain⟨C,K,J,B⟩:=nC (hi:=p.2) v (λy n=>(yU ((i y).mp n)).1) G b2;rw[dO (l:=List.zipWith cj a b),t,dO (l:=b),q];show inP _ (cj (ck p.1 p.2 m) c)=inP _ c
  symm
  refine yY C λy n=>?_
  by_cases z:p.1<y/\y<=p.2
  .have:MkC rws j p y:=⟨x,g,jZ.mpr ⟨n,by rw[IZ,ML,ML];exact z⟩⟩;by_cases w:y<=c
   .exact .inl (B y ((i y).mpr this) w)
   .exact .inr (by lia)
  .by_cases w:y<=p.1
   .exact .inl (by lia)
   .exact .inr (by lia)
 rw[Bool.eq_iff_iff,jO,jO];exact⟨λh j d=>by rw[←f j d];exact h j d,λh j d=>by rw[f j d];exact h j d⟩
theorem sx{ps:List Int}{c:Int}(b:∀u,ps[0]?=Mw u->u<=c):∀m,m<ps.length->(∀u,ps[m]?=Mw u->c<u)->∃a u v,ps[a]?=Mw u/\ps[a+1]?=Mw v/\u<=c/\c<v
 |0,hm,h=>by
  have e:=IV hm;have:=b _ e;have:=h _ e;lia
 |m+1,hm,h=>by
  have e:=IV (l:=ps) (i:=m) (by lia);have f:=IV hm;by_cases z:ps[m]<=c
  .exact⟨m,_,_,e,f,z,h _ f⟩
  .exact sx b m (by lia) λu d=>by rw[e]at d;cases d;lia
theorem Bi{c:Type}{P:Nat->c->Prop}:∀{n:Nat},(∀j,j<n->∃a,P j a)->∃p:List c,p.length=n/\∀(j:Nat)(a:c),p[j]?=Mw a->P j a
 |0,_=>⟨[],U,λj a e=>by simp at e⟩
 |n+1,h=>by
  obtain⟨p,d,g⟩:=Bi (n:=n) λj f=>h j (by lia)
  obtain⟨a,i⟩:=h n (by lia);refine⟨p++[a],by rw[dt,d];rfl,λj b e=>?_⟩;by_cases f:j<p.length
  .rw[je f]at e;exact g j b e
  .have:j=p.length:=by have:=(IW.mp e).1;simp at this;lia
   subst this;simp at e;rw[←e,d];exact i
theorem qQ:∀{a:List Int}{ps:List (Int×Int)},a.length=ps.length->(∀(j:Nat)(c:Int)(p:Int×Int),a[j]?=Mw c->ps[j]?=Mw p->p.1<=c/\c<=p.2)->InB a ps
 | [],[],_,_=>.nil
 | [],_ :: _,h,_=>by cases h
 |_ :: _,[],h,_=>by cases h
 |c :: a,p :: ps,h,hg=>.cons (hg 0 c p U U).1 (hg 0 c p U U).2 (qQ (by simpa using h) λj c p d b=>hg (j+1) c p (by simpa using d) (by simpa using b))
section
variable{pss:List (List Int)}(hpt:∀ps∈pss,Pts ps)
include hpt
theorem DK{d:List Int}(h:InB d (pss.map λps=>(loP ps,hiP ps))):∃at_∈cy (gls pss),kE pss at_ d:=by
 obtain⟨r,B⟩:=kF h;rw[bx]at r;obtain⟨at_,y,t⟩:=Bi (n:=pss.length) (P:=λj a=>∀(ps:List Int)(c:Int),pss[j]?=Mw ps->d[j]?=Mw c->∃u v,ps[a]?=Mw u/\ps[a+1]?=Mw v/\u<=c/\c<v) λj s=>by
  have k:=IV s;have x:=IV (l:=d) (i:=j) (by lia);have p:=hpt _ (IX k);obtain⟨A,z⟩:=B j _ _ x (by rw[gg,k];rfl);have D:=p.two;obtain⟨a,u,v,e,b,o,C⟩:=sx (ps:=pss[j]) (c:=d[j]) (λu g=>by
   have:loP pss[j]=u:=by unfold loP;rw[dO,g];rfl
   rw[←this];exact A) (pss[j].length-1) (by lia) λu g=>by rw[p.last]at g;cases g;show d[j]<hiP pss[j]+1;exact Int.lt_add_one_of_le z
  refine⟨a,λps c w f=>?_⟩;rw[k]at w;rw[x]at f;cases w;cases f;exact⟨u,v,e,b,o,C⟩
 refine⟨at_,lD.iff.mpr ⟨by rw[y];unfold gls;rw[bx],λj a m e b=>?_⟩,y,r,λj ps a c e b o=>t j a b ps c e o⟩;unfold gls at b;rw[gg]at b;cases q:pss[j]? with
 |none=>rw[q]at b;cases b
 |some ps =>
  rw[q]at b;cases b;have s:=(IW.mp q).1;obtain⟨u,v,_,f,_,_⟩:=t j a e ps _ q (IV (l:=d) (i:=j) (by lia));have:=(IW.mp f).1;show a<ps.length-1;lia
end
section
variable{bms:List (List Int×Int)}{rws:List Rw}(hn:rws.length=bms.length)(hcd:∀k,k<bms.length->(rws.getD k ([],0)).2=(bms.getD k ([],0)).2)
include hn hcd
theorem DL(f:Nat->Bool):pkF rws f rws.length=cdF bms ((List.range bms.length).filter f):=by
 unfold pkF cdF;rw[hn];exact List.map_congr_left λk a=>hcd k (jN.mp (jZ.mp a).1)
end
theorem So.ins{H H':Hp}{a C b:Js}{fs:List (Str×V)}(s:So H H')(e:H a=Mw (.ins C b fs)):H' a=Mw (.ins C b fs):=s _ _ trivial e
def BxG{K:W.Frag}{L:Type} [DecidableEq L] (A:Lfp K L)(H:Hp):List V->List (List (Int×Int)×L)->Prop:=Paired λx q=>∃(t b:Js)(u:V),x=.ref t/\H t=Mw (.tup [.ref b,u])/\BxA H b q.1/\A.R H q.2 u
theorem BxG.mono{K:W.Frag}{L:Type} [DecidableEq L] {A:Lfp K L}{H H':Hp}{xs:List V}{l:List (List (Int×Int)×L)}(h:BxG A H xs l)(s:bM H H'):BxG A H' xs l:=Paired.mapP h λ_ _ ⟨t,b,u,e,z,p,r⟩=>⟨t,b,u,e,s _ _ z,p.mono s,A.mono s r⟩
theorem BxG.length{K:W.Frag}{L:Type} [DecidableEq L] {A:Lfp K L}{H:Hp}{xs:List V}{l:List (List (Int×Int)×L)}(h:BxG A H xs l):xs.length=l.length:=Paired.length h
theorem An{X:Cx}{K:W.Frag}{k:Nat}(h:X.K=K)(a:bY k X.A):OpR X (Km .NotEq) (Dw K):=h ▸ yr a
def cJ(l:List (List (Int×Int)×Option (SI×SI))):List (List (Int×Int)×Option (SI×SI)):=l.filter λq=>decide (q.2≠Mx)
theorem tab_ne{K:W.Frag}{x y:Str}{c t c' t':Js}(h:W.tabIn K x=Mw (c,t))(h':W.tabIn K y=Mw (c',t'))(ne:t≠t'):∀z a,W.tabIn K x=Mw z->W.tabIn K y=Mw a->z.2≠a.2:=λz a e b=>by
 rw[h]at e;rw[h']at b;cases e;cases b;exact ne
theorem tab_keep{H H':Hp}{P b:Js}{L:List (Pos×Str)}(h:dD H P L)(ne:P≠b){ps:Array Jp}(e:H b=Mw (.tbl ps))(k:∀d o,d≠b->H d=Mw o->H' d=Mw o):dD H' P L:=by
 obtain⟨f,q,n,m⟩:=h;refine⟨f,k _ _ ne q,n,λp l=>?_⟩;rcases m p l with z|⟨c,g,j,a,i⟩
 .exact .inl z
 .exact .inr ⟨c,g,j,k _ _ (λz=>by rw[z,e]at a;cases a) a,i⟩
theorem Ao{L M:Type} [DecidableEq L] [DecidableEq M] {h:L->M}{g:List Int->L}{a:List (List (Int×Int))}{ps:List (Int×Int)}(c:gi a ps):oP h a.length (lay g a [])=lay (λd=>h (g d)) a [] :=
 jb (yI (nj c [])) (nj c []) λe b x y i f=>(fL i (Ag (mD c [] e b) (nj c []) b)).trans (fL f (mD (g:=λd=>h (g d)) c [] e b)).symm
def vdm(rws:List Rw)(i:Nat)(o:Int×Int)(m:Int):SI:=ver (wf i o.1 o.2) (pkF rws (bZ m) rws.length)
theorem Bj{L:Type}{d n:Nat}(e:n=d)(F:Fm L n)(P:(n:Nat)->Fm L n->Prop)(h:P n F):∃G:Fm L d,P d G:=by subst e;exact⟨F,h⟩
def oS(K:W.Frag)(H:Hp):Prop:=∀z,W.tabIn K "verdict_form" = Mw z->dD H z.2 [(rT Y90,"verdict_form.<locals>.<lambda>")]
theorem oS.same{K:W.Frag}{H H':Hp}(h:oS K H)(s:au H H'):oS K H':=λz e=>(h z e).same s
def dpr(x y:SI):Option (SI×SI):=if x=y then Mx else Mw (x,y)
theorem vw{K:W.Frag}{H:Hp}{Q:VK}{a b:Js}{v u:SI}(m:SqT K H a (tp v))(l:SqT K H b (tp u))(h:Q (.bl (MB (v=u))) H):BW K MA (.ref a) (.ref b) H Q:=by
 refine⟨a,b,_,_,U,U,m,l,λj=>if j=0 then eqV (.str v.1) (.str u.1)else eqV (.int v.2) (.int u.2),λj x y c d=>?_,?_⟩
 .match j,c,d with
  |0,c,d=>cases c;cases d;exact EqI.flat U U
  |1,c,d=>cases c;cases d;exact EqI.flat U U
  |j+2,c,d=>simp[tp]at c
 .have e:((List.range (min (tp v).length (tp u).length)).all (λj=>if j=0 then eqV (.str v.1) (.str u.1)else eqV (.int v.2) (.int u.2)) && (tp v).length == (tp u).length)=MB (v=u):=by
   have c:eqV (.str v.1) (.str u.1)=MB (v.1=u.1):=by unfold eqV;rw[Bool.eq_iff_iff];simp
   have d:eqV (.int v.2) (.int u.2)=MB (v.2=u.2):=by unfold eqV;rw[Bool.eq_iff_iff];simp
   show((List.range 2).all (λj=>if j=0 then eqV (.str v.1) (.str u.1)else eqV (.int v.2) (.int u.2)) && (2 == 2:Bool))=_;rw[c,d];obtain⟨g,f⟩:=v;obtain⟨k,i⟩:=u;by_cases o:g=k <;> by_cases n:f=i <;> simp[ll,o,n]
  show Q (.bl (if MA=Mz then _ else _)) H;rw[MD (by decide),e];exact h
def ChL(K:W.Frag)(H:Hp):List V->List (List (Int×Int)×Option (SI×SI))->Prop:=Paired λx q=>∃(t b c a:Js)(p:SI×SI),x=.ref t/\q.2=Mw p/\H t=Mw (.tup [.ref b,.ref c,.ref a])/\BxA H b q.1/\Vd K H c p.1/\Vd K H a p.2
theorem ChL.mono{K:W.Frag}{H H':Hp}{xs:List V}{l:List (List (Int×Int)×Option (SI×SI))}(h:ChL K H xs l)(s:bM H H'):ChL K H' xs l:=Paired.mapP h λ_ _ ⟨t,b,e,d,p,g,f,z,w,c,a⟩=>⟨t,b,e,d,p,g,f,s _ _ z,w.mono s,c.mono s,a.mono s⟩
abbrev Dm:=Sum (Int×Int) (List Str)
def DmX(d c:Js)(H:Hp)(a:Js):Dm->Prop
 | .inl p=>∃b fs,H a=Mw (.ins d b fs)/\fs.lookup s!"low"=Mw (.int p.1)/\fs.lookup s!"high"=Mw (.int p.2)/\fs.lookup s!"has_code"=Mx
 | .inr zs=>∃b fs l,H a=Mw (.ins c b fs)/\fs.lookup s!"words"=Mw (.ref l)/\H l=Mw (.lst (zs.map V.str))/\fs.lookup s!"low"=Mw (.int 0)/\fs.lookup s!"high"=Mw (.int (hiW zs))/\fs.lookup s!"has_code"=Mx
theorem DmX.same{f c:Js}{H H':Hp}{a:Js}{d:Dm}(h:DmX f c H a d)(s:au H H'):DmX f c H' a d:=by
 cases d with
 |inl p=>obtain⟨b,fs,e,r⟩:=h;exact⟨b,fs,s _ _ e,r⟩
 |inr j=>obtain⟨b,fs,l,e,g,i,r⟩:=h;exact⟨b,fs,l,s _ _ e,g,s _ _ i,r⟩
def Dm.b:Dm->Int×Int
 | .inl p=>p
 | .inr zs=>(0,hiW zs)
theorem wJ{K:W.Frag}{H:Hp}{Q:VK}{a b:Js}{xs ys:List Str}{r:Bool}(i:SqL K H a (xs.map V.str))(g:SqL K H b (ys.map V.str))(f:r=Mz↔xs=ys)(q:Q (.bl r) H):BQ K MA (.ref a) (.ref b) H Q:=by
 by_cases c:xs.length=ys.length
 .refine⟨a,b,_,_,U,U,i,g,.inr ⟨by rw[bx,bx];exact c,λj=>decide (xs[j]?=ys[j]?),λj x y s p=>?_,?_⟩⟩
  .obtain⟨z,rfl,o⟩:=ky s;obtain⟨d,rfl,n⟩:=ky p;have k:=EqI.flat (K:=K) (H:=H) (x:=V.str z) (y:=V.str d) U U;have m:eqV (V.str z) (V.str d)=MB (xs[j]?=ys[j]?):=by
    rw[o,n,Bool.eq_iff_iff];simp[eqV]
   rw[m]at k;exact k
  .have e:(List.range (xs.map V.str).length).all (λj=>decide (xs[j]?=ys[j]?))=r:=by
    rw[Bool.eq_iff_iff,f,jO];constructor
    .intro h;apply xf
     intro j;by_cases l:j<xs.length
     .exact MJ (h j (jN.mpr (by rw[bx];exact l)))
     .rw[ot (by lia),ot (by lia)]
    .intro h j _;rw[h];exact MH U
   rw[MD Bool.false_ne_true,e];exact q
 .have e:r=false:=by
   rw[IY];intro z;exact c (by rw[f.mp z])
  rw[e]at q;exact⟨a,b,_,_,U,U,i,g,.inl ⟨by rw[bx,bx];exact c,q⟩⟩
def TDo(e:Js)(H:Hp)(t:Js)(d:List V)(b:Js):Prop:=∃c a fs,H t=Mw (.ins e c fs)/\fs.lookup s!"domains"=Mw (.ref a)/\fs.lookup s!"outcome"=Mw (.ref b)/\H a=Mw (.lst d)
theorem DmX.so{f c:Js}{H H':Hp}{a:Js}{d:Dm}(h:DmX f c H a d)(s:So H H'):DmX f c H' a d:=by
 cases d with
 |inl p=>obtain⟨b,fs,e,r⟩:=h;exact⟨b,fs,s _ _ trivial e,r⟩
 |inr j=>obtain⟨b,fs,l,e,g,i,r⟩:=h;exact⟨b,fs,l,s _ _ trivial e,g,s _ _ trivial i,r⟩
theorem TDo.so{c:Js}{H H':Hp}{t a:Js}{b:List V}(h:TDo c H t b a)(s:So H H'):TDo c H' t b a:=by obtain⟨i,j,fs,e,f,d,g⟩:=h;exact⟨i,j,fs,s _ _ trivial e,f,d,s _ _ trivial g⟩
structure yZ(K:W.Frag)(cT cN cW:Js)(H:Hp)(t u:Js)(bs:Prs)(rws gm:List Rw)(i i':Nat)(o:Int×Int)(gc:List (List (Int×Int))):Prop where
 ex:∃(dv ev:List V)(L L':Nat->List Int)(kk:Nat),RfH cT cN cW H t dv bs rws L kk i o/\RfH cT cN cW H u ev bs gm L' kk i' o/\(∀c∈gc,c.length<=kk+1)/\∃(ou pu:Js)(ds:List Dm)(d:Dm),TDo cT H t dv ou/\TDo cT H u ev pu/\aF dv ds (DmX cN cW H)/\aF ev ds (DmX cN cW H)/\DmX cN cW H ou d/\DmX cN cW H pu d/\ds.length<=10
 gok:gi gc bs
 glen:gc.length=bs.length
 g1:∀cs,InB cs bs->mkg rws (List.zipWith cj gc cs)=mkg rws cs
 g2:∀cs,InB cs bs->mkg gm (List.zipWith cj gc cs)=mkg gm cs
theorem yZ.so{K:W.Frag}{k l j:Js}{H H':Hp}{t u:Js}{bs:Prs}{rws f:List Rw}{i e:Nat}{o:Int×Int}{g:List (List (Int×Int))}(h:yZ K k l j H t u bs rws f i e o g)(s:So H H'):yZ K k l j H' t u bs rws f i e o g:=by
 obtain⟨⟨G,y,L,J,q,a,b,c,n,m,I,d,F,E,D,C,B,A,z⟩,x,w,v,r⟩:=h;exact⟨⟨G,y,L,J,q,a.so s,b.so s,c,n,m,I,d,F.so s,E.so s,aF.mono D λ_ _ p=>DmX.so p s,aF.mono C λ_ _ p=>DmX.so p s,B.so s,A.so s,z⟩,x,w,v,r⟩
def dif(rws a:List Rw)(i c:Nat)(o:Int×Int)(b:List Int):Option (SI×SI):=dpr (vdm rws i o (mkg rws b)) (vdm a c o (mkg a b))
structure DM(bs:Prs)(rws gm:List Rw)(i i':Nat)(o:Int×Int)(PF:Fm (Option (SI×SI)) bs.length):Prop where
 sh:cc bs.length PF bs
 tel:∀cs,InB cs bs->Tel bs.length PF cs (dif rws gm i i' o cs)
 few:(bxs bs.length PF).length<=300
def wK(c:Int)(ps:List Int):Dm:=if c%3=1 then .inr (w3s c (ps.length-1))else .inl (loP ps,hiP ps)
def dmO(c:Int)(a:List Int):Dm:=if c%3=1 then .inr (w3s c 5)else .inl (o0 a,o4 a)
def dms(a:List Int)(pss:List (List Int)):List Dm:=(List.range pss.length).map λj:Nat=>wK (cI a (1+(0+(j:Int)))) (pss.getD j [])
theorem Cs{a:List Int}{pss:List (List Int)}{j:Nat}{ps:List Int}(e:pss[j]?=Mw ps):(dms a pss)[j]?=Mw (wK (cI a (1+(0+(j:Int)))) ps):=by
 unfold dms;rw[gg,List.getElem?_range (IW.mp e).1];show Mw (wK _ (pss.getD j []))=_;rw[dO,e];rfl
def DmN(d b:Js)(e H:Hp)(a:Js):Dm->Prop
 | .inl p=>DmX d b H a (.inl p)
 | .inr zs=>∃c fs l,H a=Mw (.ins b c fs)/\fs.lookup s!"words"=Mw (.ref l)/\H l=Mw (.lst (zs.map V.str))/\fs.lookup s!"low"=Mw (.int 0)/\fs.lookup s!"high"=Mw (.int (hiW zs))/\fs.lookup s!"has_code"=Mx/\e l=Mx
theorem DmN.hide{k j:Js}{f H:Hp}{a D:Js}{zs:List V}{d:Dm}(h:DmN k j f H a d)(e:f D=Mw (.lst zs))(s:au f H):DmX k j (My.hide H D) a d:=by
 have i:=s _ _ e;cases d with
 |inl p=>obtain⟨c,fs,b,r⟩:=h;exact⟨c,fs,dr b (dG b i (by intro z;cases z)),r⟩
 |inr u =>
  obtain⟨c,fs,l,b,q,t,o,n,m,g⟩:=h;exact⟨c,fs,l,dr b (dG b i (by intro z;cases z)),q,dr t (λz=>by rw[z,e]at g;cases g),o,n,m⟩
theorem Ct{x y:Int}(b:0<=x)(a:0<=y):0<=Kh.bitXor x y:=by
 rw[←PyProof.Rows.bitXor_eq];have d:¬ 0<=Kh.bitNot x:=by unfold Kh.bitNot;lia
 have c:¬ 0<=Kh.bitNot y:=by unfold Kh.bitNot;lia
 show 0<=Kh.bitNot (Kh.bitAnd (Kh.bitNot x) (Kh.bitNot y))-Kh.bitAnd x y;rw[PyProof.Rows.bitAnd_nn d c,PyProof.Rows.bitAnd_pp b a];have e:∀z:Int,Kh.bitNot (Kh.bitNot z)=z:=λz=>by unfold Kh.bitNot;lia
 rw[e,e,e];have g:x.toNat &&& y.toNat<=x.toNat:=Nat.and_le_left;have f:x.toNat<=x.toNat ||| y.toNat:=Nat.left_le_or;lia
def wL(pss:List (List Int))(a:List Int)(bms:List (List Int×Int)):Prop:=∀b∈bms,b.1.length=pss.length/\b.2∈a/\∀x∈b.1,0<=x
theorem aF.takeR{α:Type}{xs:List V}{ys:List α}{R:Js->α->Prop}(h:aF xs ys R)(n:Nat):aF (xs.take n) (ys.take n) R:=⟨by rw[iP,iP,h.1],λj y e=>by
 have a:=(IW.mp e).1;rw[iP]at a;rw[xG,ME (by lia)]at e;obtain⟨r,c,b⟩:=h.2 j y e;exact⟨r,by rw[xG,ME (by lia)];exact c,b⟩⟩
theorem aF.dropR{α:Type}{xs:List V}{ys:List α}{R:Js->α->Prop}(h:aF xs ys R)(n:Nat):aF (xs.drop n) (ys.drop n) R:=⟨by rw[ki,ki,h.1],λj y e=>by
 rw[vr]at e;obtain⟨r,b,a⟩:=h.2 _ y e;exact⟨r,by rw[vr];exact b,a⟩⟩
theorem aF.appR{α:Type}{xs b:List V}{ys a:List α}{R:Js->α->Prop}(h:aF xs ys R)(h':aF b a R):aF (xs++b) (ys++a) R:=⟨by rw[dt,dt,h.1,h'.1],λj y e=>by
 by_cases f:j<ys.length
 .rw[je f]at e;obtain⟨r,d,c⟩:=h.2 j y e;exact⟨r,by rw[je (by rw[h.1];exact f)];exact d,c⟩
 .rw[lh (by lia)]at e;obtain⟨r,d,c⟩:=h'.2 _ y e;exact⟨r,by rw[lh (by rw[h.1];lia),h.1];exact d,c⟩⟩
theorem aF.revR{α:Type}{xs:List V}{ys:List α}{R:Js->α->Prop}(h:aF xs ys R):aF xs.reverse ys.reverse R:=⟨by rw[xO,xO,h.1],λj y e=>by
 have a:=(IW.mp e).1;rw[xO]at a;rw[List.getElem?_reverse a]at e;obtain⟨r,c,b⟩:=h.2 _ y e;exact⟨r,by rw[List.getElem?_reverse (by rw[h.1];exact a),h.1];exact c,b⟩⟩
theorem wL.sub{pss:List (List Int)}{c:List Int}{bms a:List (List Int×Int)}(h:wL pss c bms)(k:∀b∈a,b∈bms):wL pss c a:=λb d=>h b (k b d)
def vdp(bms:List (List Int×Int))(i:Nat)(a:List Int)(p:List Nat):SI:=ver (wf i (o0 a) (o4 a)) (cdF bms (oR bms p))
theorem y7{pss:List (List Int)}{bms:List (List Int×Int)}{rws:List Rw}{i:Nat}{e:List Int}(f:∀ps∈pss,Pts ps)(c:rws.length=bms.length)(a:∀(k:Nat)(b:List Int×Int)(x:Rw),bms[k]?=Mw b->rws[k]?=Mw x->GrR pss b x)(q:∀b∈bms,b.1.length=pss.length){at_:List Nat}{n:List Int}(h:kE pss at_ n):vdm rws i (o0 e,o4 e) (mkg rws n)=vdp bms i e at_:=by
 have j:∀k,k<bms.length->(rws.getD k ([],0)).2=(bms.getD k ([],0)).2:=λk o=>by
  have m:=IV o;have d:=IV (l:=rws) (i:=k) (by lia);rw[dO,dO,m,d];exact(a k _ _ m d).1
 rw[uE f c a q h];generalize p:(λk=>nI at_ (bms.getD k ([],0)))=g;have r:oR bms at_=(List.range bms.length).filter g:=by unfold oR;rw[p]
 have d:pkF rws (bZ ((msk g bms.length:Nat):Int)) rws.length=cdF bms ((List.range bms.length).filter g):=by rw[←c,Ae,DL c j,c]
 unfold vdm vdp;rw[d,r]
structure RwD where
 rl:Js
 rx:List V
 bms:List (List Int×Int)
 wy:Str
 wi:Nat
structure nK(H:Hp)(pss:List (List Int))(d:RwD):Prop where
 e:H d.rl=Mw (.lst d.rx)
 r:BRL H d.rx d.bms
 n:d.rx.length<=60
 b:∀b∈d.bms,b.1.length=pss.length/\∀x∈b.1,0<=x
 w:six[d.wi]?=Mw d.wy
theorem nK.so{H H':Hp}{pss:List (List Int)}{d:RwD}(h:nK H pss d)(s:So H H'):nK H' pss d:=⟨s _ _ trivial h.e,aF.mono h.r λ_ _ ⟨bl,e,f⟩=>⟨bl,s _ _ trivial e,s _ _ trivial f⟩,h.n,h.b,h.w⟩
def vdd(a:List Int)(d:RwD)(p:List Nat):SI:=vdp d.bms d.wi a p
def fj(ps:List Int):List Int:=ps.tail.dropLast
theorem y8{ps:List Int}{j:Nat}{x:Int}(e:ps[j+1]?=Mw x)(h:j+2<ps.length):x∈fj ps:=by
 cases ps with
 |nil=>simp at e
 |cons y ps =>
  have e:ps[j]?=Mw x:=by simpa using e
  have h:j+1<ps.length:=by rw[iQ]at h;lia
  show x∈ps.dropLast;rw[List.dropLast_eq_take];refine IX (i:=j) ?_;rw[xG,ME (by lia)];exact e
theorem y9{ps:List Int}{x:Int}(h:x∈fj ps):∃j,ps[j+1]?=Mw x/\j+2<ps.length:=by
 cases ps with
 |nil=>cases h
 |cons y ps =>
  have h:x∈ps.dropLast:=h;rw[List.dropLast_eq_take]at h;obtain⟨j,a⟩:=jP h;have b:=(IW.mp a).1;rw[iP]at b;rw[xG,ME (by lia)]at a;exact⟨j,by simpa using a,by rw[iQ];lia⟩
theorem nL{ps:List Int}(a:Pts ps):(fj ps).Pairwise (· < ·)/\(∀c∈fj ps,loP ps<c/\c<=hiP ps)/\(fj ps).length+2=ps.length:=by
 have m:=a.two;refine⟨?_,λc f=>?_,?_⟩
 .unfold fj;rw[List.dropLast_eq_take];exact List.Pairwise.sublist ((vl _ _).trans (List.tail_sublist ps)) a.asc
 .obtain⟨j,d,k⟩:=y9 f;have e:=IV (l:=ps) (i:=0) (by lia);have b:=IV (l:=ps) (i:=ps.length-1) (by lia);have o:loP ps=ps[0]:=by unfold loP;rw[dO,e];rfl
  have n:hiP ps=ps[ps.length-1]-1:=by unfold hiP;rw[dO,b];rfl
  have h:=a.mono e d (by lia);have g:=a.mono d b (by lia);lia
 .unfold fj;rw[List.length_dropLast,List.length_tail];lia
def ie(pss:List (List Int)):List (List (Int×Int)):=List.zipWith (λp b=>ck p.1 p.2 b) (pss.map λa=>(loP a,hiP a)) (pss.map fj)
theorem za{pss:List (List Int)}(b:∀ps∈pss,Pts ps):gi (ie pss) (pss.map λps=>(loP ps,hiP ps)):=by
 refine uB (by rw[bx,bx]) (λp f=>?_) λj p g a c=>?_
 .obtain⟨ps,d,rfl⟩:=eK.mp f;exact(b ps d).le
 .rw[gg]at a c;cases e:pss[j]? with
  |none=>rw[e]at a;cases a
  |some ps =>
   rw[e]at a c;cases a;cases c;have:=nL (b ps (IX e));exact⟨this.1,this.2.1⟩
theorem pW(pss:List (List Int)):(ie pss).length=pss.length:=by unfold ie;rw[jR,bx,bx];lia
theorem wM{pss:List (List Int)}(b:∀ps∈pss,Pts ps){d:Nat}(h:∀ps∈pss,ps.length<=d):∀c∈ie pss,c.length<=d+1:=λc g=>by
 unfold ie at g;obtain⟨j,a⟩:=jP g;rw[kM,gg,gg]at a;cases e:pss[j]? with
 |none=>rw[e]at a;cases a
 |some ps =>
  rw[e]at a;have a:ck (loP ps) (hiP ps) (fj ps)=c:=Option.some.inj a;have f:=IX e;rw[←a,gk];have:=(nL (b ps f)).2.2;have:=h ps f;lia
theorem wN{pss:List (List Int)}(m:∀ps∈pss,Pts ps){at_:List Nat}(C:at_∈cy (gls pss)){b:List Int}(n:InB b (pss.map λps=>(loP ps,hiP ps)))(h:kE pss at_ b):kE pss at_ (List.zipWith cj (ie pss) b):=by
 obtain⟨q,D,g⟩:=h;refine⟨q,by rw[jR,pW];lia,λj ps a c e x d=>?_⟩;rw[kM]at d;have G:=(IW.mp e).1;have k:=IV (l:=b) (i:=j) (by lia);have w:(ie pss)[j]?=Mw (ck (loP ps) (hiP ps) (fj ps)):=by unfold ie;rw[kM,gg,gg,e];rfl
 rw[w,k]at d;have d:cj (ck (loP ps) (hiP ps) (fj ps)) b[j]=c:=Option.some.inj d;obtain⟨u,v,f,o,r,E⟩:=g j ps a b[j] e x k;have t:=m ps (IX e);have hi:=nL t;obtain⟨z,b2⟩:=(kF n).2 j b[j] _ k (by rw[gg,e];rfl);obtain⟨B,H,A,p⟩:=nC (hi:=hiP ps) hi.1 (λy s=>(hi.2.1 y s).1) z b2;rw[d]at B A p;refine⟨u,v,f,o,?_,by lia⟩;cases a with
 |zero =>
  have:loP ps=u:=by unfold loP;rw[dO,f];rfl
  lia
 |succ a =>
  have F:=(IW.mp o).1;exact p u (y8 f (by lia)) r
theorem zc{Y E D:Js}{H:Hp}{t T:Js}{pss:List (List Int)}{a:List Int}{rws:List Rw}{bms:List (List Int×Int)}{nm R:Str}{zs:List Str}{C:List V}{S g:Nat}(W:mh (λ_=>True) Y H t rws nm R T zs C)(n:aF C (pss.map λps=>(loP ps,hiP ps)) (Dom E D H))(L:Dom E D H T (o0 a,o4 a))(I:six[S]?=Mw R)(a0:rws.length=bms.length)(hok:∀w∈rws,lX (pss.map λps=>(loP ps,hiP ps)) (o0 a,o4 a) w)(N:∀(k:Nat)(b:List Int×Int)(x:Rw),bms[k]?=Mw b->rws[k]?=Mw x->GrR pss b x)(hb:∀b∈bms,b.1.length=pss.length)(d:∀ps∈pss,Pts ps)(Ap:o0 a<=o4 a)(a2:pss.length<=4)(a3:bms.length<=60)(J:∀ps∈pss,ps.length<=g)(M:(g+1)^pss.length<=300)(wO:g<=57):RfH Y E D H t C (pss.map λps=>(loP ps,hiP ps)) rws (λc=>pss.getD c []) g S (o0 a,o4 a):=by
 obtain⟨bs,f⟩:∃bs,bs=pss.map λps=>(loP ps,hiP ps):=⟨_,U⟩
 have q:bs.length=pss.length:=by rw[f];simp
 rw[←f]at n hok⊢;have a1:∀w∈rws,w.1.length=pss.length:=λw hw=>by rw[(hok w hw).len];exact q
 have o:∀b∈bms,b.1.length=pss.length/\True:=λb h=>⟨hb b h,trivial⟩
 have m:∀(k:Nat)(x:Rw),rws[k]?=Mw x->∃b,bms[k]?=Mw b/\GrR pss b x:=λk x e=>by
  have hk:=(IW.mp e).1;exact⟨_,IV (l:=bms) (i:=k) (by lia),N k _ x (IV (by lia)) e⟩
 obtain⟨G,dx,na,dl,fs,F,e1,e2,e3,e4,e5,e6,e7,e8,e9,Q,P,_⟩:=id W;refine⟨⟨G,dx,dl,fs,F,e1,e2,e7,e9,n,Q,aF.mono P λ_ _ p=>p⟩,W.tbl I L Ap,by lia,by lia,λx r=>⟨(hok x r).len,λc=>?_⟩,λc b B=>?_,by rw[q];exact M,wO,λp s=>?_⟩
 .obtain⟨k,A⟩:=jP r;obtain⟨b,B,_,gl,v⟩:=m k x A;by_cases u:c<pss.length
  .have ep:=IV u;have j:=IV (l:=x.1) (i:=c) (by lia);have Fw:=(o b (IX B)).1;have z:=IV (l:=b.1) (i:=c) (by lia);have h1:=(v c _ _ _ ep j z).lenA;have h2:=(d _ (IX ep)).few;have h3:=(d _ (IX ep)).two;rw[dO,j];show x.1[c].length<=6;lia
  .rw[dO,ot (by lia)];exact Az _
 .have u:c<pss.length:=by have:=(IW.mp B).1;lia
  have ep:=IV u;have eL:pss.getD c []=pss[c]:=by rw[dO,ep];rfl
  show(pss.getD c []).length<=g/\∀y,MkC rws c b y->y∈pss.getD c [];rw[eL];refine⟨J _ (IX ep),λy ⟨x,r,hy⟩=>?_⟩;obtain⟨k,A⟩:=jP r;obtain⟨Z,O,_,gl,v⟩:=m k x A;have j:=IV (l:=x.1) (i:=c) (by lia);have Fw:=(o Z (IX O)).1;have z:=IV (l:=Z.1) (i:=c) (by lia);have X:=(jZ.mp hy).1;rw[dO,j]at X;obtain⟨p,s,e⟩:=mR.mp X;have:=(v c _ _ _ ep j z).ep p s;rcases e with e|e
  .rw[e];exact this.1
  .rw[e];exact this.2
 .rw[f]at s;obtain⟨ps,K,rfl⟩:=eK.mp s;exact(d ps K).le
def gO(x:OP):Int:=if x=Mx then 0 else 1
def gP(lo:Int)(φ:Int->Int):Nat->Int
 |0=>0
 |n+1=>gP lo φ n+φ (lo+(n:Int))
theorem nM{lo:Int}{φ ψ:Int->Int}:∀{n:Nat},(∀c,lo<=c->c<lo+(n:Int)->φ c=ψ c)->gP lo φ n=gP lo ψ n
 |0,_=>rfl
 |n+1,h=>by
  show gP lo φ n+φ (lo+(n:Int))=gP lo ψ n+ψ (lo+(n:Int));rw[nM λc a b=>h c a (by lia),h (lo+(n:Int)) (by lia) (by lia)]
theorem nN{lo k:Int}:∀n:Nat,gP lo (λ_=>k) n=(n:Int)*k
 |0=>(Int.zero_mul k).symm
 |n+1=>by
  show gP lo (λ_=>k) n+k=((n+1:Nat):Int)*k;rw[nN n,Int.natCast_succ,Int.add_mul,Jd]
theorem nO{lo:Int}{φ:Int->Int}(n:Nat):∀m:Nat,gP lo φ (n+m)=gP lo φ n+gP (lo+(n:Int)) φ m
 |0=>(Jg _).symm
 |m+1=>by
  show gP lo φ (n+m)+φ (lo+((n+m:Nat):Int))=gP lo φ n+(gP (lo+(n:Int)) φ m+φ (lo+(n:Int)+(m:Int)));rw[nO n m,Int.natCast_add,Jf,Jf]
def jG(p:Int×Int)(φ:Int->Int):Int:=gP p.1 φ (p.2-p.1+1).toNat
theorem nP{p:Int×Int}{φ ψ:Int->Int}(h:∀c,p.1<=c->c<=p.2->φ c=ψ c):jG p φ=jG p ψ:=nM λc a b=>h c a (by lia)
theorem nQ{p:Int×Int}{k:Int}{φ:Int->Int}(a:p.1<=p.2+1)(h:∀c,p.1<=c->c<=p.2->φ c=k):jG p φ=(p.2-p.1+1)*k:=by
 rw[nP (ψ:=λ_=>k) h];unfold jG;rw[nN,Int.toNat_of_nonneg (by lia)]
theorem nR{lo m hi:Int}{φ:Int->Int}(d:lo<=m+1)(c:m<=hi):jG (lo,hi) φ=jG (lo,m) φ+jG (m+1,hi) φ:=by
 unfold jG;show gP lo φ (hi-lo+1).toNat=gP lo φ (m-lo+1).toNat+gP (m+1) φ (hi-(m+1)+1).toNat;have b:(hi-lo+1).toNat=(m-lo+1).toNat+(hi-(m+1)+1).toNat:=by lia
 have a:lo+((m-lo+1).toNat:Int)=m+1:=by lia
 rw[b,nO,a]
def wQ:List (Int×Int)->(List Int->Int)->Int
 | [],φ=>φ []
 |p :: ps,φ=>jG p λc=>wQ ps λa=>φ (c :: a)
theorem pX(p:Int×Int):∀(ps:List (Int×Int))(φ:List Int->Int),wQ (ps++[p]) φ=wQ ps λa=>jG p λc=>φ (a++[c])
 | [],φ=>rfl
 |q :: ps,φ=>nP λc _ _=>pX p ps λa=>φ (c :: a)
def wsum(g:OP->Int):List (List (Int×Int)×OP)->Int
 | []=>0
 |q :: r=>vol q.1*g q.2+wsum g r
theorem sy(g:OP->Int):∀a b:List (List (Int×Int)×OP),wsum g (a++b)=wsum g a+wsum g b
 | [],b=>(I1 _).symm
 |q :: a,b=>by show vol q.1*g q.2+wsum g (a++b)=vol q.1*g q.2+wsum g a+wsum g b;rw[sy g a b,Jf]
theorem sD(g:OP->Int)(p:Int×Int):∀l:List (List (Int×Int)×OP),wsum g (l.map λq=>(p :: q.1,q.2))=(p.2-p.1+1)*wsum g l
 | []=>(Ji _).symm
 |q :: l=>by
  show vol (p :: q.1)*g q.2+wsum g (l.map λq=>(p :: q.1,q.2))=(p.2-p.1+1)*(vol q.1*g q.2+wsum g l);rw[yQ,sD g p l,Int.mul_add,Int.mul_assoc]
theorem zd{α:Type}:∀{l:List (T3a α)}{lo hi:Int},Ch3 l lo hi->lo<=hi+1
 | [],_,_,h=>Int.le_of_eq h
 |t :: l,_,_,h=>by
  have b:=zd h.2.2;have a:=h.2.1;lia
theorem pY{g:OP->Int}:∀{n:Nat}{F:Fm OP n}{ps:List (Int×Int)}{φ:List Int->Int},cc n F ps->(∀a x,InB a ps->Tel n F a x->g x=φ a)->wsum g (bxs n F)=wQ ps φ
 |0,F,ps,φ,d,h=>by
  have d:ps=[]:=d;subst d;have i:=h [] F .nil (.nil F);show 1*g F+0=φ [];rw[i,Jd,Jg]
 |n+1,F,ps,φ,d,h=>by
  obtain⟨f,rfl⟩:∃f:List (T3a (Fm OP n)),(f:Fm OP (n+1))=F:=⟨F,U⟩;obtain⟨p,r,rfl,G,b,H,E⟩:ShS (cc n) f ps:=d;have D:∀(l:List (T3a (Fm OP n)))(lo hi:Int),Ch3 l lo hi->(∀t∈l,cc n t.2.2 r)->(∀t∈l,∀c,t.1<=c->c<=t.2.1->∀a x,InB a r->Tel n t.2.2 a x->g x=φ (c :: a))->wsum g (bxs (n+1) (l:Fm OP (n+1)))=jG (lo,hi) λc=>wQ r λa=>φ (c :: a):=by
   intro l;induction l with
   |nil =>
    intro lo hi h _ _;have h:lo=hi+1:=h;unfold jG;show(0:Int)=gP lo _ (hi-lo+1).toNat;rw[show(hi-lo+1).toNat=0 by lia];rfl
   |cons t l B =>
    intro lo hi h z y;have i:=h.1;have J:=h.2.1;have I:=zd h.2.2;have e:bxs (n+1) (show Fm OP (n+1)from t :: l)=bxs (n+1) (show Fm OP (n+1) from[t])++bxs (n+1) (show Fm OP (n+1)from l):=qN n [t] l;rw[e,sy,vn,sD g (t.1,t.2.1),B _ _ h.2.2 (λu q=>z u (jf _ q)) (λu q=>y u (jf _ q)),nR (lo:=lo) (m:=t.2.1) (hi:=hi) (by lia) (by lia)]
    congr 1
    rw[nQ (k:=wsum g (bxs n t.2.2)) (by show lo<=t.2.1+1;lia) λc w v=>(pY (z t fw) λa x s o=>y t fw c (by rw[i];exact w) v a x s o).symm];show(t.2.1-t.1+1)*_=(t.2.1-lo+1)*_;rw[i]
  refine D f p.1 p.2 b E λt C c w v a x s o=>?_
  obtain⟨j,A⟩:=jP C;obtain⟨M,L,K,-,-,-⟩:=kD b A;exact h (c :: a) x (.cons (by lia) (by lia) s) (qM b A w v o)
def dF(pss:List (List Int))(at_:List Nat):List (Int×Int):=List.zipWith (λb a=>(b.getD a 0,b.getD (a+1) 0-1)) pss at_
def Aq(ψ:List Nat->Int)(pss:List (List Int)):Int:=((cy (gls pss)).map λa=>vol (dF pss a)*ψ a).sum
theorem ze(B:List (Int×Int))(p:Int×Int):vol (B++[p])=vol B*(p.2-p.1+1):=by unfold vol;rw[xF];rfl
theorem nU:∀a b:List Int,(a++b).sum=a.sum+b.sum
 | [],b=>by rw[zy,List.sum_nil,I1]
 |x :: a,b=>by rw[List.cons_append,oT,oT,nU a b,Jf]
theorem sE{α:Type}(k:Int)(f:α->Int):∀l:List α,(l.map λx=>k*f x).sum=k*(l.map f).sum
 | []=>(Ji k).symm
 |x :: l=>by rw[jS,jS,oT,oT,sE k f l,Int.mul_add]
theorem pZ{α a:Type}(f:α->List a)(F:a->Int):∀l:List α,((l.flatMap f).map F).sum=(l.map λx=>((f x).map F).sum).sum
 | []=>rfl
 |x :: l=>by rw[List.flatMap_cons,gI,nU,jS,oT,pZ f F l]
theorem vx{ps:List Int}(d:Pts ps){φ:Int->Int}{ψ:Nat->Int}(h:∀(a:Nat)(u v c:Int),ps[a]?=Mw u->ps[a+1]?=Mw v->u<=c->c<v->φ c=ψ a):∀m,m<ps.length->((List.range m).map λk=>(ps.getD (k+1) 0-1-ps.getD k 0+1)*ψ k).sum=jG (ps.getD 0 0,ps.getD m 0-1) φ
 |0,_=>by
  unfold jG;show(0:Int)=gP _ _ (ps.getD 0 0-1-ps.getD 0 0+1).toNat;rw[show(ps.getD 0 0-1-ps.getD 0 0+1).toNat=0 by lia];rfl
 |m+1,hm=>by
  have b:=IV (l:=ps) (i:=m) (by lia);have e:=IV (l:=ps) (i:=m+1) hm;have p:ps.getD m 0=ps[m]:=by rw[dO,b];rfl
  have o:ps.getD (m+1) 0=ps[m+1]:=by rw[dO,e];rfl
  have n:ps.getD 0 0<=ps[m]:=d.lo b;have j:ps[m]<ps[m+1]:=d.mono b e (by lia);rw[ll,gI,nU,vx d h m (by lia),nR (lo:=ps.getD 0 0) (m:=ps.getD m 0-1) (hi:=ps.getD (m+1) 0-1) (by lia) (by lia)]
  congr 1
  rw[nQ (k:=ψ m) (by show ps.getD m 0-1+1<=ps.getD (m+1) 0-1+1;lia) λc g f=>h m _ _ c b e (by have g:ps.getD m 0-1+1<=c:=g;lia) (by have f:c<=ps.getD (m+1) 0-1:=f;lia)];show(ps.getD (m+1) 0-1-ps.getD m 0+1)*ψ m+0=(ps.getD (m+1) 0-1-(ps.getD m 0-1+1)+1)*ψ m;rw[Jg,show ps.getD m 0-1+1=ps.getD m 0 by lia]
theorem kE.snoc{b:List (List Int)}{at_:List Nat}{i:List Int}{ps:List Int}{a:Nat}{u v c:Int}(h:kE b at_ i)(s:ps[a]?=Mw u)(r:ps[a+1]?=Mw v)(p:u<=c)(o:c<v):kE (b++[ps]) (at_++[a]) (i++[c]):=by
 obtain⟨m,l,g⟩:=h;refine⟨by rw[dt,dt,m];rfl,by rw[dt,dt,l];rfl,λj k w t d f e=>?_⟩;by_cases n:j<b.length
 .rw[je n]at d;rw[je (by lia)]at f e;exact g j k w t d f e
 .rw[lh (by lia)]at d;have q:=(IW.mp d).1;rw[gy]at q;rw[lh (by lia)]at f e;rw[show j-b.length=0 by lia]at d;rw[show j-at_.length=0 by lia]at f;rw[show j-i.length=0 by lia]at e;cases d;cases f;cases e;exact⟨u,v,s,r,p,o⟩
theorem p6:∀{r pss:List (List Int)},pss.reverse=r->(∀ps∈pss,Pts ps)->∀{φ:List Int->Int}{ψ:List Nat->Int},(∀at_ f,kE pss at_ f->φ f=ψ at_)->Aq ψ pss=wQ (pss.map λps=>(loP ps,hiP ps)) φ
 | [],pss,h,_,φ,ψ,hv=>by
  have:pss=[]:=List.reverse_eq_nil_iff.mp h;subst this;have:=hv [] [] ⟨U,U,λj ps a c e=>by simp at e⟩;show 1*ψ []+0=φ [];rw[this,Jd,Jg]
 |ps :: r,pss,h,hp,φ,ψ,hv=>by
  obtain⟨b,l⟩:∃b:List (List Int),b.reverse=r:=⟨r.reverse,mu r⟩;have e:pss=b++[ps]:=by rw[←mu pss,h,qg,←l,mu]
  subst e;have d:=hp ps (jy _ (iv.mpr U));have A:=d.two;have w:gls (b++[ps])=gls b++[ps.length-1]:=by unfold gls;rw[gI];rfl
  unfold Aq;rw[w,gN];unfold grow;rw[pZ,gI,List.map_singleton,pX];rw[←p6 l (λq m=>hp q (lg _ m)) (φ:=λz=>jG (loP ps,hiP ps) λc=>φ (z++[c])) (ψ:=λp=>((List.range (ps.length-1)).map λk=>(ps.getD (k+1) 0-1-ps.getD k 0+1)*ψ (p++[k])).sum) λat_ f i=>(vx d (φ:=λc=>φ (f++[c])) (ψ:=λk=>ψ (at_++[k])) (λa u v c y x s o=>hv _ _ (i.snoc y x s o)) (ps.length-1) (by lia)).symm];unfold Aq
  congr 1
  refine List.map_congr_left λp g=>?_
  have n:p.length=b.length:=by rw[(lD.iff.mp g).1];unfold gls;rw[bx]
  rw[List.map_map,←sE]
  congr 1
  refine List.map_congr_left λk _=>?_
  show vol (dF (b++[ps]) (p++[k]))*ψ (p++[k])=_;have t:dF (b++[ps]) (p++[k])=dF b p++[(ps.getD k 0,ps.getD (k+1) 0-1)]:=by
   unfold dF;rw[List.zipWith_append n.symm];rfl
  rw[t,ze,Int.mul_assoc]
def jx(A B:List (Int×Int)):Bool:=(List.range A.length).all λk=>!(MB ((A.getD k (0,0)).2<(B.getD k (0,0)).1) || decide ((B.getD k (0,0)).2<(A.getD k (0,0)).1))
theorem nV{A B:List (Int×Int)}(h:jx A B=Mz){k:Nat}{a b:Int×Int}(c:A[k]?=Mw a)(d:B[k]?=Mw b):b.1<=a.2/\a.1<=b.2:=by
 have:=jO.mp h k (jN.mpr (IW.mp c).1);rw[dO,dO,c,d]at this;have this:(!(MB (a.2<b.1) || decide (b.2<a.1)))=true:=this;rw[Bool.not_eq_true',Bool.or_eq_false_iff,decide_eq_false_iff_not,decide_eq_false_iff_not]at this;lia
theorem wR{A B:List (Int×Int)}(o:A.length=B.length)(l:∀p∈A,p.1<=p.2)(k:∀p∈B,p.1<=p.2)(h:jx A B=Mz):∃i,InB i A/\InB i B:=by
 refine⟨List.zipWith (λa b=>max a.1 b.1) A B,qQ (by rw[jR];lia) λj c p e d=>?_,qQ (by rw[jR];lia) λj c p e d=>?_⟩
 .obtain⟨b,f⟩:∃b,B[j]?=Mw b:=⟨_,IV (by have:=(IW.mp d).1;lia)⟩;rw[kM,d,f]at e;have e:max p.1 b.1=c:=Option.some.inj e;have n:=nV h d f;have m:=l p (IX d);lia
 .obtain⟨a,g⟩:∃a,A[j]?=Mw a:=⟨_,IV (by have:=(IW.mp d).1;lia)⟩;rw[kM,d,g]at e;have e:max a.1 p.1=c:=Option.some.inj e;have n:=nV h g d;have m:=k p (IX d);lia
theorem zf{A B:List (Int×Int)}(h:Asc A B):jx A B=false:=by
 obtain⟨k,a,b,d,c,f,e,_⟩:=vo h;cases hm:jx A B with
 |false=>rfl
 |true=>have:=nV hm d c;lia
theorem zg:∀{n:Nat}{F:Fm OP n}{ps:List (Int×Int)},cc n F ps->∀q∈bxs n F,∀c,InB c q.1->InB c ps/\Tel n F c q.2
 |0,F,ps,a,q,b,c,hc=>by
  have a:ps=[]:=a;have b:q∈[(([]:List (Int×Int)),F)]:=b;rw[iv.mp b]at hc⊢;subst a;cases hc;exact⟨.nil,.nil _⟩
 |n+1,F,ps,a,q,b,c,hc=>by
  obtain⟨f,rfl⟩:∃f:List (T3a (Fm OP n)),(f:Fm OP (n+1))=F:=⟨F,U⟩;obtain⟨p,r,rfl,u,d,v,s⟩:ShS (cc n) f ps:=a;obtain⟨e,k,m,i,rfl⟩:=yN.mp b;obtain⟨j,l⟩:=jP k;obtain⟨y,x,w,-,-,-⟩:=kD d l;cases hc with
  |cons h g o =>
   obtain⟨t,b2⟩:=zg (s e k) m i _ o;have h:e.1<=_:=h;have g:_<=e.2.1:=g;exact⟨.cons (by lia) (by lia) t,qM d l h g b2⟩
theorem Ar{pss:List (List Int)}{at_:List Nat}{m:List Int}(h:at_∈cy (gls pss))(p:InB m (dF pss at_)):kE pss at_ m:=by
 have d:=lD.iff.mp h;have o:at_.length=pss.length:=by rw[d.1];unfold gls;rw[bx]
 obtain⟨w,q⟩:=kF p;have t:(dF pss at_).length=pss.length:=by unfold dF;rw[jR];lia
 refine⟨o,by lia,λj b a c k g s=>?_⟩;have v:a<b.length-1:=d.2 j a _ g (by unfold gls;rw[gg,k];rfl);have f:=IV (l:=b) (i:=a) (by lia);have e:=IV (l:=b) (i:=a+1) (by lia);have r:(dF pss at_)[j]?=Mw (b[a],b[a+1]-1):=by
  unfold dF;rw[kM,k,g];show Mw (b.getD a 0,b.getD (a+1) 0-1)=_;rw[dO,dO,f,e];rfl
 have:=q j c _ s r;have n:b[a]<=c:=this.1;have u:c<=b[a+1]-1:=this.2;exact⟨_,_,f,e,n,by lia⟩
theorem vy{pss:List (List Int)}(c:∀ps∈pss,Pts ps){at_:List Nat}(h:at_∈cy (gls pss)):(dF pss at_).length=pss.length/\∀p∈dF pss at_,p.1<=p.2:=by
 have d:=lD.iff.mp h;have n:at_.length=pss.length:=by rw[d.1];unfold gls;rw[bx]
 refine⟨by unfold dF;rw[jR];lia,λp k=>?_⟩;obtain⟨j,a⟩:=jP k;unfold dF at a;have m:=(IW.mp a).1;rw[jR]at m;have b:=IV (l:=pss) (i:=j) (by lia);have g:=IV (l:=at_) (i:=j) (by lia);rw[kM,b,g]at a;have a:(pss[j].getD at_[j] 0,pss[j].getD (at_[j]+1) 0-1)=p:=Option.some.inj a;have o:at_[j]<pss[j].length-1:=d.2 j _ _ g (by unfold gls;rw[gg,b];rfl);have f:=IV (l:=pss[j]) (i:=at_[j]) (by lia);have e:=IV (l:=pss[j]) (i:=at_[j]+1) (by lia);have:=(c _ (IX b)).mono f e (by lia);rw[←a];show pss[j].getD at_[j] 0<=pss[j].getD (at_[j]+1) 0-1;rw[dO,dO,f,e];show pss[j][at_[j]]<=pss[j][at_[j]+1]-1;lia
theorem p7:∀L:List (List (Int×Int)×OP),fv (cJ L)=wsum gO L
 | []=>rfl
 |q :: L=>by
  have a:=p7 L;unfold cJ at a⊢;by_cases h:q.2=Mx
  .rw[oD (by simpa using h),a];show wsum gO L=vol q.1*gO q.2+wsum gO L;unfold gO;rw[ME h,Ji,I1]
  .rw[ow (by simpa using h)];show vol q.1+fv _=vol q.1*gO q.2+wsum gO L;rw[a];unfold gO;rw[MD h,Jh]
theorem zh{pss:List (List Int)}(d:∀ps∈pss,Pts ps){n:Nat}{F:Fm OP n}(g:cc n F (pss.map λps=>(loP ps,hiP ps))){b:List Int->OP}{lt:List Nat->OP}(f:∀a,InB a (pss.map λps=>(loP ps,hiP ps))->Tel n F a (b a))(i:∀at_ c,kE pss at_ c->b c=lt at_):fv (cJ (bxs n F))=Aq (λat_=>gO (lt at_)) pss:=by
 rw[p7,pY (φ:=λa=>gO (b a)) g λa x j e=>by rw[fL e (f a j)],p6 U d (φ:=λa=>gO (b a)) λat_ c h=>by rw[i at_ c h]]
theorem wU{pss:List (List Int)}(e:∀ps∈pss,Pts ps){n:Nat}{F:Fm OP n}(h:cc n F (pss.map λps=>(loP ps,hiP ps))){g:List Int->OP}{lt:List Nat->OP}(o:∀c,InB c (pss.map λps=>(loP ps,hiP ps))->Tel n F c (g c))(t:∀at_ a,kE pss at_ a->g a=lt at_){q:List (Int×Int)×OP}(i:q∈bxs n F){at_:List Nat}(l:at_∈cy (gls pss))(s:jx q.1 (dF pss at_)=Mz):lt at_=q.2:=by
 obtain⟨k,_,_⟩:=sf h q i;obtain⟨z,d⟩:=vy e l;have f:=k.len;rw[bx]at f;obtain⟨a,y,x⟩:=wR (by lia) (λp r=>by
  obtain⟨j,m⟩:=jP r;obtain⟨b,u⟩:∃b,(pss.map λps=>(loP ps,hiP ps))[j]?=Mw b:=⟨_,IV (by rw[bx];have:=(IW.mp m).1;lia)⟩;exact(k.get j p b m u).2.1) d s
 obtain⟨w,v⟩:=zg h q i a y;rw[←t at_ a (Ar l x)];exact fL (o a w) v
theorem vz{B:List (Int×Int)}(c:∀p∈B,0<=p.2-p.1/\p.2-p.1<=10^58):∀i,i<=B.length->1<=vol (B.take i)/\vol (B.take i)<=((2:Int)^193)^i
 |0,_=>⟨Int.le_refl _,Int.le_refl _⟩
 |i+1,hi=>by
  obtain⟨a,b⟩:=vz c i (by lia);obtain⟨p,d⟩:∃p,B[i]?=Mw p:=⟨_,IV (by lia)⟩;obtain⟨f,e⟩:=c p (IX d);have w3:p.2-p.1+1<=(2:Int)^193:=by
   have:(10:Int)^58+1<=2^193:=by decide
   lia
  rw[se d,Int.pow_succ];exact⟨by have:=Int.mul_le_mul a (show(1:Int)<=p.2-p.1+1 by lia) (by decide) (by lia);lia,Int.mul_le_mul b w3 (by lia) (Int.le_trans (by decide) (Int.le_trans a b))⟩
theorem As{B:List (Int×Int)}(o:B.length<=4)(h:∀p∈B,0<=p.2-p.1/\p.2-p.1<=10^58){i:Nat}{p:Int×Int}(j:B[i]?=Mw p):Kk (vol (B.take i)) (p.2-p.1+1):=by
 have hi:i<B.length:=(IW.mp j).1;obtain⟨a,b⟩:=vz h i (by lia);obtain⟨l,k⟩:=h p (IX j);have c:((2:Int)^193)^i<=2^579:=by
  have:i=0\/i=1\/i=2\/i=3:=by lia
  rcases this with rfl|rfl|rfl|rfl <;> decide
 have d:(10:Int)^58+1<2^193:=by decide
 refine yb (m:=580) (n:=194) ?_ ?_ (by decide) (by decide)
 .have e:((vol (B.take i)).natAbs:Int)=vol (B.take i):=Int.natAbs_of_nonneg (by lia);have f:((2^580:Nat):Int)=2^580:=by decide
  have g:(2:Int)^579<2^580:=by decide
  exact Int.ofNat_lt.mp (by rw[f];lia)
 .have e:((p.2-p.1+1).natAbs:Int)=p.2-p.1+1:=Int.natAbs_of_nonneg (by lia);have f:((2^194:Nat):Int)=2^194:=by decide
  have g:(2:Int)^193<2^194:=by decide
  exact Int.ofNat_lt.mp (by rw[f];lia)
def uF(A B:List (Int×Int))(k:Nat):Bool:=MB ((A.getD k (0,0)).2<(B.getD k (0,0)).1) || decide ((B.getD k (0,0)).2<(A.getD k (0,0)).1)
theorem Cu{A B:List (Int×Int)}(h:∀k,k<A.length->uF A B k=MA):jx A B=true:=jO.mpr λk a=>by
 have:=h k (jN.mp a);unfold uF at this;rw[this];rfl
theorem zi{A B:List (Int×Int)}{k:Nat}(a:k<A.length)(h:uF A B k=Mz):jx A B=false:=List.all_eq_false.mpr ⟨k,jN.mpr a,by
 unfold uF at h;rw[h];decide⟩
theorem Cv{A B:List (Int×Int)}{k:Nat}{a b:Int×Int}(d:A[k]?=Mw a)(c:B[k]?=Mw b):uF A B k=(MB (a.2<b.1) || decide (b.2<a.1)):=by
 unfold uF;rw[dO,dO,d,c];rfl
theorem BxA.ge_to{K:W.Frag}{H:Hp}{Q:VK}{a b:Js}{A B:List (Int×Int)}(I:BxA H a A)(G:BxA H b B)(h:Asc A B)(q:Q (.bl MA) H):BY K (.ref a) (.ref b) H Q:=by
 obtain⟨o,L,f⟩:=I;obtain⟨n,J,e⟩:=G;obtain⟨k,p,r,E,D,s,X,F⟩:=vo h;obtain⟨x,C⟩:∃x,o[k]?=Mw x:=⟨_,IV (by rw[f.length];exact(IW.mp E).1)⟩;obtain⟨y,z⟩:∃y,n[k]?=Mw y:=⟨_,IV (by rw[e.length];exact(IW.mp D).1)⟩;obtain⟨V,t,d,rfl,w⟩:=f.get C;obtain⟨R,u,c,rfl,v⟩:=e.get z;rw[E]at d;cases d;rw[D]at c;cases c;refine⟨a,b,o,n,k,t,u,p.1,r.1,[p.2],[r.2],U,U,SqT.of L,SqT.of J,λi x y hi N M=>?_,C,z,Cp w v (Int.ne_of_lt s),SqT.of w,SqT.of v,Int.ne_of_lt s,?_⟩
 .obtain⟨T,P,m,rfl,j⟩:=f.get N;obtain⟨S,O,l,rfl,g⟩:=e.get M;have:=F i hi;rw[m,l]at this;cases this;exact vp j g
 .rw[MI (by lia)];exact q
def qR(l:List (List (Int×Int)×OP)):List Int:=(l.filter λp=>decide (p.2≠Mx)).map λp=>vol p.1
theorem p8{l:List (List (Int×Int)×OP)}{i:Nat}{q:List (Int×Int)×OP}(e:l[i]?=Mw q):qR (l.take (i+1))=qR (l.take i)++if q.2=Mx then[] else[vol q.1]:=by
 unfold qR;rw[take_snoc e,md,gI];by_cases h:q.2=Mx
 .rw[ME h,oD (by simpa using h)];rfl
 .rw[MD h,ow (by simpa using h)];rfl
theorem zj(l:List (List (Int×Int)×OP)):(qR l).length<=l.length:=by unfold qR;rw[bx];exact lG _ _
theorem p9{n:Nat}{x:Int}(h:x∈cV n):0<=x/\x<n:=by
 obtain⟨j,a,rfl⟩:=eK.mp h;have:=jN.mp a;lia
def DuV(K:W.Frag)(H:Hp):OP->V->Prop
 |none,v=>v=.non
 |some p,v=>∃t,v=.ref t/\PdV K H t p
theorem DuV.ne{K:W.Frag}{H:Hp}{x:OP}{v:V}(h:DuV K H x v)(n:x≠Mx):v≠.non:=by
 cases x with
 |none=>exact MG U n
 |some p=>obtain⟨t,rfl,_⟩:=h;intro z;cases z
theorem DuV.rpd{K:W.Frag}{H:Hp}{x:OP}{v:V}(h:DuV K H x v)(n:x≠Mx):(LPd (K:=K)).R H x v:=by
 cases x with
 |none=>exact MG U n
 |some p=>exact h
theorem DuV.mono{K:W.Frag}{H H':Hp}{x:OP}{v:V}(s:bM H H')(h:DuV K H x v):DuV K H' x v:=by
 cases x with
 |none=>exact h
 |some p=>obtain⟨t,e,h⟩:=h;exact⟨t,e,h.mono s⟩
def DuL(K:W.Frag)(H:Hp)(a:List V)(b:List (List (Int×Int)×OP)):Prop:=a.length=b.length/\∀(j:Nat)(r:List (Int×Int)×OP)(v:V),b[j]?=Mw r->a[j]?=Mw v->DuV K H r.2 v
theorem DuL.mono{K:W.Frag}{H H':Hp}{a:List V}{b:List (List (Int×Int)×OP)}(s:bM H H')(h:DuL K H a b):DuL K H' a b:=⟨h.1,λj r v d c=>(h.2 j r v d c).mono s⟩
theorem DuL.nil{K:W.Frag}{H:Hp}:DuL K H [] []:=⟨U,λj r v e=>by simp at e⟩
theorem DuL.snoc{K:W.Frag}{H:Hp}{f:List V}{b:List (List (Int×Int)×OP)}{v:V}{r:List (Int×Int)×OP}(h:DuL K H f b)(d:DuV K H r.2 v):DuL K H (f++[v]) (b++[r]):=by
 refine⟨by rw[dt,dt,h.1];rfl,λj i g a c=>?_⟩;by_cases e:j<b.length
 .rw[je e]at a;rw[je (by rw[h.1];exact e)]at c;exact h.2 j i g a c
 .rw[lh (by lia)]at a;have k:=(IW.mp a).1;rw[gy]at k;rw[lh (by rw[h.1];lia),h.1,show j-b.length=0 by lia]at c;rw[show j-b.length=0 by lia]at a;cases a;cases c;exact d
theorem qc{b:Nat}:∀{r a:List Nat},a.reverse=r->(∀n∈a,n<=b)->(cy a).length<=b^a.length
 | [],a,h,_=>by
  have:a=[]:=List.reverse_eq_nil_iff.mp h;subst this;exact zz _
 |n :: r,a,h,hb=>by
  obtain⟨c,d⟩:∃c:List Nat,c.reverse=r:=⟨r.reverse,mu r⟩;have e:a=c++[n]:=by rw[←mu a,h,qg,←d,mu]
  subst e;rw[gN,nH,dt,gy,EX];exact EB (qc d λm f=>hb m (lg _ f)) (hb n (jy _ (iv.mpr U)))
theorem zk{b:List Nat}(h:∀n∈b,1<=n):cy b≠[]:=λz=>by
 have:List.replicate b.length 0∈cy b:=lD.iff.mpr ⟨oU,λj a m d c=>by
  have:=IX d;have:=(List.mem_replicate.mp this).2;have:=h m (IX c);lia⟩
 rw[z]at this;cases this
theorem wV(xs:List V)(x y:V):(xs++[x]).set xs.length y=xs++[y]:=by
 rw[List.set_append_right _ _ (zz _),E6];rfl
theorem sF{H:Hp}{P d:Js}{L:List (Pos×Str)}{xs ys:List V}(h:dD H P L)(e:H d=Mw (.lst xs)):dD (upd H d (.lst ys)) P L:=by
 obtain⟨f,b,n,m⟩:=h;refine⟨f,(az (dG b e (by intro z;cases z))).trans b,n,λp l=>?_⟩;rcases m p l with k|⟨c,g,j,a,i⟩
 .exact .inl k
 .exact .inr ⟨c,g,j,(az (dG a e (by intro z;cases z))).trans a,i⟩
theorem vC{pss:List (List Int)}{lt:List Nat->OP}:∀l:List (List Nat),(qR (l.map λat_=>(dF pss at_,lt at_))).sum=(l.map λat_=>vol (dF pss at_)*gO (lt at_)).sum
 | []=>rfl
 |a :: l=>by
  have b:=vC (pss:=pss) (lt:=lt) l;unfold qR at b⊢;rw[jS,jS,oT];by_cases h:lt a=Mx
  .rw[oD (by simpa using h),b];unfold gO;rw[ME h,Ji,I1]
  .rw[ow (by simpa using h),jS,oT,b];unfold gO;rw[MD h,Jh]
theorem zl{K:W.Frag}{H:Hp}{n:Nat}{a b:Js}{x:SI}(h:Vd K H a x)(h':Vd K H b x):DEq K H (n+1) (.ref a) (.ref b) true:=by
 by_cases e:a=b
 .subst e;exact .same a
 .have:=DEq.tup (n:=n) (f:=λ_=>Mz) e h.sq h'.sq λj u v c d=>by
   rw[c]at d;cases d
   match j,c with
   |0,c =>
    cases c;have:=DEq.flat (K:=K) (H:=H) (n:=n) (x:=.str x.1) (y:=.str x.1) U U;rw[yv,MH U]at this;exact this
   |1,c =>
    cases c;have:=DEq.flat (K:=K) (H:=H) (n:=n) (x:=.int x.2) (y:=.int x.2) U U;rw[qE,MH U]at this;exact this
   |j+2,c=>simp[tp2]at c
  rw[jO.mpr (λ_ _=>U),Bool.true_and,beq_self_eq_true]at this;exact this
theorem Cw{K:W.Frag}{H:Hp}{n:Nat}{a b:Js}{p:SI×SI}(h:PdV K H a p)(h':PdV K H b p):DEq K H (n+2) (.ref a) (.ref b) true:=by
 obtain⟨x,y,e,k,i⟩:=h;obtain⟨o,m,l,g,f⟩:=h';refine qO e l U λj u v c d=>?_
 match j,c,d with
 |0,c,d=>cases c;cases d;exact zl k g
 |1,c,d=>cases c;cases d;exact zl i f
 |j+2,c,_=>simp at c
theorem Au{K:W.Frag}{H:Hp}{xs ys:List V}{L:List (List (Int×Int)×OP)}(A:∀q∈L,q.2≠Mx)(r:BxG (K:=K) LPd H xs L)(o:BxG (K:=K) LPd H ys L){j:Nat}{x y:V}(a:xs[j]?=Mw x)(d:ys[j]?=Mw y):DEq K H 60 x y true:=by
 obtain⟨q,k,t,b,l,rfl,v,B,f⟩:=cE r a;obtain⟨F,e,E,G,m,rfl,h,i,c⟩:=cE o d;rw[k]at e;cases e;have w:=A q (IX k);obtain⟨p,C⟩:∃p,q.2=Mw p:=by
  cases z:q.2 with
  |none=>exact MG z w
  |some p=>exact⟨p,U⟩
 have f:RPd K H q.2 l:=f;have c:RPd K H q.2 m:=c;rw[C]at f c;obtain⟨u,rfl,s⟩:=f;obtain⟨D,rfl,g⟩:=c;refine qO (n:=59) v h U λj x y a d=>?_
 match j,a,d with
 |0,a,d=>cases a;cases d;exact Co (n:=57) B i
 |1,a,d=>cases a;cases d;exact Cw (n:=57) s g
 |j+2,a,_=>simp at a
inductive gQ(K:W.Frag)(Y:AD)(vs:List V)(H:Hp)(Q:VK)(e_:XK):Prop
 |mk (z g:Str)(_:vs=[.str z,.str g])(_:Q (.bl (mS z g)) H)
inductive fM(K:W.Frag)(Y:AD)(vs:List V)(H:Hp)(Q:VK)(e_:XK):Prop
 |mk (i:Int)(_:vs=[.int i])(_:Q (.bl Mz) H)
inductive nW(K:W.Frag)(Y:AD)(vs:List V)(H:Hp)(Q:VK)(e_:XK):Prop
 |mk (a b:Js)(d e:Dm)(r:Bool)(_:vs=[.ref a,.ref b])(_:DmX Y.i Y.j H a d)(_:DmX Y.i Y.j H b e)(_:(r=Mz↔d=e))(_:Q (.bl r) H)
inductive nX(K:W.Frag)(Y:AD)(vs:List V)(H:Hp)(Q:VK)(e_:XK):Prop
 |mk (a:Js)(xs:List V)(ps:List (Int×Int))(n:Int)(_:vs=[.ref a,.int n])(_:SqL K H a xs)(_:PL H xs ps)(_:Q (.bl (inP ps n)) H)
inductive nY(K:W.Frag)(Y:AD)(vs:List V)(H:Hp)(Q:VK)(e_:XK):Prop
 |mk (a:Js)(xs:List V)(R:List (Int×Int))(lo hi:Int)(_:vs=[.ref a,.int lo,.int hi])(_:SqL K H a xs)(_:PL H xs R)(_:xs.length<=400)(_:∀(r:Js)(H':Hp)(es:List Int),au H H'->H r=Mx->H' r=Mw (.lst (es.map V.int))->es=(ends R).filter (λt=>decide (lo<t) && decide (t<=hi))->Q (.ref r) H')
inductive gR(K:W.Frag)(Y:AD)(vs:List V)(H:Hp)(Q:VK)(e_:XK):Prop
 |mk (a:Js)(ms L:List Int)(lo hi:Int)(_:vs=[.int lo,.int hi,.ref a])(_:SqL K H a (ms.map V.int))(_:ms.length<=400)(_:L.length<64)(_:(∀m∈ms,lo<m->m<=hi->m∈L))(_:∀(r:Js)(H':Hp)(cs:List Int)(ts:List V),au H H'->H r=Mx->H' r=Mw (.lst ts)->PL H' ts (ck lo hi cs)->cs.Pairwise (· < ·)->(∀c,c∈cs↔(c∈ms/\lo<c/\c<=hi))->cs.length<64->Q (.ref r) H')
inductive gn(K:W.Frag)(Y:AD)(vs:List V)(H:Hp)(Q:VK)(e_:XK):Prop
 |mk (L:Type)(_:DecidableEq L)(A:Lfp K L)(n:Nat)(a:Js)(xs:List V)(ts:List (T3a (Fm L n)))(_:vs=[.ref a])(_:n<=6)(_:H a=Mw (.lst xs))(_:FmL (FmV A H n) H ts xs)(_:ts.length<=900)(_:∀(r:Js)(H':Hp),au H H'->FmV A H' (n+1) (eN ts) (.ref r)->Q (.ref r) H')
inductive iD(K:W.Frag)(Y:AD)(vs:List V)(H:Hp)(Q:VK)(e_:XK):Prop
 |mk (a:Js)(as:List Js)(xss:List (List Int))(L:List Int)(_:vs=[.ref a])(_:H a=Mw (.lst (as.map V.ref)))(_:MLs H as xss)(_:xss.flatten.length<=1000)(_:L.length<64)(_:(∀x∈xss.flatten,x∈L))(_:∀(l:Js)(cs:List Int)(H':Hp),au H H'->H l=Mx->H' l=Mw (.lst (cs.map V.int))->cs.Pairwise (· < ·)->(∀x,x∈cs↔x∈xss.flatten)->Q (.ref l) H')
inductive dU(K:W.Frag)(Y:AD)(vs:List V)(H:Hp)(Q:VK)(e_:XK):Prop
 |mk (p r:Js)(xs ys:List V)(_:vs=[.ref p,.ref r])(_:SqL K H p xs)(_:SqL K H r ys)(_:1<=xs.length)(_:xs.length<=4)(_:ys.length<=200)(_:Q .non H)
inductive jH(K:W.Frag)(Y:AD)(vs:List V)(H:Hp)(Q:VK)(e_:XK):Prop
 |mk (cl:Js)(xs:List V)(w:Rw)(_:vs=[.ref cl,.int w.2])(_:H cl=Mw (.lst xs))(_:CL NT H xs w.1)(_:w.1.length<=100)(_:∀(r:Js)(H':Hp),au H H'->H r=Mx->jF (λa=>H a=Mx) H' r w->Q (.ref r) H')
inductive eP(K:W.Frag)(Y:AD)(vs:List V)(H:Hp)(Q:VK)(e_:XK):Prop
 |mk (t:Js)(dv:List V)(bs:Prs)(rws:List Rw)(_:vs=[.ref t])(_:TD Y.k Y.i Y.j H t dv bs rws)(_:bs.length<=100)(_:∀(l:Js)(ys:List V)(H':Hp),au H H'->H l=Mx->H' l=Mw (.lst ys)->PL H' ys bs->Q (.ref l) H')
inductive dJ(K:W.Frag)(Y:AD)(vs:List V)(H:Hp)(Q:VK)(e_:XK):Prop
 |mk (a b:Js)(x y:SI)(_:vs=[.ref a,.ref b])(_:Vd K H a x)(_:Vd K H b y)(_:∀(v:V)(H':Hp),au H H'->RPd K H' (dpr x y) v->Q v H')
inductive eB(K:W.Frag)(Y:AD)(vs:List V)(H:Hp)(Q:VK)(e_:XK):Prop
 |mk (a:Js)(ns:List Int)(k:Int)(_:vs=[.ref a,.int k])(_:SqL K H a (ns.map V.int))(_:0<=k)(_:Q (.int (cI ns k)) H)
inductive fk(K:W.Frag)(Y:AD)(vs:List V)(H:Hp)(Q:VK)(e_:XK):Prop
 |mk (a:Js)(ns:List Int)(_:vs=[.ref a,.int 8,.int 24])(_:SqL K H a (ns.map V.int))(_:ns.length<=63)(_:∀(l:Js)(ms:List Int)(H':Hp),au H H'->H' l=Mw (.lst (ms.map V.int))->ms.length<=24->Q (.ref l) H')
inductive fU(K:W.Frag)(Y:AD)(vs:List V)(H:Hp)(Q:VK)(e_:XK):Prop
 |mk (c n:Int)(_:vs=[.int c,.int n])(_:1<=n)(_:n<=12)(_:∀(l:Js)(ps:List Int)(H':Hp),au H H'->H l=Mx->H' l=Mw (.lst (ps.map V.int))->Pts ps->(c%3=1->∃m:Nat,1<=m/\m<=12/\ps=cV (m+1))->(ps.length:Int)<=n+1->(∀x∈ps,∀y∈ps,y-x<=12*10^56)->Q (.ref l) H')
inductive eF(K:W.Frag)(Y:AD)(vs:List V)(H:Hp)(Q:VK)(e_:XK):Prop
 |mk (c k:Int)(_:vs=[.int c,.int k])(_:0<=k)(_:k<12)(_:Q (.str (w3 c k)) H)
inductive iE(K:W.Frag)(Y:AD)(vs:List V)(H:Hp)(Q:VK)(e_:XK):Prop
 |mk (c:Int)(_:vs=[.int c])(_:∀(l:Js)(os:List Int)(H':Hp),au H H'->H' l=Mw (.lst (os.map V.int))->gL c os->Q (.ref l) H')
inductive jI(K:W.Frag)(Y:AD)(vs:List V)(H:Hp)(Q:VK)(e_:XK):Prop
 |mk (c:Int)(b:Bool)(_:vs=[.int c,.bl b])(_:∀(wy:Str)(i:Nat)(H':Hp),au H H'->six[i]?=Mw wy->(b=Mz->wy≠s!"sum")->Q (.str wy) H')
inductive gW(K:W.Frag)(Y:AD)(vs:List V)(H:Hp)(Q:VK)(e_:XK):Prop
 |mk (c:Int)(pl ol:Js)(xs:List V)(pss:List (List Int))(os:List Int)(oc:Int)(_:vs=[.int c,.ref pl,.ref ol])(_:H pl=Mw (.lst xs))(_:PTL H xs pss)(_:pss.length<=4)(_:(∀ps∈pss,Pts ps))(_:H ol=Mw (.lst (os.map V.int)))(_:gL oc os)(_:∀(r bl:Js)(ms:List Int)(cd:Int)(H':Hp),au H H'->H r=Mx->H bl=Mx->H' r=Mw (.tup [.ref bl,.int cd])->H' bl=Mw (.lst (ms.map V.int))->ms.length=pss.length->(∀x∈ms,0<=x)->cd∈os->Q (.ref r) H')
inductive gX(K:W.Frag)(Y:AD)(vs:List V)(H:Hp)(Q:VK)(e_:XK):Prop
 |mk (l:Js)(ps:List Int)(m:Int)(_:vs=[.ref l,.int m])(_:H l=Mw (.lst (ps.map V.int)))(_:Pts ps)(_:0<=m)(_:∀(sp:Js)(qs:Prs)(H':Hp),au H H'->SpA (λa=>H a=Mx) H' sp qs->(∀p∈qs,loP ps<=p.1/\p.2<=hiP ps)->SpG ps m (ps.length-1) qs->Q (.ref sp) H')
inductive d7(K:W.Frag)(Y:AD)(vs:List V)(H:Hp)(Q:VK)(e_:XK):Prop
 |mk (cl:Js)(xs:List V)(cs:List (List Int))(_:vs=[.ref cl])(_:H cl=Mw (.lst xs))(_:PTL H xs cs)(_:(∀c∈cs,Pts c))(_:cs.length<=4)(_:∀(l:Js)(zs:List V)(H':Hp),au H H'->H' l=Mw (.lst zs)->PtL NT H' zs (cy (gls cs))->Q (.ref l) H')
inductive jJ(K:W.Frag)(Y:AD)(vs:List V)(H:Hp)(Q:VK)(e_:XK):Prop
 |mk (pl at_:Js)(xs:List V)(pss:List (List Int))(ps:List Nat)(_:vs=[.ref pl,.ref at_])(_:H pl=Mw (.lst xs))(_:PTL H xs pss)(_:pss.length<=4)(_:ps∈cy (gls pss))(_:H at_=Mw (.lst (vN ps)))(_:∀(b:Js)(H':Hp),au H H'->BxA H' b (dF pss ps)->Q (.ref b) H')
inductive fm(K:W.Frag)(Y:AD)(vs:List V)(H:Hp)(Q:VK)(e_:XK):Prop
 |mk (rl al:Js)(rx:List V)(bms:List (List Int×Int))(at_:List Nat)(_:vs=[.ref rl,.ref al])(_:H rl=Mw (.lst rx))(_:BRL H rx bms)(_:rx.length<=60)(_:H al=Mw (.lst (vN at_)))(_:at_.length<=4)(_:(∀b∈bms,b.1.length=at_.length/\∀x∈b.1,0<=x))(_:∀(l:Js)(H':Hp),au H H'->H l=Mx->H' l=Mw (.lst (vN (oR bms at_)))->Q (.ref l) H')
inductive jK(K:W.Frag)(Y:AD)(vs:List V)(H:Hp)(Q:VK)(e_:XK):Prop
 |mk (cl ol:Js)(wy:Str)(i:Nat)(cs os:List Int)(oc:Int)(_:vs=[.ref cl,.str wy,.ref ol])(_:H cl=Mw (.lst (cs.map V.int)))(_:cs.length<=60)(_:six[i]?=Mw wy)(_:H ol=Mw (.lst (os.map V.int)))(_:gL oc os)(_:∀(r:Js)(H':Hp),au H H'->H' r=Mw (.tup (tp (ver (wf i (o0 os) (o4 os)) cs)))->Q (.ref r) H')
inductive eX(K:W.Frag)(Y:AD)(vs:List V)(H:Hp)(Q:VK)(e_:XK):Prop
 |mk (i:Int)(_:vs=[.int i])(_:Q (.bl Mz) H)
inductive iF(K:W.Frag)(Y:AD)(vs:List V)(H:Hp)(Q:VK)(e_:XK):Prop
 |mk (a b:Js)(A B:List (Int×Int))(_:vs=[.ref a,.ref b])(_:BxA H a A)(_:BxA H b B)(_:A.length=B.length)(_:A.length<=6)(_:Q (.bl (jx A B)) H)
inductive iG(K:W.Frag)(Y:AD)(vs:List V)(H:Hp)(Q:VK)(e_:XK):Prop
 |mk (b:Js)(B:List (Int×Int))(_:vs=[.ref b])(_:BxA H b B)(_:B.length<=4)(_:(∀p∈B,0<=p.2-p.1/\p.2-p.1<=10^58))(_:Q (.int (vol B)) H)
inductive cK(K:W.Frag)(Y:AD)(vs:List V)(H:Hp)(Q:VK)(e_:XK):Prop
 |mk (x dx:Js)(z:Str)(_:vs=[.ref x,.str z])(_:H x=Mw (.ins Y.b dx []))(_:Q .non (upd H x (.ins Y.b dx [("called",.str z)])))
inductive cX(K:W.Frag)(Y:AD)(vs:List V)(H:Hp)(Q:VK)(e_:XK):Prop
 |mk (x dx:Js)(z:Str)(_:vs=[.ref x,.str z])(_:H x=Mw (.ins Y.c dx []))(_:Q .non (upd H x (.ins Y.c dx [("called",.str z)])))
inductive cY(K:W.Frag)(Y:AD)(vs:List V)(H:Hp)(Q:VK)(e_:XK):Prop
 |mk (x dx:Js)(z:Str)(_:vs=[.ref x,.str z])(_:H x=Mw (.ins Y.d dx []))(_:Q .non (upd H x (.ins Y.d dx [("called",.str z)])))
inductive di(K:W.Frag)(Y:AD)(vs:List V)(H:Hp)(Q:VK)(e_:XK):Prop
 |mk (x dx:Js)(z:Str)(_:vs=[.ref x,.str z])(_:H x=Mw (.ins Y.e dx []))(_:Q .non (upd H x (.ins Y.e dx [("called",.str z)])))
inductive cZ(K:W.Frag)(Y:AD)(vs:List V)(H:Hp)(Q:VK)(e_:XK):Prop
 |mk (x dx:Js)(z:Str)(_:vs=[.ref x,.str z])(_:H x=Mw (.ins Y.f dx []))(_:Q .non (upd H x (.ins Y.f dx [("called",.str z)])))
inductive dj(K:W.Frag)(Y:AD)(vs:List V)(H:Hp)(Q:VK)(e_:XK):Prop
 |mk (x dx:Js)(z:Str)(_:vs=[.ref x,.str z])(_:H x=Mw (.ins Y.g dx []))(_:Q .non (upd H x (.ins Y.g dx [("called",.str z)])))
inductive bV(K:W.Frag)(Y:AD)(vs:List V)(H:Hp)(Q:VK)(e_:XK):Prop
 |mk (x dx:Js)(lo hi:Int)(_:vs=[.ref x,.int lo,.int hi])(_:H x=Mw (.ins Y.i dx []))(_:Q .non (mkd Y.i H x dx lo hi))
inductive cq(K:W.Frag)(Y:AD)(vs:List V)(H:Hp)(Q:VK)(e_:XK):Prop
 |mk (x dx:Js)(lo hi:Int)(_:vs=[.ref x,.int lo,.int hi])(_:H x=Mw (.ins Y.j dx []))(_:Q .non (mkd Y.j H x dx lo hi))
def J1(K:W.Frag)(Y:AD):Sp:=wz K Y.b Y.i Y.j 0
def J9(K:W.Frag)(Y:AD):Sp:=wz K Y.c Y.i Y.j 1
def J5(K:W.Frag)(Y:AD):Sp:=wz K Y.d Y.i Y.j 2
def J7(K:W.Frag)(Y:AD):Sp:=wz K Y.e Y.i Y.j 3
def J3(K:W.Frag)(Y:AD):Sp:=wz K Y.f Y.i Y.j 4
def J11(K:W.Frag)(Y:AD):Sp:=wz K Y.g Y.i Y.j 5
inductive gY(K:W.Frag)(Y:AD)(vs:List V)(H:Hp)(Q:VK)(e_:XK):Prop
 |mk (z:Str)(_:vs=[.str z])(_:z.length<=1000)(_:Q (.bl (isw z)) H)
inductive dM(K:W.Frag)(Y:AD)(vs:List V)(H:Hp)(Q:VK)(e_:XK):Prop
 |mk (a b:Js)(ys:List V)(ps:List (Int×Int))(as:List Js)(mss:List (List Int))(_:vs=[.ref a,.ref b])(_:H a=Mw (.lst ys))(_:PL H ys ps)(_:H b=Mw (.lst (as.map V.ref)))(_:MLs H as mss)(_:MOK ps mss)(_:∀(l:Js)(xs:List V)(H':Hp)(css:List (List Int)),au H H'->H' l=Mw (.lst xs)->css.length=ps.length->(∀(j:Nat)(p:Int×Int)(ms cs:List Int),ps[j]?=Mw p->mss[j]?=Mw ms->css[j]?=Mw cs->cs.Pairwise (· < ·)/\(∀c,c∈cs↔(c∈ms/\p.1<c/\c<=p.2))/\cs.length<64)->CoL H' xs (List.zipWith (λp cs=>ck p.1 p.2 cs) ps css)->Q (.ref l) H')
inductive qS(K:W.Frag)(Y:AD)(vs:List V)(H:Hp)(Q:VK)(e_:XK):Prop
 |mk (t rl c dx:Js)(fs:List (Str×V))(xs:List V)(rws:List Rw)(k:Nat)(w:Rw)(cs:List Int)(_:vs=[.ref t,.int k,.ref c])(_:H t=Mw (.ins Y.k dx fs))(_:fs.lookup s!"rows"=Mw (.ref rl)) (_:H rl=Mw (.lst xs))(_:RL NT H xs rws)(_:rws[k]?=Mw w)(_:SqL K H c (cs.map V.int))(_:w.1.length=cs.length)(_:∀H',au H H'->Q (.bl (oO w.1 cs)) H')
inductive eQ(K:W.Frag)(Y:AD)(vs:List V)(H:Hp)(Q:VK)(e_:XK):Prop
 |mk (t:Js)(c:Nat)(dv:List V)(bs:Prs)(rws:List Rw)(b:Int×Int)(L:List Int)(_:vs=[.ref t,.int (c:Int)])(_:TD Y.k Y.i Y.j H t dv bs rws)(_:bs[c]?=Mw b)(_:rws.length<=60)(_:(∀w∈rws,c<w.1.length/\(w.1.getD c []).length<=6))(_:L.length<64)(_:(∀x,MkC rws c b x->x∈L))(_:∀(l:Js)(cs:List Int)(H':Hp),au H H'->H l=Mx->H' l=Mw (.lst (cs.map V.int))->cs.Pairwise (· < ·)->(∀x,x∈cs↔MkC rws c b x)->Q (.ref l) H')
inductive cw(K:W.Frag)(Y:AD)(vs:List V)(H:Hp)(Q:VK)(e_:XK):Prop
 |mk (la lb:Js)(xs ys:List V)(ds:List Dm)(_:vs=[.ref la,.ref lb])(_:H la=Mw (.lst xs))(_:H lb=Mw (.lst ys))(_:aF xs ds (DmX Y.i Y.j H))(_:aF ys ds (DmX Y.i Y.j H))(_:∀H',au H H'->Q .non H')
inductive dA(K:W.Frag)(Y:AD)(vs:List V)(H:Hp)(Q:VK)(e_:XK):Prop
 |mk (a m:Js)(ns qs:List Int)(_:vs=[.ref a,.ref m])(_:SqL K H a (ns.map V.int))(_:SqL K H m (qs.map V.int))(_:(∀x∈qs,1<=x/\x<=12))(_:qs.length<=4)(_:∀(l:Js)(xs:List V)(pss:List (List Int))(H':Hp),au H H'->H' l=Mw (.lst xs)->PTL H' xs pss->qI ns pss->pss.length=qs.length->(∀(j:Nat)(ps:List Int)(x:Int),pss[j]?=Mw ps->qs[j]?=Mw x->(ps.length:Int)<=x+1)->(∀ps∈pss,∀x∈ps,∀y∈ps,y-x<=12*10^56)->Q (.ref l) H')
inductive gZ(K:W.Frag)(Y:AD)(vs:List V)(H:Hp)(Q:VK)(e_:XK):Prop
 |mk (rl pl ol:Js)(c:Int)(rx:List V)(bms:List (List Int×Int))(xs:List V)(pss:List (List Int))(os:List Int)(oc:Int)(_:vs=[.ref rl,.int c,.ref pl,.ref ol])(_:H rl=Mw (.lst rx))(_:BRL H rx bms)(_:rx.length<=30)(_:wL pss os bms)(_:H pl=Mw (.lst xs))(_:PTL H xs pss)(_:(∀ps∈pss,Pts ps))(_:1<=pss.length)(_:pss.length<=4)(_:H ol=Mw (.lst (os.map V.int)))(_:gL oc os)(_:∀(l:Js)(rx':List V)(DN:List (List Int×Int))(H':Hp),au H H'->H' l=Mw (.lst rx')->BRL H' rx' DN->rx'.length<=31->wL pss os DN->Q (.ref l) H')
inductive fV(K:W.Frag)(Y:AD)(vs:List V)(H:Hp)(Q:VK)(e_:XK):Prop
 |mk (b pl:Js)(B:List (Int×Int))(xs:List V)(pss:List (List Int))(_:vs=[.ref b,.ref pl])(_:BxA H b B)(_:H pl=Mw (.lst xs))(_:PTL H xs pss)(_:(∀ps∈pss,Pts ps))(_:Cm B (pss.map λps=>(loP ps,hiP ps)))(_:pss.length<=4)(_:Q (.bl Mz) H)
inductive iH(K:W.Frag)(Y:AD)(vs:List V)(H:Hp)(Q:VK)(e_:XK):Prop
 |mk (pl tw wl ol:Js)(d0 d1:RwD)(xs:List V)(pss:List (List Int))(os:List Int)(oc:Int)(IL:List (List (Int×Int)×OP))(_:vs=[.ref pl,.ref tw,.ref wl,.ref ol])(_:H pl=Mw (.lst xs))(_:PTL H xs pss)(_:(∀ps∈pss,Pts ps))(_:1<=pss.length)(_:pss.length<=4)(_:H tw=Mw (.lst [.ref d0.rl,.ref d1.rl]))(_:H wl=Mw (.lst [.str d0.wy,.str d1.wy]))(_:nK H pss d0)(_:nK H pss d1)(_:H ol=Mw (.lst (os.map V.int)))(_:gL oc os)(_:IL=((cy (gls pss)).map λp=>(dF pss p,dpr (vdd os d0 p) (vdd os d1 p))))(_:IL.length<=300)(_:∀(l:Js)(dx:List V)(H':Hp),au H H'->H' l=Mw (.lst dx)->DuL K H' dx IL->Q (.ref l) H')
inductive dN(K:W.Frag)(Y:AD)(vs:List V)(H:Hp)(Q:VK)(e_:XK):Prop
 |mk (r:Js)(x:SI)(_:vs=[.ref r])(_:Vd K H r x)(_:Q (.bl Mz) H)
def J0(K:W.Frag)(Y:AD):Sp:=wq Y.b s!"first"
def J8(K:W.Frag)(Y:AD):Sp:=wq Y.c s!"only"
def J4(K:W.Frag)(Y:AD):Sp:=wq Y.d s!"like"
def J6(K:W.Frag)(Y:AD):Sp:=wq Y.e s!"low"
def J2(K:W.Frag)(Y:AD):Sp:=wq Y.f s!"high"
def J10(K:W.Frag)(Y:AD):Sp:=wq Y.g s!"sum"
inductive bW(K:W.Frag)(Y:AD)(vs:List V)(H:Hp)(Q:VK)(e_:XK):Prop
 |mk (a:Js)(b:Int×Int)(i:Int)(_:vs=[.ref a,.int i])(_:Cd Y.i H a b.1 b.2)(_:b.1<=i)(_:i<=b.2)(_:Q (.bl Mz) H)
inductive cx(K:W.Frag)(Y:AD)(vs:List V)(H:Hp)(Q:VK)(e_:XK):Prop
 |mk (a:Js)(b:Int×Int)(i:Int)(_:vs=[.ref a,.int i])(_:Cd Y.j H a b.1 b.2)(_:b.1<=i)(_:i<=b.2)(_:Q (.bl Mz) H)
inductive bz(K:W.Frag)(Y:AD)(vs:List V)(H:Hp)(Q:VK)(e_:XK):Prop
 |mk (x dx:Js)(lo hi:Int)(_:vs=[.ref x,.int lo,.int hi])(_:H x=Mw (.ins Y.i dx []))(_:lo<=hi)(_:Q .non (mkd Y.i H x dx lo hi))
def J12(K:W.Frag)(Y:AD):Sp:=kB K Y.b Y.i Y.j 0
def J16(K:W.Frag)(Y:AD):Sp:=kB K Y.c Y.i Y.j 1
def J14(K:W.Frag)(Y:AD):Sp:=kB K Y.d Y.i Y.j 2
def J15(K:W.Frag)(Y:AD):Sp:=kB K Y.e Y.i Y.j 3
def J13(K:W.Frag)(Y:AD):Sp:=kB K Y.f Y.i Y.j 4
def J17(K:W.Frag)(Y:AD):Sp:=kB K Y.g Y.i Y.j 5
inductive nZ(K:W.Frag)(Y:AD)(vs:List V)(H:Hp)(Q:VK)(e_:XK):Prop
 |mk (a b:Js)(ys:List V)(ps:List (Int×Int))(as:List Js)(mss:List (List Int))(_:vs=[.ref a,.ref b])(_:H a=Mw (.lst ys))(_:PL H ys ps)(_:H b=Mw (.lst (as.map V.ref)))(_:MLs H as mss)(_:MOK ps mss)(_:∀H':Hp,au H H'->Q (.int ((gr ps mss ps.length:Nat):Int)) H')
inductive eR(K:W.Frag)(Y:AD)(vs:List V)(H:Hp)(Q:VK)(e_:XK):Prop
 |mk (p:Js)(zs:List Str)(_:vs=[.ref p])(_:SqL K H p (zs.map V.str))(_:(∀z∈zs,isw z=Mz))(_:zs.Nodup)(_:zs.length<=100)(_:∀H',au H H'->Q .non H')
inductive fW(K:W.Frag)(Y:AD)(vs:List V)(H:Hp)(Q:VK)(e_:XK):Prop
 |mk (dl ou cl:Js)(dv xs:List V)(bs:Prs)(o:Int×Int)(w:Rw)(_:vs=[.ref dl,.ref ou,.ref cl,.int w.2])(_:SqL K H dl dv)(_:aF dv bs (Dom Y.i Y.j H))(_:Dom Y.i Y.j H ou o)(_:H cl=Mw (.lst xs))(_:CL NT H xs w.1)(_:lX bs o w)(_:∀H',au H H'->Q .non H')
inductive kG(K:W.Frag)(Y:AD)(vs:List V)(H:Hp)(Q:VK)(e_:XK):Prop
 |mk (t c:Js)(rws:List Rw)(i:Nat)(o:Int×Int)(cs:List Int)(_:vs=[.ref t,.ref c])(_:Tbl Y.k Y.i Y.j H t rws i o)(_:SqL K H c (cs.map V.int))(_:(∀w∈rws,w.1.length=cs.length))(_:∀H',au H H'->Q (.int ((msk (jd rws cs) rws.length:Nat):Int)) H')
inductive fq(K:W.Frag)(Y:AD)(vs:List V)(H:Hp)(Q:VK)(e_:XK):Prop
 |mk (t:Js)(dv:List V)(bs:Prs)(rws:List Rw)(L:Nat->List Int)(_:vs=[.ref t])(_:TD Y.k Y.i Y.j H t dv bs rws)(_:bs.length<=100)(_:rws.length<=60)(_:(∀w∈rws,w.1.length=bs.length/\∀c,(w.1.getD c []).length<=6))(_:(∀(c:Nat)(b:Int×Int),bs[c]?=Mw b->(L c).length<64/\∀x,MkC rws c b x->x∈L c))(_:∀(l:Js)(as:List Js)(mss:List (List Int))(H':Hp),au H H'->H l=Mx->H' l=Mw (.lst (as.map V.ref))->MLs H' as mss->mss.length=bs.length->(∀(c:Nat)(b:Int×Int)(ms:List Int),bs[c]?=Mw b->mss[c]?=Mw ms->ms.Pairwise (· < ·)/\∀x,x∈ms↔MkC rws c b x)->Q (.ref l) H')
inductive dW(K:W.Frag)(Y:AD)(vs:List V)(H:Hp)(Q:VK)(e_:XK):Prop
 |mk (t u:Js)(dv ev:List V)(ou pu:Js)(ds:List Dm)(d:Dm)(_:vs=[.ref t,.ref u])(_:TDo Y.k H t dv ou)(_:TDo Y.k H u ev pu)(_:aF dv ds (DmX Y.i Y.j H))(_:aF ev ds (DmX Y.i Y.j H))(_:DmX Y.i Y.j H ou d)(_:DmX Y.i Y.j H pu d)(_:ds.length<=10)(_:∀H',au H H'->Q .non H')
inductive iI(K:W.Frag)(Y:AD)(vs:List V)(H:Hp)(Q:VK)(e_:XK):Prop
 |mk (tl il dl pl:Js)(tx:List V)(TL:List (List (Int×Int)×OP))(ix:List V)(IL:List (List (Int×Int)×OP))(dx:List V)(xs:List V)(pss:List (List Int))(_:vs=[.ref tl,.ref il,.ref dl,.ref pl])(_:H tl=Mw (.lst tx))(_:BxG (K:=K) LPd H tx TL)(_:H il=Mw (.lst ix))(_:aF ix (IL.map (·.1)) (BxA H))(_:H dl=Mw (.lst dx))(_:DuL K H dx IL)(_:H pl=Mw (.lst xs))(_:PTL H xs pss)(_:(∀ps∈pss,Pts ps))(_:pss.length<=4)(_:TL.Pairwise (λa b=>Asc a.1 b.1))(_:(∀q∈TL,Cm q.1 (pss.map λps=>(loP ps,hiP ps))/\q.2≠Mx))(_:(∀q,q∈TL\/q∈IL->q.1.length=pss.length/\∀p∈q.1,0<=p.2-p.1/\p.2-p.1<=10^58))(_:(∀q∈TL,∀r∈IL,jx q.1 r.1=Mz->r.2=q.2))(_:fv TL=(qR IL).sum)(_:TL.length<=300)(_:IL.length<=300)(_:∀H',au H H'->Q (.bl Mz) H')
inductive bH(K:W.Frag)(Y:AD)(vs:List V)(H:Hp)(Q:VK)(e_:XK):Prop
 |mk (x dx p:Js)(zs:List Str)(_:vs=[.ref x,.ref p])(_:H x=Mw (.ins Y.j dx []))(_:H p=Mw (.lst (zs.map V.str)))(_:Good zs)(_:∀(H':Hp)(l:Js),(∀b o,b≠x->H b=Mw o->H' b=Mw o)->H' x=Mw (.ins Y.j dx [("low",.int 0),("high",.int (hiW zs)),("words",.ref l)])->H' l=Mw (.lst (zs.map V.str))->H l=Mx->Q .non H')
inductive jc(K:W.Frag)(Y:AD)(vs:List V)(H:Hp)(Q:VK)(e_:XK):Prop
 |mk (z:Str)(_:vs=[.str z])(_:z∈six)(_:(∀i:Nat,six[i]?=Mw z->∀(x C:Js)(H':Hp),au H H'->(cl6 Y.b Y.c Y.d Y.e Y.f Y.g)[i]?=Mw C->WyN C H' x z->Q (.ref x) H'))
inductive fX(K:W.Frag)(Y:AD)(vs:List V)(H:Hp)(Q:VK)(e_:XK):Prop
 |mk (z:Str)(ou:Js)(_:vs=[.str z,.ref ou])(_:z∈six)(_:(z=s!"sum" -> ∃dx fs,H ou=Mw (.ins Y.i dx fs))) (_:∀H',au H H'->Q .non H')
inductive gq(K:W.Frag)(Y:AD)(vs:List V)(H:Hp)(Q:VK)(e_:XK):Prop
 |mk (t:Js)(rws:List Rw)(i:Nat)(o:Int×Int)(m:Int)(_:vs=[.ref t,.int m])(_:Tbl Y.k Y.i Y.j H t rws i o)(_:∀(r:Js)(H':Hp),au H H'->Vd K H' r (ver (wf i o.1 o.2) (pkF rws (bZ m) rws.length))->Q (.ref r) H')
inductive fY(K:W.Frag)(Y:AD)(vs:List V)(H:Hp)(Q:VK)(e_:XK):Prop
 |mk (c:Int)(l:Js)(ps:List Int)(_:vs=[.int c,.ref l])(_:H l=Mw (.lst (ps.map V.int)))(_:Pts ps)(_:(c%3=1->∃m:Nat,1<=m/\m<=12/\ps=cV (m+1)))(_:∀(d:Js)(H':Hp),au H H'->Dom Y.i Y.j H' d (loP ps,hiP ps)->DmN Y.i Y.j H H' d (wK c ps)->Q (.ref d) H')
inductive ft(K:W.Frag)(Y:AD)(vs:List V)(H:Hp)(Q:VK)(e_:XK):Prop
 |mk (c:Int)(l:Js)(os:List Int)(_:vs=[.int c,.ref l])(_:H l=Mw (.lst (os.map V.int)))(_:gL c os)(_:∀(d:Js)(H':Hp),au H H'->Dom Y.i Y.j H' d (o0 os,o4 os)->(c%3≠1->∃dx fs,H' d=Mw (.ins Y.i dx fs))->DmX Y.i Y.j H' d (dmO c os)->Q (.ref d) H')
inductive cB(K:W.Frag)(Y:AD)(vs:List V)(H:Hp)(Q:VK)(e_:XK):Prop
 |mk (x dx na dl ou rl:Js)(nm wy:Str)(zs:List Str)(dv rx:List V)(bs:Prs)(o:Int×Int)(rws:List Rw)(_:vs=[.ref x,.str nm,.ref na,.ref dl,.ref ou,.str wy,.ref rl])(_:H x=Mw (.ins Y.k dx []))(_:H na=Mw (.lst (zs.map V.str)))(_:(∀z∈nm :: zs,isw z=Mz))(_:(nm :: zs).Nodup)(_:1<=zs.length)(_:zs.length<=4)(_:wy∈six)(_:(wy=s!"sum" -> ∃dx fs,H ou=Mw (.ins Y.i dx fs))) (_:H dl=Mw (.lst dv))(_:aF dv bs (Dom Y.i Y.j H))(_:Dom Y.i Y.j H ou o)(_:H rl=Mw (.lst rx))(_:RL NT H rx rws)(_:rx.length<=200)(_:bs.length<=4)(_:(∀w∈rws,lX bs o w))(_:∀(H':Hp)(fs:List (Str×V))(rl':Js)(xs':List V),(∀b o,b≠x->H b=Mw o->H' b=Mw o)->H' x=Mw (.ins Y.k dx fs)->fs.lookup s!"rows"=Mw (.ref rl')->fs.lookup s!"way"=Mw (.str wy)->fs.lookup s!"outcome"=Mw (.ref ou)->fs.lookup s!"name"=Mw (.str nm)->(∃na' dl':Js,fs.lookup s!"names"=Mw (.ref na')/\fs.lookup s!"domains"=Mw (.ref dl')/\H' na'=Mw (.lst (zs.map V.str))/\H' dl'=Mw (.lst dv)/\H na'=Mx/\H dl'=Mx)->H rl'=Mx->H' rl'=Mw (.lst xs')->RL (λa=>H a=Mx) H' xs' rws->Q .non H')
inductive iJ(K:W.Frag)(Y:AD)(n:Nat)(vs:List V)(H:Hp)(Q:VK)(e_:XK):Prop
 |mk (L:Type)(_:DecidableEq L)(A:Lfp K L)(d:Nat)(f:Fm L d)(v:V)(_:vs=[v,.int (d:Int)])(_:FmV A H d f v)(_:d+1<=n)(_:(bxs d f).length<=2000)(_:(∀q∈bxs d f,q.1.length<=6))(_:∀(l:Js)(xs:List V)(H':Hp),au H H'->H l=Mx->H' l=Mw (.lst xs)->BxG A H' xs (bxs d f)->Q (.ref l) H')
theorem zm{K:W.Frag}{Y:AD}{vs:List V}{H:Hp}{Q:VK}{E:XK}(h:iJ K Y 0 vs H Q E):False:=by
 obtain⟨j,b,c,d,i,v,rfl,f,e,a,g,q⟩:=h;lia
inductive dB(K:W.Frag)(Y:AD)(vs:List V)(H:Hp)(Q:VK)(e_:XK):Prop
 |mk (d:Nat)(F:Fm (Option (SI×SI)) d)(v:V)(_:vs=[v,.int (d:Int)])(_:FmV (K:=K) LPd H d F v)(_:d<=6)(_:(bxs d F).length<=300)(_:(∀q∈bxs d F,q.1.length<=6))(_:∀(l:Js)(xs:List V)(H':Hp),au H H'->H l=Mx->H' l=Mw (.lst xs)->BxG (K:=K) LPd H' xs (cJ (bxs d F))->Q (.ref l) H')
inductive hU(K:W.Frag)(Y:AD)(vs:List V)(H:Hp)(Q:VK)(e_:XK):Prop
 |mk (a pl ol rl:Js)(ns:List Int)(xs:List V)(pss:List (List Int))(os:List Int)(rx:List V)(bms:List (List Int×Int))(wy:Str)(wi:Nat)(tu:Int)(_:vs=[.ref a,.ref pl,.ref ol,.str wy,.ref rl,.int tu])(_:six[wi]?=Mw wy)(_:(cI ns 5%3=1->wy≠s!"sum")) (_:SqL K H a (ns.map V.int))(_:H pl=Mw (.lst xs))(_:PTL H xs pss)(_:qI ns pss)(_:1<=pss.length)(_:pss.length<=4)(_:H ol=Mw (.lst (os.map V.int)))(_:gL (cI ns 5) os)(_:H rl=Mw (.lst rx))(_:BRL H rx bms)(_:rx.length<=60)(_:(∀b∈bms,b.1.length=pss.length/\b.2∈os/\∀x∈b.1,0<=x))(_:∀(t:Js)(rws:List Rw)(nm:Str)(ou:Js)(zs:List Str)(dv:List V)(H':Hp),au H H'->mh (λa=>H a=Mx) Y.k H' t rws nm wy ou zs dv->aF dv (pss.map λps=>(loP ps,hiP ps)) (Dom Y.i Y.j H')->Dom Y.i Y.j H' ou (o0 os,o4 os)->aF dv (dms ns pss) (DmX Y.i Y.j H')->DmX Y.i Y.j H' ou (dmO (cI ns 5) os)->(wy=s!"sum" -> ∃dx fs,H' ou=Mw (.ins Y.i dx fs))->(∀z∈nm :: zs,isw z=Mz)->(nm :: zs).Nodup->zs.length=pss.length->rws.length=bms.length->(∀w∈rws,lX (pss.map λps=>(loP ps,hiP ps)) (o0 os,o4 os) w)->(∀(k:Nat)(b:List Int×Int)(x:Rw),bms[k]?=Mw b->rws[k]?=Mw x->GrR pss b x)->Q (.ref t) H')
inductive fu(K:W.Frag)(Y:AD)(P:Jr)(w:Jq)(mg:Str->Option Jp)(base:Jt)(n:Nat)(vs:List V)(H:Hp)(Q:VK)(e_:XK):Prop
 |mk (c b f:Js)(xs:List V)(cols:List (List (Int×Int)))(ah:List Int)(m:Nat)(L:Type)(_:DecidableEq L)(A:Lfp K L)(g:List Int->L)(J:Hp->Prop)(_:vs=[.ref c,.ref b,.ref f])(_:cols.length+1<=n)(_:H c=Mw (.lst xs))(_:CoL H xs cols)(_:H b=Mw (.lst (ah.map V.int)))(_:(∀col∈cols,col.length<=64))(_:ah.length+cols.length<=6)(_:cols.length<=6)(_:m=ah.length+cols.length)(_:Ci A P w K mg base f m g J)(_:J H)(_:(∀(v:V)(H':Hp),(∀d o,d≠b->H d=Mw o->H' d=Mw o)->FmV A H' cols.length (lay g cols ah) v->Q v H'))
theorem uG{K:W.Frag}{Y:AD}{P:Jr}{w:Jq}{e:Str->Option Jp}{a:Jt}{vs:List V}{H:Hp}{Q:VK}{E:XK}(h:fu K Y P w e a 0 vs H Q E):False:=by
 obtain⟨c,b,v,k,d,x,m,L,l,A,g,J,rfl,n,p,u,r,j,i,f,o,s,t,q⟩:=h;lia
inductive gu(K:W.Frag)(Y:AD)(P:Jr)(w:Jq)(mg:Str->Option Jp)(base:Jt)(n:Nat)(vs:List V)(H:Hp)(Q:VK)(e_:XK):Prop
 |mk (L M:Type)(_:DecidableEq L)(_:DecidableEq M)(A:Lfp K L)(B:Lfp K M)(h:L->M)(J:Hp->Prop)(d:Nat)(F:Fm L d)(v:V)(f:Js)(_:vs=[v,.int d,.ref f])(_:d+1<=n)(_:d<=6)(_:FmV A H d F v)(_:SmF 300 d F)(_:DH A B P w K mg base f h J)(_:J H)(_:∀(u:V)(H':Hp),au H H'->FmV B H' d (oP h d F) u->Q u H')
theorem wW{K:W.Frag}{Y:AD}{P:Jr}{w:Jq}{b:Str->Option Jp}{a:Jt}{vs:List V}{H:Hp}{Q:VK}{E:XK}(h:gu K Y P w b a 0 vs H Q E):False:=by
 obtain⟨L,M,g,f,A,B,k,J,d,o,v,n,rfl,j,e,i,c,l,m,q⟩:=h;lia
inductive gv(K:W.Frag)(Y:AD)(P:Jr)(w:Jq)(mg:Str->Option Jp)(base:Jt)(n:Nat)(vs:List V)(H:Hp)(Q:VK)(e_:XK):Prop
 |mk (L M N:Type)(_:DecidableEq L)(_:DecidableEq M)(_:DecidableEq N)(A:Lfp K L)(B:Lfp K M)(C:Lfp K N)(h:L->M->N)(J:Hp->Prop)(d:Nat)(F:Fm L d)(G:Fm M d)(v u:V)(f:Js)(ps:List (Int×Int))(_:vs=[v,u,.int d,.ref f])(_:d+1<=n)(_:d<=6)(_:FmV A H d F v)(_:FmV B H d G u)(_:cc d F ps)(_:cc d G ps)(_:SmF 300 d F)(_:SmF 300 d G)(_:DI A B C P w K mg base f h J)(_:J H)(_:∀(r:V)(H':Hp),au H H'->FmV C H' d (pairF h d F G) r->Q r H')
theorem wX{K:W.Frag}{Y:AD}{P:Jr}{w:Jq}{b:Str->Option Jp}{a:Jt}{vs:List V}{H:Hp}{Q:VK}{E:XK}(h:gv K Y P w b a 0 vs H Q E):False:=by
 obtain⟨L,M,N,k,j,i,A,B,C,o,J,d,x,t,v,u,s,g,rfl,n,f,l,m,e,y,c,z,p,r,q⟩:=h;lia
inductive n4(K:W.Frag)(Y:AD)(P:Jr)(w:Jq)(mg:Str->Option Jp)(base:Jt)(vs:List V)(H:Hp)(Q:VK)(e_:XK):Prop
 |mk (a b f:Js)(ys:List V)(ps:List (Int×Int))(as:List Js)(mss:List (List Int))(L:Type)(_:DecidableEq L)(A:Lfp K L)(g:List Int->L)(J:Hp->Prop)(_:vs=[.ref a,.ref b,.ref f])(_:H a=Mw (.lst ys))(_:PL H ys ps)(_:H b=Mw (.lst (as.map V.ref)))(_:MLs H as mss)(_:MOK ps mss)(_:gr ps mss ps.length<=300)(_:Ci A P w K mg base f ps.length g J)(_:J H)(_:∀(v:V)(H':Hp)(css:List (List Int)),au H H'->css.length=ps.length->(∀(j:Nat)(p:Int×Int)(ms cs:List Int),ps[j]?=Mw p->mss[j]?=Mw ms->css[j]?=Mw cs->cs.Pairwise (· < ·)/\(∀c,c∈cs↔(c∈ms/\p.1<c/\c<=p.2))/\cs.length<64)->FmV A H' (List.zipWith (λp cs=>ck p.1 p.2 cs) ps css).length (lay g (List.zipWith (λp cs=>ck p.1 p.2 cs) ps css) []) v->Q v H')
inductive dX(K:W.Frag)(Y:AD)(vs:List V)(H:Hp)(Q:VK)(e_:XK):Prop
 |mk (v u:V)(d:Nat)(F G:Fm SI d)(ps:List (Int×Int))(_:vs=[v,u,.int (d:Int)])(_:d<=4)(_:FmV (K:=K) LVd H d F v)(_:FmV (K:=K) LVd H d G u)(_:cc d F ps)(_:cc d G ps)(_:SmF 300 d F)(_:SmF 300 d G)(_:(bxs d (pairF dpr d F G)).length<=300)(_:ps.length<=4)(_:∀(l:Js)(xs:List V)(H':Hp),au H H'->H l=Mx->H' l=Mw (.lst xs)->ChL K H' xs (cJ (bxs d (pairF dpr d F G)))->Q (.ref l) H')
inductive iK(K:W.Frag)(Y:AD)(vs:List V)(H:Hp)(Q:VK)(e_:XK):Prop
 |mk (t:Js)(dv:List V)(bs:Prs)(rws:List Rw)(L:Nat->List Int)(i:Nat)(o:Int×Int)(_:vs=[.ref t])(_:TD Y.k Y.i Y.j H t dv bs rws)(_:Tbl Y.k Y.i Y.j H t rws i o)(_:bs.length<=4)(_:rws.length<=60)(_:(∀x∈rws,x.1.length=bs.length/\∀c,(x.1.getD c []).length<=6))(_:(∀(c:Nat)(b:Int×Int),bs[c]?=Mw b->(L c).length<=57/\∀x,MkC rws c b x->x∈L c))(_:(∀mss:List (List Int),mss.length=bs.length->(∀(c:Nat)(b:Int×Int)(ms:List Int),bs[c]?=Mw b->mss[c]?=Mw ms->ms.Pairwise (· < ·)/\∀x,x∈ms↔MkC rws c b x)->gr bs mss bs.length<=300))(_:(∀z,W.tabIn K "row_form" = Mw z->dD H z.2 [(rT Y86,"row_form.<locals>.<lambda>")])) (_:∀(v:V)(H':Hp)(css:List (List Int)),So H H'->(∀z,W.tabIn K "row_form" = Mw z->dD H' z.2 [(rT Y86,"row_form.<locals>.<lambda>")]/\∀d o,d≠z.2->H d=Mw o->H' d=Mw o)->(∃z,W.tabIn K "row_form" = Mw z)->css.length=bs.length->(∀(j:Nat)(p:Int×Int)(cs:List Int),bs[j]?=Mw p->css[j]?=Mw cs->cs.Pairwise (· < ·)/\∀x,x∈cs↔MkC rws j p x)->FmV (K:=K) yu H' (List.zipWith (λp cs=>ck p.1 p.2 cs) bs css).length (lay (λcd=>((msk (jd rws cd) rws.length:Nat):Int)) (List.zipWith (λp cs=>ck p.1 p.2 cs) bs css) []) v->Q v H')
inductive eS(K:W.Frag)(Y:AD)(vs:List V)(H:Hp)(Q:VK)(e_:XK):Prop
 |mk (t:Js)(dv:List V)(bs:Prs)(rws:List Rw)(L:Nat->List Int)(kk i:Nat)(o:Int×Int)(_:vs=[.ref t])(_:RfH Y.k Y.i Y.j H t dv bs rws L kk i o)(_:oQ K H)(_:oS K H)(_:∀(v:V)(F:Fm SI bs.length)(H':Hp),So H H'->oQ K H'->oS K H'->FmV (K:=K) LVd H' bs.length F v->cc bs.length F bs->SmF 300 bs.length F->(∀cs,InB cs bs->Tel bs.length F cs (vdm rws i o (mkg rws cs)))->Q v H')
inductive jL(K:W.Frag)(Y:AD)(vs:List V)(H:Hp)(Q:VK)(e_:XK):Prop
 |mk (t u:Js)(bs:Prs)(rws gm:List Rw)(i i':Nat)(o:Int×Int)(gc:List (List (Int×Int)))(_:vs=[.ref t,.ref u])(_:yZ K Y.k Y.i Y.j H t u bs rws gm i i' o gc)(_:oQ K H)(_:oS K H)(_:∀(l:Js)(xs:List V)(PF:Fm (Option (SI×SI)) bs.length)(H':Hp),So H H'->(∀o,uC o->H l≠Mw o)->oQ K H'->oS K H'->H' l=Mw (.lst xs)->DM bs rws gm i i' o PF->ChL K H' xs (cJ (bxs bs.length PF))->Q (.ref l) H')
def J18(K:W.Frag):Sp:=λc H Q _=>∃(a:Js)(b:List Int),c=[.ref a]/\SqL K H a (b.map V.int)/\b.length<=63/\(∀z,W.tabIn K "row_form" = Mw z->H z.2=Mw (.tbl #[]))/\(∀z,W.tabIn K "verdict_form" = Mw z->H z.2=Mw (.tbl #[]))/\∀d,Q (.bl Mz) d
inductive gw(K:W.Frag)(Y:AD)(f c' c_0:Js)(doc pm ctv:Jp)(vs:List V)(H:Hp)(Q:VK)(e_:XK):Prop
 |mk (a t:Js)(cs:List Int)(rws:List Rw)(i:Nat)(o:Int×Int)(_:vs=[.ref a])(_:jw H f c' (W.kla_obj "<lambda>" "row_form.<locals>.<lambda>" (qH Y86) (oM Y86) (kx Y86) [("table",c_0)] pm c' ctv) "row_form.<locals>.<lambda>" [("table",c_0)] [("table",.ref t)]) (_:Tbl Y.k Y.i Y.j H t rws i o)(_:H a=Mw (.lst (cs.map V.int)))(_:(∀x∈rws,x.1.length=cs.length))(_:∀H',au H H'->Q (.int ((msk (jd rws cs) rws.length:Nat):Int)) H')
inductive eG(K:W.Frag)(Y:AD)(f c' c_0:Js)(doc pm ctv:Jp)(vs:List V)(H:Hp)(Q:VK)(e_:XK):Prop
 |mk (m:Int)(t:Js)(rws:List Rw)(i:Nat)(o:Int×Int)(_:vs=[.int m])(_:jw H f c' (W.kla_obj "<lambda>" "verdict_form.<locals>.<lambda>" (qH Y90) (oM Y90) (kx Y90) [("table",c_0)] pm c' ctv) "verdict_form.<locals>.<lambda>" [("table",c_0)] [("table",.ref t)]) (_:Tbl Y.k Y.i Y.j H t rws i o)(_:∀(r:Js)(H':Hp),au H H'->Vd K H' r (vdm rws i o m)->Q (.ref r) H')
section
variable{P:Jr}{w:Jq}{K:W.Frag}{mg:Str->Option Jp}{base:Jt}{f:Js}{fd:Kx}{Y:AD}
theorem Fx(F:Fun K "all_among" "all_among" Y32 f fd) (bl:Bl K mg Y)  : aK P w K mg base CX0 1 f fd ["text","signs"] (gQ K Y):=by
 refine F.okA Z32 λo A m s H p Q E r h=>?_
 obtain⟨z,g,rfl,q⟩:=h
 refine⟨_,(aj (bc JZ.never U (BS (pv 0)) (aE (i:=2) Z32.nd U (Or.inl U))
  (ai (aN (aD qj (pv 2) (pv 1) (by with_unfolding_all rfl))
  (ai (aw cP))
  aC)))
  (ai (aw cP))),?_⟩
 refine⟨_,U,z,U,zR (λi a l=>(∃k:Option V,a=[Mw (.str z),Mw (.str g),k])/\l=H/\(z.cps.toList.take i).all (sg g)=Mz) ⟨⟨_,U⟩,U,U⟩ (λi c a l e h=>?_) (λa l h=>?_)⟩
 .obtain⟨⟨k,rfl⟩,j,b⟩:=h;rw[j];refine⟨_,U,_,U,_,_,U,U,_,U,?_⟩;refine bD (λd=>?_) (λd=>?_)
  .have n:mS z g=false:=Cb e (Cc d);rw[n]at q;exact q
  .exact⟨⟨_,U⟩,U,all_succ e (DA d) b⟩
 .obtain⟨⟨k,rfl⟩,j,b⟩:=h;rw[j];rw[yz b]at q;exact q
theorem Fy(F:Fun K "is_whole" "is_whole" Y47 f fd) (bl:Bl K mg Y)  : aK P w K mg base CX0 1 f fd ["value"] (fM K Y):=by
 refine F.okA Z47 λb A a s H c Q E d h=>?_
 obtain⟨i,rfl,q⟩:=h;refine⟨_,(ai (aw (fO (ao bG U bl.isinstance_ PyProof.Rows.boot_isinstance (aa (pv 0) (aa (dY (v:=.ty "int") U bl.int_ PyProof.Rows.boot_int U) ae))) (jz (xn (ao bG U bl.isinstance_ PyProof.Rows.boot_isinstance (aa (pv 0) (aa (dY (v:=.ty "bool") U bl.bool_ PyProof.Rows.boot_bool U) ae)))))))),?_⟩;exact⟨_,U,_,_,_,_,Mz,U,.ty _,.inl (.int _),(by first|rfl|with_unfolding_all rfl|decide+kernel),_,U,d8 ⟨_,U,_,_,_,_,MA,U,.ty _,.inl (.int _),(by first|rfl|with_unfolding_all rfl|decide+kernel),_,U,q⟩⟩
theorem Fz(F:Fun K "alike" "alike" Y31 f fd) (bl:Bl K mg Y)  : aK P w K mg base CX0 1 f fd ["one","other"] (nW K Y):=by
 refine F.okA Z31 λa0 A I s H vs Q E S h=>?_
 obtain⟨a,b,d,e,r,rfl,k,c,hi,q⟩:=h
 refine⟨_,(aj (aN (PW.pt (gF (bI (ao bG U bl.isinstance_ PyProof.Rows.boot_isinstance (aa (pv 0) (aa (cM (v:=.ref Y.i) U bl.Numbers_ U) ae)))) (eV (bI (ao bG U bl.isinstance_ PyProof.Rows.boot_isinstance (aa (pv 1) (aa (cM (v:=.ref Y.i) U bl.Numbers_ U) ae)))))))
  (ai (aw (fO (fE bA (bo (pv 0) U) (bo (pv 1) U) (aH _)) (jz (fE bA (bo (pv 0) U) (bo (pv 1) U) (aH _))))))
  aC)
  (aj (aN (PW.pt (gF (bI (ao bG U bl.isinstance_ PyProof.Rows.boot_isinstance (aa (pv 0) (aa (cM (v:=.ref Y.j) U bl.Words_ U) ae)))) (eV (bI (ao bG U bl.isinstance_ PyProof.Rows.boot_isinstance (aa (pv 1) (aa (cM (v:=.ref Y.j) U bl.Words_ U) ae)))))))
  (ai (aw (fE (BR S) (bo (pv 0) U) (bo (pv 1) U) (aH _))))
  aC)
  (ai (aw cP)))),?_⟩
 dsimp only[cR,Cx.nox,Cx.wish];show(let M:TS:=_;let N:TS:=aU _ M;aU _ N _ _ _);intro _ _;cases d with
 |inl p =>
  obtain⟨lo,L⟩:=p;obtain⟨Z,fs,k,B,W,_⟩:=k;cases e with
  |inl J =>
   obtain⟨D,u⟩:=J;obtain⟨n,m,c,y,x,_⟩:=c;refine⟨_,U,_,_,_,_,Mz,U,.ref _,bl.t_Numbers.ty k,bl.f_nn,_,U,d8 ?_⟩;refine⟨_,U,_,_,_,_,Mz,U,.ref _,bl.t_Numbers.ty c,bl.f_nn,_,U,d8 ?_⟩;refine⟨_,U,a,_,_,_,_,U,k,bl.k_Numbers,bl.na_Numbers_low,B,_,U,b,_,_,_,_,U,c,bl.k_Numbers,bl.na_Numbers_low,y,U,_,U,?_⟩;by_cases g:lo=D
   .subst g;refine fH U ⟨_,U,a,_,_,_,_,U,k,bl.k_Numbers,bl.na_Numbers_high,W,_,U,b,_,_,_,_,U,c,bl.k_Numbers,bl.na_Numbers_high,x,U,?_⟩;have X:decide (V.int L=V.int u)=r:=by
     rw[Bool.eq_iff_iff,ML,hi];constructor
     .intro z;injection z with z;rw[z]
     .intro z;injection z with z;injection z with _ z;rw[z]
    have O:Q (.bl (MB (V.int L=V.int u))) H:=by rw[X];exact q
    exact O
   .refine bD (λx=>MG (V.int.inj (MJ x)) g) (λx=>?_);have o:r=false:=by
     rw[IY];intro z;have t:=hi.mp z;injection t with t;injection t with t;exact g t
    rw[o]at q;exact q
  |inr C =>
   obtain⟨n,m,R,c,_⟩:=c;have o:r=false:=by
    rw[IY];intro z;cases hi.mp z
   rw[o]at q;refine⟨_,U,_,_,_,_,Mz,U,.ref _,bl.t_Numbers.ty k,bl.f_nn,_,U,d8 ?_⟩;refine⟨_,U,_,_,_,_,MA,U,.ref _,bl.t_Words.ty c,bl.f_wn,_,U,bB ?_⟩;exact⟨_,U,_,_,_,_,MA,U,.ref _,bl.t_Numbers.ty k,bl.f_nw,_,U,bB (bB q)⟩
 |inr zs =>
  obtain⟨Z,fs,l,k,B,T,_⟩:=k;refine⟨_,U,_,_,_,_,MA,U,.ref _,bl.t_Words.ty k,bl.f_wn,_,U,bB (bB ?_)⟩;refine⟨_,U,_,_,_,_,Mz,U,.ref _,bl.t_Words.ty k,bl.f_ww,_,U,d8 ?_⟩;cases e with
  |inl J =>
   obtain⟨n,m,c,_⟩:=c;have o:r=false:=by
    rw[IY];intro z;cases hi.mp z
   rw[o]at q;exact⟨_,U,_,_,_,_,MA,U,.ref _,bl.t_Numbers.ty c,bl.f_nw,_,U,bB q⟩
  |inr C =>
   obtain⟨n,m,R,c,y,G,_⟩:=c;refine⟨_,U,_,_,_,_,Mz,U,.ref _,bl.t_Words.ty c,bl.f_ww,_,U,d8 ?_⟩;exact⟨_,U,a,_,_,_,_,U,k,bl.k_Words,bl.na_Words_words,B,_,U,b,_,_,_,_,U,c,bl.k_Words,bl.na_Words_words,y,wJ (SqL.of T) (SqL.of G) (hi.trans ⟨λz=>Sum.inr.inj z,λz=>MK _ z⟩) q⟩
theorem FA(F:Fun K "holds" "holds" Y46 f fd) (bl:Bl K mg Y)  : aK P w K mg base CX0 1 f fd ["spans","number"] (nX K Y):=by
 refine F.okA Z46 λD A v s H G Q E I h=>?_
 obtain⟨a,xs,k,n,rfl,y,B,q⟩:=h
 refine⟨_,(aj (bc JZ.never U (aW (pv 0)) (fc U (aM (aE (i:=2) Z46.nd U (Or.inl U)) (aM (aE (i:=3) Z46.nd U (Or.inl U)) bX)))
  (ai (aN (ir fD fD (pv 2) (pv 1) (pv 3))
  (ai (aw cP))
  aC)))
  (ai (aw cP))),?_⟩
 refine⟨_,U,a,U,⟨_,y⟩,bL (xs:=xs) (λi g j=>(∃t o,g=[Mw (.ref a),Mw (.int n),t,o])/\j=H/\(k.take i).any (inR n)=MA) ⟨⟨_,_,U⟩,U,U⟩ (λi g j _ h=>by obtain⟨_,e,_⟩:=h;rw[e];exact y) (λi x g j e h=>?_) (λg j h=>?_)⟩
 .obtain⟨⟨t,o,rfl⟩,m,b⟩:=h;rw[m];obtain⟨p,r,l,rfl,u⟩:=B.get e;refine⟨r,_,U,SqT.of u,U,_,_,U,_,_,U,U,?_⟩;refine⟨_,U,_,U,_,_,U,U,_,U,?_⟩;refine bD (λc=>?_) (λc=>?_)
  .refine⟨_,U,_,_,U,U,_,U,?_⟩;refine bD (λd=>?_) (λd=>?_)
   .have C:inP k n=true:=tQ l (Fo c d);rw[C]at q;exact q
   .exact⟨⟨_,_,U⟩,U,jr l b (Dz d)⟩
  .exact⟨_,U,bB ⟨⟨_,_,U⟩,U,jr l b (Dy c)⟩⟩
 .obtain⟨⟨t,o,rfl⟩,m,b⟩:=h;rw[m];have z:inP k n=false:=by
   rw[B.length,hE]at b;exact b
  rw[z]at q;exact q
theorem FC(F:Fun K "edges" "edges" Y42 f fd) (bl:Bl K mg Y)  : aK P w K mg base CX0 1 f fd ["spans","low","high"] (nY K Y):=by
 refine F.okA Z42 λa2 A S s H vs Q E hr h=>?_
 obtain⟨a,xs,R,lo,hi,rfl,W,C,hl,q⟩:=h
 refine⟨_,(aj (aJ (i:=3) Z42.nd U (Or.inl U) (aS ae))
  (aj (bc JZ.never U (aW (pv 0)) (fc U (aM (aE (i:=4) Z42.nd U (Or.inl U)) (aM (aE (i:=5) Z42.nd U (Or.inl U)) bX)))
  (aj (aZ (eU PySem.F.plainAttrs_list PySem.F.slot_list_append PySem.F.type_list_append bq (pv 3) (aa (pv 4) ae)))
  (ai (aZ (eU PySem.F.plainAttrs_list PySem.F.slot_list_append PySem.F.type_list_append bq (pv 3) (aa (av bJ (pv 5) af) ae))))))
  (ai (aw (cb (aW (pv 3)) (bg (N:=["turn","low","high"]) (fr:=[1,2]) (cl:=[("low",s.heap.objs.size+1),("high",s.heap.objs.size+1+1)]) U U (by decide+kernel) (by decide+kernel) U (by decide+kernel) U U U (hZ.mpr ⟨U,hZ.mpr ⟨U,jg _⟩⟩) U) U (λ_ _ _ _=>(i5 (ir iq fD (pv 1) (pv 0) (pv 2)))) (λ_ _ _ _=>(pv 0))))))),?_⟩
 dsimp only[cR,Cx.nox,Cx.wish];show(let r2:TS:=_;let r1:TS:=aU _ r2;aU _ r1 _ _ _);intro _ _;refine⟨(by show 0<=Ju;decide),λl v=>?_⟩;have T:au H (upd H l (.lst [])):=ag v _
 refine⟨_,U,a,U,⟨_,T.seq W⟩,bL (xs:=xs) (λi B k=>∃(L J:Option V),B=[Mw (.ref a),Mw (.int lo),Mw (.int hi),Mw (.ref l),L,J]/\au H k/\k l=Mw (.lst ((ends (R.take i)).map V.int))/\(ends (R.take i)).length<=2*i)
  ⟨Mx,Mx,U,T,ab,zz _⟩ (λi B k _ h=>by obtain⟨_,_,_,j,_⟩:=h;exact j.seq W) (λi x B k e h=>?_) (λB k h=>?_)⟩
 .obtain⟨L,J,rfl,j,m,z⟩:=h;obtain⟨p,r,Z,rfl,M⟩:=(C.mono j.tups).get e;have b:i<xs.length:=(IW.mp e).1;refine⟨r,_,U,SqT.of M,U,_,_,U,_,_,U,U,?_⟩;refine⟨_,U,.inl ⟨U,_,SqL.of m⟩,_,U,l,_,_,U,U,m,ay (by rw[bx];lia),?_⟩;refine⟨_,U,.inl ⟨U,_,SqL.of ab⟩,_,U,_,_,U,U,l,_,_,U,U,ab,ay (by rw[dt,bx,gy];lia),?_⟩;rw[zB];refine⟨_,_,U,j.upd v,?_,?_⟩
  .rw[ab,take_snoc Z,pB];simp
  .rw[take_snoc Z,pB,dt];simp;lia
 .obtain⟨L,J,rfl,j,m,z⟩:=h;rw[C.length,hE]at m z
  refine⟨_,U,l,U,⟨_,SqL.of m⟩,cA (xs:=(ends R).map V.int) (λD i zs d=>au k d/\d D=Mw (.lst zs)/\zs=(((ends R).take i).filter (λt=>decide (lo<t) && decide (t<=hi))).map V.int/\zs.length<=i)
   (λD n=>⟨ag n _,ab,U,Az _⟩) (λD i zs d n _ h=>SqL.of (h.1 _ _ m)) (λD i x zs d n e h=>?_) (λD zs d n h=>?_)⟩
  .obtain⟨g,u,o,O⟩:=h;obtain⟨c,rfl,X⟩:=of_map e;have b:i<((ends R).map V.int).length:=(IW.mp e).1;have a1:i<(ends R).length:=by rw[bx]at b;exact b
   have y:(MB (lo<c) && decide (c<=hi))=MA->d9 (λD i zs d=>au k d/\d D=Mw (.lst zs)/\zs=(((ends R).take i).filter (λt=>decide (lo<t) && decide (t<=hi))).map V.int/\zs.length<=i) D i ((ends R).map V.int).length d:=λhf=>by
    refine d9.mk (zs:=zs) b ⟨g,u,?_,by lia⟩;rw[take_snoc X,md,oD (by simpa using hf)];simpa using o
   refine⟨_,U,_,U,_,_,U,U,_,U,?_⟩;refine bD (λI=>?_) (λI=>?_)
   .refine⟨_,U,_,_,U,U,_,U,?_⟩;refine bD (λG=>?_) (λG=>y (by rw[IY.mpr G,Bool.and_false]));have a0:=C.length;refine⟨_,U,cH.mk b u (ay (by lia)) ⟨g.upd n,ab,?_,by rw[dt,gy];lia⟩⟩;rw[take_snoc X,md,ow (by rw[I,G];rfl),o];simp
   .exact⟨_,U,bB (y (by rw[IY.mpr I,Bool.false_and]))⟩
  .obtain⟨g,u,o,O⟩:=h;rw[bx,hE]at o;rw[o]at u;exact q D d _ (j.trans g) (j.free n) u U
theorem FD(F:Fun K "stretches" "stretches" Y87 f fd) (bl:Bl K mg Y)  : aK P w K mg base CX0 1 f fd ["low","high","marks"] (gR K Y):=by
 refine F.okA Z88 λb4 A b1 s H vs Q E hr h=>?_
 obtain⟨a,n,L,lo,hi,rfl,hS,hl,hL,rG,q⟩:=h
 refine⟨_,(aj (aJ (i:=3) Z88.nd U (Or.inl U) (ao (gh (w:=w) U U) U bl.sorted_ PyProof.Rows.boot_sorted (aa (bF (pN (w:=w) U U) U bl.set_ PyProof.Rows.boot_set (aa (cb (aW (pv 2)) (bg (N:=["mark","low","high"]) (fr:=[0,1]) (cl:=[("low",s.heap.objs.size+1),("high",s.heap.objs.size+1+1)]) U U (by decide+kernel) (by decide+kernel) U (by decide+kernel) U U U (hZ.mpr ⟨U,hZ.mpr ⟨U,jg _⟩⟩) U) U (λ_ _ _ _=>(i5 (ir iq fD (pv 1) (pv 0) (pv 2)))) (λ_ _ _ _=>(pv 0))) ae)) ae)))
  (aj (aJ (i:=4) Z88.nd U (Or.inl U) (av dR (aS (aa (pv 0) ae)) (pv 3)))
  (aj (aJ (i:=5) Z88.nd U (Or.inl U) (av dR (cb (aW (pv 3)) (dC U (by decide+kernel) (by decide+kernel) (by decide+kernel) U) U (λ_ _ _ _=>bu) (λ_ _ _ _=>(av b7 (pv 0) af))) (aS (aa (pv 1) ae))))
  (ai (aw (uh U U bl.list_ U bl.zip_ (aa (pv 4) (aa (pv 5) ae)))))))),?_⟩
 dsimp only[cR,Cx.nox,Cx.wish];show(let r3:TS:=_;let r2:TS:=aU _ r3;let r1:TS:=aU _ r2;aU _ r1 _ _ _);intro _ _ _
 refine⟨_,U,a,U,⟨_,hS⟩,cA (xs:=n.map V.int) (λD i zs g=>au H g/\g D=Mw (.lst zs)/\zs=((n.take i).filter (λt=>decide (lo<t) && decide (t<=hi))).map V.int/\zs.length<=i)
  (λD m=>⟨ag m _,ab,U,Az _⟩) (λD i zs g m _ h=>h.1.seq hS) (λD i x zs g m e h=>?_) (λD zs g m h=>?_)⟩
 .obtain⟨r,B,y,R⟩:=h;obtain⟨c,rfl,ec⟩:=of_map e;have d:i<(n.map V.int).length:=(IW.mp e).1;have a6:i<n.length:=by rw[bx]at d;exact d
  have O:(MB (lo<c) && decide (c<=hi))=MA->d9 (λD i zs g=>au H g/\g D=Mw (.lst zs)/\zs=((n.take i).filter (λt=>decide (lo<t) && decide (t<=hi))).map V.int/\zs.length<=i) D i (n.map V.int).length g:=λhf=>by
   refine d9.mk (zs:=zs) d ⟨r,B,?_,by lia⟩;rw[take_snoc ec,md,oD (by simpa using hf)];simpa using y
  refine⟨_,U,_,U,_,_,U,U,_,U,?_⟩;refine bD (λg1=>?_) (λg1=>?_)
  .refine⟨_,U,_,_,U,U,_,U,?_⟩;refine bD (λg2=>?_) (λg2=>O (by rw[IY.mpr g2,Bool.and_false]));refine⟨_,U,cH.mk d B (ay (by lia)) ⟨r.upd m,ab,?_,by rw[dt,gy];lia⟩⟩;rw[take_snoc ec,md,ow (by rw[g1,g2];rfl),y];simp
  .exact⟨_,U,bB (O (by rw[IY.mpr g1,Bool.false_and]))⟩
 .obtain⟨s2,B,y,R⟩:=h;rw[bx]at R y;rw[hE]at y;rw[y]at B;generalize S:n.filter (λt=>decide (lo<t) && decide (t<=hi))=ks at B y;have m9:∀c,c∈ks↔(c∈n/\lo<c/\c<=hi):=λc=>by rw[←S,jZ];simp
  have b3:ks.length<=n.length:=by rw[←S];exact lG ..
  refine⟨D,ks,U,SqL.of B,by lia,λl a5=>?_⟩;have s3:au H (upd g l (ug w l ks)):=s2.trans (ag a5 _);refine⟨l,ks,L,U,ab,hL,λk hk=>let ⟨a1,a2,a3⟩:=(m9 k).mp hk;rG k a1 a2 a3,λC b a9 pw G=>?_⟩;have s4:=s3.trans (ag a9 (.lst (b.map V.int)));have e4:upd (upd g l (ug w l ks)) C (.lst (b.map V.int)) C=Mw (.lst (b.map V.int)):=ab;generalize upd (upd g l (ug w l ks)) C (.lst (b.map V.int))=H3 at s4 e4⊢;have a7:b.length<64:=D0 (bQ (pw.imp λh=>Int.ne_of_lt h) λk hk=>let ⟨a1,a2,a3⟩:=(m9 k).mp ((G k).mp hk);rG k a1 a2 a3) hL;refine⟨_,U,(by show 1<=Ju;decide),λt1 M=>?_⟩;have e5:=cU (o:=.lst [.int lo]) e4 M;have s5:=s4.trans (ag M (.lst [.int lo]));refine⟨_,U,t1,C,_,_,U,U,ab,e5,BA (ay (by rw[bx];show 1+b.length<=1000;lia)),λZ J=>?_⟩;have e6:=cU (o:=.lst ([V.int lo]++b.map V.int)) e5 J;have s6:=s5.trans (ag J (.lst ([V.int lo]++b.map V.int)));have e7:upd (upd H3 t1 (.lst [.int lo])) Z (.lst ([V.int lo]++b.map V.int)) Z=Mw (.lst ([V.int lo]++b.map V.int)):=ab;generalize upd (upd H3 t1 (.lst [.int lo])) Z (.lst ([V.int lo]++b.map V.int))=H4 at s6 e6 e7⊢
  refine⟨_,U,C,U,⟨_,SqL.of e6⟩,cA (xs:=b.map V.int) (λD i zs z=>au H4 z/\z D=Mw (.lst zs)/\zs=((b.take i).map (· - 1)).map V.int/\zs.length<=i)
   (λD m=>⟨ag m _,ab,U,Az _⟩) (λD i zs z m _ h=>SqL.of (h.1 _ _ e6)) (λD i x zs z m e h=>?_) (λD zs z m h=>?_)⟩
  .obtain⟨r,v,u,FE⟩:=h;obtain⟨c,rfl,ec⟩:=of_map e;have d:i<(b.map V.int).length:=(IW.mp e).1;have a6:i<b.length:=by rw[bx]at d;exact d
   refine⟨_,U,_,_,U,U,cH.mk d v (ay (by lia)) ⟨r.upd m,ab,?_,by rw[dt,gy];lia⟩⟩;rw[take_snoc ec,gI,gI,u];rfl
  .obtain⟨a0,v,u,FE⟩:=h;rw[bx,hE]at u;rw[u]at v;refine⟨_,U,(by show 1<=Ju;decide),λt3 I=>?_⟩;have s7:=a0.trans (ag I (.lst [.int hi]));refine⟨D,t3,_,_,U,U,cU v I,ab,BA (ay (by rw[bx,bx];show b.length+1<=1000;lia)),λX a4=>?_⟩;have s8:=s7.trans (ag a4 (.lst ((b.map (· - 1)).map V.int++[.int hi])));have e8:upd (upd z t3 (.lst [.int hi])) X (.lst ((b.map (· - 1)).map V.int++[.int hi])) X=Mw (.lst ((b.map (· - 1)).map V.int++[.int hi])):=ab;generalize upd (upd z t3 (.lst [.int hi])) X (.lst ((b.map (· - 1)).map V.int++[.int hi]))=H6 at s8 e8⊢;have e9:=s8 _ _ e7;refine⟨_,U,_,U,Z,X,(lo :: b).map V.int,(b.map (· - 1)++[hi]).map V.int,U,SqL.of e9,by rw[gI];exact SqL.of e8,λD9 ts H9 W k9 a8 b0 f9=>?_⟩;have s9:au H H9:=(s6.trans s8).trans λc o e=>k9 c o e
   refine q D9 H9 b (ts.map V.ref) s9 ((s6.trans s8).free a8) b0 (PL.of_get (by rw[W,gk];simp) λj p hj=>?_) pw (λc=>(G c).trans (m9 c)) a7;obtain⟨z1,z2⟩:=zip_get hj;obtain⟨T,h1,_,h2⟩:=f9 j _ _ z1 z2;exact⟨T,h1,h2⟩
theorem FG(F:Fun K "closed" "closed" Y38 f fd) (bl:Bl K mg Y)  : aK P w K mg base CX0 1 f fd ["triples"] (gn K Y):=by
 refine F.okA Z38 λa7 A a5 s H vs Q E hr h=>?_
 obtain⟨L,iL,A,n,a,xs,o,rfl,hn,ha,W,hl,q⟩:=h
 refine⟨_,(aj (aJ (i:=1) Z38.nd U (Or.inl U) (aS ae))
  (aj (bc JZ.never U (aW (pv 0)) (fc U (aM (aE (i:=2) Z38.nd U (Or.inl U)) (aM (aE (i:=3) Z38.nd U (Or.inl U)) (aM (aE (i:=4) Z38.nd U (Or.inl U)) bX))))
  (ai (aN (PW.pt (gF (dH (pv 1) (by intro _;rfl)) (eV (aD (B8 hr) (ax aO (ax aG (pv 1) (jn fQ af) (λ_ _=>U)) af (λ_ _=>U)) (pv 4) (aH _)))))
  (ai (kT (aY (aa (ax aO (ax aG (pv 1) (jn fQ af) (λ_ _=>U)) af (λ_ _=>U)) (aa (pv 3) (aa (pv 4) ae)))) (kS (pv 1) (jn fQ af) set_list)))
  (ai (aZ (eU PySem.F.plainAttrs_list PySem.F.slot_list_append PySem.F.type_list_append bq (pv 1) (aa (aY (aa (pv 2) (aa (pv 3) (aa (pv 4) ae)))) ae)))))))
  (ai (aw (bF jo U bl.tuple_ PyProof.Rows.boot_tuple (aa (pv 1) ae)))))),?_⟩
 dsimp only[cR,Cx.nox,Cx.wish];show(let r2:TS:=_;let r1:TS:=aU _ r2;aU _ r1 _ _ _);intro _ _;refine⟨(by show 0<=Ju;decide),λl B=>?_⟩;have s0:au H (upd H l (.lst [])):=ag B _
 refine⟨_,U,a,U,⟨_,SqL.of (s0 _ _ ha)⟩,bL (xs:=xs) (λi S g=>au H g/\∃(c:List V)(N M J:Option V),g l=Mw (.lst c)/\FmL (FmV A g n) g ((o.take i).foldl dg []) c/\c.length<=i/\S=[Mw (.ref a),Mw (.ref l),N,M,J])
  ⟨s0,[],Mx,Mx,Mx,ab,FmL.nil,Az _,U⟩ (λi S g _ h=>SqL.of (h.1 _ _ ha)) (λi y S g e h=>?_) (λS g h=>?_)⟩
 .obtain⟨C,c,N,M,J,m,p,O,rfl⟩:=h;have hi:i<xs.length:=(IW.mp e).1;obtain⟨t,et⟩:∃t,o[i]?=Mw t:=⟨_,IV (by rw[←W.1];exact hi)⟩;obtain⟨r,u,ex,er,hu⟩:=W.2 i t et;rw[e]at ex;cases ex;have a4:=C _ _ er;have x:=FmV.mono C.tups hu;have DP:(o.take (i+1)).foldl dg []=dg ((o.take i).foldl dg []) t:=by rw[take_snoc et,xF];rfl
  rw[DP];generalize (o.take i).foldl dg []=F at p;have a6:i<900:=by have:=W.1;lia
  refine⟨r,_,U,SqT.of a4,U,_,_,U,_,_,U,_,_,U,U,?_⟩
  have put:dg F t=F++[t]->∀b,g b=Mx->au H (upd (upd g b (.tup [.int t.1,.int t.2.1,u])) l (.lst (c++[.ref b])))/\∃(v:List V)(N M J:Option V),upd (upd g b (.tup [.int t.1,.int t.2.1,u])) l (.lst (c++[.ref b])) l=Mw (.lst v) /\
    FmL (FmV A (upd (upd g b (.tup [.int t.1,.int t.2.1,u])) l (.lst (c++[.ref b]))) n) (upd (upd g b (.tup [.int t.1,.int t.2.1,u])) l (.lst (c++[.ref b]))) (dg F t) v/\v.length<=i+1/\[Mw (V.ref a),Mw (V.ref l),Mw (V.int t.1),Mw (V.int t.2.1),Mw u]=[Mw (.ref a),Mw (.ref l),N,M,J]:=λI b j=>by
   have D:upd g b (.tup [.int t.1,.int t.2.1,u]) l=Mw (.lst c):=cU m j;have k:bM g (upd (upd g b (.tup [.int t.1,.int t.2.1,u])) l (.lst (c++[.ref b]))):=(iY j).trans (aQ D);refine⟨(C.trans (ag j _)).upd B,c++[.ref b],_,_,_,ab,?_,by rw[dt,gy];lia,U⟩;rw[I];exact(p.mono (λ_ _ q=>FmV.mono k q) k).snoc (aQ D _ _ ab) (FmV.mono k x)
  refine⟨_,U,!c.isEmpty,.inl ⟨c,SqL.of m,U⟩,?_⟩;rcases xh F with X|⟨Z,lt,X⟩
  .subst X;have a0:c=[]:=List.eq_nil_of_length_eq_zero p.1;have eE:(!c.isEmpty)=false:=by rw[a0];rfl
   rw[eE];refine bB (bB ?_);refine⟨_,U,.inl ⟨U,_,SqL.of m⟩,_,U,_,U,_,U,(by show 3<=Ju;decide),λb j=>?_⟩;refine⟨l,c,_,U,U,cU m j,ay (by lia),?_⟩;exact put U b j
  .rw[xi]at X;subst X;obtain⟨G,T,ul,rfl,hy,R,a2⟩:=p.init;have eE:(!(G++[V.ref T]).isEmpty)=true:=by cases G <;> rfl
   rw[eE];refine d8 ?_;refine⟨_,U,_,U,l,_,_,_,U,U,SqL.of m,km _ _,T,_,_,_,U,U,SqT.of R,U,_,U,λa3=>FmV.eq_to (by lia) a2 x ?_ a3⟩;refine⟨_,U,?_⟩;refine bD (λd=>?_) (λd=>?_)
   .have d':lt.2.2=t.2.2:=js d;have I:dg (Z++[lt]) t=Z++[(lt.1,t.2.1,t.2.2)]:=by
     unfold dg;rw[List.getLast?_concat];simp only;rw[ME d',List.dropLast_concat]
    refine⟨_,U,_,U,l,_,_,_,U,U,SqL.of m,km _ _,T,_,_,_,U,U,SqT.of R,U,_,U,_,U,(by show 3<=Ju;decide),λb j=>?_⟩;have D:upd g b (.tup [.int lt.1,.int t.2.1,u]) l=Mw (.lst (G++[.ref T])):=cU m j;refine⟨_,U,_,U,l,_,_,_,U,U,D,iC (by simp),?_⟩;rw[rV];have k:bM g (upd (upd g b (.tup [.int lt.1,.int t.2.1,u])) l (.lst (G++[.ref b]))):=(iY j).trans (aQ D);refine⟨(C.trans (ag j _)).upd B,G++[.ref b],_,_,_,ab,?_,by rw[dt,gy]at O⊢;lia,U⟩;rw[I];exact(hy.mono (λ_ _ q=>FmV.mono k q) k).snoc (t:=(lt.1,t.2.1,t.2.2)) (aQ D _ _ ab) (FmV.mono k x)
   .have d':lt.2.2≠t.2.2:=lT d;have I:dg (Z++[lt]) t=Z++[lt]++[t]:=by
     unfold dg;rw[List.getLast?_concat];simp only;rw[MD d']
    refine⟨_,U,.inl ⟨U,_,SqL.of m⟩,_,U,_,U,_,U,(by show 3<=Ju;decide),λb j=>?_⟩;refine⟨l,_,_,U,U,cU m j,ay (by lia),?_⟩;exact put I b j
 .obtain⟨C,c,N,M,J,m,p,O,rfl⟩:=h;have a1:FmL (FmV A g n) g (eN o) c:=by
   have e:o.take xs.length=o:=by rw[W.1];exact hE
   rw[e]at p;exact p
  refine⟨_,U,l,c,U,.inl ⟨SqL.of m,λb j=>?_⟩⟩;have st:=ag j (.tup c);exact q b _ (C.trans st) ⟨b,c,U,ab,a1.mono (λ_ _ z=>FmV.mono st.tups z) st.tups⟩
theorem FH(F:Fun K "gathered" "gathered" Y44 f fd) (bl:Bl K mg Y)  : aK P w K mg base CX0 1 f fd ["lists"] (iD K Y):=by
 refine F.okA Z44 λa1 A C s H vs Q E I h=>?_
 obtain⟨a,as,b,L,rfl,M,g,O,X,R,q⟩:=h
 refine⟨_,(aj (aJ (i:=1) Z44.nd U (Or.inl U) (aS ae))
  (aj (bc JZ.never U (aW (pv 0)) (aE (i:=2) Z44.nd U (Or.inl U))
  (ai (aZ (eU PySem.F.plainAttrs_list PySem.F.slot_list_extend PySem.F.type_list_extend vM (pv 1) (aa (pv 2) ae)))))
  (ai (aw (ao (gh (w:=w) U U) U bl.sorted_ PyProof.Rows.boot_sorted (aa (bF (pN (w:=w) U U) U bl.set_ PyProof.Rows.boot_set (aa (pv 1) ae)) ae)))))),?_⟩
 dsimp only[cR,Cx.nox,Cx.wish];show(let S:TS:=_;let T:TS:=aU _ S;aU _ T _ _ _);intro _ _;refine⟨(by show 0<=Ju;decide),λd m=>?_⟩;have t:au H (upd H d (.lst [])):=ag m _;have N:upd H d (.lst []) d=Mw (.lst [] ):=ab;generalize upd H d (.lst [])=H0 at t N⊢;have G:∀(A:List (List Int))(x:List Int),(A++[x]).flatten=A.flatten++x:=λA x=>by rw[List.flatten_append];simp
 refine⟨_,U,a,U,⟨_,SqL.of (t _ _ M)⟩,bL (xs:=as.map V.ref) (λi p k=>au H k/\k d=Mw (.lst ((b.take i).flatten.map V.int))/\∃v:Option V,p=[Mw (.ref a),Mw (.ref d),v]) ⟨t,N,_,U⟩ (λi p k _ h=>SqL.of (h.1 _ _ M)) (λi y p k e h=>?_) (λp k h=>?_)⟩
 .obtain⟨j,c,v,rfl⟩:=h;obtain⟨r,rfl,J⟩:=yH e;obtain⟨xs,u⟩:∃xs,b[i]?=Mw xs:=⟨_,IV (by rw[←g.1];exact(IW.mp J).1)⟩;obtain⟨r',o,I⟩:=g.2 i xs u;rw[J]at o;cases o;have a0:(b.take i).flatten.length+xs.length<=1000:=by
   have h0:b.flatten=(b.take (i+1)).flatten++(b.drop (i+1)).flatten:=by rw[←List.flatten_append,List.take_append_drop]
   have Z:((b.take (i+1)).flatten).length<=b.flatten.length:=by rw[h0,dt];lia
   rw[take_snoc u,G,dt]at Z;lia
  refine⟨_,U,.inl ⟨U,_,SqL.of c⟩,_,U,d,r,_,_,U,U,c,j _ _ I,BA (ay (by rw[bx,bx];lia)),j.upd m,?_,_,U⟩;rw[ab,take_snoc u,G,gI]
 .obtain⟨j,c,v,rfl⟩:=h;rw[bx,g.1,hE]at c;refine⟨_,U,d,b.flatten,U,SqL.of c,(by lia),λl B=>?_⟩;have D:=ag B (ug w l b.flatten);refine⟨l,b.flatten,L,U,ab,X,R,λD2 cs n W z=>?_⟩;exact q D2 cs _ ((j.trans D).trans (ag n _)) (j.free (D.free n)) ab W z
theorem FI(F:Fun K "refuse_counts" "refuse_counts" Y80 f fd) (bl:Bl K mg Y)  : aK P w K mg base CX0 1 f fd ["names","rows"] (dU K Y):=by
 refine F.okA Z80 λe A a s H j Q E k h=>?_
 obtain⟨p,r,b,g,rfl,d,c,m,l,i,q⟩:=h
 refine⟨_,(aj (aN (bO (ir fD fD af (ao aq U bl.len_ Mv (aa (pv 0) ae)) (lW U bl.MOST_COLUMNS_)))
  (ai bK)
  aC)
  (ai (aN (aD kj (ao aq U bl.len_ Mv (aa (pv 1) ae)) (lW U bl.MOST_ROWS_) (aH _))
  (ai bK)
  aC))),?_⟩
 refine⟨_,U,p,_,U,.inl (d),_,_,U,U,_,U,fH (by lia) ?_⟩;refine⟨_,_,U,U,_,U,?_⟩;rw[MH (show((b.length:Nat):Int)<=4 by lia)];refine bB ?_;exact⟨_,U,r,_,U,.inl (c),_,_,U,U,_,U,cC (by lia) q⟩
theorem FJ(F:Fun K "own_row" "own_row" Y78 f fd) (bl:Bl K mg Y)  : aK P w K mg base CX0 1 f fd ["cells","code"] (jH K Y):=by
 refine F.okA Z78 λT A y s H V Q E X h=>?_
 obtain⟨S,xs,G,rfl,B,t,Z,q⟩:=h;refine⟨_,(ai (aw (aY (aa (cb (aW (pv 0)) (dC U (by decide+kernel) (by decide+kernel) (by decide+kernel) U) U (λ_ _ _ _=>bu) (λ_ _ _ _=>(bF (oI (K:=K) U) U bl.list_ PyProof.Rows.boot_list (aa (pv 0) ae)))) (aa (pv 1) ae))))),?_⟩
 refine⟨_,U,S,U,⟨_,SqL.of B⟩,cA (xs:=xs) (λD i g d=>au H d/\d D=Mw (.lst g)/\CL (Fr H D) d g (G.1.take i))
  (λD m=>⟨ag m _,ab,aF.nil⟩) (λD i g d m _ h=>SqL.of (h.1 _ _ B)) (λD i x g d m e h=>?_) (λD g d m h=>?_)⟩
 .obtain⟨k,u,p⟩:=h;obtain⟨l,W,rfl,O,M⟩:=aF.get t e;obtain⟨_,n,R,L⟩:=M.same k;have hi:i<xs.length:=(IW.mp e).1;have v:g.length<Ju:=by
   have N:=p.1;rw[iP]at N;exact ay (by lia)
  refine⟨_,U,l,_,U,.inl (SqL.of R),λo c=>?_⟩;have s2:=ag c (.lst n);have C:upd d o (.lst n) o=Mw (.lst n):=ab;have j:=s2 _ _ u;generalize upd d o (.lst n)=H2 at s2 C j⊢;have J:H o=none:=k.free c;have I:o≠D:=λz=>by rw[z,u]at c;cases c
  refine cH.mk hi j v ⟨(k.trans s2).upd m,ab,?_⟩;rw[take_snoc O];exact CL.updN (aF.snoc (p.same s2) ⟨⟨J,I⟩,n,C,L.mono s2.tups⟩) Fr.out j
 .obtain⟨k,u,p⟩:=h;rw[t.1,hE]at p;refine⟨_,U,bf,λr b=>q r _ (k.trans (ag b _)) (k.free b) ⟨D,g,ab,m,ag b _ _ _ u,?_⟩⟩;exact(p.same (ag b _)).wk λa h=>h.1
theorem FK(F:Fun K "table_bounds" "table_bounds" Y88 f fd) (bl:Bl K mg Y)  : aK P w K mg base CX0 1 f fd ["table"] (eP K Y):=by
 refine F.okA Z89 λa1 A I s H vs Q E hr h=>?_
 obtain⟨t,x,bs,W,rfl,⟨rl,dx,V,fs,xs,M,f1,S,p,o,Z,hR⟩,hb,q⟩:=h;refine⟨_,(ai (aw (cb (aW (bo (pv 0) U)) (dC U (by decide+kernel) (by decide+kernel) (by decide+kernel) U) U (λ_ _ _ _=>bu) (λ_ _ _ _=>(aY (aa (mB (K:=K) U (pv 0) U) (aa (mB (K:=K) U (pv 0) U) ae))))))),?_⟩;have G:x.length=bs.length:=o.1;refine⟨_,U,t,_,_,_,_,U,M,bl.k_Table,bl.na_Table_domains,S,V,U,⟨_,SqL.of p⟩,cA (xs:=x) (λD i j c=>au H c/\c D=Mw (.lst j)/\PL c j (bs.take i)) (λD k=>⟨ag k _,ab,.nil⟩) (λD i j c k _ h=>SqL.of (h.1 _ _ p)) (λD i y j c k e h=>?_) (λD j c k h=>?_)⟩
 .obtain⟨l,v,m⟩:=h;obtain⟨a,b,rfl,T,C,N,a0,X,J,R,O,_⟩:=aF.get o e;have hi:i<x.length:=(IW.mp e).1;have u:Cls K C/\NoAttr K C s!"low"/\NoAttr K C s!"high":=by
   rcases N with rfl|rfl
   .exact⟨bl.k_Numbers,bl.na_Numbers_low,bl.na_Numbers_high⟩
   .exact⟨bl.k_Words,bl.na_Words_low,bl.na_Words_high⟩
  refine⟨_,U,a,_,_,_,_,U,l _ _ J,u.1,u.2.1,R,_,U,a,_,_,_,_,U,l _ _ J,u.1,u.2.2,O,bf,λg B=>?_⟩;have r:=ag B (.tup [.int b.1,.int b.2]);have L:upd c g (.tup [.int b.1,.int b.2]) g=Mw (.tup [.int b.1,.int b.2]):=ab;have d:=r _ _ v;have n:=m.mono r.tups;generalize upd c g (.tup [.int b.1,.int b.2])=H4 at r L d n⊢;have z:=m.length;rw[iP]at z;refine cH.mk hi d (ay (by lia)) ⟨(l.trans r).upd k,ab,?_⟩;rw[take_snoc T];exact(n.mono (aQ d)).snoc (aQ d _ _ L)
 .obtain⟨l,v,m⟩:=h;rw[G,hE]at m;exact q D j c l k v m
theorem FL(F:Fun K "differing_pair" "differing_pair" Y41 f fd) (bl:Bl K mg Y)  : aK P w K mg base CX0 1 f fd ["old","new"] (dJ K Y):=by
 refine F.okA Z41 λk A c s H l Q E j h=>?_
 obtain⟨a,b,x,y,rfl,i,e,q⟩:=h;refine⟨_,(ai (aw (mI (aD (xS j) (pv 0) (pv 1) (aH _)) (lW U bl.NOTHING_) (aY (aa (pv 0) (aa (pv 1) ae)))))),?_⟩;refine⟨_,U,_,U,vw (v:=x) (u:=y) i.sq e.sq ⟨_,U,?_⟩⟩;refine bD (λg=>?_) (λg=>?_)
 .refine q _ H (au.refl _) ?_;unfold dpr;rw[ME (MJ g)];rfl
 .refine⟨_,U,_,U,bf,λt d=>q _ _ (ag d _) ?_⟩;unfold dpr;rw[MD λz=>g (MH z)];have s:=ag d (.tup [.ref a,.ref b]);exact⟨t,U,a,b,ab,i.mono s.tups,e.mono s.tups⟩
theorem FN(F:Fun K "_law_cell" "_law_cell" Y52 f fd) (bl:Bl K mg Y)  : aK P w K mg base CX0 1 f fd ["script","k"] (eB K Y):=by
 refine F.okA Z52 λm A g s H n Q E o h=>?_
 obtain⟨a,b,k,rfl,j,p,q⟩:=h
 refine⟨_,(aj (aN (aD iq (pv 1) (ao aq U bl.len_ Mv (aa (pv 0) ae)) (aH _))
  (ai (aw (ax aG (pv 0) (pv 1) (λ_ _=>U))))
  aC)
  (ai (aw af))),?_⟩
 refine⟨_,U,_,U,a,_,U,.inl j,_,_,U,U,_,U,?_⟩;refine bD (λc=>?_) (λc=>?_)
 .have e:k<(((b.map V.int).length:Nat):Int):=js c;rw[bx]at e;have i:k.toNat<b.length:=by lia
  have d:cI b k=b[k.toNat]:=by unfold cI;rw[dO,IV i];rfl
  have l:atI (b.map V.int) k=Mw (.int b[k.toNat]):=by
   have z:atI (b.map V.int) ((k.toNat:Nat):Int)=Mw (.int b[k.toNat]):=aL (by rw[gg,IV i];rfl);rw[show((k.toNat:Nat):Int)=k by lia]at z;exact z
  rw[d]at q;exact⟨_,U,_,U,a,_,_,_,U,U,j,l,q⟩
 .have e:=lT c;rw[bx]at e;have d:cI b k=0:=by unfold cI;rw[dO,ot (by lia)];rfl
  rw[d]at q;exact q
theorem FO(F:Fun K "_law_numbers" "_law_numbers" Y62 f fd) (bl:Bl K mg Y)  : aK P w K mg base CX0 1 f fd ["script","start","most"] (fk K Y):=by
 refine F.okA Z62 λX A G s H Z Q E hr h=>?_
 obtain⟨a,n,rfl,J,W,q⟩:=h
 refine⟨_,(aj (aJ (i:=3) Z62.nd U (Or.inl U) (aS ae))
  (aj (bc JZ.never U (vH U bl.range_ (aa (pv 1) (aa (ao aq U bl.len_ Mv (aa (pv 0) ae)) ae))) (aE (i:=4) Z62.nd U (Or.inl U))
  (ai (aN (aD iq (ao aq U bl.len_ Mv (aa (pv 3) ae)) (pv 2) (aH _))
  (ai (aZ (eU PySem.F.plainAttrs_list PySem.F.slot_list_append PySem.F.type_list_append bq (pv 3) (aa (av aR (ax aG (pv 0) (pv 4) (λ_ _=>U)) (av ij af af)) ae))))
  (ai (kT (av aR (av bJ (av fP (ax aG (pv 3) (av aR (pv 4) (pv 2)) (λ_ _=>U)) af) (ax aG (pv 0) (pv 4) (λ_ _=>U))) (av ij af af)) (kS (pv 3) (av aR (pv 4) (pv 2)) set_list))))))
  (ai (aw (pv 3))))),?_⟩
 dsimp only[cR,Cx.nox,Cx.wish];show(let N:TS:=_;let O:TS:=aU _ N;aU _ O _ _ _);intro _ _;refine⟨(by show 0<=Ju;decide),λl v=>?_⟩;have u:au H (upd H l (.lst ([].map V.int))):=ag v _;have M:upd H l (.lst ([].map V.int)) l=Mw (.lst ([].map V.int)):=ab;have L:upd H l (.lst [])=upd H l (.lst ([].map V.int)):=rfl;rw[L];clear L;generalize upd H l (.lst ([].map V.int))=H0 at u M⊢;have j:(n.map V.int).length=n.length:=bx _;refine⟨_,U,_,U,a,_,U,.inl (u.seq J),_,_,U,⟨by decide,by decide,by rw[j];lia,by rw[j];lia⟩,bR (λi t o=>au H o/\∃(b:List Int)(B:Option V),o l=Mw (.lst (b.map V.int))/\b.length<=24/\t=[Mw (.ref a),Mw (.int 8),Mw (.int 24),Mw (.ref l),B]) ⟨u,[],_,M,Az _,U⟩ (λi t o hi y=>?_) (λt o y=>?_)⟩
 .obtain⟨m,b,B,e,k,rfl⟩:=y;rw[j]at hi;have D:8+i<n.length:=by lia
  obtain⟨c,T⟩:∃c,n[8+i]?=Mw c:=⟨_,IV D⟩;have p:atI (n.map V.int) (8+(i:Int))=Mw (.int c):=by
   have:=aL (get_map T);rw[show(((8+i:Nat)):Int)=8+(i:Int) by lia]at this;exact this
  have r:=m.seq J;have d:(b.map V.int).length=b.length:=bx _;refine⟨_,U,l,_,U,.inl (SqL.of e),_,U,_,_,U,U,_,U,?_⟩;refine bD (λg=>?_) (λg=>?_)
  .have g:((b.length:Nat):Int)<24:=by have:=MJ g;rw[d]at this;exact this
   refine⟨_,U,.inl ⟨U,_,SqL.of e⟩,_,U,_,U,a,_,_,_,U,U,r,p,_,_,U,U,⟨by decide,by decide,by decide⟩,_,_,U,U,p10 _,l,_,_,U,U,e,ay (by rw[d];lia),?_⟩;exact⟨m.upd v,b++[_],_,by rw[ab,gI];rfl,by rw[dt,gy];lia,U⟩
  .have g:24<=b.length:=by
    have:¬ (((((b.map V.int).length:Nat)):Int)<24):=λz=>g (MH z)
    rw[d]at this;lia
   have I:=Ja (8+(i:Int)) (show(24:Int)≠0 by decide);have j1:=Jb (8+(i:Int)) (show(0:Int)<24 by decide);obtain⟨x,S⟩:∃x,b[((8+(i:Int))%24).toNat]?=Mw x:=⟨_,IV (by lia)⟩;have R:atI (b.map V.int) ((8+(i:Int))%24)=Mw (.int x):=by
    have:=aL (get_map S);rw[Int.toNat_of_nonneg I]at this;exact this
   have C:ixN (b.map V.int).length ((8+(i:Int))%24)=Mw ((8+(i:Int))%24).toNat:=by
    unfold ixN;rw[ME I,ME (by rw[d];lia)]
   refine⟨_,U,_,U,_,U,_,_,U,U,(by show(0:Int)<24;decide),l,_,_,_,U,U,SqL.of e,R,_,_,U,U,.inr ⟨by decide,by decide⟩,_,U,_,U,a,_,_,_,U,U,r,p,_,_,U,U,_,_,U,U,⟨by decide,by decide,by decide⟩,_,_,U,U,p10 _,?_⟩;refine⟨_,U,_,U,_,U,_,_,U,U,(by show(0:Int)<24;decide),l,_,_,_,U,U,e,C,?_⟩;exact⟨m.upd v,b.set ((8+(i:Int))%24).toNat _,_,by rw[ab,List.map_set],by rw[zb];exact k,U⟩
 .obtain⟨m,b,B,e,k,rfl⟩:=y;exact⟨_,U,q l b o m e k⟩
theorem FP(F:Fun K "_law_points" "_law_points" Y67 f fd) (bl:Bl K mg Y)  : aK P w K mg base CX0 1 f fd ["cell","count"] (fU K Y):=by
 refine F.okA Z67 λb3 A a3 s H vs Q E hr h=>?_
 obtain⟨c,n,rfl,n1,b0,q⟩:=h
 refine⟨_,(aj (aN (aD bA (av aR (pv 0) af) af (aH _))
  (ai (aw (cb (aV U bl.range_ (aa (av bJ (pv 1) af) ae)) (dC U (by decide+kernel) (by decide+kernel) (by decide+kernel) U) U (λ_ _ _ _=>bu) (λ_ _ _ _=>(pv 0)))))
  aC)
  (aj (aJ (i:=2) Z67.nd U (Or.inl U) (av b7 (av aR (av bP (pv 0) af) af) af))
  (aP (aN (aD kj (av aR (av bP (pv 0) af) af) af (aH _))
  (ai (aJ (i:=2) Z67.nd U (Or.inl U) (av b7 (av aR (av bP (pv 0) af) (av fP af (av ij af af))) (av ij af af))))
  aC)
  (aj (aJ (i:=3) Z67.nd U (Or.inl U) (aS (aa (pv 2) ae)))
  (aj (bc JZ.never U (aV U bl.range_ (aa (pv 1) ae)) (aE (i:=4) Z67.nd U (Or.inl U))
  (aP (aJ (i:=5) Z67.nd U (Or.inl U) (av aR (av fP (av bJ (av bP (pv 0) af) (pv 4)) (av bJ (av fP af (pv 4)) af)) (ax aG (aS (aa af (aa af (aa af (aa af (aa af ae)))))) (av aR (pv 4) af) (λ_ _=>U))))
  (aP (aJ (i:=6) Z67.nd U (Or.inl U) af)
  (aP (aN (aD bA (av aR (pv 5) af) af (aH _))
  (ai (aJ (i:=6) Z67.nd U (Or.inl U) (av bJ af (av aR (pv 5) af))))
  aC)
  (aP (aN (aD bA (av aR (pv 5) af) af (aH _))
  (ai (aJ (i:=6) Z67.nd U (Or.inl U) (av bJ af (av aR (av bP (pv 0) (av bJ (pv 4) af)) (av ij af af)))))
  aC)
  (aj (aJ (i:=2) Z67.nd U (Or.inl U) (av bJ (pv 2) (pv 6)))
  (ai (aZ (eU PySem.F.plainAttrs_list PySem.F.slot_list_append PySem.F.type_list_append bq (pv 3) (aa (pv 2) ae))))))))))
  (ai (aw (pv 3)))))))),?_⟩
 dsimp only[cR,Cx.nox,Cx.wish];show(let r5:TS:=_;let r4:TS:=aU _ r5;let r3:TS:=aU _ r4;let r2:TS:=dE _ r3;let r1:TS:=aU _ r2;aU _ r1 _ _ _);intro _ _ _ _ _;refine⟨_,U,_,_,U,U,(by show(0:Int)<3;decide),U,_,U,?_⟩;refine bD (λg=>?_) (λg=>?_)
 .refine⟨_,U,_,_,U,U,_,U,(by show -(2^62)<=n+1;lia),(by show n+1<2^62;lia),bU (λD i M j=>au H j/\j D=Mw (.lst M)/\M=(cV i).map V.int) (λD I=>⟨ag I _,ab,U⟩) (λD i M j I hi B=>?_) (λD M j I B=>?_)⟩
  .obtain⟨z,N,rfl⟩:=B;refine⟨_,U,cH.mk hi N (ay (by rw[bx,cn];lia)) ⟨z.upd I,ab,?_⟩⟩;rw[rX,gI];rfl
  .obtain⟨z,N,rfl⟩:=B;rw[show(n+1).toNat=n.toNat+1 by lia]at N;exact q D _ j z I N (uy (by lia) (by lia)) (λ_=>⟨n.toNat,by lia,by lia,U⟩) (by rw[cn];lia) (λx W y T=>by have h1:=p9 W;have h2:=p9 T;lia)
 have g':c%3≠1:=iZ g;refine⟨_,U,_,_,U,U,⟨by decide,by decide⟩,_,_,U,U,(by show(0:Int)<41;decide),_,_,U,U,?_⟩;refine⟨λd j=>j=H/\∃a:Int,d=[Mw (.int c),Mw (.int n),Mw (.int a),Mx,Mx,Mx,Mx],?_,?_⟩
 .refine⟨_,U,_,_,U,U,⟨by decide,by decide⟩,_,_,U,U,(by show(0:Int)<3;decide),_,_,U,U,_,U,?_⟩;exact bD (λ_=>⟨_,U,_,_,U,U,⟨by decide,by decide⟩,_,_,U,U,⟨by decide,by decide,by decide⟩,_,_,U,U,.inl ⟨by decide,by decide⟩,_,_,U,U,Int.mul_pos (by decide) (p10 _),_,_,U,U,⟨by decide,by decide,by decide⟩,_,_,U,U,U,_,U⟩) (λ_=>⟨U,_,U⟩)
 rintro a8 C ⟨rfl,o,rfl⟩;refine⟨_,U,(by show 1<=Ju;decide),λl X=>?_⟩;have s0:au C (upd C l (.lst ([o].map V.int))):=ag X _;have e0:upd C l (.lst ([o].map V.int)) l=Mw (.lst ([o].map V.int)):=ab;have ee:upd C l (.lst [.int o])=upd C l (.lst ([o].map V.int)):=rfl;rw[ee];generalize upd C l (.lst ([o].map V.int))=H0 at s0 e0⊢;clear ee;refine⟨_,U,_,U,(by show -(2^62)<=n;lia),(by show n<2^62;lia),bR (λi R j=>au C j/\∃(r:List Int)(a:Int)(c4 c5 O:Option V),j l=Mw (.lst (r.map V.int))/\r.length=i+1/\r.Pairwise (· < ·)/\(∀p∈r,p<=a)/\(∀p∈r,a-p<=(i:Int)*10^56)/\R=[Mw (.int c),Mw (.int n),Mw (.int a),Mw (.ref l),c4,c5,O]) ⟨s0,[o],o,_,_,_,e0,U,ui _ _,(λp b=>by rw[show p=o by simpa using b];exact Int.le_refl _),(λp b=>by rw[show p=o by simpa using b];lia),U⟩ (λi R j hi B=>?_) (λR j B=>?_)⟩
 .obtain⟨z,r,a,c4,c5,O,Z,u,S,t,G,rfl⟩:=B;have IF:i<12:=by lia
  refine⟨λd H2=>au j H2/\∃pt:Int,d=[Mw (.int c),Mw (.int n),Mw (.int a),Mw (.ref l),Mw (.int (0+(i:Int))),Mw (.int pt),O],?_,?_⟩
  .refine⟨_,U,_,_,U,U,⟨by decide,by decide⟩,_,U,_,_,U,U,_,U,_,_,U,U,.inl ⟨by decide,by decide⟩,_,_,U,U,_,_,U,U,.inr ⟨by show -(2^64)<2*(0+(i:Int))+5;lia,by show 2*(0+(i:Int))+5<2^64;lia⟩,(by show 5<=Ju;decide),λp b=>?_⟩;obtain⟨v,hv,a1⟩:=Ft (k:=(0+(i:Int))%5) (Ja _ (by decide)) (Jb _ (by decide));exact⟨_,U,_,_,U,U,(by show(0:Int)<5;decide),p,_,_,_,U,U,SqL.of ab,hv,_,_,U,U,a1,ag b _,_,U⟩
  rintro a7 H2 ⟨J,pt,rfl⟩;refine⟨λd H3=>H3=H2/\d=[Mw (.int c),Mw (.int n),Mw (.int a),Mw (.ref l),Mw (.int (0+(i:Int))),Mw (.int pt),Mw (.int 1)],⟨U,U⟩,?_⟩;rintro a6 H3 ⟨rfl,rfl⟩;have t0:=Ja pt (show(50:Int)≠0 by decide);have t1:=Jb pt (show(0:Int)<50 by decide);have a9:(51:Int)<=10^56:=by decide
  refine⟨λd H4=>H4=H3/\∃m:Int,1<=m/\m<=10^56/\d=[Mw (.int c),Mw (.int n),Mw (.int a),Mw (.ref l),Mw (.int (0+(i:Int))),Mw (.int pt),Mw (.int m)],?_,?_⟩
  .refine⟨_,U,_,_,U,U,(by show(0:Int)<3;decide),U,_,U,?_⟩;exact bD (λ_=>⟨_,U,_,_,U,U,(by show(0:Int)<50;decide),_,_,U,U,U,_,by lia,by lia,U⟩) (λ_=>⟨U,1,Int.le_refl _,by lia,U⟩)
  rintro a5 H4 ⟨rfl,a0,FQ,FR,rfl⟩;refine⟨λd H5=>H5=H4/\∃m:Int,1<=m/\m<=10^56/\d=[Mw (.int c),Mw (.int n),Mw (.int a),Mw (.ref l),Mw (.int (0+(i:Int))),Mw (.int pt),Mw (.int m)],?_,?_⟩
  .refine⟨_,U,_,_,U,U,(by show(0:Int)<3;decide),U,_,U,?_⟩;refine bD (λ_=>?_) (λ_=>⟨U,a0,FQ,FR,U⟩);have u0:=Ja (c / (0+(i:Int)+4)) (Int.ne_of_gt (p10 (55:Int).toNat));have u1:=Jb (c / (0+(i:Int)+4)) (p10 (55:Int).toNat);have u2:(10:Int)^(55:Int).toNat+1<=10^56:=by decide
   exact⟨_,U,_,U,_,_,U,U,_,_,U,U,⟨by show 0<0+(i:Int)+4;lia,by show 0+(i:Int)+4<1073741824;lia⟩,_,_,U,U,⟨by decide,by decide,by decide⟩,_,_,U,U,p10 _,_,_,U,U,U,_,by lia,by lia,U⟩
  rintro a4 H5 ⟨rfl,m,b1,IG,rfl⟩;have L:=J _ _ Z;refine⟨_,U,_,U,_,_,U,U,_,U,.inl ⟨U,_,SqL.of L⟩,_,U,l,_,_,U,U,L,ay (by rw[bx];lia),?_⟩;refine⟨(z.trans J).upd X,r++[a+m],a+m,_,_,_,?_,by simp[u],?_,λp b=>?_,λp b=>?_,U⟩
  .rw[ab,gI];rfl
  .rw[qd];refine⟨S,ui _ _,λp b p' a2=>?_⟩;rw[show p'=a+m by simpa using a2];have:=t p b;lia
  .rcases ik.mp b with b|b
   .have:=t p b;lia
   .rw[show p=a+m by simpa using b];exact Int.le_refl _
  .rcases ik.mp b with b|b
   .have:=G p b;rw[Int.natCast_succ,Int.add_mul];lia
   .rw[show p=a+m by simpa using b];lia
 .obtain⟨z,r,a,c4,c5,O,Z,u,S,t,G,rfl⟩:=B;exact⟨_,U,q l r j z X Z ⟨by lia,by lia,S⟩ (λe=>MG e g') (by lia) (λx W y T=>by have h1:=t y T;have h2:=G x W;have h3:((n.toNat:Nat):Int)*10^56<=12*10^56:=Int.mul_le_mul_of_nonneg_right (by lia) (by decide);lia)⟩
theorem FT(F:Fun K "_law_word" "_law_word" Y74 f fd) (bl:Bl K mg Y)  : aK P w K mg base CX0 1 f fd ["cell","k"] (eF K Y):=by
 refine F.okA Z74 λC A d s H D Q E G h=>?_
 obtain⟨c,k,rfl,p,o,q⟩:=h
 refine⟨_,(aP (aJ (i:=2) Z74.nd U (Or.inl U) (av jB (ax tM aX (av aR (pv 0) af) (λ_ _=>U)) (ax tM aX (av aR (av bP (pv 0) af) af) (λ_ _=>U))))
  (aj (aJ (i:=3) Z74.nd U (Or.inl U) (av aR (av bP (pv 0) af) af))
  (ai (aw (av jB (av jB (cG xR (pv 2) dk (dn (pv 3))) (ax tM aX (pv 1) (λ_ _=>U))) (cG xR (pv 2) (dn (pv 3)) dk)))))),?_⟩
 show(let m:TS:=_;let n:TS:=aU _ m;dE _ n _ _ _);intro _ _;have v:=Ja c (show(8:Int)≠0 by decide);have u:=Jb c (show(0:Int)<8 by decide);have t:=Ja (c / 8) (show(2:Int)≠0 by decide);have r:=Jb (c / 8) (show(0:Int)<2 by decide);have j:=Ja (c / 16) (show(3:Int)≠0 by decide);have g:=Jb (c / 16) (show(0:Int)<3 by decide);have a:∀x:Nat,(⟨#[x]⟩:Str).length=1:=λ_=>U
 refine⟨λb y=>y=H/\b=[Mw (.int c),Mw (.int k),Mw (.str ⟨#[113+(c%8).toNat,121+(c / 8%2).toNat]⟩),Mx],?_,?_⟩
 .refine⟨_,U,_,_,U,U,(by show(0:Int)<8;decide),_,_,_,U,U,(by decide),qx8 v u,_,U,_,_,U,U,⟨by decide,by decide⟩,_,_,U,U,(by show(0:Int)<2;decide),_,_,_,U,U,(by decide),yz2 t r,_,_,U,U,big (by rw[a,a];decide),U,U⟩
 rintro z I ⟨rfl,rfl⟩;refine⟨_,U,_,_,U,U,⟨by decide,by decide⟩,_,_,U,U,(by show(0:Int)<3;decide),?_⟩;have l:(⟨#[113+(c%8).toNat,121+(c / 8%2).toNat]⟩:Str).length=2:=rfl;refine⟨_,U,_,U,_,U,_,U,(by rw[l];decide),?_⟩;rw[DC _ _ j g];refine⟨_,U,_,_,_,U,U,(by decide),Ad DE p o,_,_,U,U,big (by rw[a];simp[Str.length];lia),_,U,_,U,_,U,_,U,(by rw[l];decide),?_⟩;rw[DD _ _ j g];have e:∀(A B:List Nat)(x:Nat),(⟨A.toArray⟩:Str)++(⟨#[x]⟩:Str)++(⟨B.toArray⟩:Str)=⟨(A++([x]++B)).toArray⟩:=λA B x=>by
  show Str.append (Str.append _ _) _=_;unfold Str.append;simp
 refine⟨_,_,U,U,big (by rw[len_app,a];simp[Str.length];lia),?_⟩;rw[e];exact q
theorem FU(F:Fun K "_law_outs" "_law_outs" Y65 f fd) (bl:Bl K mg Y)  : aK P w K mg base CX0 1 f fd ["cell"] (iE K Y):=by
 refine F.okA Z65 λX A r s H Z Q E hr h=>?_
 obtain⟨c,rfl,q⟩:=h
 refine⟨_,(aj (aN (aD bA (av aR (pv 0) af) af (aH _))
  (ai (aw (aS (aa af (aa af (aa af (aa af (aa af ae))))))))
  aC)
  (aP (aJ (i:=1) Z65.nd U (Or.inr U) (av bJ af (av aR (av bP (pv 0) af) af)))
  (aP (aN (aD bA (av aR (av bP (pv 0) af) af) af (aH _))
  (ai (aJ (i:=1) Z65.nd U (Or.inr U) (av bJ af (av aR (av bP (pv 0) af) (av ij af af)))))
  aC)
  (aP (aJ (i:=2) Z65.nd U (Or.inr U) (av fP (jn fQ af) (pv 1)))
  (aP (aN (aD bA (av aR (av bP (pv 0) af) af) af (aH _))
  (ai (aJ (i:=2) Z65.nd U (Or.inr U) (av b7 (av aR (pv 0) (av fP af (av ij af af))) (av ij af af))))
  aC)
  (ai (aw (cb (aV U bl.range_ (aa af ae)) (bg (N:=["k","gap","low"]) (fr:=[1,2]) (cl:=[("low",s.heap.objs.size+1+1),("gap",s.heap.objs.size+1)]) U U (by decide+kernel) (by decide+kernel) U (by decide+kernel) U U U (hZ.mpr ⟨U,hZ.mpr ⟨U,jg _⟩⟩) U) U (λ_ _ _ _=>bu) (λ_ _ _ _=>(av bJ (pv 2) (av fP (pv 0) (pv 1)))))))))))),?_⟩
 show(let t:TS:=_;let u:TS:=dE _ t;let v:TS:=dE _ u;let x:TS:=dE _ v;let y:TS:=dE _ x;aU _ y _ _ _);intro _ _ _ _ _;refine⟨_,U,_,_,U,U,(by show(0:Int)<3;decide),U,_,U,?_⟩;refine bD (λg=>?_) (λg=>?_)
 .exact⟨(by show 5<=Ju;decide),λl z=>q l [0,1,2,3,4] _ (ag z _) ab ⟨0,1,2,3,4,U,by decide,by decide,by decide,by decide,λ_=>⟨U,U⟩⟩⟩
 have B:c%3≠1:=iZ g;have u0:=Ja (c / 3) (show(3:Int)≠0 by decide);have u1:=Ja (c / 18) (Int.ne_of_gt (p10 (56:Int).toNat));refine⟨λa d=>d=H/\a=[Mw (.int c),Mw (.int (1+c / 3%3)),Mx],⟨_,U,_,_,U,U,⟨by decide,by decide⟩,_,_,U,U,(by show(0:Int)<3;decide),_,_,U,U,U,U⟩,?_⟩;rintro R J ⟨rfl,rfl⟩;refine⟨λa d=>d=J/\∃b:Int,1<=b/\a=[Mw (.int c),Mw (.int b),Mx],?_,?_⟩
 .refine⟨_,U,_,_,U,U,⟨by decide,by decide⟩,_,_,U,U,(by show(0:Int)<2;decide),U,_,U,?_⟩;exact bD (λ_=>⟨_,U,_,_,U,U,⟨by decide,by decide⟩,_,_,U,U,⟨by decide,by decide,by decide⟩,_,_,U,U,p10 _,_,_,U,U,U,_,by lia,U⟩) (λ_=>⟨U,_,by lia,U⟩)
 rintro O I ⟨rfl,b,W,rfl⟩;refine⟨λa d=>d=I/\∃lo:Int,a=[Mw (.int c),Mw (.int b),Mw (.int lo)],⟨_,U,_,U,_,_,U,U,.inl ⟨by decide,by decide⟩,U,_,U⟩,?_⟩;rintro M G ⟨rfl,S,rfl⟩;refine⟨λa d=>d=G/\∃lo:Int,a=[Mw (.int c),Mw (.int b),Mw (.int lo)],?_,?_⟩
 .refine⟨_,U,_,_,U,U,⟨by decide,by decide⟩,_,_,U,U,(by show(0:Int)<4;decide),U,_,U,?_⟩;exact bD (λ_=>⟨_,U,_,_,U,U,⟨by decide,by decide,by decide⟩,_,_,U,U,.inl ⟨by decide,by decide⟩,_,_,U,U,Int.mul_pos (by decide) (p10 _),_,_,U,U,⟨by decide,by decide,by decide⟩,_,_,U,U,U,_,U⟩) (λ_=>⟨U,_,U⟩)
 rintro L C ⟨rfl,lo,rfl⟩;refine⟨_,U,(by decide),(by decide),bU (λD i k d=>au C d/\d D=Mw (.lst k)/\k=((List.range i).map λj:Nat=>lo+(0+(j:Int))*b).map V.int) (λD m=>⟨ag m _,ab,U⟩) (λD i k d m hi o=>?_) (λD k d m o=>?_)⟩
 .obtain⟨n,p,rfl⟩:=o;have T:i<5:=hi;refine⟨_,U,_,U,_,U,_,_,U,U,.inl ⟨by show -(2^64)<0+(i:Int);lia,by show 0+(i:Int)<2^64;lia⟩,_,_,U,U,cH.mk hi p (ay (by simp;lia)) ⟨n.upd m,ab,?_⟩⟩;rw[ll,gI,gI];rfl
 .obtain⟨n,p,rfl⟩:=o;refine q D _ d n p ⟨_,_,_,_,_,U,?_,?_,?_,?_,λe=>MG e B⟩
  .show lo+(0+0)*b<=lo+(0+1)*b;lia
  .show lo+(0+1)*b<=lo+(0+2)*b;lia
  .show lo+(0+2)*b<=lo+(0+3)*b;lia
  .show lo+(0+3)*b<=lo+(0+4)*b;lia
theorem FV(F:Fun K "_law_way" "_law_way" Y72 f fd) (bl:Bl K mg Y)  : aK P w K mg base CX0 1 f fd ["cell","words"] (jI K Y):=by
 refine F.okA Z72 λn A m s H o Q E r h=>?_
 obtain⟨c,b,rfl,q⟩:=h
 refine⟨_,(aj (aN (bI (pv 1))
  (ai (aw (ax aG (aS (aa aX (aa aX (aa aX (aa aX (aa aX ae)))))) (av aR (pv 0) af) (λ_ _=>U))))
  aC)
  (ai (aw (ax aG (aS (aa aX (aa aX (aa aX (aa aX (aa aX (aa aX ae))))))) (av aR (pv 0) af) (λ_ _=>U))))),?_⟩
 refine⟨_,U,_,U,?_⟩;cases b with
 |true =>
  refine d8 ⟨(by show 5<=Ju;decide),λp j=>?_⟩;obtain⟨d,g,i,a,l⟩:=Fs (k:=c%5) (Ja _ (by decide)) (Jb _ (by decide));exact⟨_,U,_,_,U,U,(by show(0:Int)<5;decide),p,_,_,_,U,U,SqL.of ab,i,q d g _ (ag j _) a λ_=>l⟩
 |false =>
  refine bB ⟨(by show 6<=Ju;decide),λp j=>?_⟩;obtain⟨d,g,i,a⟩:=Fv (k:=c%6) (Ja _ (by decide)) (Jb _ (by decide));exact⟨_,U,_,_,U,U,(by show(0:Int)<6;decide),p,_,_,_,U,U,SqL.of ab,i,q d g _ (ag j _) a λe=>by cases e⟩
theorem FW(F:Fun K "_law_row" "_law_row" Y68 f fd) (bl:Bl K mg Y)  : aK P w K mg base CX0 1 f fd ["cell","points","outs"] (gW K Y):=by
 refine F.okA Z68 λc1 A a9 s H vs Q E hr h=>?_
 obtain⟨c,z,C,T,t,os,oc,rfl,O,M,h4,a3,a8,a6,q⟩:=h
 refine⟨_,(aj (aJ (i:=3) Z68.nd U (Or.inl U) (aS ae))
  (aP (bc JZ.never U (aV U bl.range_ (aa (ao aq U bl.len_ Mv (aa (pv 1) ae)) ae)) (aE (i:=4) Z68.nd U (Or.inl U))
  (aP (aJ (i:=5) Z68.nd U (Or.inl U) (av b7 (ao aq U bl.len_ Mv (aa (ax aG (pv 1) (pv 4) (λ_ _=>U)) ae)) af))
  (aP (aJ (i:=6) Z68.nd U (Or.inl U) (av aR (av fP (pv 0) (ax aG (aS (aa af (aa af (aa af (aa af ae))))) (pv 4) (λ_ _=>U))) (ax aG (aS (aa af (aa af (aa af (aa af ae))))) (pv 4) (λ_ _=>U))))
  (ai (aN (aD bA (av aR (pv 6) af) af (aH _))
  (ai (aZ (eU PySem.F.plainAttrs_list PySem.F.slot_list_append PySem.F.type_list_append bq (pv 3) (aa (av b7 (av qi af (pv 5)) af) ae))))
  (ai (aZ (eU PySem.F.plainAttrs_list PySem.F.slot_list_append PySem.F.type_list_append bq (pv 3) (aa (av aR (av bP (pv 6) af) (av qi af (pv 5))) ae)))))))))
  (ai (aw (aY (aa (pv 3) (aa (ax aG (pv 2) (av aR (av aR (av fP (pv 0) af) af) af) (λ_ _=>U)) ae))))))),?_⟩
 dsimp only[cR,Cx.nox,Cx.wish];show(let r2:TS:=_;let r1:TS:=dE _ r2;aU _ r1 _ _ _);intro _ _;have b4:T.length=t.length:=M.1;refine⟨(by show 0<=Ju;decide),λl hl=>?_⟩;have s0:au H (upd H l (.lst ([].map V.int))):=ag hl _;have e0:upd H l (.lst ([].map V.int)) l=Mw (.lst ([].map V.int)):=ab;have ee:upd H l (.lst [])=upd H l (.lst ([].map V.int)):=rfl;rw[ee];generalize upd H l (.lst ([].map V.int))=H0 at s0 e0⊢;clear ee;refine⟨λd B=>au H B/\∃(a:List Int)(o n m:Option V),B l=Mw (.lst (a.map V.int))/\a.length=t.length/\(∀x∈a,0<=x)/\d=[Mw (.int c),Mw (.ref z),Mw (.ref C),Mw (.ref l),o,n,m],?_,?_⟩
 .refine⟨_,U,z,_,U,.inl (SqL.of (s0 _ _ O)),_,U,(by show -(2^62)<=((T.length:Nat):Int);lia),(by show((T.length:Nat):Int)<2^62;lia),bR (λi S B=>au H B/\∃(a:List Int)(o n m:Option V),B l=Mw (.lst (a.map V.int))/\a.length=i/\(∀x∈a,0<=x)/\S=[Mw (.int c),Mw (.ref z),Mw (.ref C),Mw (.ref l),o,n,m]) ⟨s0,[],_,_,_,e0,U,(λx h=>by cases h),U⟩ (λi S B hi hh=>?_) (λS B hh=>?_)⟩
  .obtain⟨G,a,o,n,m,L,b,g,rfl⟩:=hh;have a7:i<t.length:=by lia
   have b6:i<4:=by lia
   obtain⟨j,N⟩:∃j,t[i]?=Mw j:=⟨_,IV a7⟩;obtain⟨r,er,e⟩:=M.2 i j N;have hp:=a3 j (IX N);have h2:=hp.two;have c0:=hp.few;have a2:=G _ _ e;refine⟨λd H2=>H2=B/\d=[Mw (.int c),Mw (.ref z),Mw (.ref C),Mw (.ref l),Mw (.int (0+(i:Int))),Mw (.int ((j.length:Int)-1)),m],?_,?_⟩
   .refine⟨_,U,_,U,z,_,_,_,U,U,SqL.of (G _ _ O),oN er,r,_,U,.inl (SqL.of a2),_,_,U,U,U,?_⟩;rw[bx];rfl
   rintro b3 H2 ⟨rfl,rfl⟩;have k4:(0:Int)<=0+(i:Int)/\0+(i:Int)<4:=by lia
   refine⟨λd R=>au H2 R/\∃mx:Int,d=[Mw (.int c),Mw (.ref z),Mw (.ref C),Mw (.ref l),Mw (.int (0+(i:Int))),Mw (.int ((j.length:Int)-1)),Mw (.int mx)],?_,?_⟩
   .refine⟨_,U,(by show 4<=Ju;decide),λp a4=>?_⟩;have u1:=ag a4 (.lst [.int 48271,.int 69621,.int 16807,.int 39373]);obtain⟨v,J,b5,a0⟩:∃v:Int,atI [V.int 48271,.int 69621,.int 16807,.int 39373] (0+(i:Int))=Mw (.int v)/\0<v/\v<2^64:=by
     generalize 0+(i:Int)=k at k4⊢;have:k=0\/k=1\/k=2\/k=3:=by lia
     rcases this with rfl|rfl|rfl|rfl
     .exact⟨_,U,by decide,by decide⟩
     .exact⟨_,U,by decide,by decide⟩
     .exact⟨_,U,by decide,by decide⟩
     .exact⟨_,U,by decide,by decide⟩
    obtain⟨v',a1,FX⟩:∃v:Int,atI [V.int 1000003,.int 1000033,.int 1000037,.int 1000039] (0+(i:Int))=Mw (.int v)/\0<v:=by
     generalize 0+(i:Int)=k at k4⊢;have:k=0\/k=1\/k=2\/k=3:=by lia
     rcases this with rfl|rfl|rfl|rfl
     .exact⟨_,U,by decide⟩
     .exact⟨_,U,by decide⟩
     .exact⟨_,U,by decide⟩
     .exact⟨_,U,by decide⟩
    refine⟨_,U,p,_,_,_,U,U,SqL.of ab,J,_,_,U,U,.inr ⟨by lia,a0⟩,(by show 4<=Ju;decide),λp2 a5=>?_⟩;exact⟨_,U,p2,_,_,_,U,U,SqL.of ab,a1,_,_,U,U,FX,u1.trans (ag a5 _),_,U⟩
   rintro b1 R ⟨s3,mx,rfl⟩;have y:=s3 _ _ L;have u:(0:Int)<=(j.length:Int)-1/\(j.length:Int)-1<=1000000:=by lia
   have pw:(0:Int)<1*2^((j.length:Int)-1).toNat:=by
    rw[Jd];exact Je (by decide)
   have put:∀v:Int,0<=v->au H (upd R l (.lst (a.map V.int++[.int v])))/\∃(D:List Int)(o n m:Option V),upd R l (.lst (a.map V.int++[.int v])) l=Mw (.lst (D.map V.int))/\D.length=i+1/\(∀x∈D,0<=x)/\([Mw (.int c),Mw (.ref z),Mw (.ref C),Mw (.ref l),Mw (.int (0+(i:Int))),Mw (.int ((j.length:Int)-1)),Mw (.int mx)]:St)=[Mw (.int c),Mw (.ref z),Mw (.ref C),Mw (.ref l),o,n,m]:=λv J =>
    ⟨(G.trans s3).upd hl,a++[v],_,_,_,by rw[ab,gI];rfl,by simp[b],(λx I=>by rcases ik.mp I with I|I;exact g x I;rw[iv.mp I];exact J),U⟩
   refine⟨_,U,_,_,U,U,(by show(0:Int)<5;decide),U,_,U,?_⟩;refine bD (λ_=>?_) (λ_=>?_)
   .exact⟨_,U,.inl ⟨U,_,SqL.of y⟩,_,U,_,_,U,U,⟨u.1,u.2,by decide⟩,_,_,U,U,l,_,_,U,U,y,ay (by rw[bx];lia),put _ (Int.le_sub_one_of_lt pw)⟩
   .exact⟨_,U,.inl ⟨U,_,SqL.of y⟩,_,U,_,_,U,U,⟨by decide,by decide⟩,_,U,_,_,U,U,⟨u.1,u.2,by decide⟩,_,_,U,U,pw,l,_,_,U,U,y,ay (by rw[bx];lia),put _ (Ja _ (Int.ne_of_gt pw))⟩
  .obtain⟨G,a,o,n,m,L,b,g,rfl⟩:=hh;exact⟨G,a,o,n,m,L,by lia,g,U⟩
 rintro b0 H9 ⟨s9,a,o,n,m,L,b,g,rfl⟩;obtain⟨x0,x1,Z,X,W,rfl,_⟩:=a6;obtain⟨v,J,hm⟩:∃v:Int,atI ([x0,x1,Z,X,W].map V.int) (c*40014%1000081%5)=Mw (.int v)/\v∈[x0,x1,Z,X,W]:=by
  have h0:=Ja (c*40014%1000081) (show(5:Int)≠0 by decide);have h1:=Jb (c*40014%1000081) (show(0:Int)<5 by decide);generalize c*40014%1000081%5=k at h0 h1⊢;have:k=0\/k=1\/k=2\/k=3\/k=4:=by lia
  rcases this with rfl|rfl|rfl|rfl|rfl
  .exact⟨x0,U,by simp⟩
  .exact⟨x1,U,by simp⟩
  .exact⟨Z,U,by simp⟩
  .exact⟨X,U,by simp⟩
  .exact⟨W,U,by simp⟩
 refine⟨_,U,_,U,_,U,_,_,U,U,.inr ⟨by decide,by decide⟩,_,_,U,U,(by show(0:Int)<1000081;decide),_,_,U,U,(by show(0:Int)<5;decide),C,_,_,_,U,U,SqL.of (s9 _ _ a8),J,bf,λr e=>?_⟩;exact q r l a v _ (s9.trans (ag e _)) (s9.free e) hl ab (cU L e) b g hm
theorem FY(F:Fun K "_law_spans" "_law_spans" Y70 f fd) (bl:Bl K mg Y)  : aK P w K mg base CX0 1 f fd ["points","bits"] (gX K Y):=by
 refine F.okA Z70 λb3 A b0 s H vs Q E hr h=>?_
 obtain⟨l,j,m,rfl,el,L,a6,q⟩:=h
 refine⟨_,(aj (aJ (i:=2) Z70.nd U (Or.inl U) (aS ae))
  (aj (bc JZ.never U (aV U bl.range_ (aa (av b7 (ao aq U bl.len_ Mv (aa (pv 0) ae)) af) ae)) (aE (i:=3) Z70.nd U (Or.inl U))
  (ai (aN (aD bA (av tF (av tE (pv 1) (pv 3)) af) af (aH _))
  (ai (aN (PW.pt (gF (aD kj (ao aq U bl.len_ Mv (aa (pv 2) ae)) af (aH _)) (eV (aD bA (ax aO (ax aG (pv 2) (jn fQ af) (λ_ _=>U)) af (λ_ _=>U)) (av b7 (ax aG (pv 0) (pv 3) (λ_ _=>U)) af) (aH _)))))
  (ai (kT (aY (aa (ax aO (ax aG (pv 2) (jn fQ af) (λ_ _=>U)) af (λ_ _=>U)) (aa (av b7 (ax aG (pv 0) (av bJ (pv 3) af) (λ_ _=>U)) af) ae))) (kS (pv 2) (jn fQ af) set_list)))
  (ai (aZ (eU PySem.F.plainAttrs_list PySem.F.slot_list_append PySem.F.type_list_append bq (pv 2) (aa (aY (aa (ax aG (pv 0) (pv 3) (λ_ _=>U)) (aa (av b7 (ax aG (pv 0) (av bJ (pv 3) af) (λ_ _=>U)) af) ae))) ae))))))
  aC)))
  (ai (aw (pv 2))))),?_⟩
 dsimp only[cR,Cx.nox,Cx.wish];show(let r2:TS:=_;let r1:TS:=aU _ r2;aU _ r1 _ _ _);intro _ _;have h2:=L.two;have b1:=L.few;refine⟨(by show 0<=Ju;decide),λb B=>?_⟩;have s0:au H (upd H b (.lst [])):=ag B _;have e0:upd H b (.lst []) b=Mw (.lst []):=ab;generalize upd H b (.lst [])=H0 at s0 e0⊢;have C:(j.map V.int).length=j.length:=bx _;refine⟨_,U,l,_,U,.inl (SqL.of (s0 _ _ el)),_,_,U,U,_,U,(by rw[C];lia),(by rw[C];lia),bR (λi σ k=>au H k/\∃(d:List V)(u:Prs)(c3:Option V),k b=Mw (.lst d)/\PL k d u/\d.length<=i/\(∀p∈u,loP j<=p.1/\p.2<=hiP j)/\SpG j m i u/\σ=[Mw (.ref l),Mw (.int m),Mw (.ref b),c3]) ⟨s0,[],[],_,e0,.nil,zz _,(λp h=>by cases h),SpG.nil,U⟩ (λi σ k hi hh=>?_) (λσ k hh=>?_)⟩
 .obtain⟨N,d,u,c3,v,O,W,e,o,rfl⟩:=hh;rw[C]at hi;have a8:i+1<j.length:=by lia
  obtain⟨G,g⟩:∃x,j[i]?=Mw x:=⟨_,IV (by lia)⟩;obtain⟨y,n⟩:∃x,j[i+1]?=Mw x:=⟨_,IV a8⟩;have a4:=L.lo g;have X:=L.hi n;have T:atI (j.map V.int) (0+(i:Int))=Mw (.int G):=oN (get_map g);have S:atI (j.map V.int) (0+(i:Int)+1)=Mw (.int y):=by
   have:=oN (get_map n);rw[show(0:Int)+((i+1:Nat):Int)=0+(i:Int)+1 by lia]at this;exact this
  have D:=N _ _ el;refine⟨_,U,_,U,_,_,U,U,(by show(0:Int)<=0+(i:Int);lia),_,_,U,U,U,_,U,?_⟩;have Z:=yV a6 i;refine bD (λg0=>?_) (λg0=>⟨N,d,u,_,v,O,by lia,e,o.skip L g n (by rw[←Z];exact IY.mpr g0),U⟩);have gb:bZ m i=true:=by rw[←Z];exact g0
  refine⟨_,U,b,_,U,.inl (SqL.of v),_,_,U,U,_,U,?_⟩;refine bD (λg1=>?_) (λg1=>bB ?e1);have a2:(0:Int)<((d.length:Nat):Int):=js g1;obtain⟨M,r,a3,p,ey,eq,a9,er⟩:=O.last (by intro z;rw[z]at a2;simp at a2);have il:atI d (-1)=Mw (.ref r):=by rw[ey];exact km _ _
  refine⟨_,U,_,U,b,_,_,_,U,U,SqL.of v,il,r,_,_,_,U,U,SqT.of er,z1 _ _,_,U,_,U,l,_,_,_,U,U,SqL.of D,T,_,_,U,U,U,_,U,?_⟩;refine bD (λg2=>?_) (λg2=>?e2);have a7:p.2=G-1:=by have z:=MJ g2;injection z
  subst ey eq;refine⟨_,U,_,U,b,_,_,_,U,U,SqL.of v,km _ _,r,_,_,_,U,U,SqT.of er,z0 _ _,_,U,_,U,_,_,U,U,l,_,_,_,U,U,SqL.of D,S,_,_,U,U,bf,λt J=>?_⟩;have I:upd k t (.tup [.int p.1,.int (y-1)]) b=Mw (.lst (M++[.ref r])):=cU v J;refine⟨_,U,_,U,b,_,_,_,U,U,I,iC (by simp),?_⟩;rw[rV];have st:bM k (upd (upd k t (.tup [.int p.1,.int (y-1)])) b (.lst (M++[.ref t]))):=(iY J).trans (aQ I);refine⟨(N.trans (ag J _)).upd B,M++[.ref t],a3++[(p.1,y-1)],_,ab,(a9.mono st).snoc (aQ I _ _ ab),?_,λR a=>?_,o.join L g n gb a7,U⟩
  .rw[dt,gy]at W⊢;lia
  .rcases ik.mp a with a|a
   .exact e R (lg _ a)
   .rw[show R=(p.1,y-1) by simpa using a];exact⟨(e p (by simp)).1,X⟩
  all_goals
   have a5:∀p∈u,p.2≠G-1:=by
    first
    |exact λp_ c z=>(ik.mp (show p_∈_++[p] by rw[←eq];exact c)).elim (λc=>by rw[eq]at o;have h1:=(qd.mp o.pw).2.2 p_ c p (iv.mpr U);have h2:=o.le p (jy _ (iv.mpr U));have h3:=o.bel G g p (jy _ (iv.mpr U));lia) λc=>by rw[iv.mp c]at z;exact g2 (MH (by rw[z]))
    |exact λp_ c=>MG (show 0<d.length by rw[O.length];exact List.length_pos_of_mem c) λz=>g1 (MH (by lia))
   refine⟨_,U,.inl ⟨U,_,SqL.of v⟩,_,U,_,U,l,_,_,_,U,U,SqL.of D,T,_,U,_,U,_,_,U,U,l,_,_,_,U,U,SqL.of D,S,_,_,U,U,bf,λt J=>?_⟩;have I:upd k t (.tup [.int G,.int (y-1)]) b=Mw (.lst d):=cU v J;refine⟨b,_,_,U,U,I,ay (by lia),?_⟩;have st:bM k (upd (upd k t (.tup [.int G,.int (y-1)])) b (.lst (d++[.ref t]))):=(iY J).trans (aQ I);refine⟨(N.trans (ag J _)).upd B,d++[.ref t],u++[(G,y-1)],_,ab,(O.mono st).snoc (aQ I _ _ ab),by rw[dt,gy];lia,λR a=>?_,o.put L g n gb a5,U⟩;rcases ik.mp a with a|a
   .exact e R a
   .rw[show R=(G,y-1) by simpa using a];exact⟨a4,X⟩
 .obtain⟨N,d,u,c3,v,O,W,e,o,rfl⟩:=hh;rw[show(((j.map V.int).length:Int)-1).toNat=j.length-1 by rw[C];lia]at o;exact⟨_,U,q b u k N ⟨B,d,v,O⟩ e o⟩
theorem FZ(F:Fun K "_law_places" "_law_places" Y66 f fd) (bl:Bl K mg Y)  : aK P w K mg base CX0 1 f fd ["points"] (d7 K Y):=by
 refine F.okA Z66 λd5 A c9 s H vs Q E hr h=>?_
 obtain⟨cl,xs,m,rfl,a5,a4,hok,h4,q⟩:=h
 refine⟨_,(aj (aJ (i:=1) Z66.nd U (Or.inl U) (aS (aa (aS ae) ae)))
  (aj (bc JZ.never U (aW (pv 0)) (aE (i:=2) Z66.nd U (Or.inl U))
  (aj (aJ (i:=3) Z66.nd U (Or.inl U) (aS ae))
  (aP (bc JZ.never U (aW (pv 1)) (aE (i:=4) Z66.nd U (Or.inl U))
  (ai (bc JZ.never U (aV U bl.range_ (aa (av b7 (ao aq U bl.len_ Mv (aa (pv 2) ae)) af) ae)) (aE (i:=5) Z66.nd U (Or.inl U))
  (ai (aZ (eU PySem.F.plainAttrs_list PySem.F.slot_list_append PySem.F.type_list_append bq (pv 3) (aa (av dR (pv 4) (aS (aa (pv 5) ae))) ae)))))))
  (ai (aJ (i:=1) Z66.nd U (Or.inl U) (pv 3))))))
  (ai (aw (pv 1))))),?_⟩
 dsimp only[cR,Cx.nox,Cx.wish];show(let r2:TS:=_;let r1:TS:=aU _ r2;aU _ r1 _ _ _);intro _ _;have b5:xs.length=m.length:=a4.1;refine⟨(by show 0<=Ju;decide),λn c6=>?_⟩;have s0:=ag c6 (.lst (vN []));have e0:upd H n (.lst (vN [])) n=Mw (.lst (vN [])):=ab;have ee:upd H n (.lst [])=upd H n (.lst (vN [])):=rfl;rw[ee];clear ee;generalize upd H n (.lst (vN []))=H0 at s0 e0⊢;refine⟨(by show 1<=Ju;decide),λp0 a3=>?_⟩;have s1:=s0.trans (ag a3 (.lst [.ref n]));have e1:upd H0 p0 (.lst [.ref n]) p0=Mw (.lst [.ref n]):=ab;have a8:=ag a3 (.lst [.ref n]) _ _ e0;generalize upd H0 p0 (.lst [.ref n])=H1 at s1 e1 a8⊢;have b1:PtL NT H1 [.ref n] [[]]:=⟨U,λj p e=>by
  match j,e with
  |0,e=>cases e;exact⟨n,U,trivial,a8⟩
  |j+1,e=>simp at e⟩
 refine⟨_,U,cl,U,⟨_,SqL.of (s1 _ _ a5)⟩,bL (xs:=xs) (λi g o=>au H o/\∃(G:Js)(D:List V)(c2 c3 I t:Option V),o G=Mw (.lst D)/\PtL NT o D (cy ((gls m).take i))/\D.length<=12^i/\g=[Mw (.ref cl),Mw (.ref G),c2,c3,I,t]) ⟨s1,p0,_,_,_,_,_,e1,b1,by show 1<=12^0;decide,U⟩ (λi g o _ h=>SqL.of (h.1 _ _ a5)) (λi y g o ey hh=>?_) (λg o hh=>?_)⟩
 .obtain⟨sm,G,D,c2,c3,I,t,J,l,a2,rfl⟩:=hh;obtain⟨lc,c,rfl,ec,g1⟩:=aF.get a4 ey;have g1:=sm _ _ g1;have hi:i<m.length:=(IW.mp ec).1;have ok:=hok c (IX ec);have k6:c.length-1<=12:=by have:=ok.few;lia
  have d4:=ok.two;have IH:=ok.few;have F0:12^i<=1728:=by
   have:i<=3:=by lia
   exact zQ (Nat.pow_le_pow_right (by decide) this) (by decide)
  refine⟨(by show 0<=Ju;decide),λM hM=>?_⟩;have u1:=ag hM (.lst []);have eM:upd o M (.lst []) M=Mw (.lst []):=ab;generalize upd o M (.lst [])=H2 at u1 eM⊢;have DQ:D.length=(cy ((gls m).take i)).length:=l.1;refine⟨λb0 u=>au o u/\∃(d:List V)(I t:Option V),u M=Mw (.lst d)/\PtL (· ≠ M) u d (grow (cy ((gls m).take i)) (c.length-1))/\b0=[Mw (.ref cl),Mw (.ref G),Mw (.ref lc),Mw (.ref M),I,t],?_,?_⟩
  .refine⟨_,U,G,U,⟨_,SqL.of (u1 _ _ J)⟩,bL (xs:=D) (λa g u=>au o u/\∃(d:List V)(I t:Option V),u M=Mw (.lst d)/\PtL (· ≠ M) u d (grow ((cy ((gls m).take i)).take a) (c.length-1))/\g=[Mw (.ref cl),Mw (.ref G),Mw (.ref lc),Mw (.ref M),I,t]) ⟨u1,[],_,_,eM,aF.nil,U⟩ (λa g u _ h=>SqL.of (h.1 _ _ J)) (λa y g u T h3=>?_) (λg u h3=>?_)⟩
   .obtain⟨N,d,I,t,B,O,rfl⟩:=h3;obtain⟨r,p,rfl,ep,_,d1⟩:=aF.get (l.same N) T;have ha:a<D.length:=(IW.mp T).1;refine⟨_,U,lc,_,U,.inl (SqL.of (N _ _ g1)),_,_,U,U,_,U,(by rw[bx];lia),(by rw[bx];lia),bR (λb g C=>au o C/\∃(d:List V)(t:Option V),C M=Mw (.lst d)/\PtL (· ≠ M) C d (grow ((cy ((gls m).take i)).take a) (c.length-1)++(List.range b).map λk=>p++[k])/\g=[Mw (.ref cl),Mw (.ref G),Mw (.ref lc),Mw (.ref M),Mw (.ref r),t]) ⟨N,d,_,B,by simpa using O,U⟩ (λb g C hb S=>?_) (λg C S=>?_)⟩
    .obtain⟨t4,v,a9,L,x,rfl⟩:=S;have b6:C r=Mw (.lst (vN p)):=by
      obtain⟨r',p',c7,a6,_,c0⟩:=aF.get l T;cases c7;rw[ep]at a6;cases a6;exact t4 _ _ c0
     have d3:b<(c.length-1):=by rw[bx]at hb;lia
     have b3:v.length<=30000:=by
      have h1:=x.1;rw[dt,nH,iP,bx,lz]at h1;have h2:min a (cy ((gls m).take i)).length*(c.length-1)<=1728*12:=EB (by lia) k6;lia
     have d2:p.length<=4:=by
      have:=(lD.iff.mp (IX ep)).1;rw[iP]at this;unfold gls at this;rw[bx]at this;lia
     refine⟨_,U,.inl ⟨U,_,SqL.of L⟩,_,U,_,U,(by show 1<=Ju;decide),λX c1=>?_⟩;have Z:=ag c1 (.lst (vN [b]));have f1:upd C X (.lst (vN [b])) X=Mw (.lst (vN [b])):=ab;have ee:upd C X (.lst [V.int (0+(b:Int))])=upd C X (.lst (vN [b])):=by rw[I1];rfl
     rw[ee];clear ee;generalize upd C X (.lst (vN [b]))=H5 at Z f1⊢;refine⟨r,X,_,_,U,U,Z _ _ b6,f1,BA (ay (by rw[dz,dz];simp;lia)),λW R=>?_⟩;rw[yW];have v2:=ag R (.lst (vN (p++[b])));have f2:upd H5 W (.lst (vN (p++[b]))) W=Mw (.lst (vN (p++[b]))):=ab;have a7:=Z _ _ L;have nk:W≠M:=λz=>by rw[z,a7]at R;cases R
     generalize upd H5 W (.lst (vN (p++[b])))=H6 at v2 f2⊢;have c8:=v2 _ _ a7;refine⟨M,_,_,U,U,c8,(D0 b3 (by decide)),?_⟩;have b4:PtL (· ≠ M) H6 (v++[.ref W]) (grow ((cy ((gls m).take i)).take a) (c.length-1)++((List.range b).map λk=>p++[k])++[p++[b]]):=aF.snoc (x.same (Z.trans v2)) ⟨nk,f2⟩;refine⟨((t4.trans Z).trans v2).upd hM,v++[.ref W],_,ab,?_,U⟩;rw[ll,gI,List.map_singleton,←rF];exact b4.updN (λz=>z U)
    .obtain⟨t4,v,a9,L,x,rfl⟩:=S;refine⟨t4,v,_,_,L,?_,U⟩;rw[wI ep];rw[show(((c.map V.int).length:Int)-1).toNat=c.length-1 by rw[bx];lia]at x;exact x
   .obtain⟨N,d,I,t,B,O,rfl⟩:=h3;rw[DQ,hE]at O;exact⟨N,d,_,_,B,O,U⟩
  rintro d0 u ⟨N,d,e2,a9,B,O,rfl⟩;have el:(gls m)[i]?=Mw (c.length-1):=by unfold gls;rw[gg,ec];rfl
  have a1:=O.1;rw[nH]at a1;refine⟨_,U,sm.trans N,M,d,_,_,_,_,B,?_,?_,U⟩
  .rw[take_snoc el,gN];exact O.any
  .rw[a1,←DQ,EX];exact EB a2 k6
 .obtain⟨sm,G,D,c2,c3,I,t,J,l,a2,rfl⟩:=hh;have:(gls m).length=m.length:=by unfold gls;rw[bx]
  rw[b5,←this,hE]at l;exact⟨_,U,q G D o sm J l⟩
theorem F1(F:Fun K "_law_box" "_law_box" Y51 f fd) (bl:Bl K mg Y)  : aK P w K mg base CX0 1 f fd ["points","at"] (jJ K Y):=by
 refine F.okA Z51 λa3 A Z s H vs Q E hr h=>?_
 obtain⟨pl,k,xs,a,b,rfl,W,r,h4,O,u,q⟩:=h;refine⟨_,(ai (aw (bF jo U bl.tuple_ PyProof.Rows.boot_tuple (aa (cb (aV U bl.range_ (aa (ao aq U bl.len_ Mv (aa (pv 1) ae)) ae)) (bg (N:=["k","points","at"]) (fr:=[0,1]) (cl:=[("points",s.heap.objs.size+1),("at",s.heap.objs.size+1+1)]) U U (by decide+kernel) (by decide+kernel) U (by decide+kernel) U U U (hZ.mpr ⟨U,hZ.mpr ⟨U,jg _⟩⟩) U) U (λ_ _ _ _=>bu) (λ_ _ _ _=>(aY (aa (ax (bN (K:=K) U) (ax (bN (K:=K) U) (pv 1) (pv 0) (λ_ _=>U)) (ax (bN (K:=K) U) (pv 2) (pv 0) (λ_ _=>U)) (λ_ _=>U)) (aa (av b7 (ax (bN (K:=K) U) (ax (bN (K:=K) U) (pv 1) (pv 0) (λ_ _=>U)) (av bJ (ax (bN (K:=K) U) (pv 2) (pv 0) (λ_ _=>U)) af) (λ_ _=>U)) af) ae))))) ae)))),?_⟩;have a0:xs.length=a.length:=r.1;have hk:=lD.iff.mp O;have hl:b.length=a.length:=by rw[hk.1];unfold gls;rw[bx]
 have R:(dF a b).length=a.length:=by unfold dF;rw[jR];lia
 refine⟨_,U,k,_,U,.inl (SqL.of u),_,U,(by show -(2^62)<=(((vN b).length:Nat):Int);rw[dz];lia),(by show(((vN b).length:Nat):Int)<2^62;rw[dz];lia),bU (λD i m e=>au H e/\e D=Mw (.lst m)/\PL e m ((dF a b).take i)) (λD x=>⟨ag x _,ab,.nil⟩) (λD i m e x hi z=>?_) (λD m e x z=>?_)⟩
 .obtain⟨n,C,o⟩:=z;rw[dz]at hi;have T:i<b.length:=by lia
  have I:=IV T;have G:=IV (l:=a) (i:=i) (by lia);obtain⟨y,X,t⟩:=r.2 i _ G;have a1:atI xs (0+(i:Int))=Mw (.ref y):=by rw[I1];exact aL X
  have J:atI (vN b) (0+(i:Int))=Mw (.int (b[i]:Int)):=by rw[I1];exact aL (Bg I)
  have ha:b[i]<a[i].length-1:=hk.2 i _ _ I (by unfold gls;rw[gg,G];rfl);have B:(dF a b)[i]?=Mw (a[i].getD b[i] 0,a[i].getD (b[i]+1) 0-1):=by unfold dF;rw[kM,I,G]
  generalize a[i]=qs at t ha B;generalize b[i]=c at J ha B;have f0:=IV (l:=qs) (i:=c) (by lia);have f1:=IV (l:=qs) (i:=c+1) (by lia);have b0:atI (qs.map V.int) (c:Int)=Mw (.int (qs.getD c 0)):=by rw[dO,f0];exact aL (get_map f0)
  have b1:atI (qs.map V.int) ((c:Int)+1)=Mw (.int (qs.getD (c+1) 0)):=by
   rw[dO,f1];exact aL (j:=c+1) (get_map f1)
  have Aw:=n _ _ W;have DR:=n _ _ u;have DS:=n _ _ t;refine⟨_,U,_,U,pl,_,_,_,U,U,SqL.of Aw,a1,_,U,_,U,k,_,_,_,U,U,SqL.of DR,J,y,_,_,_,U,U,SqL.of DS,b0,_,U,_,U,pl,_,_,_,U,U,SqL.of Aw,a1,_,U,_,U,k,_,_,_,U,U,SqL.of DR,J,_,_,U,U,y,_,_,_,U,U,SqL.of DS,b1,_,_,U,U,bf,λg M=>?_⟩;have v:=ag M (.tup [.int (qs.getD c 0),.int (qs.getD (c+1) 0-1)]);have eT:upd e g (.tup [.int (qs.getD c 0),.int (qs.getD (c+1) 0-1)]) g=Mw (.tup [.int (qs.getD c 0),.int (qs.getD (c+1) 0-1)]):=ab;have d:=v _ _ C;have p:=o.mono v.tups;generalize upd e g (.tup [.int (qs.getD c 0),.int (qs.getD (c+1) 0-1)])=H4 at v eT d p⊢;have L:=o.length;rw[iP]at L;refine cH.mk (by rw[dz];lia) d (ay (by lia)) ⟨(n.trans v).upd x,ab,?_⟩;rw[take_snoc B];exact(p.mono (aQ d)).snoc (aQ d _ _ eT)
 .obtain⟨n,C,o⟩:=z;refine⟨D,_,U,.inl ⟨SqL.of C,λl S=>?_⟩⟩;have s5:=ag S (.tup m);refine q l _ (n.trans s5) ⟨m,ab,?_⟩;rw[show(((vN b).length:Nat):Int).toNat=(dF a b).length by rw[Jc,dz,hl,R],hE]at o;exact o.mono s5.tups
theorem F4(F:Fun K "_law_fitting" "_law_fitting" Y56 f fd) (bl:Bl K mg Y)  : aK P w K mg base CX0 1 f fd ["rows","at"] (fm K Y):=by
 refine F.okA Z56 λa9 A a4 s H vs Q E hr h=>?_
 obtain⟨C,D,I,c,a,rfl,z,hR,a8,B,a7,hb,q⟩:=h
 refine⟨_,(aj (aJ (i:=2) Z56.nd U (Or.inl U) (aS ae))
  (aj (bc JZ.never U (aV U bl.range_ (aa (ao aq U bl.len_ Mv (aa (pv 0) ae)) ae)) (aE (i:=3) Z56.nd U (Or.inl U))
  (aj (aJ (i:=4) Z56.nd U (Or.inl U) cP)
  (aj (bc JZ.never U (aV U bl.range_ (aa (ao aq U bl.len_ Mv (aa (pv 1) ae)) ae)) (aE (i:=5) Z56.nd U (Or.inl U))
  (ai (aN (aD bA (av tF (av tE (ax aG (ax aO (ax aG (pv 0) (pv 3) (λ_ _=>U)) af (λ_ _=>U)) (pv 5) (λ_ _=>U)) (ax aG (pv 1) (pv 5) (λ_ _=>U))) af) af (aH _))
  (ai (aJ (i:=4) Z56.nd U (Or.inl U) cP))
  aC)))
  (ai (aN (bI (pv 4))
  (ai (aZ (eU PySem.F.plainAttrs_list PySem.F.slot_list_append PySem.F.type_list_append bq (pv 2) (aa (pv 3) ae))))
  aC)))))
  (ai (aw (pv 2))))),?_⟩
 dsimp only[cR,Cx.nox,Cx.wish];show(let r2:TS:=_;let r1:TS:=aU _ r2;aU _ r1 _ _ _);intro _ _;have T:I.length=c.length:=hR.1;refine⟨(by show 0<=Ju;decide),λe t=>?_⟩;have G:=ag t (.lst (vN []));have e0:upd H e (.lst (vN [])) e=Mw (.lst (vN [])):=ab;have ee:upd H e (.lst [])=upd H e (.lst (vN [])):=rfl;rw[ee];clear ee;generalize upd H e (.lst (vN []))=H0 at G e0⊢;refine⟨_,U,C,_,U,.inl (SqL.of (G _ _ z)),_,U,(by show -(2^62)<=((I.length:Nat):Int);lia),(by show((I.length:Nat):Int)<2^62;lia),bR (λi o v=>au H v/\∃(R O x:Option V),v e=Mw (.lst (vN ((List.range i).filter λk=>nI a (c.getD k ([],0)))))/\o=[Mw (.ref C),Mw (.ref D),Mw (.ref e),R,O,x]) ⟨G,_,_,_,e0,U⟩ (λi o v hi J=>?_) (λo v J=>?_)⟩
 .obtain⟨l,R,O,x,d,rfl⟩:=J;have Z:i<c.length:=by lia
  obtain⟨b,N⟩:∃b,c[i]?=Mw b:=⟨_,IV Z⟩;have a0:c.getD i ([],0)=b:=by rw[dO,N];rfl
  obtain⟨r,er,a3,g1,g2⟩:=hR.2 i b N;obtain⟨a6,a1⟩:=hb b (IX N);have a5:((List.range i).filter λk=>nI a (c.getD k ([],0))).length<=i:=zQ (lG _ _) (by rw[lz];exact zz _);have n:((List.range (i+1)).filter λk=>nI a (c.getD k ([],0)))=((List.range i).filter λk=>nI a (c.getD k ([],0)))++(if nI a b=Mz then[i] else[]):=by
   rw[ll,md,List.filter_cons,a0];rfl
  refine⟨_,U,D,_,U,.inl (SqL.of (l _ _ B)),_,U,(by rw[dz];lia),(by rw[dz];lia),bR (λj o S=>S=v/\∃x:Option V,o=[Mw (.ref C),Mw (.ref D),Mw (.ref e),Mw (.int (0+(i:Int))),Mw (.bl ((List.range j).all λj=>bZ (b.1.getD j 0) (a.getD j 0))),x]) ⟨U,_,U⟩ (λj o S hj L=>?_) (λo S L=>?_)⟩
  .obtain⟨rfl,a2,rfl⟩:=L;rw[dz]at hj;have X:j<a.length:=by lia
   obtain⟨m,M⟩:∃m,b.1[j]?=Mw m:=⟨_,IV (by lia)⟩;obtain⟨p,ep⟩:∃p,a[j]?=Mw p:=⟨_,IV X⟩;have W:=a1 m (IX M);have e1:b.1.getD j 0=m:=by rw[dO,M];rfl
   have e2:a.getD j 0=p:=by rw[dO,ep];rfl
   have u:=nJ (λj=>bZ (b.1.getD j 0) (a.getD j 0)) j;rw[e1,e2]at u;refine⟨_,U,_,U,C,_,_,_,U,U,SqL.of (l _ _ z),oN er,r,_,_,_,U,U,SqT.of (l _ _ g1),U,_,U,a3,_,_,_,U,U,SqL.of (l _ _ g2),oN (get_map M),_,U,_,U,D,_,_,_,U,U,SqL.of (l _ _ B),oN (Bg ep),_,_,U,U,(by show(0:Int)<=(p:Int);lia),_,_,U,U,U,_,U,?_⟩;have y:=Al W p;refine bD (λg=>?_) (λg=>?_)
   .refine⟨U,Mw (.int (0+(j:Int))),?_⟩;have:bZ m p=false:=by rw[y]at g;simpa using g
    rw[u,this,Bool.and_false];rfl
   .refine⟨U,Mw (.int (0+(j:Int))),?_⟩;have:bZ m p=true:=by rw[y]at g;simpa using g
    rw[u,this,Bool.and_true];rfl
  .obtain⟨rfl,a2,rfl⟩:=L;have hg:((List.range (((vN a).length:Nat):Int).toNat).all λj=>bZ (b.1.getD j 0) (a.getD j 0))=nI a b:=by rw[dz,Jc];rfl
   rw[hg];refine⟨_,U,_,U,?_⟩;refine bD (λg=>?_) (λg=>?_)
   .rw[ME g]at n;refine⟨_,U,.inl ⟨U,_,SqL.of d⟩,_,U,e,_,_,U,U,d,ay (by rw[dz];lia),?_⟩;refine⟨l.upd t,_,_,_,?_,U⟩;rw[ab,n,←yW,I1];rfl
   .rw[MD g,jQ]at n;exact⟨l,_,_,_,by rw[n];exact d,U⟩
 .obtain⟨l,R,O,x,d,rfl⟩:=J;rw[Jc,T]at d;exact⟨_,U,q e v l t d⟩
theorem F5(F:Fun K "_law_due" "_law_due" Y54 f fd) (bl:Bl K mg Y)  : aK P w K mg base CX0 1 f fd ["codes","way","outs"] (jK K Y):=by
 refine F.okA Z54 λa3 A B s H vs Q E hr h=>?_
 obtain⟨d,C,wy,i,x,os,oc,rfl,a,k,y,u,⟨v,x1,x2,x3,o,rfl,a0,Z,X,W,_⟩,q⟩:=h
 refine⟨_,(aj (aN (aD bA (ao aq U bl.len_ Mv (aa (pv 0) ae)) af (aH _))
  (ai (aw (aY (aa aX (aa af ae)))))
  aC)
  (aj (aN (aD bA (pv 1) aX (aH _))
  (ai (aw (aY (aa aX (aa (ao (fS U) U bl.min_ PyProof.Rows.boot_min (aa (pv 0) ae)) ae)))))
  aC)
  (aj (aN (aD bA (pv 1) aX (aH _))
  (ai (aw (aY (aa aX (aa (ao (fT U) U bl.max_ PyProof.Rows.boot_max (aa (pv 0) ae)) ae)))))
  aC)
  (aj (aN (aD bA (pv 1) aX (aH _))
  (ai (aw (aY (aa aX (aa (ao (pb U) U bl.max_ PyProof.Rows.boot_max (aa (ax aG (pv 2) af (λ_ _=>U)) (aa (ao (kX U) U bl.min_ PyProof.Rows.boot_min (aa (ax aG (pv 2) af (λ_ _=>U)) (aa (ao (d6 U) U bl.sum_ PyProof.Rows.boot_sum (aa (pv 0) ae)) ae))) ae))) ae)))))
  aC)
  (aj (aN (PW.pt (gF (aD bA (pv 1) aX (aH _)) (eV (aD kj (ao aq U bl.len_ Mv (aa (pv 0) ae)) af (aH _)))))
  (ai (aw (aY (aa aX (aa af ae)))))
  aC)
  (aj (aN (PW.pt (gF (aD bA (pv 1) aX (aH _)) (eV (aD lQ (ao (fS U) U bl.min_ PyProof.Rows.boot_min (aa (pv 0) ae)) (ao (fT U) U bl.max_ PyProof.Rows.boot_max (aa (pv 0) ae)) (aH _)))))
  (ai (aw (aY (aa aX (aa af ae)))))
  aC)
  (ai (aw (aY (aa aX (aa (ax aG (pv 0) af (λ_ _=>U)) ae))))))))))),?_⟩
 dsimp only[cR,Cx.nox,Cx.wish];show(let D:TS:=_;let G:TS:=aU _ D;let I:TS:=aU _ G;let J:TS:=aU _ I;let L:TS:=aU _ J;let M:TS:=aU _ L;aU _ M _ _ _);intro _ _ _ _ _ _;have c:(x.map V.int).length=x.length:=bx _;refine⟨_,U,d,_,U,.inl (SqL.of a),U,_,U,?_⟩
 match x,a,k,q,c with
 | [],a,k,q,c =>
  exact bD (λ_=>⟨bf,λt b=>q t _ (ag b _) (by rw[ab];rfl)⟩) (λg=>MG (by exact MH U) g)
 |n :: ns,a,k,q,c =>
 refine bD (λg=>MG (MJ g) (by rw[c,iQ];intro z;injection z with z;lia)) (λ_=>?_)
 match i,y with
 |0,e =>
  cases e;refine⟨_,U,U,_,U,cC (by intro e;injection e with e;exact MG e (by decide)) ?_⟩;refine⟨_,U,U,_,U,cC (by intro e;injection e with e;exact MG e (by decide)) ?_⟩;refine⟨_,U,U,_,U,cC (by intro e;injection e with e;exact MG e (by decide)) ?_⟩;refine⟨_,U,U,_,U,cC (by intro e;injection e with e;exact MG e (by decide)) (bB ?_)⟩;refine⟨_,U,U,_,U,cC (by intro e;injection e with e;exact MG e (by decide)) (bB ?_)⟩;exact⟨_,U,d,_,_,_,U,U,SqL.of a,at0 n ns,bf,λt b=>q t _ (ag b _) (by rw[ab];show _=Mw (HO.tup (tp (yA (n :: ns))));rfl)⟩
 |1,e =>
  cases e;refine⟨_,U,U,_,U,cC (by intro e;injection e with e;exact MG e (by decide)) ?_⟩;refine⟨_,U,U,_,U,cC (by intro e;injection e with e;exact MG e (by decide)) ?_⟩;refine⟨_,U,U,_,U,cC (by intro e;injection e with e;exact MG e (by decide)) ?_⟩;refine⟨_,U,U,_,U,fH U ?_⟩;refine⟨_,U,d,_,U,.inl (SqL.of a),_,_,U,U,_,U,?_⟩;refine bD (λg=>?_) (λg=>?_)
  .have j:(n :: ns).length≠1:=λz=>by rw[c,z]at g;exact MG (MJ g) (by decide)
   refine⟨bf,λt b=>q t _ (ag b _) (by rw[ab];show _=Mw (HO.tup (tp (kA (n :: ns))));unfold kA;rw[MD j];rfl)⟩
  .have j:(n :: ns).length=1:=by
    have:¬ ((1:Int)<((((n :: ns).map V.int).length:Nat):Int)):=λz=>g (MH z)
    rw[c]at this;rw[iQ]at this⊢;lia
   refine⟨_,U,U,_,U,cC (by intro e;injection e with e;exact MG e (by decide)) (bB ?_)⟩;exact⟨_,U,d,_,_,_,U,U,SqL.of a,at0 n ns,bf,λt b=>q t _ (ag b _) (by rw[ab];show _=Mw (HO.tup (tp (kA (n :: ns))));unfold kA;rw[ME j];rfl)⟩
 |2,e =>
  cases e;refine⟨_,U,U,_,U,cC (by intro e;injection e with e;exact MG e (by decide)) ?_⟩;refine⟨_,U,U,_,U,cC (by intro e;injection e with e;exact MG e (by decide)) ?_⟩;refine⟨_,U,U,_,U,cC (by intro e;injection e with e;exact MG e (by decide)) ?_⟩;refine⟨_,U,U,_,U,cC (by intro e;injection e with e;exact MG e (by decide)) (bB ?_)⟩;refine⟨_,U,U,_,U,fH U ?_⟩;refine⟨_,U,d,_,U,SqL.of a,Dk _,λm r p=>⟨_,U,d,_,U,SqL.of a,Dk _,λm' R O=>⟨U,_,U,?_⟩⟩⟩;have T:=nv r p;have S:=ny R O;subst T S;refine bD (λg=>?_) (λg=>?_)
  .have j:least (n :: ns)≠great (n :: ns):=λz=>by rw[z]at g;simp at g
   exact⟨bf,λt b=>q t _ (ag b _) (by rw[ab];show _=Mw (HO.tup (tp (kz (n :: ns))));unfold kz;rw[MD j];rfl)⟩
  .have j:least (n :: ns)=great (n :: ns):=by
    by_cases z:least (n :: ns)=great (n :: ns)
    .exact z
    .exfalso;exact g (by simp;exact z)
   have N:least (n :: ns)=n:=by
    have a1:=fh.2 n (fw (l:=ns));have a2:=gj.2 n (fw (l:=ns));lia
   exact⟨_,U,d,_,_,_,U,U,SqL.of a,at0 n ns,bf,λt b=>q t _ (ag b _) (by rw[ab];show _=Mw (HO.tup (tp (kz (n :: ns))));unfold kz;rw[ME j,N];rfl)⟩
 |3,e =>
  cases e;refine⟨_,U,U,_,U,fH U ?_⟩;refine⟨_,U,d,_,U,SqL.of a,Dk _,λm r p=>⟨bf,λt b=>q t _ (ag b _) ?_⟩⟩;rw[ab,nv r p];rfl
 |4,e =>
  cases e;refine⟨_,U,U,_,U,cC (by intro e;injection e with e;exact MG e (by decide)) ?_⟩;refine⟨_,U,U,_,U,fH U ?_⟩;refine⟨_,U,d,_,U,SqL.of a,Dk _,λm r p=>⟨bf,λt b=>q t _ (ag b _) ?_⟩⟩;rw[ab,ny r p];rfl
 |5,e =>
  cases e;refine⟨_,U,U,_,U,cC (by intro e;injection e with e;exact MG e (by decide)) ?_⟩;refine⟨_,U,U,_,U,cC (by intro e;injection e with e;exact MG e (by decide)) ?_⟩;refine⟨_,U,U,_,U,fH U ?_⟩;refine⟨_,U,C,_,_,_,U,U,SqL.of u,U,_,U,C,_,_,_,U,U,SqL.of u,U,_,U,d,_,U,SqL.of a,_,_,U,_,_,U,?_⟩;refine⟨bf,λt b=>q t _ (ag b _) ?_⟩;rw[ab];have e:near v o (n :: ns).sum=if (if (n :: ns).sum<o then(n :: ns).sum else o)>v then(if (n :: ns).sum<o then(n :: ns).sum else o)else v:=by
   unfold near;generalize (n :: ns).sum=t;split <;> split <;> split <;> first|rfl|lia|(split <;> lia)
  show _=Mw (HO.tup (tp (say (near v o (n :: ns).sum))));rw[e];rfl
 |i+6,e=>simp[six]at e
theorem F6(F:Fun K "_law_whole" "_law_whole" Y73 f fd) (bl:Bl K mg Y)  : aK P w K mg base CX0 1 f fd ["found"] (eX K Y):=by
 refine F.okA Z73 λb A a s H c Q E d h=>?_
 obtain⟨i,rfl,q⟩:=h;refine⟨_,(ai (aw (fO (ao bG U bl.isinstance_ PyProof.Rows.boot_isinstance (aa (pv 0) (aa (dY (v:=.ty "int") U bl.int_ PyProof.Rows.boot_int U) ae))) (jz (xn (ao bG U bl.isinstance_ PyProof.Rows.boot_isinstance (aa (pv 0) (aa (dY (v:=.ty "bool") U bl.bool_ PyProof.Rows.boot_bool U) ae)))))))),?_⟩;exact⟨_,U,_,_,_,_,Mz,U,.ty _,.inl (.int _),(by first|rfl|with_unfolding_all rfl|decide+kernel),_,U,d8 ⟨_,U,_,_,_,_,MA,U,.ty _,.inl (.int _),(by first|rfl|with_unfolding_all rfl|decide+kernel),_,U,q⟩⟩
theorem F7(F:Fun K "_law_meet" "_law_meet" Y61 f fd) (bl:Bl K mg Y)  : aK P w K mg base CX0 1 f fd ["one","other"] (iF K Y):=by
 refine F.okA Z61 λa4 A D s H vs Q E hr h=>?_
 obtain⟨a,b,S,B_,rfl,⟨j,v,M⟩,⟨G,N,L⟩,hl,h6,q⟩:=h
 refine⟨_,(aj (bc JZ.never U (aV U bl.range_ (aa (ao aq U bl.len_ Mv (aa (pv 0) ae)) ae)) (aE (i:=2) Z61.nd U (Or.inl U))
  (ai (aN (PW.pt (jm (aD iq (ax aO (ax aO (pv 0) (pv 2) (λ_ _=>U)) af (λ_ _=>U)) (ax aO (ax aO (pv 1) (pv 2) (λ_ _=>U)) af (λ_ _=>U)) (aH _)) (gE (aD iq (ax aO (ax aO (pv 1) (pv 2) (λ_ _=>U)) af (λ_ _=>U)) (ax aO (ax aO (pv 0) (pv 2) (λ_ _=>U)) af (λ_ _=>U)) (aH _)))))
  (ai (aw cP))
  aC)))
  (ai (aw cP))),?_⟩
 have a3:=M.length;have a0:=L.length;refine⟨_,U,a,_,U,.inr (SqT.of v),_,U,(by show -(2^62)<=((j.length:Nat):Int);lia),(by show((j.length:Nat):Int)<2^62;lia),bR (λi n C=>C=H/\(∀k,k<i->uF S B_ k=MA)/\∃B:Option V,n=[Mw (.ref a),Mw (.ref b),B]) ⟨U,(λk m=>MG m (CQ _)),Mx,U⟩ (λi n C hi h=>?_) (λn C h=>?_)⟩
 .obtain⟨rfl,d,B,rfl⟩:=h;have e:i<S.length:=by lia
  have y:=IV (l:=j) (i:=i) (by lia);have x:=IV (l:=G) (i:=i) (by lia);obtain⟨p,t,Z,W,J⟩:=M.get y;obtain⟨r,u,X,T,I⟩:=L.get x;rw[W]at y;rw[T]at x;have o:=Cv Z X;have R:atI j (0+(i:Int))=Mw (.ref t):=by rw[I1];exact aL y
  have O:atI G (0+(i:Int))=Mw (.ref u):=by rw[I1];exact aL x
  refine⟨_,U,_,U,a,_,_,_,U,U,SqT.of v,R,t,_,_,_,U,U,SqT.of J,U,_,U,_,U,b,_,_,_,U,U,SqT.of N,O,u,_,_,_,U,U,SqT.of I,U,_,_,U,U,_,U,?_⟩;refine bD (λg=>?_) (λg=>?_)
  .have g:p.2<r.1:=MJ g;rw[zi e (by rw[o,MH g];rfl)]at q;exact q
  .have g:¬ p.2<r.1:=of_decide_eq_false (IY.mpr g);refine⟨_,U,_,U,b,_,_,_,U,U,SqT.of N,O,u,_,_,_,U,U,SqT.of I,U,_,U,_,U,a,_,_,_,U,U,SqT.of v,R,t,_,_,_,U,U,SqT.of J,U,_,_,U,U,_,U,?_⟩;refine bD (λc=>?_) (λc=>?_)
   .have c:r.2<p.1:=MJ c;rw[zi e (by rw[o,MH c,Bool.or_true])]at q;exact q
   .have c:¬ r.2<p.1:=of_decide_eq_false (IY.mpr c);refine⟨U,λk m=>?_,_,U⟩;rcases Nat.lt_succ_iff_lt_or_eq.mp m with z|z
    .exact d k z
    .rw[z,o,MI g,MI c];rfl
 .obtain⟨rfl,d,B,rfl⟩:=h;rw[Cu λk m=>d k (by lia)]at q;exact q
theorem F8(F:Fun K "_law_size" "_law_size" Y69 f fd) (bl:Bl K mg Y)  : aK P w K mg base CX0 1 f fd ["box"] (iG K Y):=by
 refine F.okA Z69 λz A k s H C Q E D h=>?_
 obtain⟨b,B,rfl,⟨xs,m,n⟩,y,v,q⟩:=h
 refine⟨_,(aj (aJ (i:=1) Z69.nd U (Or.inl U) af)
  (aj (bc JZ.never U (tq (pv 0)) (aE (i:=2) Z69.nd U (Or.inl U))
  (ai (aJ (i:=1) Z69.nd U (Or.inl U) (av zS (pv 1) (av bJ (av b7 (ax aO (pv 2) af (λ_ _=>U)) (ax aO (pv 2) af (λ_ _=>U))) af)))))
  (ai (aw (pv 1))))),?_⟩
 dsimp only[cR,Cx.nox,Cx.wish];show(let r:TS:=_;let u:TS:=aU _ r;aU _ u _ _ _);intro _ _;have j:=n.length;refine⟨_,U,b,U,⟨_,SqT.of m⟩,uT (xs:=xs) (λi a c=>c=H/\∃g:Option V,a=[Mw (.ref b),Mw (.int (vol (B.take i))),g]) ⟨U,Mx,U⟩ (λi a c _ h=>by rw[h.1];exact SqT.of m) (λi x a c e h=>?_) (λa c h=>?_)⟩
 .obtain⟨d,g,rfl⟩:=h;rw[d];obtain⟨p,t,o,rfl,l⟩:=n.get e;refine⟨_,U,_,U,t,_,_,_,U,U,SqT.of l,U,_,U,t,_,_,_,U,U,SqT.of l,U,_,_,U,U,_,_,U,U,_,_,U,U,As y v o,U,Mw (.ref t),?_⟩;rw[se o];rfl
 .obtain⟨d,g,rfl⟩:=h;rw[d,j,hE];exact⟨_,U,q⟩
theorem F9(F:Fun K "__init__" "Way.__init__" Y18 f fd) (bl:Bl K mg Y)  : aK P w K mg base CX0 1 f fd ["self","called"] (cK K Y):=by
 refine F.okA Z18 λd A a s H e Q E g h=>?_
 obtain⟨x,c,z,rfl,b,q⟩:=h;refine⟨_,(ai (cQ (pv 0) (pv 1) U)),?_⟩;exact⟨_,U,_,U,x,_,c,_,U,b,bl.k_First,bl.na_First_called,(by show 0<1000;decide),q⟩
theorem Ga(F:Fun K "__init__" "Way.__init__" Y22 f fd) (bl:Bl K mg Y)  : aK P w K mg base CX0 1 f fd ["self","called"] (cX K Y):=by
 refine F.okA Z22 λd A a s H e Q E g h=>?_
 obtain⟨x,c,z,rfl,b,q⟩:=h;refine⟨_,(ai (cQ (pv 0) (pv 1) U)),?_⟩;exact⟨_,U,_,U,x,_,c,_,U,b,bl.k_Only,bl.na_Only_called,(by show 0<1000;decide),q⟩
theorem Gb(F:Fun K "__init__" "Way.__init__" Y20 f fd) (bl:Bl K mg Y)  : aK P w K mg base CX0 1 f fd ["self","called"] (cY K Y):=by
 refine F.okA Z20 λd A a s H e Q E g h=>?_
 obtain⟨x,c,z,rfl,b,q⟩:=h;refine⟨_,(ai (cQ (pv 0) (pv 1) U)),?_⟩;exact⟨_,U,_,U,x,_,c,_,U,b,bl.k_Like,bl.na_Like_called,(by show 0<1000;decide),q⟩
theorem Gd(F:Fun K "__init__" "Way.__init__" Y21 f fd) (bl:Bl K mg Y)  : aK P w K mg base CX0 1 f fd ["self","called"] (di K Y):=by
 refine F.okA Z21 λd A a s H e Q E g h=>?_
 obtain⟨x,c,z,rfl,b,q⟩:=h;refine⟨_,(ai (cQ (pv 0) (pv 1) U)),?_⟩;exact⟨_,U,_,U,x,_,c,_,U,b,bl.k_Low,bl.na_Low_called,(by show 0<1000;decide),q⟩
theorem Ge(F:Fun K "__init__" "Way.__init__" Y19 f fd) (bl:Bl K mg Y)  : aK P w K mg base CX0 1 f fd ["self","called"] (cZ K Y):=by
 refine F.okA Z19 λd A a s H e Q E g h=>?_
 obtain⟨x,c,z,rfl,b,q⟩:=h;refine⟨_,(ai (cQ (pv 0) (pv 1) U)),?_⟩;exact⟨_,U,_,U,x,_,c,_,U,b,bl.k_High,bl.na_High_called,(by show 0<1000;decide),q⟩
theorem Gf(F:Fun K "__init__" "Way.__init__" Y23 f fd) (bl:Bl K mg Y)  : aK P w K mg base CX0 1 f fd ["self","called"] (dj K Y):=by
 refine F.okA Z23 λd A a s H e Q E g h=>?_
 obtain⟨x,c,z,rfl,b,q⟩:=h;refine⟨_,(ai (cQ (pv 0) (pv 1) U)),?_⟩;exact⟨_,U,_,U,x,_,c,_,U,b,bl.k_Sum,bl.na_Sum_called,(by show 0<1000;decide),q⟩
theorem O_0(F:Fun K "__init__" "Domain.__init__" Y0 f fd) (bl:Bl K mg Y)  : aK P w K mg base CX0 1 f fd ["self","low","high"] (bV K Y):=by
 refine F.okA Z0 λd A b s H e Q E g h=>?_
 obtain⟨x,a,lo,hi,rfl,c,q⟩:=h
 refine⟨_,(aj (cQ (pv 0) (pv 1) U)
  (ai (cQ (pv 0) (pv 2) U))),?_⟩
 refine⟨_,U,_,U,x,_,a,_,U,c,bl.k_Numbers,bl.na_Numbers_low,(by show 0<1000;decide),_,U,_,U,x,_,a,_,U,ab,bl.k_Numbers,bl.na_Numbers_high,(by show 1<1000;decide),?_⟩;show Q .non (upd (upd H x (.ins Y.i a [("low",.int lo)])) x (.ins Y.i a (bC "high" (.int hi) [("low",.int lo)])));rw[put2];exact q
theorem O_1(F:Fun K "__init__" "Domain.__init__" Y1 f fd) (bl:Bl K mg Y)  : aK P w K mg base CX0 1 f fd ["self","low","high"] (cq K Y):=by
 refine F.okA Z1 λd A b s H e Q E g h=>?_
 obtain⟨x,a,lo,hi,rfl,c,q⟩:=h
 refine⟨_,(aj (cQ (pv 0) (pv 1) U)
  (ai (cQ (pv 0) (pv 2) U))),?_⟩
 refine⟨_,U,_,U,x,_,a,_,U,c,bl.k_Words,bl.na_Words_low,(by show 0<1000;decide),_,U,_,U,x,_,a,_,U,ab,bl.k_Words,bl.na_Words_high,(by show 1<1000;decide),?_⟩;show Q .non (upd (upd H x (.ins Y.j a [("low",.int lo)])) x (.ins Y.j a (bC "high" (.int hi) [("low",.int lo)])));rw[put2];exact q
theorem O_5(F:Fun K "chosen" "First.chosen" Y5 f fd) (bl:Bl K mg Y)  : aK P w K mg base CX0 1 f fd ["self","codes","outcome"] (J1 K Y):=by
 refine F.ok Z5 (λi H Q E h=>?_) (λr A d s H i Q E u h=>?_)
 .obtain⟨x,c,o,n,e,b,rfl,⟨p,z,j⟩,l,a,g,m,q⟩:=h;rfl
 obtain⟨x,c,o,n,e,b,rfl,⟨p,z,j⟩,l,a,g,m,q⟩:=h;refine⟨_,(ai (aw (aY (aa aX (aa (ax aG (pv 1) af (λ_ _=>U)) ae))))),?_⟩;exact⟨_,U,c,_,_,_,U,U,g,at0 n e,bf,λt k=>q t _ (ag k _) (.inl ab)⟩
theorem Gg(F:Fun K "chosen" "Only.chosen" Y14 f fd) (bl:Bl K mg Y)  : aK P w K mg base CX0 1 f fd ["self","codes","outcome"] (J9 K Y):=by
 refine F.ok Z14 (λl H Q E h=>?_) (λC A k s H l Q E D h=>?_)
 .obtain⟨x,c,o,n,a,b,rfl,⟨B,z,p⟩,u,j,d,y,q⟩:=h;rfl
 obtain⟨x,c,o,n,a,b,rfl,⟨B,z,p⟩,u,j,d,y,q⟩:=h;refine⟨_,(ai (aw (mI (aD bA (ao aq U bl.len_ Mv (aa (pv 1) ae)) af (aH _)) (aY (aa aX (aa (ax aG (pv 1) af (λ_ _=>U)) ae))) (cM (v:=.ref Y.m) U bl.CLASH_ U)))),?_⟩;refine⟨_,U,c,_,U,.inl (d),U,_,U,?_⟩;refine bD (λg=>?_) (λg=>?_)
 .have e:wf 1 b.1 b.2 (n :: a)=say n:=by
   have i:=js g;simp at i;show kA _=_;unfold kA;rw[ME (by rw[iQ];lia)];rfl
  rw[e]at q;exact⟨_,U,c,_,_,_,U,U,d,at0 n a,bf,λt r=>q t _ (ag r _) (.inl ab)⟩
 .have e:wf 1 b.1 b.2 (n :: a)=vh:=by
   have i:=lT g;simp at i;show kA _=_;unfold kA;rw[MD (by rw[iQ];lia)]
  rw[e]at q;exact q _ _ (au.refl _) (.inr bl.q_CLASH)
theorem O_9(F:Fun K "chosen" "Like.chosen" Y9 f fd) (bl:Bl K mg Y)  : aK P w K mg base CX0 1 f fd ["self","codes","outcome"] (J5 K Y):=by
 refine F.ok Z9 (λy H Q E h=>?_) (λL A p s H y Q E M h=>?_)
 .obtain⟨x,c,o,n,a,b,rfl,⟨J,z,B⟩,D,k,i,G,q⟩:=h;rfl
 obtain⟨x,c,o,n,a,b,rfl,⟨J,z,B⟩,D,k,i,G,q⟩:=h;refine⟨_,(ai (aw (mI (aD bA (ao oH U bl.len_ Mv (aa (bF (oG U) U bl.set_ PyProof.Rows.boot_set (aa (pv 1) ae)) ae)) af (aH _)) (aY (aa aX (aa (ax aG (pv 1) af (λ_ _=>U)) ae))) (cM (v:=.ref Y.m) U bl.CLASH_ U)))),?_⟩;refine⟨_,U,c,_,U,i,(by rw[iQ];lia),λl I=>?_⟩;refine⟨l,_,U,ab,(by rw[iQ];lia),U,_,U,?_⟩;have d:au H (upd H l (zX P w l (n :: a))):=ag I _;refine bD (λg=>?_) (λg=>?_)
 .have u:V.int _=V.int _:=js g;have j:cntK (n :: a) (n :: a).length=1:=by injection u with u;lia
  have r:=pK.mp j;have e:wf 2 b.1 b.2 (n :: a)=say n:=by
   show kz _=_;unfold kz;rw[ME (pR.mp r),wu r]
  rw[e]at q;exact⟨_,U,c,_,_,_,U,U,d.seq i,at0 n a,bf,λt C=>q t _ (d.trans (ag C _)) (.inl ab)⟩
 .have j:¬ cntK (n :: a) (n :: a).length=1:=λz=>(lT g) (by rw[z];rfl)
  have e:wf 2 b.1 b.2 (n :: a)=vh:=by
   show kz _=_;unfold kz;rw[MD λz=>j (pK.mpr (pR.mpr z))]
  rw[e]at q;exact q _ _ d (.inr bl.q_CLASH)
theorem Gh(F:Fun K "chosen" "Low.chosen" Y11 f fd) (bl:Bl K mg Y)  : aK P w K mg base CX0 1 f fd ["self","codes","outcome"] (J7 K Y):=by
 refine F.ok Z11 (λg H Q E h=>?_) (λy A d s H g Q E B h=>?_)
 .obtain⟨x,c,o,n,i,b,rfl,⟨v,z,j⟩,l,a,e,p,q⟩:=h;rfl
 obtain⟨x,c,o,n,i,b,rfl,⟨v,z,j⟩,l,a,e,p,q⟩:=h;refine⟨_,(ai (aw (aY (aa aX (aa (ao (fS U) U bl.min_ PyProof.Rows.boot_min (aa (pv 1) ae)) ae))))),?_⟩;refine⟨_,U,c,_,U,e,Dk _,λm u r=>⟨bf,λt k=>q t _ (ag k _) (.inl ?_)⟩⟩;rw[ab,nv u r];rfl
theorem O_7(F:Fun K "chosen" "High.chosen" Y7 f fd) (bl:Bl K mg Y)  : aK P w K mg base CX0 1 f fd ["self","codes","outcome"] (J3 K Y):=by
 refine F.ok Z7 (λg H Q E h=>?_) (λy A d s H g Q E B h=>?_)
 .obtain⟨x,c,o,n,i,b,rfl,⟨v,z,j⟩,l,a,e,p,q⟩:=h;rfl
 obtain⟨x,c,o,n,i,b,rfl,⟨v,z,j⟩,l,a,e,p,q⟩:=h;refine⟨_,(ai (aw (aY (aa aX (aa (ao (fT U) U bl.max_ PyProof.Rows.boot_max (aa (pv 1) ae)) ae))))),?_⟩;refine⟨_,U,c,_,U,e,Dk _,λm u r=>⟨bf,λt k=>q t _ (ag k _) (.inl ?_)⟩⟩;rw[ab,ny u r];rfl
theorem Gi(F:Fun K "chosen" "Sum.chosen" Y16 f fd) (bl:Bl K mg Y)  : aK P w K mg base CX0 1 f fd ["self","codes","outcome"] (J11 K Y):=by
 refine F.ok Z16 (λr H Q E h=>?_) (λG A l s H r Q E I h=>?_)
 .obtain⟨x,c,o,n,a,b,rfl,⟨D,z,u⟩,⟨C,p,B,fs,j,d,g,_⟩,k,m,y,q⟩:=h;rfl
 obtain⟨x,c,o,n,a,b,rfl,⟨D,z,u⟩,⟨C,p,B,fs,j,d,g,_⟩,k,m,y,q⟩:=h;refine⟨_,(ai (aw (aY (aa aX (aa (ao (pb U) U bl.max_ PyProof.Rows.boot_max (aa (bo (pv 2) U) (aa (ao (kX U) U bl.min_ PyProof.Rows.boot_min (aa (bo (pv 2) U) (aa (ao (d6 U) U bl.sum_ PyProof.Rows.boot_sum (aa (pv 1) ae)) ae))) ae))) ae))))),?_⟩;have i:Cls K C/\NoAttr K C s!"low"/\NoAttr K C s!"high":=by
  rcases p with rfl|rfl
  .exact⟨bl.k_Numbers,bl.na_Numbers_low,bl.na_Numbers_high⟩
  .exact⟨bl.k_Words,bl.na_Words_low,bl.na_Words_high⟩
 refine⟨_,U,o,_,_,_,_,U,j,i.1,i.2.1,d,_,U,o,_,_,_,_,U,j,i.1,i.2.2,g,_,U,c,_,U,m,_,_,U,_,_,U,?_⟩;refine⟨bf,λt v=>q t _ (ag v _) (.inl ?_)⟩;rw[ab];have e:near b.1 b.2 (n :: a).sum=if (if (n :: a).sum<b.2 then(n :: a).sum else b.2)>b.1 then(if (n :: a).sum<b.2 then(n :: a).sum else b.2)else b.1:=by
  unfold near;generalize (n :: a).sum=t;split <;> split <;> split <;> first|rfl|lia|(split <;> lia)
 show _=Mw (HO.tup (tp (say (near b.1 b.2 (n :: a).sum))));rw[e];rfl
theorem Gj(F:Fun K "is_word" "is_word" Y48 f fd) (bl:Bl K mg Y)(g:Callee P w K mg base 1 "all_among" ["text","signs"] (gQ K Y)):aK P w K mg base CX0 2 f fd ["text"] (gY K Y):=by
 refine F.okA Z48 λk A d s H l Q E j h=>?_
 obtain⟨z,rfl,i,q⟩:=h;refine⟨_,(ai (aw (fO (mJ fD fD af (ao qp U bl.len_ Mv (aa (pv 0) ae)) (lW U bl.MOST_SIGNS_)) (fO (fE lQ (pv 0) aX (aH _)) (jz (aI g j U (aa (pv 0) (aa (lW U bl.SMALL_LETTERS_) ae)))))))),?_⟩;refine⟨_,U,_,U,big i,_,_,U,U,_,U,?_⟩;refine bD (λc=>?_) (λc=>?_)
 .refine⟨_,_,U,U,_,U,?_⟩;refine bD (λb=>?_) (λb=>?_)
  .refine⟨_,U,U,_,U,?_⟩;refine bD (λa=>?_) (λa=>?_)
   .refine⟨_,U,z,lets,U,?_⟩;have e:isw z=mS z lets:=by unfold isw;rw[c,b,a];rfl
    rw[e]at q;exact q
   .have e:isw z=false:=by unfold isw;rw[IY.mpr a,Bool.false_and,Bool.and_false,Bool.and_false]
    rw[e]at q;exact q
  .have e:isw z=false:=by unfold isw;rw[IY.mpr b,Bool.false_and,Bool.and_false]
   rw[e]at q;exact q
 .have e:isw z=false:=by unfold isw;rw[IY.mpr c,Bool.false_and]
  rw[e]at q;exact⟨_,U,bB q⟩
theorem Gk(F:Fun K "cut_columns" "cut_columns" Y40 f fd) (bl:Bl K mg Y)(sH:Callee P w K mg base 1 "stretches" ["low","high","marks"] (gR K Y)):aK P w K mg base CX0 2 f fd ["bounds","marks"] (dM K Y):=by
 refine F.okA Z40 λc3 A b3 s H vs Q E hr h=>?_
 obtain⟨a,b,ys,ps,as,R,rfl,ha,hP,hb,hM,hok,q⟩:=h;refine⟨_,(ai (aw (fe (qw U bl.zip_ (aa (pv 0) (aa (pv 1) ae))) (eW (N:=["bound","cuts"]) (k:=2) U U (by decide+kernel) (by decide+kernel) (by decide+kernel)) U (λ_ _ _ _=>(lU (K:=K) (n:=2) U U (aM (aE (i:=0) (show(["bound","cuts"]:List Str).Nodup by decide+kernel) U (Or.inl U) (Or.inr U)) (aM (aE (i:=1) (show(["bound","cuts"]:List Str).Nodup by decide+kernel) U (Or.inl U) (Or.inr U)) bX)))) (λ_ _ _ _=>bu) (λ_ _ _ _=>(aI sH hr U (aa (ax (cO (K:=K) U) (pv 0) af (λ_ _=>U)) (aa (ax (cO (K:=K) U) (pv 0) af (λ_ _=>U)) (aa (pv 1) ae)))))))),?_⟩;obtain⟨b5,b4,a1⟩:=hok;have b6:=hP.length;have c2:=hM.1
 refine⟨_,U,_,U,a,b,U,⟨_,SqL.of ha⟩,⟨_,SqL.of hb⟩,v9 (xs:=ys) (ys:=as.map V.ref) (λD i C B=>au H B/\B D=Mw (.lst C)/\∃d:List (List Int),d.length=i/\(∀(j:Nat)(p:Int×Int)(v l:List Int),ps[j]?=Mw p->R[j]?=Mw v->d[j]?=Mw l->l.Pairwise (· < ·)/\(∀c,c∈l↔(c∈v/\p.1<c/\c<=p.2))/\l.length<64)/\aF C (List.zipWith (λp l=>ck p.1 p.2 l) (ps.take i) d) (λr c=>r≠D/\∃g,B r=Mw (.lst g)/\PL B g c))
  (λD O=>⟨ag O _,ab,[],U,(λj p v l _ _ e=>by simp at e),aF.nil⟩) (λD i C B O _ h=>⟨SqL.of (h.1 _ _ ha),SqL.of (h.1 _ _ hb)⟩) (λD i x y C B T O ex ey h hT g a5=>?_) (λD C B O h=>?_)⟩
 .obtain⟨sm,eD,d,o,J,M⟩:=h;obtain⟨p,t,ep,rfl,ht⟩:=hP.get ex;obtain⟨r,rfl,er⟩:=yH ey;have hi:i<as.length:=(IW.mp er).1;obtain⟨v,em⟩:∃v,R[i]?=Mw v:=⟨_,IV (by lia)⟩;obtain⟨r',W,hr⟩:=hM.2 i v em;rw[er]at W;cases W;have s2:=sm.trans (ag hT (.tup [.ref t,.ref r]));have eT:upd B T (.tup [.ref t,.ref r]) T=Mw (.tup [.ref t,.ref r]):=ab;have Z:=ag hT (.tup [.ref t,.ref r]);have L:=Z _ _ eD;generalize upd B T (.tup [.ref t,.ref r])=H2 at s2 eT L Z⊢;obtain⟨t0,t1,rfl⟩:∃t0 t1,g=[t0,t1]:=by
   match g,a5 with
   | [t0,t1],_=>exact⟨t0,t1,U⟩
  refine⟨T,_,U,SqT.of eT,U,_,_,U,_,_,U,U,⟨[Mw (.ref t),Mw (.ref r)],U,U⟩,?_⟩;have c0:=a1 v (IX em);refine⟨_,U,t,_,_,_,U,U,SqT.of (s2 _ _ ht),U,_,U,t,_,_,_,U,U,SqT.of (s2 _ _ ht),U,_,U,r,v,v,p.1,p.2,U,SqL.of (s2 _ _ hr),by lia,by lia,λm hm _ _=>hm,λr2 H3 l a0 s3 S b0 a7 a6 m9 a9=>?_⟩;have X:=s3 _ _ L;have c1:C.length=i:=by rw[M.1,jR,iP];lia
  have Gm:i<min ys.length (as.map V.ref).length:=by rw[bx];lia
  have a2:r2≠D:=λz=>by rw[z,L]at S;cases S
  refine cH.mk Gm X (ay (by lia)) ⟨(s2.trans s3).upd O,ab,d++[l],by rw[dt,o];rfl,λj p' a3 b1 G I u=>?_,?_⟩
  .by_cases hj:j<d.length
   .rw[je hj]at u;exact J j p' a3 b1 G I u
   .have a8:j=d.length:=by
     have:=(IW.mp u).1;simp at this;lia
    subst a8;simp at u;subst u;rw[o]at G I;rw[ep]at G;cases G;rw[em]at I;cases I;exact⟨a6,m9,a9⟩
  .rw[take_snoc ep,List.zipWith_append (by rw[iP];lia)];have a4:aF (C++[.ref r2]) (List.zipWith (λp l=>ck p.1 p.2 l) (ps.take i) d++[ck p.1 p.2 l]) (λr c=>r≠D/\∃g,H3 r=Mw (.lst g)/\PL H3 g c) :=
    aF.snoc (aF.mono M λx c k=>⟨k.1,let ⟨g,e1,e2⟩:=k.2;⟨g,s3 _ _ (Z _ _ e1),PL.mono e2 (Z.trans s3).tups⟩⟩) ⟨a2,a0,b0,a7⟩
   have st:bM H3 (upd H3 D (.lst (C++[.ref r2]))):=aQ X;exact aF.mono a4 λx c k=>⟨k.1,let ⟨g,e1,e2⟩:=k.2;⟨g,(az k.1).trans e1,PL.mono e2 st⟩⟩
 .obtain⟨sm,eD,d,o,J,M⟩:=h;have e:min ys.length (as.map V.ref).length=ps.length:=by rw[bx];lia
  rw[e]at o;rw[e,hE]at M;exact q D C B d sm eD o J (aF.mono M λx c k=>k.2)
theorem Gn(F:Fun K "fits" "fits" Y43 f fd) (bl:Bl K mg Y)(Ax:Callee P w K mg base 1 "holds" ["spans","number"] (nX K Y)):aK P w K mg base CX0 2 f fd ["table","k","codes"] (qS K Y):=by
 refine F.okA Z43 λa1 A G s H vs Q E hr h=>?_
 obtain⟨t,X,c,dx,fs,xs,a0,k,b,g,rfl,ht,hf,hl,hR,ek,J,W,q⟩:=h
 refine⟨_,(aj (aJ (i:=3) Z43.nd U (Or.inl U) (ax aO (ax aG (bo (pv 0) U) (pv 1) (λ_ _=>U)) af (λ_ _=>U)))
  (aj (bc JZ.never U (qw U bl.zip_ (aa (pv 3) (aa (pv 2) ae))) (fc U (aM (aE (i:=4) Z43.nd U (Or.inl U)) (aM (aE (i:=5) Z43.nd U (Or.inl U)) bX)))
  (ai (aN (bO (bI (aI Ax hr U (aa (pv 4) (aa (pv 5) ae)))))
  (ai (aw cP))
  aC)))
  (ai (aw cP)))),?_⟩
 dsimp only[cR,Cx.nox,Cx.wish];show(let Z:TS:=_;let r1:TS:=aU _ Z;aU _ r1 _ _ _);intro _ _;obtain⟨r,er,S,cv,e1,_,R,m⟩:=hR.2 k b ek;refine⟨_,U,t,_,_,_,_,U,ht,bl.k_Table,bl.na_Table_rows,hf,_,U,X,_,_,_,U,U,SqL.of hl,aL er,r,_,_,_,U,U,SqT.of e1,U,?_⟩;refine⟨_,U,_,U,S,c,U,⟨_,SqL.of R⟩,⟨_,J⟩,qy (xs:=cv) (ys:=g.map V.int) (λi o a=>au H a/\(∀j,j<i->inP (b.1.getD j []) (g.getD j 0)=Mz)/\∃B z:Option V,o=[Mw (.ref t),Mw (.int k),Mw (.ref c),Mw (.ref S),B,z]) ⟨au.refl _,(λj h=>MG h (CQ j)),_,_,U⟩ (λi o a h=>⟨SqL.of (h.1 _ _ R),h.1.seq J⟩) (λi x y o a T ex ey h hT=>?_) (λo a h=>?_)⟩
 .obtain⟨p,v,B,z,rfl⟩:=h;have s2:=p.trans (ag hT (.tup [x,y]));have O:upd a T (.tup [x,y]) T=Mw (.tup [x,y]):=ab;generalize upd a T (.tup [x,y])=H2 at s2 O⊢;obtain⟨l,u,rfl,ep,C⟩:=aF.get m ex;obtain⟨_,ys,el,hp⟩:=C.same s2;obtain⟨n,rfl,N⟩:=of_map ey;refine⟨T,_,U,SqT.of O,U,_,_,U,_,_,U,U,?_⟩;refine⟨_,U,_,U,l,ys,u,n,U,SqL.of el,hp,_,U,?_⟩;have M:b.1.getD i []=u:=by rw[dO,ep];rfl
  have L:g.getD i 0=n:=by rw[dO,N];rfl
  cases hin:inP u n with
  |true =>
   refine bB ⟨s2,λj I=>?_,_,_,U⟩;by_cases D:j<i
   .exact v j D
   .have:j=i:=by lia
    subst this;rw[M,L];exact hin
  |false =>
   refine d8 ?_;have e:oO b.1 g=false:=by
    unfold oO;rw[List.all_eq_false];refine⟨i,jN.mpr (IW.mp N).1,?_⟩;rw[M,L,hin];decide
   have d:=q H2 s2;rw[e]at d;exact d
 .obtain⟨p,v,B,z,rfl⟩:=h;have e:oO b.1 g=true:=by
   unfold oO;rw[jO];intro j I;refine v j ?_;have h1:=m.1;rw[bx];have:=jN.mp I;lia
  have d:=q a p;rw[e]at d;exact d
theorem Gp(F:Fun K "column_marks" "column_marks" Y39 f fd) (bl:Bl K mg Y)(uH:Callee P w K mg base 1 "gathered" ["lists"] (iD K Y)) (Ay:Callee P w K mg base 1 "edges" ["spans","low","high"] (nY K Y)):aK P w K mg base CX0 2 f fd ["table","column"] (eQ K Y):=by
 refine F.okA Z39 λb3 A a6 s H vs Q E hr h=>?_
 obtain⟨t,c,dv,bs,rws,b,L,rfl,⟨rl,dx,dl,fs,xs,ht,f1,f2,a3,T,B,hR⟩,eb,a9,lF,hL,X,q⟩:=h
 refine⟨_,(aj (aJ (i:=2) Z39.nd U (Or.inr U) (ax aG (bo (pv 0) U) (pv 1) (λ_ _=>U)))
  (ai (aw (aI uH hr U (aa (fe (aW (bo (pv 0) U)) (fI (N:=["cells","code","column","domain"]) (k:=2) (fr:=[1,2]) (cl:=[("domain",s.heap.objs.size+1+1),("column",s.heap.objs.size+1)]) U U (by decide+kernel) (by decide+kernel) U U (hZ.mpr ⟨U,hZ.mpr ⟨U,jg _⟩⟩) U) U (λ_ _ _ _=>(lU (K:=K) (n:=2) U U (aM (aE (i:=0) (show(["cells","code","column","domain"]:List Str).Nodup by decide+kernel) U (Or.inl U) (Or.inr U)) (aM (aE (i:=1) (show(["cells","code","column","domain"]:List Str).Nodup by decide+kernel) U (Or.inl U) (Or.inr U)) bX)))) (λ_ _ _ _=>bu) (λ_ _ _ _=>(aI Ay hr U (aa (ax (bN (K:=K) U) (pv 0) (pv 2) (λ_ _=>U)) (aa (mB (K:=K) U (pv 3) U) (aa (mB (K:=K) U (pv 3) U) ae)))))) ae))))),?_⟩
 obtain⟨da,a4,C,hC,b1,b0,ha,g1,g2,_⟩:=T.2 c b eb;have J:Cls K C/\NoAttr K C s!"low"/\NoAttr K C s!"high":=by
  rcases hC with rfl|rfl
  .exact⟨bl.k_Numbers,bl.na_Numbers_low,bl.na_Numbers_high⟩
  .exact⟨bl.k_Words,bl.na_Words_low,bl.na_Words_high⟩
 have S:xs.length=rws.length:=hR.1;refine⟨_,U,t,_,_,_,_,U,ht,bl.k_Table,bl.na_Table_domains,f2,_,U,dl,_,_,_,U,U,SqL.of a3,aL a4,?_⟩;refine⟨_,U,t,_,_,_,_,U,ht,bl.k_Table,bl.na_Table_rows,f1,rl,U,⟨_,SqL.of B⟩,ff (xs:=xs) (λD i m d=>au H d/\d D=Mw (.lst m)/\∃j:List Js,m=j.map V.ref/\MLs (hide d D) j ((rws.take i).map (rmk c b))) (λD p=>⟨ag p _,ab,[],U,MLs.nil⟩) (λD i m d p _ h=>SqL.of (h.1 _ _ B)) (λD i y m d p e h ts R=>?_) (λD m d p h=>?_)⟩
 .obtain⟨a,M,j,rfl,o⟩:=h;obtain⟨r,x,rfl,ex,ce,cs,k1,_,k2,k3⟩:=aF.get hR e;have hi:i<xs.length:=(IW.mp e).1;obtain⟨v,h6⟩:=lF x (IX ex);obtain⟨I,G,rfl⟩:∃I G,ts=[I,G]:=by
   match ts,R with
   | [I,G],_=>exact⟨I,G,U⟩
  refine⟨r,_,U,SqT.of (a _ _ k1),U,_,_,U,_,_,U,U,⟨[Mw (.ref ce),Mw (.int x.2)],U,U⟩,?_⟩;obtain⟨ol,a1,_,yo,Z,g⟩:=k3.2 c _ (IV v);have hA:x.1[c]=x.1.getD c []:=by rw[dO,IV v];rfl
  rw[hA]at g;have a7:=g.length;refine⟨_,U,_,U,ce,_,_,_,U,U,SqL.of (a _ _ k2),aL a1,_,U,da,_,_,_,_,U,a _ _ ha,J.1,J.2.1,g1,_,U,da,_,_,_,_,U,a _ _ ha,J.1,J.2.2,g2,?_⟩;refine⟨ol,yo,_,b.1,b.2,U,SqL.of (a _ _ Z),g.mono a.tups,by lia,λr3 H3 es O u a0 a2=>?_⟩;have a5:=O _ _ M;have nD:r3≠D:=λz=>by rw[z,M]at u;cases u
  have W:=o.1;rw[bx,iP]at W;refine cH.mk hi a5 (ay (by rw[bx];lia)) ⟨(a.trans O).upd p,ab,j++[r3],by rw[gI];rfl,?_⟩;rw[nG,take_snoc ex,gI];exact MLs.snoc (o.same (lC O)) (dr (by rw[a0,a2];rfl) nD)
 .obtain⟨a,M,j,rfl,o⟩:=h;rw[S,hE]at o;have a8:=sr c b (rws:=rws) λw hw=>(lF w hw).2
  refine⟨D,j,_,L,U,M,o.same (qP d D),by lia,hL,λx hx=>X x (vq.mp hx),λl cs H2 s2 nl el pw hm=>q l cs H2 (a.trans s2) (a.free nl) el pw λx=>(hm x).trans vq⟩
theorem Gq(F:Fun K "refuse_unlike_domains" "refuse_unlike_domains" Y84 f fd) (bl:Bl K mg Y)(N:Callee P w K mg base 1 "alike" ["one","other"] (nW K Y)):aK P w K mg base CX0 2 f fd ["ones","others"] (cw K Y):=by
 refine F.okA Z84 λO A n s H R Q E B h=>?_
 obtain⟨m,l,xs,ys,S,rfl,g,c,p,o,q⟩:=h
 refine⟨_,(aj (aN (aD lQ (ao aq U bl.len_ Mv (aa (pv 0) ae)) (ao aq U bl.len_ Mv (aa (pv 1) ae)) (aH _))
  (ai bK)
  aC)
  (ai (bc JZ.never U (qw U bl.zip_ (aa (pv 0) (aa (pv 1) ae))) (fc U (aM (aE (i:=2) Z84.nd U (Or.inl U)) (aM (aE (i:=3) Z84.nd U (Or.inl U)) bX)))
  (ai (aN (bO (bI (aI N B U (aa (pv 2) (aa (pv 3) ae)))))
  (ai bK)
  aC))))),?_⟩
 refine⟨_,U,m,_,U,.inl (SqL.of g),_,U,l,_,U,.inl (SqL.of c),U,_,U,?_⟩;have C:xs.length=ys.length:=by rw[p.1,o.1]
 refine A2 (by rw[C]) ?_;refine⟨_,U,_,U,m,l,U,⟨_,SqL.of g⟩,⟨_,SqL.of c⟩,qy (xs:=xs) (ys:=ys) (λi k j=>au H j/\(∃v u:Option V,k=[Mw (.ref m),Mw (.ref l),v,u])) ⟨au.refl _,⟨_,_,U⟩⟩ (λi k j h=>⟨SqL.of (h.1 _ _ g),SqL.of (h.1 _ _ c)⟩) (λi x y k j T L J h I=>?_) (λk j h=>?_)⟩
 .obtain⟨z,⟨v,u,rfl⟩⟩:=h;have s2:=z.trans (ag I (.tup [x,y]));have t:upd j T (.tup [x,y]) T=Mw (.tup [x,y]):=ab;generalize upd j T (.tup [x,y])=H2 at s2 t⊢;obtain⟨a,d,rfl,M,G⟩:=p.get L;obtain⟨b,e,rfl,r,D⟩:=o.get J;refine⟨T,_,U,SqT.of t,U,_,_,U,_,_,U,U,?_⟩;rw[M]at r;cases r;exact⟨_,U,_,U,a,b,d,d,Mz,U,G.same s2,D.same s2,⟨λ_=>U,λ_=>U⟩,_,U,bB ⟨s2,⟨_,_,U⟩⟩⟩
 .exact q _ h.1
theorem Gr(F:Fun K "_law_grid_points" "_law_grid_points" Y57 f fd) (bl:Bl K mg Y)(bh:Callee P w K mg base 1 "_law_cell" ["script","k"] (eB K Y)) (oV:Callee P w K mg base 1 "_law_points" ["cell","count"] (fU K Y)):aK P w K mg base CX0 2 f fd ["script","most"] (dA K Y):=by
 refine F.okA Z57 λa9 A a4 s H vs Q E hr h=>?_
 obtain⟨a,m,T,k,rfl,hS,hM,hq,h4,q⟩:=h
 refine⟨_,(aj (aJ (i:=2) Z57.nd U (Or.inl U) (aS ae))
  (aj (bc JZ.never U (aV U bl.range_ (aa (ao aq U bl.len_ Mv (aa (pv 1) ae)) ae)) (aE (i:=3) Z57.nd U (Or.inl U))
  (aj (aJ (i:=4) Z57.nd U (Or.inl U) (aI bh hr U (aa (pv 0) (aa (av bJ af (pv 3)) ae))))
  (ai (aZ (eU PySem.F.plainAttrs_list PySem.F.slot_list_append PySem.F.type_list_append bq (pv 2) (aa (aI oV hr U (aa (pv 4) (aa (av bJ af (av aR (av bJ (av aR (av fP (pv 4) af) af) af) (ax aG (pv 1) (pv 3) (λ_ _=>U)))) ae))) ae))))))
  (ai (aw (pv 2))))),?_⟩
 dsimp only[cR,Cx.nox,Cx.wish];show(let r2:TS:=_;let r1:TS:=aU _ r2;aU _ r1 _ _ _);intro _ _;refine⟨(by show 0<=Ju;decide),λl hl=>?_⟩;have S:au H (upd H l (.lst [])):=ag hl _;have e0:upd H l (.lst []) l=Mw (.lst []):=ab;generalize upd H l (.lst [])=H0 at S e0⊢;have a6:(k.map V.int).length=k.length:=bx _;refine⟨_,U,m,_,U,.inl (S.seq hM),_,U,(by show -(2^62)<=(((k.map V.int).length:Nat):Int);lia),(by show(((k.map V.int).length:Nat):Int)<2^62;lia),bR (λi R D=>au H D/\∃(p:List V)(b:List (List Int))(c3 c4:Option V),D l=Mw (.lst p)/\aF p b (λr g=>r≠l/\D r=Mw (.lst (g.map V.int)))/\qI T b/\b.length=i/\(∀(j:Nat)(g:List Int)(x:Int),b[j]?=Mw g->k[j]?=Mw x->(g.length:Int)<=x+1)/\(∀g∈b,∀x∈g,∀y∈g,y-x<=12*10^56)/\R=[Mw (.ref a),Mw (.ref m),Mw (.ref l),c3,c4]) ⟨S,[],[],_,_,e0,aF.nil,⟨(λg h=>by cases h),(λj g e=>by simp at e)⟩,U,(λj g x e=>by simp at e),(λg h=>by cases h),U⟩ (λi R D hi Z=>?_) (λR D Z=>?_)⟩
 .obtain⟨G,p,b,c3,c4,I,N,O,c,v,u,rfl⟩:=Z;have C:i<k.length:=by lia
  have a7:=hq _ (lq C);have a2:atI (k.map V.int) (0+(i:Int))=Mw (.int k[i]):=oN (get_map (IV C));refine⟨_,U,_,U,_,_,U,U,a,T,_,U,G.seq hS,(by show 0<=1+(0+(i:Int));lia),?_⟩;have o:∃L,L=cI T (1+(0+(i:Int))):=⟨_,U⟩;obtain⟨L,o⟩:=o;rw[←o];have W:(0:Int)<k[i]:=by lia
  have y0:=Ja (L*48271%1009+1) (Int.ne_of_gt W);have y1:=Jb (L*48271%1009+1) W;refine⟨_,U,.inl ⟨U,_,SqL.of I⟩,_,U,_,U,_,_,U,U,.inr ⟨by decide,by decide⟩,_,_,U,U,(by show(0:Int)<1009;decide),_,_,U,U,_,U,_,U,m,_,_,_,U,U,G.seq hM,a2,_,_,U,U,W,_,_,U,U,L,_,U,by lia,by lia,λr g H2 t nr er a1 hw a5 a0=>?_⟩;have a3:=t _ _ I;have a8:p.length=i:=by rw[N.1,c]
  have M:r≠l:=λz=>by rw[z,I]at nr;cases nr
  refine⟨l,_,_,U,U,a3,ay (by lia),?_⟩;refine⟨(G.trans t).upd hl,p++[.ref r],b++[g],_,_,ab,aF.snoc (aF.mono N λr' n h=>⟨h.1,(az h.1).trans (t _ _ h.2)⟩) ⟨M,(az M).trans er⟩,⟨λn d=>?_,λj n e hc=>?_⟩,by simp[c],(λj n x J e2=>?_),(λn d=>(ik.mp d).elim (u n) λz=>by rw[iv.mp z];exact a0),U⟩
  .rcases ik.mp d with d | d
   .exact O.pts n d
   .rw[show n=g by simpa using d];exact a1
  .by_cases X:j<b.length
   .rw[je X]at e;exact O.wrd j n e hc
   .have B:j=b.length:=by
     have:=(IW.mp e).1;simp at this;lia
    subst B;simp at e;subst e;rw[c,←o]at hc;exact hw hc
  .by_cases X:j<b.length
   .rw[je X]at J;exact v j n x J e2
   .have B:j=b.length:=by
     have:=(IW.mp J).1;simp at this;lia
    subst B;simp at J;subst J;rw[c,IV C]at e2;cases e2;lia
 .obtain⟨G,p,b,c3,c4,I,N,O,c,v,u,rfl⟩:=Z;exact⟨_,U,q l p b D G I (aF.mono N λ_ _ h=>h.2) O (by lia) v u⟩
theorem Gs(F:Fun K "_law_other" "_law_other" Y63 f fd) (bl:Bl K mg Y)(jM:Callee P w K mg base 1 "_law_row" ["cell","points","outs"] (gW K Y)):aK P w K mg base CX0 2 f fd ["rows","cell","points","outs"] (gZ K Y):=by
 refine F.okA Z63 λh6 A h2 s H vs Q E hr h=>?_
 obtain⟨M,pl,ol,c,a,m,xs,a4,os,oc,rfl,a7,b1,h5,hok,d4,b5,b3,I,a5,d5,c8,q⟩:=h
 refine⟨_,(aj (aN (aD bA (ao aq U bl.len_ Mv (aa (pv 0) ae)) af (aH _))
  (ai (aw (aS (aa (aI jM hr U (aa (pv 1) (aa (pv 2) (aa (pv 3) ae)))) ae))))
  aC)
  (aj (aJ (i:=4) Z63.nd U (Or.inl U) (av aR (pv 1) af))
  (aj (aJ (i:=5) Z63.nd U (Or.inl U) (av aR (av bP (pv 1) af) (ao aq U bl.len_ Mv (aa (pv 0) ae))))
  (aj (aJ (i:=6) Z63.nd U (Or.inl U) (bF cD U bl.list_ PyProof.Rows.boot_list (aa (ax aO (ax aG (pv 0) (pv 5) (λ_ _=>U)) af (λ_ _=>U)) ae)))
  (aj (aJ (i:=7) Z63.nd U (Or.inl U) (av aR (av bP (pv 1) af) (ao aq U bl.len_ Mv (aa (pv 6) ae))))
  (aj (aJ (i:=8) Z63.nd U (Or.inl U) (av aR (av bP (pv 1) af) (av b7 (ao aq U bl.len_ Mv (aa (ax aG (pv 2) (pv 7) (λ_ _=>U)) ae)) af)))
  (aj (kT (av BC (ax aG (pv 6) (pv 7) (λ_ _=>U)) (av qi af (pv 8))) (kS (pv 6) (pv 7) set_list))
  (aj (aJ (i:=9) Z63.nd U (Or.inl U) (aY (aa (bF cD U bl.list_ PyProof.Rows.boot_list (aa (ax aO (ax aG (pv 0) (pv 5) (λ_ _=>U)) af (λ_ _=>U)) ae)) (aa (ax aG (pv 3) (av aR (av bP (pv 1) af) af) (λ_ _=>U)) ae))))
  (aj (aN (aD bA (pv 4) af (aH _))
  (ai (aw (uk U U bl.list_ U bl.reversed_ (aa (pv 0) ae))))
  aC)
  (aj (aN (aD bA (pv 4) af (aH _))
  (ai (aw (av dR (av dR (cG dZ (pv 0) dk (dn (pv 5))) (aS (aa (pv 9) ae))) (cG dZ (pv 0) (dn (av bJ (pv 5) af)) dk))))
  aC)
  (aj (aN (aD bA (pv 4) af (aH _))
  (ai (aw (av dR (cG dZ (pv 0) dk (dn (pv 5))) (cG dZ (pv 0) (dn (av bJ (pv 5) af)) dk))))
  aC)
  (aj (aN (aD bA (pv 4) af (aH _))
  (ai (aw (av dR (av dR (cG dZ (pv 0) dk (dn (pv 5))) (aS (aa (aY (aa (pv 6) (aa (ax aO (ax aG (pv 0) (pv 5) (λ_ _=>U)) af (λ_ _=>U)) ae))) ae))) (cG dZ (pv 0) (dn (av bJ (pv 5) af)) dk))))
  aC)
  (aj (aN (aD bA (pv 4) af (aH _))
  (ai (aw (av dR (cG dZ (pv 0) (dn (pv 5)) dk) (cG dZ (pv 0) dk (dn (pv 5))))))
  aC)
  (ai (aw (bF cD U bl.list_ PyProof.Rows.boot_list (aa (pv 0) ae))))))))))))))))),?_⟩
 dsimp only[cR,Cx.nox,Cx.wish];show(let e8:TS:=_;let e9:TS:=aU _ e8;let f0:TS:=aU _ e9;let f5:TS:=aU _ f0;let r9:TS:=aU _ f5;let r8:TS:=aU _ r9;let r7:TS:=aU _ r8;let r6:TS:=aU _ r7;let r5:TS:=aU _ r6;let r4:TS:=aU _ r5;let r3:TS:=aU _ r4;let r2:TS:=aU _ r3;let r1:TS:=aU _ r2;aU _ r1 _ _ _);intro _ _ _ _ _ _ _ _ _ _ _ _ _;have h4:a.length=m.length:=b1.1;have h3:xs.length=a4.length:=b5.1;refine⟨_,U,M,_,U,.inl (SqL.of a7),U,_,U,?_⟩;refine bD (λg=>?_) (λg=>?_)
 .refine⟨_,U,_,U,_,U,c,pl,ol,xs,a4,os,oc,U,d4,b5,a5,b3,d5,c8,λr h1 mm cd H1 s1 nr nb er eb g2 g1 g7=>⟨(by show 1<=Ju;decide),λl hl=>?_⟩⟩;have u1:=ag hl (.lst [.ref r]);refine q l _ [(mm,cd)] _ (s1.trans u1) ab ⟨U,λj b e=>?_⟩ (by show 1<=31;decide) λb d=>?_
  .have hj:=(IW.mp e).1;rw[gy]at hj;have g4:j=0:=by lia
   subst g4;cases e;exact⟨r,U,h1,u1 _ _ er,u1 _ _ eb⟩
  .rw[iv.mp d];exact⟨g2,g7,g1⟩
 have h0:a.length≠0:=λz=>g (MH (by rw[z];rfl))
 have c2:(0:Int)<((a.length:Nat):Int):=by lia
 refine⟨_,U,_,_,U,U,(by show(0:Int)<6;decide),_,U,_,_,U,U,⟨by decide,by decide⟩,_,U,M,_,U,.inl (SqL.of a7),_,_,U,U,c2,?_⟩;have k0:=Ja (c / 6) (Int.ne_of_gt c2);have k1:=Jb (c / 6) c2;obtain⟨k,hk⟩:∃k:Nat,c / 6%((a.length:Nat):Int)=(k:Int):=⟨(c / 6%((a.length:Nat):Int)).toNat,by lia⟩;rw[hk]at k0 k1⊢;have g3:k<m.length:=by lia
 have ek:=IV g3;generalize m[k]=bk at ek;obtain⟨ra,e1,e7,e2,e3⟩:=b1.2 k bk ek;obtain⟨w1,w2,b0⟩:=hok bk (IX ek);have a1:atI a (k:Int)=Mw (.ref ra):=aL e1;refine⟨_,U,_,U,M,_,_,_,U,U,SqL.of a7,a1,ra,_,_,_,U,U,SqT.of e2,U,e7,_,U,.inl (SqL.of e3),λb2 d3=>?_⟩;have u2:=ag d3 (.lst (bk.1.map V.int));have a8:upd H b2 (.lst (bk.1.map V.int)) b2=Mw (.lst (bk.1.map V.int)):=ab;generalize upd H b2 (.lst (bk.1.map V.int))=H2 at u2 a8⊢;have d2:(bk.1.map V.int).length=a4.length:=by rw[bx,w1]
 have Cy:(0:Int)<(((bk.1.map V.int).length:Nat):Int):=by rw[d2];lia
 refine⟨_,U,_,_,U,U,⟨by decide,by decide⟩,_,U,b2,_,U,.inl (SqL.of a8),_,_,U,U,Cy,?_⟩;have c0:=Ja (c / 11) (Int.ne_of_gt Cy);have c1:=Jb (c / 11) Cy;obtain⟨B,g6⟩:∃B:Nat,c / 11%(((bk.1.map V.int).length:Nat):Int)=(B:Int):=⟨(c / 11%(((bk.1.map V.int).length:Nat):Int)).toNat,by lia⟩;rw[g6]at c0 c1⊢;rw[d2]at c1;have c3:=IV (l:=a4) (i:=B) (by lia);obtain⟨pa,g9,c7⟩:=b5.2 B _ c3;have Gu:=(b3 _ (IX c3)).two;have Gv:=(b3 _ (IX c3)).few;generalize a4[B]=ps at c7 Gu Gv;have a2:atI xs (B:Int)=Mw (.ref pa):=aL g9;have c9:((((ps.map V.int).length:Nat):Int)-1)=((ps.length:Nat):Int)-1:=by rw[bx]
 have u:(0:Int)<(((ps.map V.int).length:Nat):Int)-1:=by rw[c9];lia
 refine⟨_,U,_,_,U,U,⟨by decide,by decide⟩,_,U,_,U,pl,_,_,_,U,U,SqL.of (u2 _ _ d4),a2,pa,_,U,.inl (SqL.of (u2 _ _ c7)),_,_,U,U,_,_,U,U,u,?_⟩;have d0:=Ja (c / 13) (Int.ne_of_gt u);have d1:=Jb (c / 13) u;rw[c9]at d0 d1⊢;generalize c / 13%(((ps.length:Nat):Int)-1)=ob at d0 d1⊢;have eb:=IV (l:=bk.1) (i:=B) (by lia);have a3:atI (bk.1.map V.int) (B:Int)=Mw (.int bk.1[B]):=aL (get_map eb);have c6:=b0 _ (lq (l:=bk.1) (n:=B) (by lia));generalize bk.1[B]=xv at a3 c6;refine⟨_,U,_,U,b2,_,_,_,U,U,SqL.of a8,a3,_,U,_,_,U,U,⟨by lia,by lia,by decide⟩,_,_,U,U,_,U,_,U,b2,_,_,_,U,U,a8,vm (by lia),?_⟩;have c5:0<=Kh.bitXor xv (1*2^ob.toNat):=Ct c6 (by rw[Jd];exact Int.le_of_lt (Je (by decide)));generalize Kh.bitXor xv (1*2^ob.toNat)=zv at c5⊢;have u3:au H (upd H2 b2 (.lst ((bk.1.map V.int).set B (.int zv)))):=u2.upd d3;have Gw:(bk.1.map V.int).set B (.int zv)=(bk.1.set B zv).map V.int:=by rw[List.map_set]
 rw[Gw]at u3⊢;have e6:upd H2 b2 (.lst ((bk.1.set B zv).map V.int)) b2=Mw (.lst ((bk.1.set B zv).map V.int)):=ab;generalize upd H2 b2 (.lst ((bk.1.set B zv).map V.int))=H3 at u3 e6⊢;have DT:∀x∈bk.1.set B zv,0<=x:=λx hx=>by
  rcases List.mem_or_eq_of_mem_set hx with hx|hx
  .exact b0 x hx
  .rw[hx];exact c5
 refine⟨_,U,_,U,M,_,_,_,U,U,SqL.of (u3 _ _ a7),a1,ra,_,_,_,U,U,SqT.of (u3 _ _ e2),U,e7,_,U,.inl (SqL.of (u3 _ _ e3)),λb4 g8=>?_⟩;have t4:=ag g8 (.lst (bk.1.map V.int));have e5:upd H3 b4 (.lst (bk.1.map V.int)) b4=Mw (.lst (bk.1.map V.int)):=ab;have u4:=u3.trans t4;have DU:=t4 _ _ e6;generalize upd H3 b4 (.lst (bk.1.map V.int))=H4 at t4 e5 u4 DU⊢;obtain⟨x0,x1,x2,x3,x4,rfl,_⟩:=id c8;have f8:=Ja (c / 7) (show(5:Int)≠0 by decide);have f6:=Jb (c / 7) (show(0:Int)<5 by decide);obtain⟨ov,f9,Gx⟩:∃ov:Int,atI ([x0,x1,x2,x3,x4].map V.int) (c / 7%5)=Mw (.int ov)/\ov∈[x0,x1,x2,x3,x4]:=by
  generalize c / 7%5=kk at f8 f6;have:kk=0\/kk=1\/kk=2\/kk=3\/kk=4:=by lia
  rcases this with rfl|rfl|rfl|rfl|rfl
  .exact⟨x0,U,by simp⟩
  .exact⟨x1,U,by simp⟩
  .exact⟨x2,U,by simp⟩
  .exact⟨x3,U,by simp⟩
  .exact⟨x4,U,by simp⟩
 refine⟨_,U,_,U,_,_,U,U,⟨by decide,by decide⟩,_,_,U,U,(by show(0:Int)<5;decide),ol,_,_,_,U,U,SqL.of (u4 _ _ d5),f9,bf,λW g5=>?_⟩;have t5:=ag g5 (.tup [.ref b4,.int ov]);have e4:upd H4 W (.tup [.ref b4,.int ov]) W=Mw (.tup [.ref b4,.int ov]):=ab;have u5:=u4.trans t5;have DV:=t5 _ _ e5;have DW:=t5 _ _ DU;generalize upd H4 W (.tup [.ref b4,.int ov])=H5 at t5 e4 u5 DV DW⊢;have X:=u5 _ _ a7;have S:BRL H5 a m:=b1.same u5;have a9:kl a Mx (Mw (k:Int))=a.take k:=yG (by lia);have c4:kl a (Mw ((k:Int)+1)) Mx=a.drop (k+1):=by
  rw[rW (by lia) (by lia)];rfl
 have Gy:kl a (Mw (k:Int)) Mx=a.drop k:=by
  rw[rW (by lia) (by lia)];rfl
 have R:∀{ys zs:List V},ys.length+zs.length<=60->ys.length+zs.length<=Ju:=λh=>BA (ay (by lia))
 generalize c%6=kd;refine⟨_,U,U,_,U,?_⟩;refine bD (λ_=>?_) (λ_=>?_)
 .exact⟨_,U,M,_,U,SqL.of X,λp hp=>q p _ m.reverse _ (u5.trans (ag hp _)) ab (aF.revR (S.same (ag hp _))) (by rw[xO];lia) (hok.sub λb d=>List.mem_reverse.mp d)⟩
 refine⟨_,U,U,_,U,?_⟩;refine bD (λ_=>?_) (λ_=>?_)
 .refine⟨_,U,_,U,_,U,M,_,U,SqL.of X,λD I=>?_⟩;rw[a9];have L:=ag I (.lst (a.take k));have f1:upd H5 D (.lst (a.take k)) D=Mw (.lst (a.take k)):=ab;generalize upd H5 D (.lst (a.take k))=G1 at L f1⊢;have vA:au G1 G1:=au.refl _;refine⟨_,U,(by show 1<=Ju;decide),λC u=>?_⟩;have J:=ag u (.lst [.ref W]);have Z:upd G1 C (.lst [.ref W]) C=Mw (.lst [.ref W]):=ab;have y:=J _ _ (vA _ _ f1);have t:=(L.trans vA).trans J;generalize upd G1 C (.lst [.ref W])=G2 at J Z y t⊢;refine⟨D,C,_,_,U,U,y,Z,R (by rw[iP,gy];lia),λO N=>?_⟩;have v3:=ag N (.lst (a.take k++[.ref W]));have f3:upd G2 O (.lst (a.take k++[.ref W])) O=Mw (.lst (a.take k++[.ref W])):=ab;have o:=t.trans v3;generalize upd G2 O (.lst (a.take k++[.ref W]))=G3 at v3 f3 o⊢;refine⟨_,U,_,U,_,_,U,U,_,U,M,_,U,SqL.of (o _ _ X),λp4 a5=>?_⟩;rw[c4];have v4:=ag a5 (.lst (a.drop (k+1)));have f4:upd G3 p4 (.lst (a.drop (k+1))) p4=Mw (.lst (a.drop (k+1))):=ab;have a6:=v4 _ _ f3;have a0:=o.trans v4;generalize upd G3 p4 (.lst (a.drop (k+1)))=G4 at v4 f4 a6 a0⊢;refine⟨O,p4,_,_,U,U,a6,f4,R (by rw[dt,iP,gy,ki];lia),λp5 b6=>?_⟩;have v5:=ag b6 (.lst (a.take k++[.ref W]++a.drop (k+1)));have G:=a0.trans v5;have v:=S.same G;refine q p5 _ (m.take k++[(bk.1,ov)]++m.drop (k+1)) _ (u5.trans G) ab (aF.appR (aF.snoc (aF.takeR v k) ⟨b4,G _ _ e4,G _ _ DV⟩) (aF.dropR v (k+1))) (by rw[dt,dt,iP,gy,ki];lia) λb d=>?_
  rcases ik.mp d with d|d
  .rcases ik.mp d with d|d
   .exact hok b (sU d)
   .rw[iv.mp d];exact⟨w1,Gx,b0⟩
  .exact hok b (sV d)
 refine⟨_,U,U,_,U,?_⟩;refine bD (λ_=>?_) (λ_=>?_)
 .refine⟨_,U,_,U,_,U,M,_,U,SqL.of X,λD I=>?_⟩;rw[a9];have L:=ag I (.lst (a.take k));have f1:upd H5 D (.lst (a.take k)) D=Mw (.lst (a.take k)):=ab;generalize upd H5 D (.lst (a.take k))=G1 at L f1⊢;refine⟨_,U,_,U,_,_,U,U,_,U,M,_,U,SqL.of (L _ _ X),λC u=>?_⟩;rw[c4];have J:=ag u (.lst (a.drop (k+1)));have Z:upd G1 C (.lst (a.drop (k+1))) C=Mw (.lst (a.drop (k+1))):=ab;have y:=J _ _ f1;have t:=L.trans J;generalize upd G1 C (.lst (a.drop (k+1)))=G2 at J Z y t⊢;refine⟨D,C,_,_,U,U,y,Z,R (by rw[iP,ki];lia),λO N=>?_⟩;have v3:=ag N (.lst (a.take k++a.drop (k+1)));have o:=t.trans v3;have v:=S.same o;refine q O _ (m.take k++m.drop (k+1)) _ (u5.trans o) ab (aF.appR (aF.takeR v k) (aF.dropR v (k+1))) (by rw[dt,iP,ki];lia) λb d=>?_
  rcases ik.mp d with d|d
  .exact hok b (sU d)
  .exact hok b (sV d)
 refine⟨_,U,U,_,U,?_⟩;refine bD (λ_=>?_) (λ_=>?_)
 .refine⟨_,U,_,U,_,U,M,_,U,SqL.of X,λD I=>?_⟩;rw[a9];have L:=ag I (.lst (a.take k));have f1:upd H5 D (.lst (a.take k)) D=Mw (.lst (a.take k)):=ab;generalize upd H5 D (.lst (a.take k))=G1 at L f1⊢;refine⟨_,U,_,U,_,U,M,_,_,_,U,U,SqL.of (L _ _ X),a1,ra,_,_,_,U,U,SqT.of (L _ _ (u5 _ _ e2)),U,bf,λT g0=>?_⟩;have vA:=ag g0 (.tup [.ref b2,.int bk.2]);have e0:upd G1 T (.tup [.ref b2,.int bk.2]) T=Mw (.tup [.ref b2,.int bk.2]):=ab;generalize upd G1 T (.tup [.ref b2,.int bk.2])=GA at vA e0⊢;refine⟨(by show 1<=Ju;decide),λC u=>?_⟩;have J:=ag u (.lst [.ref T]);have Z:upd GA C (.lst [.ref T]) C=Mw (.lst [.ref T]):=ab;have y:=J _ _ (vA _ _ f1);have t:=(L.trans vA).trans J;generalize upd GA C (.lst [.ref T])=G2 at J Z y t⊢;refine⟨D,C,_,_,U,U,y,Z,R (by rw[iP,gy];lia),λO N=>?_⟩;have v3:=ag N (.lst (a.take k++[.ref T]));have f3:upd G2 O (.lst (a.take k++[.ref T])) O=Mw (.lst (a.take k++[.ref T])):=ab;have o:=t.trans v3;generalize upd G2 O (.lst (a.take k++[.ref T]))=G3 at v3 f3 o⊢;refine⟨_,U,_,U,_,_,U,U,_,U,M,_,U,SqL.of (o _ _ X),λp4 a5=>?_⟩;rw[c4];have v4:=ag a5 (.lst (a.drop (k+1)));have f4:upd G3 p4 (.lst (a.drop (k+1))) p4=Mw (.lst (a.drop (k+1))):=ab;have a6:=v4 _ _ f3;have a0:=o.trans v4;generalize upd G3 p4 (.lst (a.drop (k+1)))=G4 at v4 f4 a6 a0⊢;refine⟨O,p4,_,_,U,U,a6,f4,R (by rw[dt,iP,gy,ki];lia),λp5 b6=>?_⟩;have v5:=ag b6 (.lst (a.take k++[.ref T]++a.drop (k+1)));have G:=a0.trans v5;have v:=S.same G;have vB:=(J.trans v3).trans (v4.trans v5);refine q p5 _ (m.take k++[(bk.1.set B zv,bk.2)]++m.drop (k+1)) _ (u5.trans G) ab (aF.appR (aF.snoc (aF.takeR v k) ⟨b2,vB _ _ e0,G _ _ DW⟩) (aF.dropR v (k+1))) (by rw[dt,dt,iP,gy,ki];lia) λb d=>?_
  rcases ik.mp d with d|d
  .rcases ik.mp d with d|d
   .exact hok b (sU d)
   .rw[iv.mp d];exact⟨by show(bk.1.set B zv).length=_;rw[zb];exact w1,w2,DT⟩
  .exact hok b (sV d)
 refine⟨_,U,U,_,U,?_⟩;refine bD (λ_=>?_) (λ_=>?_)
 .refine⟨_,U,_,U,_,U,M,_,U,SqL.of X,λD I=>?_⟩;rw[Gy];have L:=ag I (.lst (a.drop k));have f1:upd H5 D (.lst (a.drop k)) D=Mw (.lst (a.drop k)):=ab;generalize upd H5 D (.lst (a.drop k))=G1 at L f1⊢;refine⟨_,U,_,U,_,U,M,_,U,SqL.of (L _ _ X),λC u=>?_⟩;rw[a9];have J:=ag u (.lst (a.take k));have Z:upd G1 C (.lst (a.take k)) C=Mw (.lst (a.take k)):=ab;have y:=J _ _ f1;have t:=L.trans J;generalize upd G1 C (.lst (a.take k))=G2 at J Z y t⊢;refine⟨D,C,_,_,U,U,y,Z,R (by rw[ki,iP];lia),λO N=>?_⟩;have v3:=ag N (.lst (a.drop k++a.take k));have o:=t.trans v3;have v:=S.same o;refine q O _ (m.drop k++m.take k) _ (u5.trans o) ab (aF.appR (aF.dropR v k) (aF.takeR v k)) (by rw[dt,ki,iP];lia) λb d=>?_
  rcases ik.mp d with d|d
  .exact hok b (sV d)
  .exact hok b (sU d)
 exact⟨_,U,M,_,U,.inl (SqL.of X),λp hp=>q p _ m _ (u5.trans (ag hp _)) ab (S.same (ag hp _)) (by lia) hok⟩
theorem Gz(F:Fun K "_law_is_box" "_law_is_box" Y58 f fd) (bl:Bl K mg Y)(eY:Callee P w K mg base 1 "_law_whole" ["found"] (eX K Y)):aK P w K mg base CX0 2 f fd ["box","points"] (fV K Y):=by
 refine F.okA Z58 λa0 A O s H vs Q E R h=>?_
 obtain⟨b,u,B_,y,e,rfl,⟨m,a,T⟩,k,n,M,o,h4,q⟩:=h
 refine⟨_,(aj (aN (PW.pt (jm (bO (bI (ao bG U bl.isinstance_ PyProof.Rows.boot_isinstance (aa (pv 0) (aa (dY (v:=.ty "tuple") U bl.tuple_ PyProof.Rows.boot_tuple U) ae))))) (gE (aD lQ (ao aq U bl.len_ Mv (aa (pv 0) ae)) (ao aq U bl.len_ Mv (aa (pv 1) ae)) (aH _)))))
  (ai (aw cP))
  aC)
  (aj (bc JZ.never U (aV U bl.range_ (aa (ao aq U bl.len_ Mv (aa (pv 0) ae)) ae)) (aE (i:=2) Z58.nd U (Or.inl U))
  (aj (aN (PW.pt (jm (bO (bI (ao bG U bl.isinstance_ PyProof.Rows.boot_isinstance (aa (ax aO (pv 0) (pv 2) (λ_ _=>U)) (aa (dY (v:=.ty "tuple") U bl.tuple_ PyProof.Rows.boot_tuple U) ae))))) (gE (aD lQ (ao aq U bl.len_ Mv (aa (ax aO (pv 0) (pv 2) (λ_ _=>U)) ae)) af (aH _)))))
  (ai (aw cP))
  aC)
  (aj (aN (PW.pt (jm (bO (bI (aI eY R U (aa (ax aO (ax aO (pv 0) (pv 2) (λ_ _=>U)) af (λ_ _=>U)) ae)))) (gE (bO (bI (aI eY R U (aa (ax aO (ax aO (pv 0) (pv 2) (λ_ _=>U)) af (λ_ _=>U)) ae)))))))
  (ai (aw cP))
  aC)
  (ai (aN (PW.pt (jm (aD iq (ax aO (ax aO (pv 0) (pv 2) (λ_ _=>U)) af (λ_ _=>U)) (ax aG (ax aG (pv 1) (pv 2) (λ_ _=>U)) af (λ_ _=>U)) (aH _)) (jm (aD kj (ax aO (ax aO (pv 0) (pv 2) (λ_ _=>U)) af (λ_ _=>U)) (ax aO (ax aO (pv 0) (pv 2) (λ_ _=>U)) af (λ_ _=>U)) (aH _)) (gE (aD C6 (ax aO (ax aO (pv 0) (pv 2) (λ_ _=>U)) af (λ_ _=>U)) (ax aG (ax aG (pv 1) (pv 2) (λ_ _=>U)) (jn fQ af) (λ_ _=>U)) (aH _))))))
  (ai (aw cP))
  aC)))))
  (ai (aw cP)))),?_⟩
 dsimp only[cR,Cx.nox,Cx.wish];show(let r2:TS:=_;let r1:TS:=aU _ r2;aU _ r1 _ _ _);intro _ _;have J:=T.length;have L:y.length=e.length:=n.1;have r:=o.len;rw[bx]at r;refine⟨_,U,_,_,_,_,Mz,U,.ty _,.inl (.tup a),(by first|rfl|with_unfolding_all rfl|decide+kernel),_,U,bB ?_⟩;refine⟨_,U,b,_,U,.inr (SqT.of a),_,U,u,_,U,.inl (SqL.of k),U,MA,by rw[MH (show V.int ((m.length:Nat):Int)=V.int ((y.length:Nat):Int) by rw[J,L,r])];rfl,bB ?_⟩;refine⟨_,U,b,_,U,.inr (SqT.of a),_,U,(by show -(2^62)<=((m.length:Nat):Int);lia),(by show((m.length:Nat):Int)<2^62;lia),bR (λi x I=>I=H/\∃G:Option V,x=[Mw (.ref b),Mw (.ref u),G]) ⟨U,Mx,U⟩ (λi x I hi h=>?_) (λx I h=>?_)⟩
 .obtain⟨rfl,G,rfl⟩:=h;have D:=IV (l:=m) (i:=i) (by lia);obtain⟨p,t,Z,ey,c⟩:=T.get D;rw[ey]at D;have d:atI m (0+(i:Int))=Mw (.ref t):=by rw[I1];exact aL D
  have ip:=(IW.mp Z).1;have j:=IV (l:=e) (i:=i) (by lia);obtain⟨z,N,g⟩:=n.2 i _ j;have a2:atI y (0+(i:Int))=Mw (.ref z):=by rw[I1];exact aL N
  have S:=M _ (IX j);have h2:=S.two;obtain⟨C,k2,B⟩:=o.get i p _ Z (by rw[gg,j];rfl);generalize e[i]=ps at g S h2 C k2 B;have X:=IV (l:=ps) (i:=0) (by lia);have W:=IV (l:=ps) (i:=ps.length-1) (by lia);have g0:loP ps=ps[0]:=by unfold loP;rw[dO,X];rfl
  have g1:hiP ps=ps[ps.length-1]-1:=by unfold hiP;rw[dO,W];rfl
  have C:loP ps<=p.1:=C;have B:p.2<=hiP ps:=B;have b0:atI (ps.map V.int) 0=Mw (.int ps[0]):=aL (get_map X);have b1:atI (ps.map V.int) (-1)=Mw (.int ps[ps.length-1]):=by
   unfold atI;rw[iC (by rw[bx];lia),bx];exact get_map W
  refine⟨_,U,_,U,b,_,_,_,U,U,SqT.of a,d,_,_,_,_,Mz,U,.ty _,.inl (.tup c),(by first|rfl|with_unfolding_all rfl|decide+kernel),_,U,bB ?_⟩;refine⟨_,U,_,U,b,_,_,_,U,U,SqT.of a,d,t,_,U,.inr (SqT.of c),U,MA,U,bB ?_⟩;refine⟨_,U,_,U,b,_,_,_,U,U,SqT.of a,d,t,_,_,_,U,U,SqT.of c,U,_,U,_,U,bB ?_⟩;refine⟨_,U,_,U,b,_,_,_,U,U,SqT.of a,d,t,_,_,_,U,U,SqT.of c,U,_,U,_,U,bB ?_⟩;refine⟨_,U,_,U,b,_,_,_,U,U,SqT.of a,d,t,_,_,_,U,U,SqT.of c,U,_,U,_,U,u,_,_,_,U,U,SqL.of k,a2,z,_,_,_,U,U,SqL.of g,b0,_,_,U,U,MA,by rw[MI (by lia)],bB ?_⟩;refine⟨_,U,_,U,b,_,_,_,U,U,SqT.of a,d,t,_,_,_,U,U,SqT.of c,U,_,U,_,U,b,_,_,_,U,U,SqT.of a,d,t,_,_,_,U,U,SqT.of c,U,_,_,U,U,MA,by rw[MI (by lia)],bB ?_⟩;refine⟨_,U,_,U,b,_,_,_,U,U,SqT.of a,d,t,_,_,_,U,U,SqT.of c,U,_,U,_,U,u,_,_,_,U,U,SqL.of k,a2,_,U,z,_,_,_,U,U,SqL.of g,b1,_,_,U,U,MA,by rw[MI (by lia)],bB ⟨U,_,U⟩⟩
 .obtain⟨rfl,G,rfl⟩:=h;exact q
theorem GB(F:Fun K "_law_dues" "_law_dues" Y55 f fd) (bl:Bl K mg Y)(fZ:Callee P w K mg base 1 "_law_places" ["points"] (d7 K Y)) (n6:Callee P w K mg base 1 "_law_due" ["codes","way","outs"] (jK K Y)) (iO:Callee P w K mg base 1 "_law_fitting" ["rows","at"] (fm K Y)):aK P w K mg base CX0 2 f fd ["points","two","ways","outs"] (iH K Y):=by
 refine F.okA Z55 λg0 A f3 s H vs Q E hr h=>?_
 obtain⟨pl,tw,wl,ol,l,c,xs,a0,C,oc,IL,rfl,f1,e6,c1,f6,h4,a1,c4,f0,e9,c9,c2,c3,f9,q⟩:=h
 refine⟨_,(aj (aJ (i:=4) Z55.nd U (Or.inl U) (aS ae))
  (aj (bc JZ.never U (aW (aI fZ hr U (aa (pv 0) ae))) (aE (i:=5) Z55.nd U (Or.inl U))
  (aP (aJ (i:=6) Z55.nd U (Or.inl U) (aI n6 hr U (aa (cb (aW (aI iO hr U (aa (ax aG (pv 1) af (λ_ _=>U)) (aa (pv 5) ae)))) (bg (N:=["j","two"]) (fr:=[1]) (cl:=[("two",s.heap.objs.size+1)]) U U (by decide+kernel) (by decide+kernel) U (by decide+kernel) U U U (hZ.mpr ⟨U,jg _⟩) U) U (λ_ _ _ _=>bu) (λ_ _ _ _=>(ax (cO (K:=K) U) (ax (bN (K:=K) U) (ax (bN (K:=K) U) (pv 1) af (λ_ _=>U)) (pv 0) (λ_ _=>U)) af (λ_ _=>U)))) (aa (ax aG (pv 2) af (λ_ _=>U)) (aa (pv 3) ae)))))
  (aP (aJ (i:=7) Z55.nd U (Or.inl U) (aI n6 hr U (aa (cb (aW (aI iO hr U (aa (ax aG (pv 1) af (λ_ _=>U)) (aa (pv 5) ae)))) (bg (N:=["j","two"]) (fr:=[1]) (cl:=[("two",s.heap.objs.size+1)]) U U (by decide+kernel) (by decide+kernel) U (by decide+kernel) U U U (hZ.mpr ⟨U,jg _⟩) U) U (λ_ _ _ _=>bu) (λ_ _ _ _=>(ax (cO (K:=K) U) (ax (bN (K:=K) U) (ax (bN (K:=K) U) (pv 1) af (λ_ _=>U)) (pv 0) (λ_ _=>U)) af (λ_ _=>U)))) (aa (ax aG (pv 2) af (λ_ _=>U)) (aa (pv 3) ae)))))
  (aj (aZ (eU PySem.F.plainAttrs_list PySem.F.slot_list_append PySem.F.type_list_append bq (pv 4) (aa (aY (aa (pv 6) (aa (pv 7) ae))) ae)))
  (ai (aN (aD (xS hr) (pv 6) (pv 7) (aH _))
  (ai (kT xk (kS (pv 4) (jn fQ af) set_list)))
  aC))))))
  (ai (aw (pv 4))))),?_⟩
 dsimp only[cR,Cx.nox,Cx.wish];show(let r2:TS:=_;let T:TS:=aU _ r2;aU _ T _ _ _);intro _ _;refine⟨(by show 0<=Ju;decide),λm a5=>?_⟩;have u0:=ag a5 (.lst []);have DX:upd H m (.lst []) m=Mw (.lst []):=ab;generalize upd H m (.lst [])=H0 at u0 DX⊢;refine⟨_,U,pl,xs,a0,U,u0 _ _ f1,e6.same u0,c1,h4,λql zs H2 s2 eq hq=>?_⟩;have a7:zs.length=(cy (gls a0)).length:=hq.1;have Cz:=s2 _ _ DX;have t2:=u0.trans s2;have hz:zs≠[]:=λz=>by
  rw[z,wh]at a7;exact zk (λn hn=>by obtain⟨ps,e3,rfl⟩:=eK.mp hn;have:=(c1 ps e3).two;lia) (List.length_eq_zero_iff.mp a7.symm)
 have d2:ql≠m:=λz=>by rw[z,Cz]at eq;cases eq;exact hz U
 refine⟨ql,U,⟨_,SqL.of eq⟩,bL (xs:=zs) (λj σ t=>(∀d o,d≠m->H2 d=Mw o->t d=Mw o)/\∃(G:List V)(c5 c6 c7:Option V),t m=Mw (.lst G)/\DuL K t G (IL.take j)/\σ=[Mw (.ref pl),Mw (.ref tw),Mw (.ref wl),Mw (.ref ol),Mw (.ref m),c5,c6,c7]) ⟨λd o _ e=>e,[],_,_,_,Cz,DuL.nil,U⟩ (λj σ t _ h=>SqL.of (h.1 _ _ d2 eq)) (λj y σ t ey h=>?_) (λσ t h=>?_)⟩
 .obtain⟨kp,G,c5,c6,c7,b1,S,rfl⟩:=h;obtain⟨r,p,rfl,ep,_,x⟩:=aF.get hq ey;have e4:=lD.iff.mp (IX ep);have lp:p.length=a0.length:=by rw[e4.1];unfold gls;rw[bx]
  have GC:(vN p)≠[]:=λz=>by have:=MK List.length z;rw[dz,lp]at this;rw[wh]at this;lia
  have nr:r≠m:=λz=>by rw[z,Cz]at x;exact GC (by injection x with x;injection x with x;exact x.symm)
  have er:=kp _ _ nr x;have sm:au H t:=λd o e=>kp d o (λz=>by rw[z,a5]at e;cases e) (t2 _ _ e)
  have b3:IL[j]?=Mw (dF a0 p,dpr (vdd C l p) (vdd C c p)):=by rw[c3,gg,ep];rfl
  have f8:j<IL.length:=(IW.mp b3).1;have e8:=S.1;rw[iP]at e8;have v:=f0;have u:=e9;refine⟨λa2 Hx=>au t Hx/\∃W:Js,Hx W=Mw (.tup (tp (vdd C l p)))/\a2=[Mw (.ref pl),Mw (.ref tw),Mw (.ref wl),Mw (.ref ol),Mw (.ref m),Mw (.ref r),Mw (.ref W),c7],?_,?_⟩
  .have uI:=v.so (So.of sm);have d5:l.rx.length=l.bms.length:=v.r.1;have GD:=v.n;refine⟨_,U,tw,_,_,_,U,U,SqL.of (sm _ _ a1),aL (j:=0) U,_,U,l.rl,r,l.rx,l.bms,p,U,uI.e,uI.r,v.n,er,by lia,(λb b0=>by rw[lp];exact v.b b b0),λfl H3 s3 d3 B=>?_⟩;have a8:=sv l.bms p;have R:=vt (bms:=l.bms) (at_:=p);have zo:vdd C l p=ver (wf l.wi (o0 C) (o4 C)) (cdF l.bms (oR l.bms p)):=rfl;generalize oR l.bms p=fit at B a8 R zo;have O:=sm.trans s3;have a4:∀k,k<l.bms.length->∃D bl,l.rx[k]?=Mw (.ref D)/\H D=Mw (.tup [.ref bl,.int (l.bms.getD k ([],0)).2]):=λk hk=>by
    obtain⟨D,e1,bl,e2,_⟩:=v.r.2 k _ (IV hk);refine⟨D,bl,e1,?_⟩;rw[e2,dO,IV hk];rfl
   refine⟨fl,U,⟨_,SqL.of B⟩,cA (xs:=vN fit) (λE a I t=>au H3 t/\t E=Mw (.lst I)/\I=(cdF l.bms (fit.take a)).map V.int) (λE J=>⟨ag J _,ab,U⟩) (λE a I t J _ h=>SqL.of (h.1 _ _ B)) (λE a y I H4 J e h=>?_) (λE I H4 J h=>?_)⟩
   .obtain⟨L,X,rfl⟩:=h;obtain⟨k,rfl,ek⟩:=Bh e;have ha:a<(vN fit).length:=(IW.mp e).1;obtain⟨D,bl,x1,x2⟩:=a4 k (R k (IX ek));have sY:=O.trans L;refine⟨_,U,tw,_,_,_,U,U,SqL.of (sY _ _ a1),aL (j:=0) U,_,U,l.rl,_,_,_,U,U,SqL.of (sY _ _ v.e),aL x1,D,_,_,_,U,U,SqT.of (sY _ _ x2),U,cH.mk ha X (ay (by rw[bx];unfold cdF;rw[bx,iP];lia)) ⟨L.upd J,ab,?_⟩⟩;rw[take_snoc ek];unfold cdF;rw[gI,gI];rfl
   obtain⟨s4,X,rfl⟩:=h;rw[dz,hE]at X;have a9:(cdF l.bms fit).length<=60:=by unfold cdF;rw[bx];lia
   have M:=O.trans s4;refine⟨_,U,wl,_,_,_,U,U,SqL.of (M _ _ c4),aL (j:=0) U,_,U,E,ol,l.wy,l.wi,cdF l.bms fit,C,oc,U,X,a9,v.w,M _ _ c9,c2,λrt H5 s5 e5=>⟨(s3.trans s4).trans s5,rt,?_,U⟩⟩;rw[zo];exact e5
  rintro f5 H6 ⟨t6,W,e0,rfl⟩;have a3:=sm.trans t6;refine⟨λa2 Hx=>au H6 Hx/\∃T:Js,Hx T=Mw (.tup (tp (vdd C c p)))/\a2=[Mw (.ref pl),Mw (.ref tw),Mw (.ref wl),Mw (.ref ol),Mw (.ref m),Mw (.ref r),Mw (.ref W),Mw (.ref T)],?_,?_⟩
  .have uI:=u.so (So.of a3);have d5:c.rx.length=c.bms.length:=u.r.1;have GD:=u.n;refine⟨_,U,tw,_,_,_,U,U,SqL.of (a3 _ _ a1),aL (j:=1) U,_,U,c.rl,r,c.rx,c.bms,p,U,uI.e,uI.r,u.n,t6 _ _ er,by lia,(λb b0=>by rw[lp];exact u.b b b0),λfl H3 s3 d3 B=>?_⟩;have a8:=sv c.bms p;have R:=vt (bms:=c.bms) (at_:=p);have zo:vdd C c p=ver (wf c.wi (o0 C) (o4 C)) (cdF c.bms (oR c.bms p)):=rfl;generalize oR c.bms p=fit at B a8 R zo;have O:=a3.trans s3;have a4:∀k,k<c.bms.length->∃D bl,c.rx[k]?=Mw (.ref D)/\H D=Mw (.tup [.ref bl,.int (c.bms.getD k ([],0)).2]):=λk hk=>by
    obtain⟨D,e1,bl,e2,_⟩:=u.r.2 k _ (IV hk);refine⟨D,bl,e1,?_⟩;rw[e2,dO,IV hk];rfl
   refine⟨fl,U,⟨_,SqL.of B⟩,cA (xs:=vN fit) (λE a I t=>au H3 t/\t E=Mw (.lst I)/\I=(cdF c.bms (fit.take a)).map V.int) (λE J=>⟨ag J _,ab,U⟩) (λE a I t J _ h=>SqL.of (h.1 _ _ B)) (λE a y I H4 J e h=>?_) (λE I H4 J h=>?_)⟩
   .obtain⟨L,X,rfl⟩:=h;obtain⟨k,rfl,ek⟩:=Bh e;have ha:a<(vN fit).length:=(IW.mp e).1;obtain⟨D,bl,x1,x2⟩:=a4 k (R k (IX ek));have sY:=O.trans L;refine⟨_,U,tw,_,_,_,U,U,SqL.of (sY _ _ a1),aL (j:=1) U,_,U,c.rl,_,_,_,U,U,SqL.of (sY _ _ u.e),aL x1,D,_,_,_,U,U,SqT.of (sY _ _ x2),U,cH.mk ha X (ay (by rw[bx];unfold cdF;rw[bx,iP];lia)) ⟨L.upd J,ab,?_⟩⟩;rw[take_snoc ek];unfold cdF;rw[gI,gI];rfl
   obtain⟨s4,X,rfl⟩:=h;rw[dz,hE]at X;have a9:(cdF c.bms fit).length<=60:=by unfold cdF;rw[bx];lia
   have M:=O.trans s4;refine⟨_,U,wl,_,_,_,U,U,SqL.of (M _ _ c4),aL (j:=1) U,_,U,E,ol,c.wy,c.wi,cdF c.bms fit,C,oc,U,X,a9,u.w,M _ _ c9,c2,λrt H5 s5 e5=>⟨(s3.trans s4).trans s5,rt,?_,U⟩⟩;rw[zo];exact e5
  rintro f4 H7 ⟨t7,T,e1,rfl⟩;have c0:=t6.trans t7;have f2:=t7 _ _ e0;have DY:=c0 _ _ b1;refine⟨_,U,.inl ⟨U,_,SqL.of DY⟩,_,U,_,U,bf,λtt d4=>?_⟩;have u8:=ag d4 (.tup [.ref W,.ref T]);have c8:upd H7 tt (.tup [.ref W,.ref T]) tt=Mw (.tup [.ref W,.ref T]):=ab;generalize upd H7 tt (.tup [.ref W,.ref T])=H8 at u8 c8⊢;have DZ:=u8 _ _ DY;have b6:=c0.trans u8;have GG:=S.mono b6.tups;refine⟨m,_,_,U,U,DZ,ay (by lia),?_⟩;have Z:bM H8 (upd H8 m (.lst (G++[.ref tt]))):=aQ DZ;have AA:upd H8 m (.lst (G++[.ref tt])) m=Mw (.lst (G++[.ref tt])):=ab;have a6:∀d o,d≠m->H2 d=Mw o->upd H8 m (.lst (G++[.ref tt])) d=Mw o:=λd o hd e=>(az hd).trans (b6 _ _ (kp d o hd e))
  have b5:=Z _ _ (u8 _ _ f2);have b4:=Z _ _ (u8 _ _ e1);have D1:=Z _ _ c8;have CA:=GG.mono Z;generalize upd H8 m (.lst (G++[.ref tt]))=H9 at AA a6 b5 b4 D1 CA⊢;refine⟨_,U,_,U,vw (SqT.of b5) (SqT.of b4) ⟨_,U,?_⟩⟩;refine bD (λg=>?_) (λg=>?_)
  .have g:=MJ g;refine⟨_,U,_,U,m,_,_,_,U,U,AA,iC (by rw[dt,gy];lia),?_⟩;have el:(G++[V.ref tt]).length-1=G.length:=by rw[dt,gy];lia
   rw[el,wV];refine⟨λd o hd e=>(az hd).trans (a6 d o hd e),_,_,_,_,ab,?_,U⟩;rw[take_snoc b3];refine DuL.snoc (CA.mono (aQ AA)) ?_;show DuV K _ (dpr _ _) _;unfold dpr;rw[ME g];rfl
  .have g:vdd C l p≠vdd C c p:=λz=>g (MH z)
   refine⟨a6,_,_,_,_,AA,?_,U⟩;rw[take_snoc b3];refine DuL.snoc CA ?_;show DuV K _ (dpr _ _) _;unfold dpr;rw[MD g];exact⟨tt,U,W,T,D1,.inl b5,.inl b4⟩
 .obtain⟨kp,G,c5,c6,c7,b1,S,rfl⟩:=h;have e7:zs.length=IL.length:=by rw[a7,c3,bx]
  rw[e7,hE]at S;exact⟨_,U,q m G t (λd o e=>kp d o (λz=>by rw[z,a5]at e;cases e) (t2 _ _ e)) b1 S⟩
theorem GH(F:Fun K "_law_is_verdict" "_law_is_verdict" Y59 f fd) (bl:Bl K mg Y)(d:Callee P w K mg base 1 "_law_whole" ["found"] (eX K Y)):aK P w K mg base CX0 2 f fd ["told"] (dN K Y):=by
 refine F.okA Z59 λe A b s H g Q E c h=>?_
 obtain⟨r,x,rfl,a,q⟩:=h;refine⟨_,(ai (aw (fO (ao nu U bl.isinstance_ PyProof.Rows.boot_isinstance (aa (pv 0) (aa (dY (v:=.ty "tuple") U bl.tuple_ PyProof.Rows.boot_tuple U) ae))) (fO (fE bA (ao aq U bl.len_ Mv (aa (pv 0) ae)) af (aH _)) (fO (ao nu U bl.isinstance_ PyProof.Rows.boot_isinstance (aa (ax aO (pv 0) af (λ_ _=>U)) (aa (dY (v:=.ty "str") U bl.str_ PyProof.Rows.boot_str U) ae))) (jz (aI d c U (aa (ax aO (pv 0) af (λ_ _=>U)) ae)))))))),?_⟩;exact⟨_,U,.inr ⟨r,_,U,a.sq,(by first|rfl|with_unfolding_all rfl|decide+kernel),_,U,d8 ⟨_,U,r,_,U,.inr (a.sq),U,_,U,d8 ⟨_,U,r,_,_,_,U,U,a.sq,U,.inl ⟨_,_,_,_,Mz,U,.ty _,.inl (.str _),(by first|rfl|with_unfolding_all rfl|decide+kernel),_,U,d8 ⟨_,U,r,_,_,_,U,U,a.sq,U,_,U,q⟩⟩⟩⟩⟩⟩
theorem O_4(F:Fun K "__init__" "First.__init__" Y4 f fd) (bl:Bl K mg Y)(e:cz CX0 P w K mg base 1 "Way" "__init__" ["self","called"] (cK K Y)):aK P w K mg base CX0 2 f fd ["self"] (J0 K Y):=by
 refine F.ok Z4 (λd H Q E h=>?_) (λi A a s H d Q E g h=>?_)
 .obtain⟨x,c,rfl,b,q⟩:=h;rfl
 obtain⟨x,c,rfl,b,q⟩:=h;refine⟨_,(ai (aZ (fF e bT g U (aa (pv 0) (aa aX ae))))),?_⟩;exact⟨_,U,x,c,_,U,b,q⟩
theorem GI(F:Fun K "__init__" "Only.__init__" Y13 f fd) (bl:Bl K mg Y)(e:cz CX0 P w K mg base 1 "Way" "__init__" ["self","called"] (cX K Y)):aK P w K mg base CX0 2 f fd ["self"] (J8 K Y):=by
 refine F.ok Z13 (λd H Q E h=>?_) (λi A a s H d Q E g h=>?_)
 .obtain⟨x,c,rfl,b,q⟩:=h;rfl
 obtain⟨x,c,rfl,b,q⟩:=h;refine⟨_,(ai (aZ (fF e bT g U (aa (pv 0) (aa aX ae))))),?_⟩;exact⟨_,U,x,c,_,U,b,q⟩
theorem O_8(F:Fun K "__init__" "Like.__init__" Y8 f fd) (bl:Bl K mg Y)(e:cz CX0 P w K mg base 1 "Way" "__init__" ["self","called"] (cY K Y)):aK P w K mg base CX0 2 f fd ["self"] (J4 K Y):=by
 refine F.ok Z8 (λd H Q E h=>?_) (λi A a s H d Q E g h=>?_)
 .obtain⟨x,c,rfl,b,q⟩:=h;rfl
 obtain⟨x,c,rfl,b,q⟩:=h;refine⟨_,(ai (aZ (fF e bT g U (aa (pv 0) (aa aX ae))))),?_⟩;exact⟨_,U,x,c,_,U,b,q⟩
theorem GJ(F:Fun K "__init__" "Low.__init__" Y10 f fd) (bl:Bl K mg Y)(e:cz CX0 P w K mg base 1 "Way" "__init__" ["self","called"] (di K Y)):aK P w K mg base CX0 2 f fd ["self"] (J6 K Y):=by
 refine F.ok Z10 (λd H Q E h=>?_) (λi A a s H d Q E g h=>?_)
 .obtain⟨x,c,rfl,b,q⟩:=h;rfl
 obtain⟨x,c,rfl,b,q⟩:=h;refine⟨_,(ai (aZ (fF e bT g U (aa (pv 0) (aa aX ae))))),?_⟩;exact⟨_,U,x,c,_,U,b,q⟩
theorem O_6(F:Fun K "__init__" "High.__init__" Y6 f fd) (bl:Bl K mg Y)(e:cz CX0 P w K mg base 1 "Way" "__init__" ["self","called"] (cZ K Y)):aK P w K mg base CX0 2 f fd ["self"] (J2 K Y):=by
 refine F.ok Z6 (λd H Q E h=>?_) (λi A a s H d Q E g h=>?_)
 .obtain⟨x,c,rfl,b,q⟩:=h;rfl
 obtain⟨x,c,rfl,b,q⟩:=h;refine⟨_,(ai (aZ (fF e bT g U (aa (pv 0) (aa aX ae))))),?_⟩;exact⟨_,U,x,c,_,U,b,q⟩
theorem GK(F:Fun K "__init__" "Sum.__init__" Y15 f fd) (bl:Bl K mg Y)(e:cz CX0 P w K mg base 1 "Way" "__init__" ["self","called"] (dj K Y)):aK P w K mg base CX0 2 f fd ["self"] (J10 K Y):=by
 refine F.ok Z15 (λd H Q E h=>?_) (λi A a s H d Q E g h=>?_)
 .obtain⟨x,c,rfl,b,q⟩:=h;rfl
 obtain⟨x,c,rfl,b,q⟩:=h;refine⟨_,(ai (aZ (fF e bT g U (aa (pv 0) (aa aX ae))))),?_⟩;exact⟨_,U,x,c,_,U,b,q⟩
theorem O_2(F:Fun K "has_code" "Domain.has_code" Y2 f fd) (bl:Bl K mg Y)(e:Callee P w K mg base 1 "is_whole" ["value"] (fM K Y)):aK P w K mg base CX0 2 f fd ["self","value"] (bW K Y):=by
 refine F.okA Z2 λn A c s H o Q E g h=>?_
 obtain⟨a,b,i,rfl,⟨p,fs,d,j,k,_⟩,m,l,q⟩:=h;refine⟨_,(ai (aw (fO (aI e g U (aa (pv 1) ae)) (jz (mJ fD fD (bo (pv 0) U) (pv 1) (bo (pv 0) U)))))),?_⟩;refine⟨_,U,i,U,_,U,d8 ?_⟩;refine⟨_,U,a,_,_,_,_,U,d,bl.k_Numbers,bl.na_Numbers_low,j,_,U,_,_,U,U,_,U,fH m ?_⟩;refine⟨_,U,a,_,_,_,_,U,d,bl.k_Numbers,bl.na_Numbers_high,k,_,_,U,U,?_⟩;show Q (.bl (MB (i<=b.2))) H;rw[MH l];exact q
theorem O_3(F:Fun K "has_code" "Domain.has_code" Y3 f fd) (bl:Bl K mg Y)(e:Callee P w K mg base 1 "is_whole" ["value"] (fM K Y)):aK P w K mg base CX0 2 f fd ["self","value"] (cx K Y):=by
 refine F.okA Z3 λn A c s H o Q E g h=>?_
 obtain⟨a,b,i,rfl,⟨p,fs,d,j,k,_⟩,m,l,q⟩:=h;refine⟨_,(ai (aw (fO (aI e g U (aa (pv 1) ae)) (jz (mJ fD fD (bo (pv 0) U) (pv 1) (bo (pv 0) U)))))),?_⟩;refine⟨_,U,i,U,_,U,d8 ?_⟩;refine⟨_,U,a,_,_,_,_,U,d,bl.k_Words,bl.na_Words_low,j,_,U,_,_,U,U,_,U,fH m ?_⟩;refine⟨_,U,a,_,_,_,_,U,d,bl.k_Words,bl.na_Words_high,k,_,_,U,U,?_⟩;show Q (.bl (MB (i<=b.2))) H;rw[MH l];exact q
theorem GL(F:Fun K "__init__" "Numbers.__init__" Y12 f fd) (bl:Bl K mg Y)(d:cz CX0 P w K mg base 1 "Domain" "__init__" ["self","low","high"] (bV K Y)):aK P w K mg base CX0 2 f fd ["self","low","high"] (bz K Y):=by
 refine F.okA Z12 λi A a s H j Q E c h=>?_
 obtain⟨x,e,lo,hi,rfl,b,g,q⟩:=h
 refine⟨_,(aj (aN (aD kj (pv 1) (pv 2) (aH _))
  (ai bK)
  aC)
  (ai (aZ (fF d bT c U (aa (pv 0) (aa (pv 1) (aa (pv 2) ae))))))),?_⟩
 exact⟨_,U,_,U,_,_,U,U,_,U,cC (by lia) ⟨_,U,_,U,_,U,x,e,lo,hi,U,b,q⟩⟩
theorem GN(F:Fun K "verdict" "Way.verdict" Y24 f fd) (bl:Bl K mg Y)(r:bw CX0 P w K mg base 1 Y.b "chosen" ["self","codes","outcome"] (J1 K Y)):aK P w K mg base CX0 2 f fd ["self","codes","outcome"] (J12 K Y):=by
 refine F.ok Z24 (λp H Q E h=>?_) (λu A i s H p Q E t h=>?_)
 .obtain⟨x,c,o,a,b,rfl,⟨m,z,e⟩,j,d,g,k,q⟩:=h;rfl
 obtain⟨x,c,o,a,b,rfl,⟨m,z,e⟩,j,d,g,k,q⟩:=h
 refine⟨_,(aj (aN (bO (dH (pv 1) (by intro _;rfl)))
  (ai (aw (cM (v:=.ref Y.l) U bl.NONE_ U)))
  aC)
  (ai (aw (pD r bT bl.k_First t (pv 0) (aa (pv 1) (aa (pv 2) ae)))))),?_⟩
 refine⟨_,U,!(a.map V.int).isEmpty,.inl ⟨_,g,U⟩,?_⟩;cases a with
 |nil=>exact d8 (q _ _ (au.refl _) (.inr bl.q_NONE))
 |cons n a=>exact bB ⟨_,U,x,_,_,U,e,U,_,U,_,U,x,c,o,n,a,b,U,⟨m,z,e⟩,j,d,g,Dl k,q⟩
theorem GO(F:Fun K "verdict" "Way.verdict" Y28 f fd) (bl:Bl K mg Y)(r:bw CX0 P w K mg base 1 Y.c "chosen" ["self","codes","outcome"] (J9 K Y)):aK P w K mg base CX0 2 f fd ["self","codes","outcome"] (J16 K Y):=by
 refine F.ok Z28 (λp H Q E h=>?_) (λu A i s H p Q E t h=>?_)
 .obtain⟨x,c,o,a,b,rfl,⟨m,z,e⟩,j,d,g,k,q⟩:=h;rfl
 obtain⟨x,c,o,a,b,rfl,⟨m,z,e⟩,j,d,g,k,q⟩:=h
 refine⟨_,(aj (aN (bO (dH (pv 1) (by intro _;rfl)))
  (ai (aw (cM (v:=.ref Y.l) U bl.NONE_ U)))
  aC)
  (ai (aw (pD r bT bl.k_Only t (pv 0) (aa (pv 1) (aa (pv 2) ae)))))),?_⟩
 refine⟨_,U,!(a.map V.int).isEmpty,.inl ⟨_,g,U⟩,?_⟩;cases a with
 |nil=>exact d8 (q _ _ (au.refl _) (.inr bl.q_NONE))
 |cons n a=>exact bB ⟨_,U,x,_,_,U,e,U,_,U,_,U,x,c,o,n,a,b,U,⟨m,z,e⟩,j,d,g,Dl k,q⟩
theorem GP(F:Fun K "verdict" "Way.verdict" Y26 f fd) (bl:Bl K mg Y)(t:bw CX0 P w K mg base 1 Y.d "chosen" ["self","codes","outcome"] (J5 K Y)):aK P w K mg base CX0 2 f fd ["self","codes","outcome"] (J14 K Y):=by
 refine F.ok Z26 (λr H Q E h=>?_) (λy A j s H r Q E u h=>?_)
 .obtain⟨x,c,o,a,b,rfl,⟨p,z,g⟩,k,e,i,m,q⟩:=h;rfl
 obtain⟨x,c,o,a,b,rfl,⟨p,z,g⟩,k,e,i,m,q⟩:=h
 refine⟨_,(aj (aN (bO (dH (pv 1) (by intro _;rfl)))
  (ai (aw (cM (v:=.ref Y.l) U bl.NONE_ U)))
  aC)
  (ai (aw (pD t bT bl.k_Like u (pv 0) (aa (pv 1) (aa (pv 2) ae)))))),?_⟩
 refine⟨_,U,!(a.map V.int).isEmpty,.inl ⟨_,i,U⟩,?_⟩;cases a with
 |nil=>exact d8 (q _ _ (au.refl _) (.inr bl.q_NONE))
 |cons n a=>exact bB ⟨_,U,x,_,_,U,g,U,_,U,_,U,x,c,o,n,a,b,U,⟨p,z,g⟩,k,e,i,Dl m,q⟩
theorem GQ(F:Fun K "verdict" "Way.verdict" Y27 f fd) (bl:Bl K mg Y)(t:bw CX0 P w K mg base 1 Y.e "chosen" ["self","codes","outcome"] (J7 K Y)):aK P w K mg base CX0 2 f fd ["self","codes","outcome"] (J15 K Y):=by
 refine F.ok Z27 (λr H Q E h=>?_) (λy A j s H r Q E u h=>?_)
 .obtain⟨x,c,o,a,b,rfl,⟨p,z,g⟩,k,d,i,m,q⟩:=h;rfl
 obtain⟨x,c,o,a,b,rfl,⟨p,z,g⟩,k,d,i,m,q⟩:=h
 refine⟨_,(aj (aN (bO (dH (pv 1) (by intro _;rfl)))
  (ai (aw (cM (v:=.ref Y.l) U bl.NONE_ U)))
  aC)
  (ai (aw (pD t bT bl.k_Low u (pv 0) (aa (pv 1) (aa (pv 2) ae)))))),?_⟩
 refine⟨_,U,!(a.map V.int).isEmpty,.inl ⟨_,i,U⟩,?_⟩;cases a with
 |nil=>exact d8 (q _ _ (au.refl _) (.inr bl.q_NONE))
 |cons n a=>exact bB ⟨_,U,x,_,_,U,g,U,_,U,_,U,x,c,o,n,a,b,U,⟨p,z,g⟩,k,d,i,Dl m,q⟩
theorem GR(F:Fun K "verdict" "Way.verdict" Y25 f fd) (bl:Bl K mg Y)(r:bw CX0 P w K mg base 1 Y.f "chosen" ["self","codes","outcome"] (J3 K Y)):aK P w K mg base CX0 2 f fd ["self","codes","outcome"] (J13 K Y):=by
 refine F.ok Z25 (λp H Q E h=>?_) (λu A i s H p Q E t h=>?_)
 .obtain⟨x,c,o,a,b,rfl,⟨m,z,e⟩,j,d,g,k,q⟩:=h;rfl
 obtain⟨x,c,o,a,b,rfl,⟨m,z,e⟩,j,d,g,k,q⟩:=h
 refine⟨_,(aj (aN (bO (dH (pv 1) (by intro _;rfl)))
  (ai (aw (cM (v:=.ref Y.l) U bl.NONE_ U)))
  aC)
  (ai (aw (pD r bT bl.k_High t (pv 0) (aa (pv 1) (aa (pv 2) ae)))))),?_⟩
 refine⟨_,U,!(a.map V.int).isEmpty,.inl ⟨_,g,U⟩,?_⟩;cases a with
 |nil=>exact d8 (q _ _ (au.refl _) (.inr bl.q_NONE))
 |cons n a=>exact bB ⟨_,U,x,_,_,U,e,U,_,U,_,U,x,c,o,n,a,b,U,⟨m,z,e⟩,j,d,g,Dl k,q⟩
theorem GS(F:Fun K "verdict" "Way.verdict" Y29 f fd) (bl:Bl K mg Y)(t:bw CX0 P w K mg base 1 Y.g "chosen" ["self","codes","outcome"] (J11 K Y)):aK P w K mg base CX0 2 f fd ["self","codes","outcome"] (J17 K Y):=by
 refine F.ok Z29 (λr H Q E h=>?_) (λy A j s H r Q E u h=>?_)
 .obtain⟨x,c,o,a,b,rfl,⟨p,z,e⟩,k,d,i,m,q⟩:=h;rfl
 obtain⟨x,c,o,a,b,rfl,⟨p,z,e⟩,k,d,i,m,q⟩:=h
 refine⟨_,(aj (aN (bO (dH (pv 1) (by intro _;rfl)))
  (ai (aw (cM (v:=.ref Y.l) U bl.NONE_ U)))
  aC)
  (ai (aw (pD t bT bl.k_Sum u (pv 0) (aa (pv 1) (aa (pv 2) ae)))))),?_⟩
 refine⟨_,U,!(a.map V.int).isEmpty,.inl ⟨_,i,U⟩,?_⟩;cases a with
 |nil=>exact d8 (q _ _ (au.refl _) (.inr bl.q_NONE))
 |cons n a=>exact bB ⟨_,U,x,_,_,U,e,U,_,U,_,U,x,c,o,n,a,b,U,⟨p,z,e⟩,k,d,i,Dl m,q⟩
theorem GU(F:Fun K "grain" "grain" Y45 f fd) (bl:Bl K mg Y)(f6:Callee P w K mg base 2 "cut_columns" ["bounds","marks"] (dM K Y)):aK P w K mg base CX0 3 f fd ["bounds","marks"] (nZ K Y):=by
 refine F.okA Z45 λa3 A G s H vs Q E o h=>?_
 obtain⟨a,b,O,ps,as,c,rfl,ha,hP,hb,hM,hok,q⟩:=h
 refine⟨_,(aj (aJ (i:=2) Z45.nd U (Or.inl U) af)
  (aj (bc JZ.never U (aW (aI f6 o U (aa (pv 0) (aa (pv 1) ae)))) (aE (i:=3) Z45.nd U (Or.inl U))
  (ai (sZ (i:=2) Z45.nd U (Or.inl U) (ao aq U bl.len_ Mv (aa (pv 3) ae)) B3)))
  (ai (aw (pv 2))))),?_⟩
 dsimp only[cR,Cx.nox,Cx.wish];show(let T:TS:=_;let W:TS:=aU _ T;aU _ W _ _ _);intro _ _;refine⟨_,U,_,U,a,b,O,ps,as,c,U,ha,hP,hb,hM,hok,λl xs N D S L a2 C I=>?_⟩;obtain⟨a1,a0,x⟩:=hok;have z:xs.length=ps.length:=by rw[I.1,jR];lia
 refine⟨l,U,⟨_,SqL.of L⟩,bL (xs:=xs) (λi d k=>k=N/\∃v:Option V,d=[Mw (.ref a),Mw (.ref b),Mw (.int ((gr ps c i:Nat):Int)),v]) ⟨U,Mx,U⟩ (λi d k _ h=>by rw[h.1];exact SqL.of L) (λi y d k e h=>?_) (λd k h=>?_)⟩
 .obtain⟨u,v,rfl⟩:=h;rw[u];obtain⟨r,n,rfl,g,R,o,Z⟩:=aF.get I e;have hi:i<xs.length:=(IW.mp e).1;obtain⟨p,t⟩:∃p,ps[i]?=Mw p:=⟨_,IV (by lia)⟩;obtain⟨j,M⟩:∃j,D[i]?=Mw j:=⟨_,IV (by lia)⟩;obtain⟨m,J⟩:∃m,c[i]?=Mw m:=⟨_,IV (by lia)⟩;obtain⟨B,X,_⟩:=C i p m j t J M;rw[kM,t,M]at g;have g:ck p.1 p.2 j=n:=Option.some.inj g;have hl:R.length=gl ps c i:=by
   rw[Z.length,←g,gk,Cg B X];unfold gl;rw[dO,t,dO,J];rfl
  have b1:=Bd (ps:=ps) x i;have b2:(58:Nat)^i<=58^6:=Nat.pow_le_pow_right (by decide) (by lia);have b3:(58:Nat)^3<2^64:=by decide
  refine⟨_,U,_,U,r,_,U,.inl (SqL.of o),_,_,U,U,zH.ok (.inl ⟨by lia,by lia⟩),U,Mw (.ref r),?_⟩;rw[hl];show[Mw (V.ref a),Mw (.ref b),Mw (.int (((gr ps c i:Nat):Int)*((gl ps c i:Nat):Int))),Mw (.ref r)]=_;rw[show gr ps c (i+1)=gr ps c i*gl ps c i from U,Int.natCast_mul]
 .obtain⟨u,v,rfl⟩:=h;rw[u,z];exact⟨_,U,q N S⟩
theorem GV(F:Fun K "refuse_names" "refuse_names" Y81 f fd) (bl:Bl K mg Y)(u:Callee P w K mg base 2 "is_word" ["text"] (gY K Y)):aK P w K mg base CX0 3 f fd ["names"] (eR K Y):=by
 refine F.okA Z81 λL A r s H M Q E B h=>?_
 obtain⟨p,a,rfl,n,x,C,N,q⟩:=h
 refine⟨_,(aP (bc JZ.never U (aW (pv 0)) (aE (i:=1) Z81.nd U (Or.inl U))
  (ai (aN (bO (bI (aI u B U (aa (pv 1) ae))))
  (ai bK)
  aC)))
  (ai (aN (aD iq (ao jv U bl.len_ Mv (aa (bF (jt U) U bl.set_ PyProof.Rows.boot_set (aa (pv 0) ae)) ae)) (ao aq U bl.len_ Mv (aa (pv 0) ae)) (aH _))
  (ai bK)
  aC))),?_⟩
 have k:(a.map V.str).length=a.length:=bx _;refine⟨λo b=>b=H/\∃c:Option V,o=[Mw (.ref p),c],?_,?_⟩
 .refine⟨_,U,p,U,⟨_,n⟩,bL (xs:=a.map V.str) (λi m b=>b=H/\∃c:Option V,m=[Mw (.ref p),c]) ⟨U,_,U⟩ (λi m b _ h=>by rw[h.1];exact n) (λi y m b e h=>?_) (λm b h=>h)⟩;obtain⟨I,c,rfl⟩:=h;rw[I];obtain⟨z,rfl,D⟩:=ky e;have d:=x z (IX D);have v:z.length<=1000:=by
   have g:=d;unfold isw at g;simp only[IZ,decide_eq_true_eq]at g;lia
  refine⟨_,U,z,U,v,_,U,?_⟩;rw[d];exact bB ⟨U,_,U⟩
 rintro J O ⟨G,c,rfl⟩;rw[G];refine⟨_,U,p,a,U,n,by lia,λl j=>⟨l,a,U,ab,by lia,_,U,p,_,U,.inl ((ag j _).seq n),_,_,U,U,_,U,?_⟩⟩;have t:=lj a a.length (zz _);rw[hE]at t;exact cC (by rw[k,t.mpr C];lia) (q _ (ag j _))
theorem GW(F:Fun K "refuse_row" "refuse_row" Y82 f fd) (bl:Bl K mg Y)(fA:bw CX0 P w K mg base 2 Y.i "has_code" ["self","value"] (bW K Y)) (gx:bw CX0 P w K mg base 2 Y.j "has_code" ["self","value"] (cx K Y)):aK P w K mg base CX0 3 f fd ["domains","outcome","cells","code"] (fW K Y):=by
 refine F.okA Z82 λa2 A a0 s H vs Q E hr h=>?_
 obtain⟨v,m,z,dv,xs,bs,o,t,rfl,N,G,hO,O,I,ok,q⟩:=h
 refine⟨_,(aj (aN (aD lQ (ao aq U bl.len_ Mv (aa (pv 2) ae)) (ao aq U bl.len_ Mv (aa (pv 0) ae)) (aH _))
  (ai bK)
  aC)
  (aP (bc JZ.never U (qw U bl.zip_ (aa (pv 0) (aa (pv 2) ae))) (fc U (aM (aE (i:=4) Z82.nd U (Or.inl U)) (aM (aE (i:=5) Z82.nd U (Or.inl U)) bX)))
  (ai (bc JZ.never U (aW (pv 5)) (fc U (aM (aE (i:=6) Z82.nd U (Or.inl U)) (aM (aE (i:=7) Z82.nd U (Or.inl U)) bX)))
  (ai (aN (PW.pt (jm (aD iq (pv 6) (bo (pv 4) U) (aH _)) (gE (aD kj (pv 7) (bo (pv 4) U) (aH _)))))
  (ai bK)
  aC)))))
  (ai (aN (bO (bI (xZ (rM fA bl.k_Numbers (rM gx bl.k_Words Dn)) bT hr (pv 1) (aa (pv 3) ae))))
  (ai bK)
  aC)))),?_⟩
 dsimp only[cR,Cx.nox,Cx.wish];show(let r2:TS:=_;let r1:TS:=dE _ r2;aU _ r1 _ _ _);intro _ _;have Z:∀(C:Js),(C=Y.i\/C=Y.j)->Cls K C/\NoAttr K C s!"low"/\NoAttr K C s!"high":=λC h=>by
  rcases h with rfl|rfl
  .exact⟨bl.k_Numbers,bl.na_Numbers_low,bl.na_Numbers_high⟩
  .exact⟨bl.k_Words,bl.na_Words_low,bl.na_Words_high⟩
 have J:xs.length=dv.length:=by rw[I.1,ok.len,G.1]
 refine⟨_,U,z,_,U,.inl (SqL.of O),_,U,v,_,U,.inl (N),U,_,U,A2 (by rw[J]) ?_⟩;refine⟨λW c=>au H c/\∃D B k g:Option V,W=[Mw (.ref v),Mw (.ref m),Mw (.ref z),Mw (.int t.2),D,B,k,g],?_,?_⟩
 .refine⟨_,U,_,U,v,z,U,⟨_,N⟩,⟨_,SqL.of O⟩,qy (xs:=dv) (ys:=xs) (λi d c=>au H c/\∃D B k g:Option V,d=[Mw (.ref v),Mw (.ref m),Mw (.ref z),Mw (.int t.2),D,B,k,g]) ⟨au.refl _,_,_,_,_,U⟩ (λi d c h=>⟨h.1.seq N,SqL.of (h.1 _ _ O)⟩) (λi x y d c T ex ey h hT=>?_) (λd c h=>h)⟩;obtain⟨sm,D,B,k,g,rfl⟩:=h;have s2:=sm.trans (ag hT (.tup [x,y]));have eT:upd c T (.tup [x,y]) T=Mw (.tup [x,y]):=ab;generalize upd c T (.tup [x,y])=H2 at s2 eT⊢;obtain⟨a,b,rfl,eb,hb⟩:=G.get ex;obtain⟨l,ps,rfl,ep,hl⟩:=aF.get I ey;obtain⟨C,n,S,fs,u,f1,f2,_⟩:=hb.same s2;obtain⟨k1,k2,k3⟩:=Z C n;obtain⟨_,ys,el,hp⟩:=hl.same s2;refine⟨T,_,U,SqT.of eT,U,_,_,U,_,_,U,U,?_⟩;refine⟨_,U,l,U,⟨_,SqL.of el⟩,bL (xs:=ys) (λj d c=>c=H2/\∃k g:Option V,d=[Mw (.ref v),Mw (.ref m),Mw (.ref z),Mw (.int t.2),Mw (.ref a),Mw (.ref l),k,g]) ⟨U,_,_,U⟩ (λj d c _ h=>by rw[h.1];exact SqL.of el) (λj y d c e h=>?_) (λd c h=>?_)⟩
  .obtain⟨R,k,g,rfl⟩:=h;rw[R];obtain⟨p,r,e1,rfl,X⟩:=hp.get e;obtain⟨i1,i2⟩:=ok.inn i ps b ep eb p (IX e1);refine⟨r,_,U,SqT.of X,U,_,_,U,_,_,U,U,?_⟩;refine⟨_,U,_,U,a,_,_,_,_,U,u,k1,k2,f1,_,_,U,U,_,U,cC (by lia) ?_⟩;exact⟨_,U,_,U,a,_,_,_,_,U,u,k1,k3,f2,_,_,U,U,_,U,cC (by lia) ⟨U,_,_,U⟩⟩
  .obtain⟨R,k,g,rfl⟩:=h;rw[R];exact⟨s2,_,_,_,_,U⟩
 rintro a1 H3 ⟨L,D,B,k,g,rfl⟩;obtain⟨C,n,M⟩:=hO.same L;obtain⟨S,fs,u,f1,f2,f3⟩:=id M;rcases n with rfl|rfl
 .exact⟨_,U,m,_,S,fs,U,.head _,u,f3,_,U,m,o,t.2,U,M,ok.lo,ok.hi,_,U,bB (q _ L)⟩
 .exact⟨_,U,m,_,S,fs,U,.tail _ (.head _),u,f3,_,U,m,o,t.2,U,M,ok.lo,ok.hi,_,U,bB (q _ L)⟩
theorem GX(F:Fun K "mask" "mask" Y77 f fd) (bl:Bl K mg Y)(CB:Callee P w K mg base 2 "fits" ["table","k","codes"] (qS K Y)):aK P w K mg base CX0 3 f fd ["table","codes"] (kG K Y):=by
 refine F.okA Z77 λa4 A z s H vs Q E S h=>?_
 obtain⟨t,c,a,wi,o,j,rfl,⟨G,ou,Z,fs,r,wy,J,M,a2,a3,m,O,a0,a1,R,wB⟩,W,p,q⟩:=h;refine⟨_,(ai (aw (ao (d6 U) U bl.sum_ PyProof.Rows.boot_sum (aa (cb (aV U bl.range_ (aa (ao aq U bl.len_ Mv (aa (bo (pv 0) U) ae)) ae)) (bg (N:=["k","table","codes"]) (fr:=[0,1]) (cl:=[("table",s.heap.objs.size+1),("codes",s.heap.objs.size+1+1)]) U U (by decide+kernel) (by decide+kernel) U (by decide+kernel) U U U (hZ.mpr ⟨U,hZ.mpr ⟨U,jg _⟩⟩) U) U (λ_ _ _ _=>(i5 (bI (aI CB S U (aa (pv 1) (aa (pv 0) (aa (pv 2) ae))))))) (λ_ _ _ _=>(av qi af (pv 0)))) ae)))),?_⟩;have l:r.length=a.length:=O.1
 refine⟨_,U,t,_,_,_,_,U,J,bl.k_Table,bl.na_Table_rows,M,G,_,U,.inl (SqL.of m),_,U,(by show -(2^62)<=((r.length:Nat):Int);lia),(by show((r.length:Nat):Int)<2^62;lia),bU (λD i zs k=>au H k/\k D=Mw (.lst zs)/\∃b:List Int,zs=b.map V.int/\b.sum=((msk (jd a j) i:Nat):Int)/\b.length<=i)
  (λD u=>⟨ag u _,ab,[],U,U,Az _⟩) (λD i zs k u hi h=>?_) (λD zs k u h=>?_)⟩
 .obtain⟨d,x,b,rfl,g,T⟩:=h;have y:i<a.length:=by first|lia|(rw[←l];lia)
  obtain⟨e,v⟩:∃e,a[i]?=Mw e:=⟨_,IV y⟩;have L:a.getD i ([],0)=e:=getD_at v;refine⟨_,U,_,U,_,U,t,G,c,Z,fs,r,a,i,e,j,by rw[I1],d _ _ J,M,d _ _ m,O.same d,v,d.seq W,p e (IX v),λH3 C=>⟨_,U,?_⟩⟩;have B:=d.trans C;have n:=C _ _ x;cases hb:oO e.1 j with
  |true =>
   refine d8 ⟨_,U,_,_,U,U,⟨by lia,by lia,by decide⟩,cH.mk hi n (ay (by rw[bx];lia)) ⟨B.upd u,ab,b++[1*2^(0+(i:Int)).toNat],by simp,?_,by simp;lia⟩⟩;have X:(0+(i:Int)).toNat=i:=by lia
   rw[X,List.sum_append,g,kC,show jd a j i=Mz by unfold jd;rw[L];exact hb];simp;lia
  |false =>
   refine bB (d9.mk (zs:=b.map V.int) hi ⟨B,n,b,U,?_,by lia⟩);rw[g,kC,show jd a j i=MA by unfold jd;rw[L];exact hb];simp
 .obtain⟨d,x,b,rfl,g,T⟩:=h;rw[Jc]at g;refine⟨D,b,U,SqL.of x,?_⟩;have I:=q k d;rw[←l,←g]at I;exact I
theorem GY(F:Fun K "table_marks" "table_marks" Y89 f fd) (bl:Bl K mg Y)(n8:Callee P w K mg base 2 "column_marks" ["table","column"] (eQ K Y)):aK P w K mg base CX0 3 f fd ["table"] (fq K Y):=by
 refine F.okA Z90 λa3 A Z s H vs Q E hr h=>?_
 obtain⟨t,G,bs,o,L,rfl,u,hb,T,lF,hL,q⟩:=h;refine⟨_,(ai (aw (cb (aV U bl.range_ (aa (ao aq U bl.len_ Mv (aa (bo (pv 0) U) ae)) ae)) (bg (N:=["column","table"]) (fr:=[0]) (cl:=[("table",s.heap.objs.size+1)]) U U (by decide+kernel) (by decide+kernel) U (by decide+kernel) U U U (hZ.mpr ⟨U,jg _⟩) U) U (λ_ _ _ _=>bu) (λ_ _ _ _=>(aI n8 hr U (aa (pv 1) (aa (pv 0) ae))))))),?_⟩;obtain⟨rl,dx,dl,fs,xs,ht,f1,f2,W,M,a2,hR⟩:=id u;have a0:G.length=bs.length:=M.1;refine⟨_,U,t,_,_,_,_,U,ht,bl.k_Table,bl.na_Table_domains,f2,dl,_,U,.inl (SqL.of W),_,U,(by show -(2^62)<=((G.length:Nat):Int);lia),(by show((G.length:Nat):Int)<2^62;lia),bU (λD i v d=>au H d/\d D=Mw (.lst v)/\∃(m:List Js)(a:List (List Int)),v=m.map V.ref/\MLs (hide d D) m a/\a.length=i/\∀(c:Nat)(b:Int×Int)(j:List Int),bs[c]?=Mw b->a[c]?=Mw j->j.Pairwise (· < ·)/\∀x,x∈j↔MkC o c b x) (λD n=>⟨ag n _,ab,[],[],U,MLs.nil,U,λc b j _ e=>by simp at e⟩) (λD i v d n hi h=>?_) (λD v d n h=>?_)⟩
 .obtain⟨y,C,m,a,rfl,B,p,g⟩:=h;have r:i<bs.length:=by lia
  obtain⟨b,I⟩:∃b,bs[i]?=Mw b:=⟨_,IV r⟩;obtain⟨S,R⟩:=hL i b I;refine⟨_,U,_,U,t,i,G,bs,o,b,L i,by rw[I1],u.same y,I,T,λw hw=>⟨by rw[(lF w hw).1];exact r,(lF w hw).2 i⟩,S,R,λl cs H2 s2 nl el pw hm=>?_⟩;have X:=s2 _ _ C;have nD:l≠D:=λz=>by rw[z,C]at nl;cases nl
  have a1:=B.1;refine cH.mk hi X (ay (by rw[bx];lia)) ⟨(y.trans s2).upd n,ab,m++[l],a++[cs],by rw[gI];rfl,?_,by rw[dt,gy,p],λc b' j J k=>?_⟩
  .rw[nG];exact MLs.snoc (B.same (lC s2)) (dr el nD)
  .by_cases hc:c<a.length
   .rw[je hc]at k;exact g c b' j J k
   .rw[lh (by lia)]at k;have h0:=(IW.mp k).1;rw[gy]at h0;have O:c=i:=by lia
    subst O;rw[I]at J;cases J;rw[show c-a.length=0 by lia]at k;cases k;exact⟨pw,hm⟩
 .obtain⟨y,C,m,a,rfl,B,p,g⟩:=h;exact q D m a d y n C (B.same (qP d D)) (by lia) g
theorem GZ(F:Fun K "refuse_unlike" "refuse_unlike" Y83 f fd) (bl:Bl K mg Y)(X:Callee P w K mg base 2 "refuse_unlike_domains" ["ones","others"] (cw K Y)):aK P w K mg base CX0 3 f fd ["one","other"] (dW K Y):=by
 refine F.okA Z83 λa2 A D s H vs Q E W h=>?_
 obtain⟨t,u,g,O,a,c,ds,d,rfl,⟨dx,dl,fs,L,f1,f2,C⟩,⟨dy,el,gs,J,g1,Z,B⟩,N,M,z,o,l1,q⟩:=h;refine⟨_,(ai (aZ (aI X W U (aa (av dR (bo (pv 0) U) (aS (aa (bo (pv 0) U) ae))) (aa (av dR (bo (pv 1) U) (aS (aa (bo (pv 1) U) ae))) ae))))),?_⟩;have a1:=N.1;have a0:=M.1;refine⟨_,U,t,_,_,_,_,U,L,bl.k_Table,bl.na_Table_domains,f1,_,U,t,_,_,_,_,U,L,bl.k_Table,bl.na_Table_outcome,f2,(by show 1<=Ju;decide),λk y=>?_⟩;have n:=ag y (.lst [.ref a]);have S:upd H k (.lst [.ref a]) k=Mw (.lst [.ref a]):=ab;generalize upd H k (.lst [.ref a])=H1 at n S⊢;refine⟨dl,k,_,_,U,U,n _ _ C,S,BA (ay (by show g.length+1<=1000;lia)),λj x=>?_⟩;have I:=ag x (.lst (g++[.ref a]));have s2:=n.trans I;have e:upd H1 j (.lst (g++[.ref a])) j=Mw (.lst (g++[.ref a])):=ab;generalize upd H1 j (.lst (g++[.ref a]))=H2 at s2 e⊢;clear I;refine⟨_,U,u,_,_,_,_,U,s2 _ _ J,bl.k_Table,bl.na_Table_domains,g1,_,U,u,_,_,_,_,U,s2 _ _ J,bl.k_Table,bl.na_Table_outcome,Z,(by show 1<=Ju;decide),λi v=>?_⟩;have l:=ag v (.lst [.ref c]);have m:=s2.trans l;have R:upd H2 i (.lst [.ref c]) i=Mw (.lst [.ref c]):=ab;have e:=l _ _ e;generalize upd H2 i (.lst [.ref c])=H3 at m R e⊢;clear l;refine⟨el,i,_,_,U,U,m _ _ B,R,BA (ay (by show O.length+1<=1000;lia)),λV r=>?_⟩;have G:=ag r (.lst (O++[.ref c]));have b:=m.trans G;exact⟨j,V,_,_,ds++[d],U,G _ _ e,ab,aF.snoc (aF.mono N λ_ _ p=>p.same b) (z.same b),aF.snoc (aF.mono M λ_ _ p=>p.same b) (o.same b),λH5 T=>q H5 (b.trans T)⟩
theorem G5(F:Fun K "_law_just" "_law_just" Y60 f fd) (bl:Bl K mg Y)(lZ:Callee P w K mg base 2 "_law_size" ["box"] (iG K Y)) (l0:Callee P w K mg base 2 "_law_meet" ["one","other"] (iF K Y)) (oW:Callee P w K mg base 2 "_law_is_box" ["box","points"] (fV K Y)):aK P w K mg base CX0 3 f fd ["told","tiles","due","points"] (iI K Y):=by
 refine F.okA Z60 λf5 A e7 s H vs Q E T h=>?_
 obtain⟨z,I,W,pl,O,TL,G,C,dx,xs,c1,rfl,e4,b4,a6,b5,b6,b1,e5,d2,d1,h4,wY,b0,o,d3,c3,f1,f3,q⟩:=h
 refine⟨_,(aj (aJ (i:=4) Z60.nd U (Or.inl U) (ao (d6 U) U bl.sum_ PyProof.Rows.boot_sum (aa (cb (aV U bl.range_ (aa (ao aq U bl.len_ Mv (aa (pv 1) ae)) ae)) (bg (N:=["k","tiles","due"]) (fr:=[1,2]) (cl:=[("tiles",s.heap.objs.size+1),("due",s.heap.objs.size+1+1)]) U U (by decide+kernel) (by decide+kernel) U (by decide+kernel) U U U (hZ.mpr ⟨U,hZ.mpr ⟨U,jg _⟩⟩) U) U (λ_ _ _ _=>(i5 (aD zI (ax (bN (K:=K) U) (pv 2) (pv 0) (λ_ _=>U)) xk (aH _)))) (λ_ _ _ _=>(aI lZ T U (aa (ax (bN (K:=K) U) (pv 1) (pv 0) (λ_ _=>U)) ae)))) ae)))
  (aj (bc JZ.never U (aV U bl.range_ (aa (ao aq U bl.len_ Mv (aa (pv 0) ae)) ae)) (aE (i:=5) Z60.nd U (Or.inl U))
  (aj (aJ (i:=6) Z60.nd U (Or.inl U) (ax aO (ax aG (pv 0) (pv 5) (λ_ _=>U)) af (λ_ _=>U)))
  (aP (aN (PW.pt (jm (bO (bI (aI oW T U (aa (pv 6) (aa (pv 3) ae))))) (gE (PW.pt (gF (aD kj (pv 5) af (aH _)) (eV (aD (BZ T) (ax aO (ax aG (pv 0) (av b7 (pv 5) af) (λ_ _=>U)) af (λ_ _=>U)) (pv 6) (aH _))))))))
  (ai (aw cP))
  aC)
  (aP (bc JZ.never U (aV U bl.range_ (aa (pv 5) ae)) (aE (i:=7) Z60.nd U (Or.inl U))
  (ai (aN (bI (aI l0 T U (aa (ax aO (ax aG (pv 0) (pv 7) (λ_ _=>U)) af (λ_ _=>U)) (aa (pv 6) ae))))
  (ai (aw cP))
  aC)))
  (aj (aJ (i:=4) Z60.nd U (Or.inl U) (av b7 (pv 4) (aI lZ T U (aa (pv 6) ae))))
  (ai (bc JZ.never U (aV U bl.range_ (aa (ao aq U bl.len_ Mv (aa (pv 1) ae)) ae)) (aE (i:=7) Z60.nd U (Or.inl U))
  (ai (aN (PW.pt (gF (bI (aI l0 T U (aa (pv 6) (aa (ax aG (pv 1) (pv 7) (λ_ _=>U)) ae)))) (eV (aD (yr T) (ax aG (pv 2) (pv 7) (λ_ _=>U)) (ax aO (ax aG (pv 0) (pv 5) (λ_ _=>U)) af (λ_ _=>U)) (aH _)))))
  (ai (aw cP))
  aC)))))))))
  (ai (aw (fE bA (pv 4) af (aH _)))))),?_⟩
 dsimp only[cR,Cx.nox,Cx.wish];show(let r2:TS:=_;let r1:TS:=aU _ r2;aU _ r1 _ _ _);intro _ _;have f0:=b4.length;have f2:G.length=C.length:=by have:=b5.1;rw[bx]at this;exact this
 have hI:∀(j:Nat)(r:List (Int×Int)×OP),C[j]?=Mw r->∃b,G[j]?=Mw (.ref b)/\BxA H b r.1:=λj r e=>b5.2 j _ (by rw[gg,e];rfl)
 have b3:∀(j:Nat)(r:List (Int×Int)×OP),C[j]?=Mw r->∃v,dx[j]?=Mw v/\DuV K H r.2 v:=λj r e=>by
  have e1:=IV (l:=dx) (i:=j) (by rw[b1.1];exact(IW.mp e).1);exact⟨_,e1,b1.2 j r _ e e1⟩
 have hT:∀(k:Nat)(x:List (Int×Int)×OP),TL[k]?=Mw x->∃t b w_,O[k]?=Mw (.ref t)/\H t=Mw (.tup [.ref b,w_])/\BxA H b x.1/\RPd K H x.2 w_:=λk x e=>by
  have hk:=(IW.mp e).1;have e1:=IV (l:=O) (i:=k) (by lia);obtain⟨x',e2,t,b,w_,S,g1,g2,g3⟩:=cE b4 e1;rw[e]at e2;cases e2;exact⟨t,b,w_,by rw[e1,S],g1,g2,g3⟩
 refine⟨_,U,I,_,U,.inl (SqL.of a6),_,U,(by show -(2^62)<=((G.length:Nat):Int);lia),(by show((G.length:Nat):Int)<2^62;lia),bU (λD i zs H'=>au H H'/\H' D=Mw (.lst zs)/\zs=(qR (C.take i)).map V.int) (λD hD=>⟨ag hD _,ab,U⟩) (λD i zs H' hD hi hh=>?_) (λD zs H' hD hh=>?_)⟩
 .obtain⟨a,eD,rfl⟩:=hh;have a4:i<C.length:=by lia
  have n:=IV a4;generalize C[i]=r at n;obtain⟨b,eb,hb⟩:=hI i r n;obtain⟨M,a7,c⟩:=b3 i r n;have a1:atI dx (0+(i:Int))=Mw M:=by rw[I1];exact aL a7
  have X:atI G (0+(i:Int))=Mw (.ref b):=by rw[I1];exact aL eb
  have e0:=zj (C.take i);rw[iP]at e0;refine⟨_,U,_,U,W,_,_,_,U,U,SqL.of (a _ _ b6),a1,U,?_⟩;by_cases h0:r.2=Mx
  .rw[h0]at c;have c:M=.non:=c;refine⟨MA,by rw[c];rfl,bB (d9.mk hi ⟨a,eD,?_⟩)⟩;rw[p8 n,ME h0,jQ]
  .refine⟨Mz,by rw[MI (c.ne h0)];rfl,d8 ?_⟩;obtain⟨w1,w2⟩:=o r (.inr (IX n));refine⟨_,U,_,U,I,_,_,_,U,U,SqL.of (a _ _ a6),X,b,_,U,hb.mono a.tups,by lia,w2,?_⟩;refine cH.mk hi eD (ay (by rw[bx];lia)) ⟨a.upd hD,ab,?_⟩;rw[p8 n,MD h0,gI];rfl
 .obtain⟨a,eD,rfl⟩:=hh;rw[show(((G.length:Nat):Int)).toNat=C.length by lia,hE]at eD;refine⟨D,_,U,SqL.of eD,?_⟩;rw[←c3];have zp:=a _ _ e4;have D3:=a _ _ a6;have G6:=a _ _ b6;have G7:=a _ _ e5;have G8:=d2.same a;refine⟨_,U,z,_,U,.inl (SqL.of zp),_,U,(by show -(2^62)<=((O.length:Nat):Int);lia),(by show((O.length:Nat):Int)<2^62;lia),bR (λi m d=>d=H'/\∃c5 c6 B:Option V,m=[Mw (.ref z),Mw (.ref I),Mw (.ref W),Mw (.ref pl),Mw (.int (fv TL-fv (TL.take i))),c5,c6,B]) ⟨U,Mx,Mx,Mx,by rw[List.take_zero,show fv []=0 from U,Int.sub_zero];rfl⟩ (λi m d hi h=>?_) (λm d h=>?_)⟩
  .obtain⟨rfl,c5,c6,B,rfl⟩:=h;have a4:i<TL.length:=by lia
   have S:=IV a4;generalize TL[i]=x at S;obtain⟨t,b,wt,et,ht,hb,c2⟩:=hT i x S;have L:=IX S;have a8:=a _ _ ht;have p:=hb.mono a.tups;have a1:atI O (0+(i:Int))=Mw (.ref t):=by rw[I1];exact aL et
   obtain⟨w1,w2⟩:=o x (.inl L);refine⟨_,U,_,U,z,_,_,_,U,U,SqL.of zp,a1,t,_,_,_,U,U,SqT.of a8,U,?_⟩;generalize d4:fv TL-fv (TL.take i)=lf;refine⟨λZ H3=>H3=d/\Z=[Mw (.ref z),Mw (.ref I),Mw (.ref W),Mw (.ref pl),Mw (.int lf),Mw (.int (0+(i:Int))),Mw (.ref b),B],?_,?_⟩
   .refine⟨_,U,_,U,b,pl,_,xs,c1,U,p,G7,G8,d1,(b0 x L).1,h4,_,U,bB ?_⟩;refine⟨_,U,_,_,U,U,_,U,?_⟩;refine bD (λg=>?_) (λg=>?_)
    .have f4:0<0+(i:Int):=MJ g;obtain⟨R,rfl⟩:∃R,i=R+1:=⟨i-1,by lia⟩;have J:=IV (l:=TL) (i:=R) (by lia);generalize TL[R]=y at J;obtain⟨t',b',_,a5,a0,u,_⟩:=hT R y J;have X:atI O (0+((R+1:Nat):Int)-1)=Mw (.ref t'):=by rw[show 0+((R+1:Nat):Int)-1=(R:Int) by lia];exact aL a5
     exact⟨_,U,_,U,_,_,U,U,z,_,_,_,U,U,SqL.of zp,X,t',_,_,_,U,U,SqT.of (a _ _ a0),U,_,U,BxA.ge_to (u.mono a.tups) p (yS wY (BO _) J S) ⟨_,U,bB ⟨U,U⟩⟩⟩
    .exact⟨U,U⟩
   rintro e9 H3 ⟨rfl,rfl⟩;refine⟨λZ d=>d=H3/\∃B:Option V,Z=[Mw (.ref z),Mw (.ref I),Mw (.ref W),Mw (.ref pl),Mw (.int lf),Mw (.int (0+(i:Int))),Mw (.ref b),B],?_,?_⟩
   .refine⟨_,U,_,U,(by show -(2^62)<=0+(i:Int);lia),(by show 0+(i:Int)<2^62;lia),bR (λj m d=>d=H3/\∃B:Option V,m=[Mw (.ref z),Mw (.ref I),Mw (.ref W),Mw (.ref pl),Mw (.int lf),Mw (.int (0+(i:Int))),Mw (.ref b),B]) ⟨U,_,U⟩ (λj m d hj h=>?_) (λm d h=>h)⟩;obtain⟨rfl,c0,rfl⟩:=h;have d5:j<i:=by lia
    have J:=IV (l:=TL) (i:=j) (by lia);generalize TL[j]=y at J;obtain⟨t',b',_,a5,a0,u,_⟩:=hT j y J;have X:atI O (0+(j:Int))=Mw (.ref t'):=by rw[I1];exact aL a5
    refine⟨_,U,_,U,z,_,_,_,U,U,SqL.of zp,X,t',_,_,_,U,U,SqT.of (a _ _ a0),U,_,U,b',b,_,_,U,u.mono a.tups,p,(o y (.inl (IX J))).1.trans w1.symm,by rw[(o y (.inl (IX J))).1];lia,?_⟩;rw[zf (yS wY d5 J S)];exact⟨_,U,bB ⟨U,_,U⟩⟩
   rintro e8 H4 ⟨rfl,c8,rfl⟩;refine⟨_,U,_,U,b,_,U,p,by lia,w2,_,_,U,U,?_⟩;have G9:lf-vol x.1=fv TL-fv (TL.take (i+1)):=by rw[wH S,←d4];lia
   rw[G9];refine⟨_,U,I,_,U,.inl (SqL.of D3),_,U,(by show -(2^62)<=((G.length:Nat):Int);lia),(by show((G.length:Nat):Int)<2^62;lia),bR (λj m d=>d=H4/\∃B:Option V,m=[Mw (.ref z),Mw (.ref I),Mw (.ref W),Mw (.ref pl),Mw (.int (fv TL-fv (TL.take (i+1)))),Mw (.int (0+(i:Int))),Mw (.ref b),B]) ⟨U,_,U⟩ (λj m d hj h=>?_) (λm d h=>?_)⟩
   .obtain⟨rfl,c0,rfl⟩:=h;have n:=IV (l:=C) (i:=j) (by lia);generalize C[j]=r at n;obtain⟨b',e6,u⟩:=hI j r n;have a9:=IX n;have X:atI G (0+(j:Int))=Mw (.ref b'):=by rw[I1];exact aL e6
    obtain⟨M,a7,c⟩:=b3 j r n;have a3:atI dx (0+(j:Int))=Mw M:=by rw[I1];exact aL a7
    refine⟨_,U,_,U,_,U,I,_,_,_,U,U,SqL.of D3,X,b,b',_,_,U,p,u.mono a.tups,w1.trans (o r (.inr a9)).1.symm,by lia,_,U,?_⟩;cases hm:jx x.1 r.1 with
    |false=>exact bB ⟨U,_,U⟩
    |true =>
     have c4:=d3 x L r a9 hm;rw[c4]at c;have d0:=LPd.mono a.tups (c.rpd (b0 x L).2);have c9:=LPd.mono a.tups c2;refine d8 ⟨_,U,_,U,W,_,_,_,U,U,SqL.of G6,a3,_,U,_,U,z,_,_,_,U,U,SqL.of zp,a1,t,_,_,_,U,U,SqT.of a8,U,λe3=>LPd.ne e3 d0 c9 ?_⟩;rw[MH U];exact⟨_,U,bB ⟨U,_,U⟩⟩
   .obtain⟨rfl,c0,rfl⟩:=h;exact⟨U,_,_,_,U⟩
  .obtain⟨rfl,c5,c6,B,rfl⟩:=h;rw[show(((O.length:Nat):Int)).toNat=TL.length by lia,hE,Int.sub_self];exact⟨_,U,U,q _ a⟩
theorem Ha(F:Fun K "__init__" "Words.__init__" Y30 f fd) (bl:Bl K mg Y)(gz:cz CX0 P w K mg base 2 "Domain" "__init__" ["self","low","high"] (cq K Y)) (lJ:Callee P w K mg base 2 "is_word" ["text"] (gY K Y)):aK P w K mg base CX0 3 f fd ["self","words"] (bH K Y):=by
 refine F.okA Z30 λa2 A S s H vs Q E Z h=>?_
 obtain⟨x,d,p,a,rfl,W,L,G,q⟩:=h
 refine⟨_,(aj (aN (bO (ir fD fD af (ao aq U bl.len_ Mv (aa (pv 1) ae)) (lW U bl.MOST_WORDS_)))
  (ai bK)
  aC)
  (aP (bc JZ.never U (aW (pv 1)) (aE (i:=2) Z30.nd U (Or.inl U))
  (ai (aN (bO (bI (aI lJ Z U (aa (pv 2) ae))))
  (ai bK)
  aC)))
  (aj (aN (aD iq (ao jv U bl.len_ Mv (aa (bF (jt U) U bl.set_ PyProof.Rows.boot_set (aa (pv 1) ae)) ae)) (ao aq U bl.len_ Mv (aa (pv 1) ae)) (aH _))
  (ai bK)
  aC)
  (aj (aZ (fF gz bT Z U (aa (pv 0) (aa af (aa (av b7 (ao aq U bl.len_ Mv (aa (pv 1) ae)) af) ae)))))
  (ai (cQ (pv 0) (bF cD U bl.list_ PyProof.Rows.boot_list (aa (pv 1) ae)) U)))))),?_⟩
 dsimp only[cR,Cx.nox,Cx.wish];show(let r4:TS:=_;let r3:TS:=aU _ r4;let r2:TS:=aU _ r3;let r1:TS:=dE _ r2;aU _ r1 _ _ _);intro _ _ _ _;have t:SqL K H p (a.map V.str):=SqL.of L;have B:p≠x:=dG L W (by intro z;cases z);have c:(a.map V.str).length=a.length:=bx _;have h1:=G.some_;have a1:=G.few;refine⟨_,U,p,_,U,.inl t,_,_,U,U,_,U,fH (by rw[c];lia) ?_⟩;refine⟨_,_,U,U,_,U,?_⟩;rw[MH (show(((a.map V.str).length:Nat):Int)<=40 by rw[c];lia)];refine bB ?_;refine⟨λO n=>n=H/\∃u:Option V,O=[Mw (.ref x),Mw (.ref p),u],?_,?_⟩
 .refine⟨_,U,p,U,⟨_,t⟩,bL (xs:=a.map V.str) (λi D n=>n=H/\∃u:Option V,D=[Mw (.ref x),Mw (.ref p),u]) ⟨U,_,U⟩ (λi D n _ h=>by rw[h.1];exact t) (λi y D n e h=>?_) (λD n h=>h)⟩;obtain⟨e0,u,rfl⟩:=h;rw[e0];obtain⟨z,rfl,ez⟩:=ky e;have X:=G.words z (IX ez);have hz:z.length<=1000:=by
   have v:=X;unfold isw at v;simp only[IZ,decide_eq_true_eq]at v;lia
  refine⟨_,U,z,U,hz,_,U,?_⟩;rw[X];exact bB ⟨U,_,U⟩
 rintro a0 H2 ⟨I,u,rfl⟩;rw[I];refine⟨_,U,p,a,U,t,by lia,λl hl=>⟨l,a,U,ab,by lia,_,U,p,_,U,.inl ((ag hl _).seq t),_,_,U,U,_,U,?_⟩⟩;have J:=ag hl (oE P w l a);have cf:=lj a a.length (zz _);rw[hE]at cf;refine cC (by rw[c,cf.mpr G.once];lia) ?_;have R:=J _ _ W;have C:=J _ _ L;refine⟨_,U,_,U,p,_,U,.inl (SqL.of C),_,_,U,U,x,d,0,_,U,R,?_⟩;have N:mkd Y.j (upd H l (oE P w l a)) x d 0 ((((a.map V.str).length:Nat):Int)-1) x=Mw (.ins Y.j d [("low",.int 0),("high",.int ((((a.map V.str).length:Nat):Int)-1))]):=ab;have I:mkd Y.j (upd H l (oE P w l a)) x d 0 ((((a.map V.str).length:Nat):Int)-1) p=Mw (.lst (a.map V.str)):=by unfold mkd;rw[az B,az B];exact C
 have M:∀b o,b≠x->H b=Mw o->mkd Y.j (upd H l (oE P w l a)) x d 0 ((((a.map V.str).length:Nat):Int)-1) b=Mw o:=λb o r h=>by unfold mkd;rw[az r,az r];exact J b o h
 have eh:(((a.map V.str).length:Nat):Int)-1=hiW a:=by rw[c];rfl
 refine⟨_,U,p,_,U,.inl (SqL.of I),λk m=>⟨_,U,x,_,d,_,U,cU N m,bl.k_Words,bl.na_Words_words,(by show 2<1000;decide),?_⟩⟩;show Q .non (upd (upd (mkd Y.j (upd H l (oE P w l a)) x d 0 ((((a.map V.str).length:Nat):Int)-1)) k (.lst (a.map V.str))) x (.ins Y.j d (bC s!"words" (.ref k) [(s!"low",.int 0),(s!"high",.int ((((a.map V.str).length:Nat):Int)-1))])));rw[put3];have g:mkd Y.j (upd H l (oE P w l a)) x d 0 ((((a.map V.str).length:Nat):Int)-1) k=none:=m;clear m;generalize mkd Y.j (upd H l (oE P w l a)) x d 0 ((((a.map V.str).length:Nat):Int)-1)=H2 at N I M g⊢;rw[eh];have T:k≠x:=(bp N g).symm;exact q _ k (λb o r h=>(az r).trans (cU (M b o r h) g)) ab ((az T).trans ab) (by cases z:H k with|none=>rfl|some o=>have:=M k o T z;rw[g]at this;cases this)
theorem Hb(F:Fun K "way_by" "way_by" Y91 f fd) (bl:Bl K mg Y)(k_First:br CX0 P w K mg base 2 "First" Y.b ["self"] (J0 K Y)) (k_Only:br CX0 P w K mg base 2 "Only" Y.c ["self"] (J8 K Y)) (k_Like:br CX0 P w K mg base 2 "Like" Y.d ["self"] (J4 K Y)) (k_Low:br CX0 P w K mg base 2 "Low" Y.e ["self"] (J6 K Y)) (k_High:br CX0 P w K mg base 2 "High" Y.f ["self"] (J2 K Y)) (k_Sum:br CX0 P w K mg base 2 "Sum" Y.g ["self"] (J10 K Y)):aK P w K mg base CX0 4 f fd ["name"] (jc K Y):=by
 refine F.okA Z93 λa3 A a2 s H vs Q E hr h=>?_
 obtain⟨z,rfl,hz,q⟩:=h
 refine⟨_,(aj (bc JZ.never U (aW (aS (aa (ly k_First bT hr U) (aa (ly k_Only bT hr U) (aa (ly k_Like bT hr U) (aa (ly k_Low bT hr U) (aa (ly k_High bT hr U) (aa (ly k_Sum bT hr U) ae)))))))) (aE (i:=1) Z93.nd U (Or.inl U))
  (ai (aN (aD bA (bo (pv 1) U) (pv 0) (aH _))
  (ai (aw (pv 1)))
  aC)))
  (ai bK)),?_⟩
 refine λv N m k o=>⟨v,N,U,ab,U,?_⟩
 have t0:au H (upd (upd (upd H N (.own v)) v (.ins Y.b N [])) v (.ins Y.b N [("called",.str s!"first")])):=((ag k _).upd m).upd m;have B:WyN Y.b (upd (upd (upd H N (.own v)) v (.ins Y.b N [])) v (.ins Y.b N [("called",.str s!"first")])) v s!"first":=⟨N,ab⟩;generalize upd (upd (upd H N (.own v)) v (.ins Y.b N [])) v (.ins Y.b N [("called",.str s!"first")])=H0 at t0 B⊢;clear m k o;refine λu M m k o=>⟨u,M,U,ab,U,?_⟩
 have t1:au H0 (upd (upd (upd H0 M (.own u)) u (.ins Y.c M [])) u (.ins Y.c M [("called",.str s!"only")])):=((ag k _).upd m).upd m;have D:WyN Y.c (upd (upd (upd H0 M (.own u)) u (.ins Y.c M [])) u (.ins Y.c M [("called",.str s!"only")])) u s!"only":=⟨M,ab⟩;generalize upd (upd (upd H0 M (.own u)) u (.ins Y.c M [])) u (.ins Y.c M [("called",.str s!"only")])=H1 at t1 D⊢;clear m k o;have B:=B.same t1;refine λt L m k o=>⟨t,L,U,ab,U,?_⟩
 have t2:au H1 (upd (upd (upd H1 L (.own t)) t (.ins Y.d L [])) t (.ins Y.d L [("called",.str s!"like")])):=((ag k _).upd m).upd m;have O:WyN Y.d (upd (upd (upd H1 L (.own t)) t (.ins Y.d L [])) t (.ins Y.d L [("called",.str s!"like")])) t s!"like":=⟨L,ab⟩;generalize upd (upd (upd H1 L (.own t)) t (.ins Y.d L [])) t (.ins Y.d L [("called",.str s!"like")])=H2 at t2 O⊢;clear m k o;have B:=B.same t2;have D:=D.same t2;refine λw3 J m k o=>⟨w3,J,U,ab,U,?_⟩
 have t3:au H2 (upd (upd (upd H2 J (.own w3)) w3 (.ins Y.e J [])) w3 (.ins Y.e J [("called",.str s!"low")])):=((ag k _).upd m).upd m;have R:WyN Y.e (upd (upd (upd H2 J (.own w3)) w3 (.ins Y.e J [])) w3 (.ins Y.e J [("called",.str s!"low")])) w3 s!"low":=⟨J,ab⟩;generalize upd (upd (upd H2 J (.own w3)) w3 (.ins Y.e J [])) w3 (.ins Y.e J [("called",.str s!"low")])=H3 at t3 R⊢;clear m k o;have B:=B.same t3;have D:=D.same t3;have O:=O.same t3;refine λr I m k o=>⟨r,I,U,ab,U,?_⟩
 have Z:au H3 (upd (upd (upd H3 I (.own r)) r (.ins Y.f I [])) r (.ins Y.f I [("called",.str s!"high")])):=((ag k _).upd m).upd m;have X:WyN Y.f (upd (upd (upd H3 I (.own r)) r (.ins Y.f I [])) r (.ins Y.f I [("called",.str s!"high")])) r s!"high":=⟨I,ab⟩;generalize upd (upd (upd H3 I (.own r)) r (.ins Y.f I [])) r (.ins Y.f I [("called",.str s!"high")])=H4 at Z X⊢;clear m k o;have B:=B.same Z;have D:=D.same Z;have O:=O.same Z;have R:=R.same Z;refine λp G m k o=>⟨p,G,U,ab,U,?_⟩
 have T:au H4 (upd (upd (upd H4 G (.own p)) p (.ins Y.g G [])) p (.ins Y.g G [("called",.str s!"sum")])):=((ag k _).upd m).upd m;have y5:WyN Y.g (upd (upd (upd H4 G (.own p)) p (.ins Y.g G [])) p (.ins Y.g G [("called",.str s!"sum")])) p s!"sum":=⟨G,ab⟩;generalize upd (upd (upd H4 G (.own p)) p (.ins Y.g G [])) p (.ins Y.g G [("called",.str s!"sum")])=H5 at T y5⊢;clear m k o;have B:=B.same T;have D:=D.same T;have O:=O.same T;have R:=R.same T;have X:=X.same T;have s5:au H H5:=((((t0.trans t1).trans t2).trans t3).trans Z).trans T;refine⟨(by show 6<=Ju;decide),λl hl=>?_⟩;have S:au H5 (upd H5 l (.lst [V.ref v,.ref u,.ref t,.ref w3,.ref r,.ref p])):=ag hl _;have el:upd H5 l (.lst [V.ref v,.ref u,.ref t,.ref w3,.ref r,.ref p]) l=Mw (.lst [V.ref v,.ref u,.ref t,.ref w3,.ref r,.ref p]):=ab;generalize upd H5 l (.lst [V.ref v,.ref u,.ref t,.ref w3,.ref r,.ref p])=H6 at S el⊢;have B:=B.same S;have D:=D.same S;have O:=O.same S;have R:=R.same S;have X:=X.same S;have y5:=y5.same S;have sA:=s5.trans S;have a0:∀(i:Nat)(x:V),[V.ref v,.ref u,.ref t,.ref w3,.ref r,.ref p][i]?=Mw x->∃(a C:Js)(y:Str),x=.ref a/\(cl6 Y.b Y.c Y.d Y.e Y.f Y.g)[i]?=Mw C/\six[i]?=Mw y/\WyN C H6 a y/\Cls K C/\NoAttr K C s!"called":=λi x e=>by
  match i,e with
  |0,e=>cases e;exact⟨v,Y.b,_,U,U,U,B,bl.k_First,bl.na_First_called⟩
  |1,e=>cases e;exact⟨u,Y.c,_,U,U,U,D,bl.k_Only,bl.na_Only_called⟩
  |2,e=>cases e;exact⟨t,Y.d,_,U,U,U,O,bl.k_Like,bl.na_Like_called⟩
  |3,e=>cases e;exact⟨w3,Y.e,_,U,U,U,R,bl.k_Low,bl.na_Low_called⟩
  |4,e=>cases e;exact⟨r,Y.f,_,U,U,U,X,bl.k_High,bl.na_High_called⟩
  |5,e=>cases e;exact⟨p,Y.g,_,U,U,U,y5,bl.k_Sum,bl.na_Sum_called⟩
  |n+6,e=>simp at e
 refine⟨l,U,⟨_,SqL.of el⟩,bL (xs:=[V.ref v,.ref u,.ref t,.ref w3,.ref r,.ref p]) (λi σ H'=>(∃c1:Option V,σ=[Mw (.str z),c1])/\H'=H6/\∀j:Nat,j<i->six[j]?≠Mw z) ⟨⟨_,U⟩,U,(λj h=>MG h (CQ j))⟩ (λi σ H' _ h=>by rw[h.2.1];exact SqL.of el) (λi x σ H' e h=>?_) (λσ H' h=>?_)⟩
 .obtain⟨⟨c1,rfl⟩,e0,W⟩:=h;rw[e0];obtain⟨a,C,y,rfl,eC,ey,⟨dx,ha⟩,hc,hn⟩:=a0 i x e;refine⟨_,U,a,_,_,_,_,U,ha,hc,hn,U,_,U,U,_,U,?_⟩;refine bD (λg=>?_) (λg=>?_)
  .have g':V.str y=V.str z:=js g;injection g' with g';subst g';exact⟨_,U,q i ey a C H6 sA eC ⟨dx,ha⟩⟩
  .refine⟨⟨_,U⟩,U,λj hj=>?_⟩;by_cases a1:j<i
   .exact W j a1
   .have:j=i:=by lia
    subst this;rw[ey];intro q2;exact(lT g) (by injection q2 with q2;rw[q2])
 .obtain⟨⟨c1,rfl⟩,e0,W⟩:=h;rw[e0];obtain⟨j,hj,ej⟩:=List.getElem_of_mem hz;exact MG (by rw[IV hj,ej]) (W j hj)
theorem Hc(F:Fun K "refuse_way" "refuse_way" Y85 f fd) (bl:Bl K mg Y)(l:Callee P w K mg base 4 "way_by" ["name"] (jc K Y)):aK P w K mg base CX0 5 f fd ["way","outcome"] (fX K Y):=by
 refine F.okA Z85 λu A g s H y Q E r h=>?_
 obtain⟨z,B,rfl,m,d,q⟩:=h
 refine⟨_,(ai (aN (PW.pt (gF (aD bA (bo (aI l r U (aa (pv 0) ae)) U) aX (aH _)) (eV (bI (ao bG U bl.isinstance_ PyProof.Rows.boot_isinstance (aa (pv 1) (aa (cM (v:=.ref Y.j) U bl.Words_ U) ae)))))))
  (ai bK)
  aC)),?_⟩
 refine⟨_,U,z,U,m,λi D x C J b a p=>?_⟩;have k:Cls K C/\NoAttr K C s!"called":=by
  match i,a with
  |0,a=>cases a;exact⟨bl.k_First,bl.na_First_called⟩
  |1,a=>cases a;exact⟨bl.k_Only,bl.na_Only_called⟩
  |2,a=>cases a;exact⟨bl.k_Like,bl.na_Like_called⟩
  |3,a=>cases a;exact⟨bl.k_Low,bl.na_Low_called⟩
  |4,a=>cases a;exact⟨bl.k_High,bl.na_High_called⟩
  |5,a=>cases a;exact⟨bl.k_Sum,bl.na_Sum_called⟩
  |n+6,a=>simp[cl6]at a
 obtain⟨I,o⟩:=p;refine⟨x,_,_,_,_,U,o,k.1,k.2,U,U,_,U,?_⟩;by_cases c:z=s!"sum"
 .obtain⟨G,fs,t⟩:=d c;exact fH (by rw[c]) ⟨_,U,_,_,_,_,MA,U,.ref _,bl.t_Numbers.ty (b _ _ t),bl.f_nw,_,U,bB (q _ b)⟩
 .exact cC (λe=>by injection e with e;exact c e) (bB (q _ b))
theorem Hd(F:Fun K "judged" "judged" Y49 f fd) (bl:Bl K mg Y)(jh:bw CX0 P w K mg base 4 Y.b "verdict" ["self","codes","outcome"] (J12 K Y)) (jT:bw CX0 P w K mg base 4 Y.c "verdict" ["self","codes","outcome"] (J16 K Y)) (jU:bw CX0 P w K mg base 4 Y.d "verdict" ["self","codes","outcome"] (J14 K Y)) (kH:bw CX0 P w K mg base 4 Y.e "verdict" ["self","codes","outcome"] (J15 K Y)) (jV:bw CX0 P w K mg base 4 Y.f "verdict" ["self","codes","outcome"] (J13 K Y)) (kI:bw CX0 P w K mg base 4 Y.g "verdict" ["self","codes","outcome"] (J17 K Y)) (n9:Callee P w K mg base 4 "way_by" ["name"] (jc K Y)):aK P w K mg base CX0 5 f fd ["table","rows"] (gq K Y):=by
 refine F.okA Z49 λa7 A a6 s H vs Q E hr h=>?_
 obtain⟨t,a,wi,o,m,rfl,⟨rl,ou,dx,fs,xs,wy,S,hf,a3,a4,B,hR,z,a2,G,wB⟩,q⟩:=h
 refine⟨_,(aj (yg (i:=2) Z49.nd U (Or.inl U) (zZ U bl.enumerate_ (aa (bo (pv 0) U) ae)) (fI (N:=["k","row","rows"]) (k:=2) (fr:=[1]) (cl:=[("rows",s.heap.objs.size+1)]) U U (by decide+kernel) (by decide+kernel) U U (hZ.mpr ⟨U,jg _⟩) U) U (λ_ _ _ _=>(lU (K:=K) (n:=2) U U (aM (aE (i:=0) (show(["k","row","rows"]:List Str).Nodup by decide+kernel) U (Or.inl U) (Or.inr U)) (aM (aE (i:=1) (show(["k","row","rows"]:List Str).Nodup by decide+kernel) U (Or.inl U) (Or.inr U)) bX)))) (λ_ _ _ _=>(i5 (wa (K:=K) U (av tF (av tE (pv 2) (pv 0)) af)))) (λ_ _ _ _=>(ax (cO (K:=K) U) (pv 1) af (λ_ _=>U))))
  (ai (aw (xZ (rM jh bl.k_First (rM jT bl.k_Only (rM jU bl.k_Like (rM kH bl.k_Low (rM jV bl.k_High (rM kI bl.k_Sum Dn)))))) bT hr (aI n9 hr U (aa (bo (pv 0) U) ae)) (aa (pv 2) (aa (bo (pv 0) U) ae)))))),?_⟩
 have X:xs.length=a.length:=hR.1
 refine⟨_,U,t,_,_,_,_,U,S,bl.k_Table,bl.na_Table_rows,hf,rl,U,⟨_,SqL.of B⟩,uj (xs:=xs) (λD i zs p=>au H p/\p D=Mw (.lst zs)/\zs=(pkF a (bZ m) i).map V.int)
  (λD y=>⟨ag y _,ab,U⟩) (λD i zs p y _ h=>SqL.of (h.1 _ _ B)) (λD i x zs p T y ex h hT ts a0=>?_) (λD zs p y h=>?_)⟩
 .obtain⟨L,O,rfl⟩:=h;have s2:=L.trans (ag hT (.tup [.int i,x]));have eT:upd p T (.tup [.int i,x]) T=Mw (.tup [.int i,x]):=ab;have u:=ag hT (.tup [.int i,x]) _ _ O;generalize upd p T (.tup [.int i,x])=H2 at s2 eT u⊢;obtain⟨r,w_,rfl,ew,ce,cv,g1,_,g2,g3⟩:=aF.get (hR.same s2) ex;have hi:i<xs.length:=(IW.mp ex).1;have hg:a.getD i ([],0)=w_:=getD_at ew;have a1:=vj a (bZ m) i;obtain⟨J,I,rfl⟩:∃J I,ts=[J,I]:=by
   match ts,a0 with
   | [J,I],_=>exact⟨J,I,U⟩
  refine⟨T,_,U,SqT.of eT,U,_,_,U,_,_,U,U,⟨[Mw (.int i),Mw (.ref r)],U,U⟩,?_⟩;refine⟨_,U,_,U,_,_,U,U,Int.natCast_nonneg _,_,_,U,U,bZ m i,U,?_⟩;have v:=yB a (bZ m) i;rw[hg]at v;cases hb:bZ m i with
  |true =>
   rw[hb]at v;refine d8 ⟨_,U,r,_,_,_,U,U,SqT.of g1,U,cH.mk hi u (ay (by rw[bx];lia)) ⟨s2.upd y,ab,?_⟩⟩;rw[v,gI];rfl
  |false =>
   rw[hb]at v;refine bB (d9.mk (zs:=(pkF a (bZ m) i).map V.int) hi ⟨s2,u,?_⟩);rw[v];simp
 .obtain⟨L,O,rfl⟩:=h;rw[X]at O;have Z:wy∈six:=IX z;refine⟨_,U,t,_,_,_,_,U,L _ _ S,bl.k_Table,bl.na_Table_way,a3,wy,U,Z,λM a5 x C H2 s2 l hw=>?_⟩;have ii:M=wi:=Ac a5 z;subst ii;have R:=L.trans s2;obtain⟨dw,hx⟩:=hw;have a1:=vj a (bZ m) a.length;have W:(C,kB K C Y.i Y.j M)∈[(Y.b,kB K Y.b Y.i Y.j 0),(Y.c,kB K Y.c Y.i Y.j 1),(Y.d,kB K Y.d Y.i Y.j 2),(Y.e,kB K Y.e Y.i Y.j 3),(Y.f,kB K Y.f Y.i Y.j 4),(Y.g,kB K Y.g Y.i Y.j 5)]:=by
   match M,l with
   |0,l=>cases l;exact .head _
   |1,l=>cases l;exact .tail _ (.head _)
   |2,l=>cases l;exact .tail _ (.tail _ (.head _))
   |3,l=>cases l;exact .tail _ (.tail _ (.tail _ (.head _)))
   |4,l=>cases l;exact .tail _ (.tail _ (.tail _ (.tail _ (.head _))))
   |5,l=>cases l;exact .tail _ (.tail _ (.tail _ (.tail _ (.tail _ (.head _)))))
   |n+6,l=>simp[cl6]at l
  refine⟨x,(C,kB K C Y.i Y.j M),dw,_,U,W,hx,U,_,U,_,U,t,_,_,_,_,U,R _ _ S,bl.k_Table,bl.na_Table_outcome,a4,x,D,ou,_,o,U,⟨dw,_,hx⟩,a2.same R,G,SqL.of (s2 _ _ O),by lia,λr H3 s3 h3=>q r H3 (R.trans s3) h3⟩
theorem He(F:Fun K "_law_domain" "_law_domain" Y53 f fd) (bl:Bl K mg Y)(a:br CX0 P w K mg base 3 "Numbers" Y.i ["self","low","high"] (bz K Y)) (k:br CX0 P w K mg base 3 "Words" Y.j ["self","words"] (bH K Y)) (eH:Callee P w K mg base 4 "_law_word" ["cell","k"] (eF K Y)):aK P w K mg base CX0 5 f fd ["cell","points"] (fY K Y):=by
 refine F.okA Z53 λa0 A T s H vs Q E G h=>?_
 obtain⟨c,l,d,rfl,L,I,hw,q⟩:=h
 refine⟨_,(aj (aN (aD bA (av aR (pv 0) af) af (aH _))
  (ai (aw (rz k bT G U (aa (cb (aV U bl.range_ (aa (av b7 (ao aq U bl.len_ Mv (aa (pv 1) ae)) af) ae)) (bg (N:=["k","cell"]) (fr:=[0]) (cl:=[("cell",s.heap.objs.size+1)]) U U (by decide+kernel) (by decide+kernel) U (by decide+kernel) U U U (hZ.mpr ⟨U,jg _⟩) U) U (λ_ _ _ _=>bu) (λ_ _ _ _=>(aI eH G U (aa (pv 1) (aa (pv 0) ae))))) ae))))
  aC)
  (ai (aw (rz a bT G U (aa (ax aG (pv 1) af (λ_ _=>U)) (aa (av b7 (ax aG (pv 1) (jn fQ af) (λ_ _=>U)) af) ae)))))),?_⟩
 have h2:=I.two;refine⟨_,U,_,_,U,U,(by show(0:Int)<3;decide),U,_,U,?_⟩;refine bD (λg=>?_) (λg=>?_)
 .obtain⟨m,W,M,rfl⟩:=hw (f7 g);have hl:((cV (m+1)).map V.int).length=m+1:=by rw[bx,cn]
  have t:((((cV (m+1)).map V.int).length:Nat):Int)-1=(m:Int):=by rw[hl];lia
  refine⟨_,U,l,_,U,.inl (SqL.of L),_,_,U,U,_,U,(by rw[t];lia),(by rw[t];lia),bU (λD i v r=>au H r/\r D=Mw (.lst v)/\v=(w3s c i).map V.str) (λD z=>⟨ag z _,ab,U⟩) (λD i v r z hi J=>?_) (λD v r z J=>?_)⟩
  .obtain⟨y,B,rfl⟩:=J;rw[t]at hi;refine⟨_,U,_,U,c,_,U,(by lia),(by lia),cH.mk (by rw[t];exact hi) B (ay (by rw[bx,fK];lia)) ⟨y.upd z,ab,?_⟩⟩;rw[nA,gI];rfl
  .obtain⟨y,B,rfl⟩:=J;rw[t]at B;refine λx n p o S=>?_
   have C:au r (upd (upd r n (.own x)) x (.ins Y.j n [])):=(ag o _).upd p;refine⟨x,n,D,w3s c m,U,ab,C _ _ B,rY W M,λH6 Z k1 X k3 k4=>⟨U,q x H6 (y.trans λb u e=>k1 b u (bp e p) (C _ _ e)) ?_ ?_⟩⟩
   rotate_left
   .unfold wK;rw[ME (f7 g),cn];exact⟨n,_,Z,X,U,k3,U,U,U,y.free (C.free k4)⟩
   refine⟨Y.j,.inr U,n,_,X,?_,?_,U⟩
   .rw[wC W];rfl
   .rw[wD];show Mw (V.int (hiW (w3s c m)))=_;unfold hiW;rw[fK]
 .have e0:d[0]?=Mw (loP d):=by
   unfold loP;rw[dO,IV (by lia)];rfl
  have R:atI (d.map V.int) 0=Mw (.int (loP d)):=aL (j:=0) (get_map e0);have O:atI (d.map V.int) (-1)=Mw (.int (hiP d+1)):=by
   unfold atI;rw[iC (by rw[bx];lia),bx];exact get_map I.last
  refine⟨_,U,l,_,_,_,U,U,SqL.of L,R,_,U,_,U,l,_,_,_,U,U,SqL.of L,O,_,_,U,U,λx n p o S=>⟨x,n,loP d,hiP d,?_,ab,I.le,U,?_⟩⟩
  .show[V.ref x,V.int (loP d),V.int (hiP d+1-1)]=_;rw[show hiP d+1-1=hiP d by lia]
  refine q x _ ?_ ⟨Y.i,.inl U,n,_,ab,U,U,U⟩ (by unfold wK;rw[MD (iZ g)];exact⟨n,_,ab,U,U,U⟩);unfold mkd;exact(((ag o _).upd p).upd p).upd p
theorem Hf(F:Fun K "_law_outcome" "_law_outcome" Y64 f fd) (bl:Bl K mg Y)(a:br CX0 P w K mg base 3 "Numbers" Y.i ["self","low","high"] (bz K Y)) (d:br CX0 P w K mg base 3 "Words" Y.j ["self","words"] (bH K Y)) (Z:Callee P w K mg base 4 "_law_word" ["cell","k"] (eF K Y)):aK P w K mg base CX0 5 f fd ["cell","outs"] (ft K Y):=by
 refine F.okA Z64 λa1 A G s H vs Q E y h=>?_
 obtain⟨c,l,os,rfl,L,W,q⟩:=h
 refine⟨_,(aj (aN (aD bA (av aR (pv 0) af) af (aH _))
  (ai (aw (rz d bT y U (aa (cb (aV U bl.range_ (aa af ae)) (bg (N:=["k","cell"]) (fr:=[0]) (cl:=[("cell",s.heap.objs.size+1)]) U U (by decide+kernel) (by decide+kernel) U (by decide+kernel) U U U (hZ.mpr ⟨U,jg _⟩) U) U (λ_ _ _ _=>bu) (λ_ _ _ _=>(aI Z y U (aa (pv 1) (aa (pv 0) ae))))) ae))))
  aC)
  (ai (aw (rz a bT y U (aa (ax aG (pv 1) af (λ_ _=>U)) (aa (ax aG (pv 1) af (λ_ _=>U)) ae)))))),?_⟩
 obtain⟨O,x1,x2,x3,M,rfl,h1,h2,h3,h4,X⟩:=W;refine⟨_,U,_,_,U,U,(by show(0:Int)<3;decide),U,_,U,?_⟩;refine bD (λg=>?_) (λg=>?_)
 .obtain⟨e0,e4⟩:=X (f7 g);subst e0 e4;refine⟨_,U,(by decide),(by decide),bU (λD i r p=>au H p/\p D=Mw (.lst r)/\r=(w3s c i).map V.str) (λD t=>⟨ag t _,ab,U⟩) (λD i r p t hi z=>?_) (λD r p t z=>?_)⟩
  .obtain⟨v,B,rfl⟩:=z;have a0:i<5:=hi;refine⟨_,U,_,U,c,_,U,(by lia),(by lia),cH.mk hi B (ay (by rw[bx,fK];lia)) ⟨v.upd t,ab,?_⟩⟩;rw[nA,gI];rfl
  .obtain⟨v,B,rfl⟩:=z;refine λx k o m C=>?_
   have I:au p (upd (upd p k (.own x)) x (.ins Y.j k [])):=(ag m _).upd o;refine⟨x,k,D,w3s c 5,U,ab,I _ _ B,rY (by decide) (by decide),λH6 R T J S k4=>⟨U,q x H6 (v.trans λb u e=>T b u (bp e o) (I _ _ e)) ?_ (λn=>MG (f7 g) n) (by unfold dmO;rw[ME (f7 g)];exact⟨k,_,R,J,U,S,U,U,U⟩)⟩⟩;refine⟨Y.j,.inr U,k,_,J,U,?_,U⟩;show Mw (V.int (hiW (w3s c 5)))=Mw (.int 4);unfold hiW;rw[fK];rfl
 .refine⟨_,U,l,_,_,_,U,U,SqL.of L,U,_,U,l,_,_,_,U,U,SqL.of L,U,λx k o m C=>⟨x,k,O,M,U,ab,by lia,U,?_⟩⟩;refine q x _ ?_ ⟨Y.i,.inl U,k,_,ab,U,U,U⟩ (λ_=>⟨k,_,ab⟩) (by unfold dmO;rw[MD (iZ g)];exact⟨k,_,ab,U,U,U⟩);unfold mkd;exact(((ag m _).upd o).upd o).upd o
theorem Hg(F:Fun K "__init__" "Table.__init__" Y17 f fd) (bl:Bl K mg Y)(og:Callee P w K mg base 5 "refuse_names" ["names"] (eR K Y)) (mi:Callee P w K mg base 5 "refuse_counts" ["names","rows"] (dU K Y)) (qT:Callee P w K mg base 5 "refuse_way" ["way","outcome"] (fX K Y)) (qU:Callee P w K mg base 5 "refuse_row" ["domains","outcome","cells","code"] (fW K Y)) (wZ:Callee P w K mg base 5 "own_row" ["cells","code"] (jH K Y)):aK P w K mg base CX0 6 f fd ["self","name","names","domains","outcome","way","rows"] (cB K Y):=by
 refine F.okA Z17 λd4 A c9 s H vs Q E hr h=>?_
 obtain⟨x,g,na,dl,m,rl,c,C,l,J,rx,bs,o,a1,rfl,hx,W,hw,b5,h1,h4,b0,b1,a0,c1,b4,S,hR,wB,d3,hok,q⟩:=h
 refine⟨_,(aj (aZ (aI og hr U (aa (av dR (aS (aa (pv 1) ae)) (pv 2)) ae)))
  (aj (aZ (aI mi hr U (aa (pv 2) (aa (pv 6) ae))))
  (aj (aZ (aI qT hr U (aa (pv 5) (aa (pv 4) ae))))
  (aP (bc JZ.never U (aW (pv 6)) (fc U (aM (aE (i:=7) Z17.nd U (Or.inl U)) (aM (aE (i:=8) Z17.nd U (Or.inl U)) bX)))
  (ai (aZ (aI qU hr U (aa (pv 3) (aa (pv 4) (aa (pv 7) (aa (pv 8) ae))))))))
  (aj (cQ (pv 0) (pv 1) U)
  (aj (cQ (pv 0) (bF cD U bl.list_ PyProof.Rows.boot_list (aa (pv 2) ae)) U)
  (aj (cQ (pv 0) (bF cD U bl.list_ PyProof.Rows.boot_list (aa (pv 3) ae)) U)
  (aj (cQ (pv 0) (pv 4) U)
  (aj (cQ (pv 0) (pv 5) U)
  (ai (cQ (pv 0) (fe (aW (pv 6)) (eW (N:=["cells","code"]) (k:=2) U U (by decide+kernel) (by decide+kernel) (by decide+kernel)) U (λ_ _ _ _=>(lU (K:=K) (n:=2) U U (aM (aE (i:=0) (show(["cells","code"]:List Str).Nodup by decide+kernel) U (Or.inl U) (Or.inr U)) (aM (aE (i:=1) (show(["cells","code"]:List Str).Nodup by decide+kernel) U (Or.inl U) (Or.inr U)) bX)))) (λ_ _ _ _=>bu) (λ_ _ _ _=>(aI wZ hr U (aa (pv 0) (aa (pv 1) ae))))) U))))))))))),?_⟩
 dsimp only[cR,Cx.nox,Cx.wish];show(let r9:TS:=_;let r8:TS:=aU _ r9;let r7:TS:=aU _ r8;let r6:TS:=aU _ r7;let r5:TS:=aU _ r6;let r4:TS:=aU _ r5;let r3:TS:=dE _ r4;let r2:TS:=aU _ r3;let r1:TS:=aU _ r2;aU _ r1 _ _ _);intro _ _ _ _ _ _ _ _ _;have Z:(l.map V.str).length=l.length:=bx _;refine⟨_,U,(by show 1<=Ju;decide),λl1 c0=>?_⟩;have s1:=ag c0 (.lst [.str c]);have e1:upd H l1 (.lst [.str c]) l1=Mw (.lst [.str c]):=ab;generalize upd H l1 (.lst [.str c])=H1 at s1 e1⊢;refine⟨_,U,l1,na,_,_,U,U,e1,s1 _ _ W,(by rw[Z];show 1+l.length<=Ju;exact big (by lia)),λl2 b6=>?_⟩;have s2:=s1.trans (ag b6 (.lst ([V.str c]++l.map V.str)));have e2:upd H1 l2 (.lst ([V.str c]++l.map V.str)) l2=Mw (.lst ((c :: l).map V.str)):=ab;generalize upd H1 l2 (.lst ([V.str c]++l.map V.str))=H2 at s2 e2⊢;refine⟨l2,c :: l,U,SqL.of e2,hw,b5,by rw[iQ];lia,λH3 t3=>?_⟩;have s3:=s2.trans t3;refine⟨_,U,_,U,na,rl,_,_,U,SqL.of (s3 _ _ W),SqL.of (s3 _ _ S),by rw[Z];exact h1,by rw[Z];exact h4,wB,?_⟩;refine⟨_,U,_,U,C,m,U,b0,(λz=>let ⟨dx',fs',e'⟩:=b1 z;⟨dx',fs',s3 _ _ e'⟩),λH4 t4=>?_⟩;have s4:=s3.trans t4;refine⟨λa6 v=>au H v/\∃c7 c8:Option V,a6=[Mw (.ref x),Mw (.str c),Mw (.ref na),Mw (.ref dl),Mw (.ref m),Mw (.str C),Mw (.ref rl),c7,c8],?_,?_⟩
 .refine⟨_,U,rl,U,⟨_,SqL.of (s4 _ _ S)⟩,bL (xs:=rx) (λi σ v=>au H v/\∃c7 c8:Option V,σ=[Mw (.ref x),Mw (.str c),Mw (.ref na),Mw (.ref dl),Mw (.ref m),Mw (.str C),Mw (.ref rl),c7,c8]) ⟨s4,_,_,U⟩ (λi σ v _ h=>SqL.of (h.1 _ _ S)) (λi y σ v e h=>?_) (λσ v h=>h)⟩;obtain⟨u,c7,c8,rfl⟩:=h;obtain⟨r,w_,rfl,ew,ce,cv,g1,_,g2,g3⟩:=aF.get (hR.same u) e;refine⟨r,_,U,SqT.of g1,U,_,_,U,_,_,U,U,?_⟩;exact⟨_,U,_,U,_,U,_,U,dl,m,ce,J,cv,bs,o,w_,U,SqL.of (u _ _ a0),aF.mono c1 λ_ _ p=>p.same u,b4.same u,g2,g3,hok w_ (IX ew),λH2 t2=>⟨u.trans t2,_,_,U⟩⟩
 rintro d0 L ⟨T,c7,c8,rfl⟩;have x5:=T _ _ hx;have a8:na≠x:=dG W hx (by intro z;cases z);have c5:dl≠x:=dG a0 hx (by intro z;cases z);have a7:rl≠x:=dG S hx (by intro z;cases z);have k5:∀b o,b≠x->H b=Mw o->L b=Mw o:=λb o _ e=>T b o e
 have R5:=RL.hide x5 (hR.same T);refine⟨_,U,_,U,x,_,g,_,U,x5,bl.k_Table,bl.na_Table_name,(by show 0<1000;decide),?_⟩;have k6:∀b o,b≠x->L b=Mw o->upd L x (.ins Y.k g [(s!"name",.str c)]) b=Mw o:=λb o t e=>(az t).trans e
 have x6:upd L x (.ins Y.k g [(s!"name",.str c)]) x=Mw (.ins Y.k g [(s!"name",.str c)]):=ab;have g6:upd L x (.ins Y.k g (bC s!"name" (.str c) []))=upd L x (.ins Y.k g [(s!"name",.str c)]):=rfl;rw[g6];clear g6;generalize upd L x (.ins Y.k g [(s!"name",.str c)])=H6 at k6 x6⊢;refine⟨_,U,na,_,U,.inl (SqL.of (k6 _ _ a8 (T _ _ W))),λd I=>⟨_,U,x,_,g,_,U,cU x6 I,bl.k_Table,bl.na_Table_names,(by show 1<1000;decide),?_⟩⟩;have g7:upd (upd H6 d (.lst (l.map V.str))) x (.ins Y.k g (bC s!"names" (V.ref d) [(s!"name",V.str c)]))=upd (upd H6 d (.lst (l.map V.str))) x (.ins Y.k g [(s!"name",V.str c),(s!"names",V.ref d)]):=by rw[pf1]
 rw[g7];clear g7;have k7:∀b o,b≠x->L b=Mw o->upd (upd H6 d (.lst (l.map V.str))) x (.ins Y.k g [(s!"name",V.str c),(s!"names",V.ref d)]) b=Mw o:=λb o t e=>(az t).trans (cU (k6 b o t e) I)
 have x7:upd (upd H6 d (.lst (l.map V.str))) x (.ins Y.k g [(s!"name",V.str c),(s!"names",V.ref d)]) x=Mw (.ins Y.k g [(s!"name",V.str c),(s!"names",V.ref d)]):=ab;have G:d≠x:=λz=>by rw[z,x6]at I;cases I
 have j7:upd (upd H6 d (.lst (l.map V.str))) x (.ins Y.k g [(s!"name",V.str c),(s!"names",V.ref d)]) d=Mw (.lst (l.map V.str)):=(az G).trans ab;generalize upd (upd H6 d (.lst (l.map V.str))) x (.ins Y.k g [(s!"name",V.str c),(s!"names",V.ref d)])=H7 at k7 x7 j7⊢;refine⟨_,U,dl,_,U,.inl (SqL.of (k7 _ _ c5 (T _ _ a0))),λj B=>⟨_,U,x,_,g,_,U,cU x7 B,bl.k_Table,bl.na_Table_domains,(by show 2<1000;decide),?_⟩⟩;have g8:upd (upd H7 j (.lst J)) x (.ins Y.k g (bC s!"domains" (V.ref j) [(s!"name",V.str c),(s!"names",V.ref d)]))=upd (upd H7 j (.lst J)) x (.ins Y.k g [(s!"name",V.str c),(s!"names",V.ref d),(s!"domains",V.ref j)]):=by rw[pf2]
 rw[g8];clear g8;have k8:∀b o,b≠x->L b=Mw o->upd (upd H7 j (.lst J)) x (.ins Y.k g [(s!"name",V.str c),(s!"names",V.ref d),(s!"domains",V.ref j)]) b=Mw o:=λb o t e=>(az t).trans (cU (k7 b o t e) B)
 have x8:upd (upd H7 j (.lst J)) x (.ins Y.k g [(s!"name",V.str c),(s!"names",V.ref d),(s!"domains",V.ref j)]) x=Mw (.ins Y.k g [(s!"name",V.str c),(s!"names",V.ref d),(s!"domains",V.ref j)]):=ab;have O:j≠x:=λz=>by rw[z,x7]at B;cases B
 have j8:upd (upd H7 j (.lst J)) x (.ins Y.k g [(s!"name",V.str c),(s!"names",V.ref d),(s!"domains",V.ref j)]) d=Mw (.lst (l.map V.str)):=(az G).trans (cU j7 B);have i8:upd (upd H7 j (.lst J)) x (.ins Y.k g [(s!"name",V.str c),(s!"names",V.ref d),(s!"domains",V.ref j)]) j=Mw (.lst J):=(az O).trans ab;generalize upd (upd H7 j (.lst J)) x (.ins Y.k g [(s!"name",V.str c),(s!"names",V.ref d),(s!"domains",V.ref j)])=H8 at k8 x8 j8 i8⊢;refine⟨_,U,_,U,x,_,g,_,U,x8,bl.k_Table,bl.na_Table_outcome,(by show 3<1000;decide),?_⟩;have g9:upd H8 x (.ins Y.k g (bC s!"outcome" (V.ref m) [(s!"name",V.str c),(s!"names",V.ref d),(s!"domains",V.ref j)]))=upd H8 x (.ins Y.k g [(s!"name",V.str c),(s!"names",V.ref d),(s!"domains",V.ref j),(s!"outcome",V.ref m)]):=by rw[pf3]
 rw[g9];clear g9;have k9:∀b o,b≠x->L b=Mw o->upd H8 x (.ins Y.k g [(s!"name",V.str c),(s!"names",V.ref d),(s!"domains",V.ref j),(s!"outcome",V.ref m)]) b=Mw o:=λb o t e=>(az t).trans (k8 b o t e)
 have x9:upd H8 x (.ins Y.k g [(s!"name",V.str c),(s!"names",V.ref d),(s!"domains",V.ref j),(s!"outcome",V.ref m)]) x=Mw (.ins Y.k g [(s!"name",V.str c),(s!"names",V.ref d),(s!"domains",V.ref j),(s!"outcome",V.ref m)]):=ab;have j9:upd H8 x (.ins Y.k g [(s!"name",V.str c),(s!"names",V.ref d),(s!"domains",V.ref j),(s!"outcome",V.ref m)]) d=Mw (.lst (l.map V.str)):=(az G).trans j8;have i9:upd H8 x (.ins Y.k g [(s!"name",V.str c),(s!"names",V.ref d),(s!"domains",V.ref j),(s!"outcome",V.ref m)]) j=Mw (.lst J):=(az O).trans i8;generalize upd H8 x (.ins Y.k g [(s!"name",V.str c),(s!"names",V.ref d),(s!"domains",V.ref j),(s!"outcome",V.ref m)])=H9 at k9 x9 j9 i9⊢;refine⟨_,U,_,U,x,_,g,_,U,x9,bl.k_Table,bl.na_Table_way,(by show 4<1000;decide),?_⟩;have a4:upd H9 x (.ins Y.k g (bC s!"way" (V.str C) [(s!"name",V.str c),(s!"names",V.ref d),(s!"domains",V.ref j),(s!"outcome",V.ref m)]))=upd H9 x (.ins Y.k g [(s!"name",V.str c),(s!"names",V.ref d),(s!"domains",V.ref j),(s!"outcome",V.ref m),(s!"way",V.str C)]):=by rw[pf4]
 rw[a4];clear a4;have R:∀b o,b≠x->L b=Mw o->upd H9 x (.ins Y.k g [(s!"name",V.str c),(s!"names",V.ref d),(s!"domains",V.ref j),(s!"outcome",V.ref m),(s!"way",V.str C)]) b=Mw o:=λb o t e=>(az t).trans (k9 b o t e)
 have M:upd H9 x (.ins Y.k g [(s!"name",V.str c),(s!"names",V.ref d),(s!"domains",V.ref j),(s!"outcome",V.ref m),(s!"way",V.str C)]) x=Mw (.ins Y.k g [(s!"name",V.str c),(s!"names",V.ref d),(s!"domains",V.ref j),(s!"outcome",V.ref m),(s!"way",V.str C)]):=ab;have a2:upd H9 x (.ins Y.k g [(s!"name",V.str c),(s!"names",V.ref d),(s!"domains",V.ref j),(s!"outcome",V.ref m),(s!"way",V.str C)]) d=Mw (.lst (l.map V.str)):=(az G).trans j9;have a3:upd H9 x (.ins Y.k g [(s!"name",V.str c),(s!"names",V.ref d),(s!"domains",V.ref j),(s!"outcome",V.ref m),(s!"way",V.str C)]) j=Mw (.lst J):=(az O).trans i9;generalize upd H9 x (.ins Y.k g [(s!"name",V.str c),(s!"names",V.ref d),(s!"domains",V.ref j),(s!"outcome",V.ref m),(s!"way",V.str C)])=H10 at R M a2 a3⊢;have c6:RL NT H10 rx a1:=RL.same R5 (hide_same R);have Bm:=R _ _ a7 (T _ _ S)
 refine⟨_,U,rl,U,⟨_,SqL.of Bm⟩,ff (xs:=rx) (λD i l v=>au H10 v/\v D=Mw (.lst l)/\RL (Fr H10 D) v l (a1.take i))
  (λD X=>⟨ag X _,ab,aF.nil⟩) (λD i l v X _ h=>SqL.of (h.1 _ _ Bm)) (λD i y l v X e h ts b3=>?_) (λD l v X h=>?_)⟩
 .obtain⟨u,eD,hz⟩:=h;obtain⟨r,w_,rfl,ew,ce,cv,g1,_,g2,g3⟩:=aF.get (c6.same u) e;have hi:i<rx.length:=(IW.mp e).1;obtain⟨t0,t1,rfl⟩:∃t0 t1,ts=[t0,t1]:=by
   match ts,b3 with
   | [t0,t1],_=>exact⟨t0,t1,U⟩
  refine⟨r,_,U,SqT.of g1,U,_,_,U,_,_,U,U,⟨[Mw (.ref ce),Mw (.int w_.2)],U,U⟩,?_⟩;refine⟨_,U,_,U,ce,cv,w_,U,g2,g3,by rw[(hok w_ (IX ew)).len];lia,λr2 H2 t2 d1 lF=>?_⟩;have a5:=t2 _ _ eD;have d2:l.length<=200:=by
   have:=hz.1;rw[iP]at this;lia
  refine cH.mk hi a5 (ay (by lia)) ⟨(u.trans t2).upd X,ab,?_⟩;rw[take_snoc ew];exact RL.updN (aF.snoc (hz.same t2) (lF.wk λa h=>⟨u.free h,λz=>by rw[z,eD]at h;cases h⟩)) Fr.out a5
 .obtain⟨u,eD,hz⟩:=h;rw[hR.1,hE]at hz;refine⟨_,U,x,_,g,_,U,u _ _ M,bl.k_Table,bl.na_Table_rows,(by show 5<1000;decide),?_⟩;have c2:upd v x (.ins Y.k g (bC s!"rows" (V.ref D) [(s!"name",V.str c),(s!"names",V.ref d),(s!"domains",V.ref j),(s!"outcome",V.ref m),(s!"way",V.str C)]))=upd v x (.ins Y.k g [(s!"name",V.str c),(s!"names",V.ref d),(s!"domains",V.ref j),(s!"outcome",V.ref m),(s!"way",V.str C),(s!"rows",V.ref D)]):=by rw[pf5]
  rw[c2];have a9:D≠x:=λz=>by rw[z,M]at X;cases X
  have D4:∀a,H10 a=Mx->H a=none:=λa ha=>by
   cases hh:H a with
   |none=>rfl
   |some o =>
    have nx:a≠x:=λz=>by rw[z,M]at ha;cases ha
    rw[R a o nx (T _ _ hh)]at ha;cases ha
  have c4:H d=none:=by
   cases hh:H d with
   |none=>rfl
   |some o=>rw[k6 d o G (T _ _ hh)]at I;cases I
  have c3:H j=none:=by
   cases hh:H j with
   |none=>rfl
   |some o=>rw[k7 j o O (T _ _ hh)]at B;cases B
  refine q _ _ D l (λb o t e=>(az t).trans (u _ _ (R b o t (T _ _ e)))) ab U U U U ⟨d,j,U,U,(az G).trans (u _ _ a2),(az O).trans (u _ _ a3),c4,c3⟩ (D4 D X) ((az a9).trans eD) ?_;exact RL.same (RL.hideN (u _ _ M) (aF.mono hz λr w h=>h.wk λa ha=>D4 a ha.1)) (hide_same λb o t e=>(az t).trans e)
theorem Hh{k n:Nat}(F:Fun K "boxes" "boxes" Y33 f fd) (bl:Bl K mg Y)(qV:Callee P w K mg base k "boxes" ["form","deep"] (iJ K Y n)):aK P w K mg base CX0 (k+1) f fd ["form","deep"] (iJ K Y (n+1)):=by
 refine F.okA Z33 λd2 A c9 s H vs Q E hr h=>?_
 obtain⟨g,a7,a,d,f_,v,rfl,hf,hn,J,h6,q⟩:=h
 refine⟨_,(aj (aN (aD bA (pv 1) af (aH _))
  (ai (aw (aS (aa (aY (aa (aY ae) (aa (pv 0) ae))) ae))))
  aC)
  (aj (aJ (i:=2) Z33.nd U (Or.inl U) (aS ae))
  (aj (bc JZ.never U (tq (pv 0)) (fc U (aM (aE (i:=3) Z33.nd U (Or.inl U)) (aM (aE (i:=4) Z33.nd U (Or.inl U)) (aM (aE (i:=5) Z33.nd U (Or.inl U)) bX))))
  (ai (bc JZ.never U (aW (aI qV hr U (aa (pv 5) (aa (av b7 (pv 1) af) ae)))) (fc U (aM (aE (i:=6) Z33.nd U (Or.inl U)) (aM (aE (i:=7) Z33.nd U (Or.inl U)) bX)))
  (ai (aZ (eU PySem.F.plainAttrs_list PySem.F.slot_list_append PySem.F.type_list_append bq (pv 2) (aa (aY (aa (av xU (aY (aa (aY (aa (pv 3) (aa (pv 4) ae))) ae)) (pv 6)) (aa (pv 7) ae))) ae)))))))
  (ai (aw (pv 2)))))),?_⟩
 dsimp only[cR,Cx.nox,Cx.wish];show(let r3:TS:=_;let r2:TS:=aU _ r3;let r1:TS:=aU _ r2;aU _ r1 _ _ _);intro _ _ _;cases d with
 |zero =>
  have hf:a.R H f_ v:=hf;refine⟨_,U,U,_,U,fH U ?_⟩;refine⟨(by show 0<=Ju;decide),λb hb=>?_⟩;have s1:=ag hb (.tup []);have e1:upd H b (.tup []) b=Mw (.tup []):=ab;generalize upd H b (.tup [])=H1 at s1 e1⊢;refine⟨_,U,bf,λt ht=>?_⟩;have s2:=ag ht (.tup [.ref b,v]);have e2:upd H1 t (.tup [.ref b,v]) t=Mw (.tup [.ref b,v]):=ab;generalize upd H1 t (.tup [.ref b,v])=H2 at s2 e2⊢;refine⟨(by show 1<=Ju;decide),λl X=>?_⟩;have s3:=ag X (.lst [V.ref t]);have s:=(s1.trans s2).trans s3;exact q l _ _ s ((s1.trans s2).free X) ab (.cons ⟨t,b,v,U,s3 _ _ e2,⟨[],s3 _ _ (s2 _ _ e1),.nil⟩,a.mono s.tups hf⟩ .nil)
 |succ d =>
  obtain⟨r,xs,rfl,er,hp⟩:=hf;obtain⟨L,hL⟩:∃L:List (T3a (Fm g d)),L=f_:=⟨f_,U⟩;have hp:FmL (FmV a H d) H L xs:=by rw[hL];exact hp
  have J:(bxs (d+1) (show Fm g (d+1)from L)).length<=2000:=by rw[hL];exact J
  have h6:∀q∈bxs (d+1) (show Fm g (d+1)from L),q.1.length<=6:=by rw[hL];exact h6
  have q:∀(l:Js)(xs:List V)(o:Hp),au H o->H l=Mx->o l=Mw (.lst xs)->BxG a o xs (bxs (d+1) (show Fm g (d+1)from L))->Q (.ref l) o:=by rw[hL];exact q
  have a8:xs.length=L.length:=hp.1;refine⟨_,U,U,_,U,cC (λz=>by have:=V.int.inj z;lia) ?_⟩;refine⟨(by show 0<=Ju;decide),λl X=>?_⟩;have s0:au H (upd H l (.lst [])):=ag X _;have e0:upd H l (.lst []) l=Mw (.lst []):=ab;generalize upd H l (.lst [])=H0 at s0 e0⊢;refine⟨_,U,r,U,⟨_,SqT.of (s0 _ _ er)⟩,uT (xs:=xs) (λi C o=>au H o/\∃(D:List V)(c3 c4 c5 O N:Option V),o l=Mw (.lst D)/\BxG a o D (bxs (d+1) (show Fm g (d+1)from L.take i))/\C=[Mw (.ref r),Mw (.int ((d+1:Nat):Int)),Mw (.ref l),c3,c4,c5,O,N]) ⟨s0,[],_,_,_,_,_,e0,.nil,U⟩ (λi C o _ h=>SqT.of (h.1 _ _ er)) (λi x C o ex M=>?_) (λC o M=>?_)⟩
  .obtain⟨sm,D,c3,c4,c5,O,N,el,hy,rfl⟩:=M;obtain⟨e,ee⟩:∃e,L[i]?=Mw e:=⟨_,IV (by have:=(IW.mp ex).1;lia)⟩;obtain⟨t,u,a3,et,hu⟩:=hp.2 i e ee;rw[ex]at a3;cases a3;have es:bxs (d+1) (show Fm g (d+1)from L.take (i+1))=bxs (d+1) (show Fm g (d+1)from L.take i)++((bxs d e.2.2).map λq=>((e.1,e.2.1) :: q.1,q.2)):=by
    rw[take_snoc ee,qN,vn]
   have rG:∀q∈(bxs d e.2.2).map (λq=>((e.1,e.2.1) :: q.1,q.2)),q∈bxs (d+1) (show Fm g (d+1)from L):=λq hq=>ro.mpr ⟨e,IX ee,hq⟩
   have d1:(bxs (d+1) (show Fm g (d+1)from L.take i)).length+(bxs d e.2.2).length<=2000:=by
    have e3:bxs (d+1) (show Fm g (d+1)from L)=bxs (d+1) (show Fm g (d+1)from L.take (i+1))++bxs (d+1) (show Fm g (d+1)from L.drop (i+1)):=by rw[←qN,List.take_append_drop]
    have:=MK List.length e3;rw[es,dt,dt,bx]at this;lia
   have b5:∀q∈bxs d e.2.2,q.1.length<=6:=λq hq=>by
    have:=h6 _ (rG _ (eK.mpr ⟨q,hq,U⟩));have:q.1.length+1<=6:=this;lia
   have b6:∀q∈bxs d e.2.2,q.1.length<=5:=λq hq=>by
    have:=h6 _ (rG _ (eK.mpr ⟨q,hq,U⟩));have:q.1.length+1<=6:=this;lia
   refine⟨t,_,U,SqT.of (sm _ _ et),U,_,_,U,_,_,U,_,_,U,U,?_⟩;refine⟨_,U,_,U,_,_,U,U,g,a7,a,d,e.2.2,u,(by show[u,V.int (((d+1:Nat):Int)-1)]=[u,V.int (d:Int)];rw[show((d+1:Nat):Int)-1=(d:Int) by lia]),FmV.mono sm.tups hu,by lia,by lia,b5,λl2 zs H2 s2 f2 e2 hz=>?_⟩;have c2:=s2 _ _ el;have nl:l≠l2:=λz=>by rw[←z,el]at f2;cases f2
   refine⟨l2,U,⟨_,SqL.of e2⟩,bL (xs:=zs) (λk C B=>au H B/\bM H2 B/\B l2=Mw (.lst zs)/\∃(D:List V)(O N:Option V),B l=Mw (.lst D)/\BxG a B D (bxs (d+1) (show Fm g (d+1)from L.take i)++((bxs d e.2.2).take k).map λq=>((e.1,e.2.1) :: q.1,q.2))/\C=[Mw (.ref r),Mw (.int ((d+1:Nat):Int)),Mw (.ref l),Mw (.int e.1),Mw (.int e.2.1),Mw u,O,N]) ⟨sm.trans s2,(λ_ _ h=>h),e2,D,_,_,c2,by rw[List.take_zero,qf,jQ];exact hy.mono s2.tups,U⟩ (λk C B _ h=>SqL.of h.2.2.1) (λk x C B c0 M=>?_) (λC B M=>?_)⟩
   .obtain⟨T,S,a4,G,O,N,I,y,rfl⟩:=M;obtain⟨q2,W,t2,b2,Z,rfl,c1,b4,a9⟩:=cE (hz.mono S) c0;have hk:k<(bxs d e.2.2).length:=(IW.mp W).1;have d0:=b6 q2 (IX W);refine⟨t2,_,U,SqT.of c1,U,_,_,U,_,_,U,U,?_⟩;refine⟨_,U,.inl ⟨U,_,SqL.of I⟩,_,U,_,U,bf,λp b1=>?_⟩;have u1:=ag b1 (.tup [.int e.1,.int e.2.1]);have g1:upd B p (.tup [.int e.1,.int e.2.1]) p=Mw (.tup [.int e.1,.int e.2.1]):=ab;generalize upd B p (.tup [.int e.1,.int e.2.1])=H4 at u1 g1⊢;refine⟨(by show 1<=Ju;decide),λp2 b3=>?_⟩;have u2:=ag b3 (.tup [V.ref p]);have g2:upd H4 p2 (.tup [V.ref p]) p2=Mw (.tup [V.ref p]):=ab;generalize upd H4 p2 (.tup [V.ref p])=H5 at u2 g2⊢;obtain⟨bs,c8,a1⟩:=b4;have a0:=u1.trans u2;refine⟨_,U,yL g2 (a0 _ _ c8) (BA (ay (by rw[a1.length,gy];lia))) λp3 H6 u3 g3=>?_⟩;have a5:=a0.trans u3;refine⟨_,U,bf,λj b0=>?_⟩;have u4:=ag b0 (.tup [.ref p3,Z]);have g4:upd H6 j (.tup [.ref p3,Z]) j=Mw (.tup [.ref p3,Z]):=ab;generalize upd H6 j (.tup [.ref p3,Z])=H7 at u4 g4⊢;have c:=a5.trans u4;have a2:=c _ _ I;refine⟨l,_,_,U,U,a2,wG (by rw[y.length,dt,bx,iP];lia),?_⟩;have m:bM H7 (upd H7 l (.lst (G++[.ref j]))):=aQ a2;refine⟨(T.trans c).upd X,(S.trans c.tups).trans m,(az nl.symm).trans (c _ _ a4),G++[.ref j],_,_,ab,?_,U⟩;rw[take_snoc W,gI,←rF];refine fi (y.mono (c.tups.trans m)) (.cons ⟨j,p3,Z,U,m _ _ g4,⟨_,m _ _ (u4 _ _ g3),?_⟩,a.mono (c.tups.trans m) a9⟩ .nil);have a6:PL H7 [V.ref p] [(e.1,e.2.1)]:=.cons ⟨p,U,u4 _ _ (u3 _ _ (u2 _ _ g1))⟩ .nil;exact(PL.app a6 (a1.mono c.tups)).mono m
   .obtain⟨T,S,a4,G,O,N,I,y,rfl⟩:=M;rw[hz.length,hE]at y;exact⟨T,G,_,_,_,_,_,I,by rw[es];exact y,U⟩
  .obtain⟨sm,D,c3,c4,c5,O,N,el,hy,rfl⟩:=M;rw[a8,hE]at hy;exact⟨_,U,q l D o sm X el hy⟩
theorem Hi(F:Fun K "boxes_with_leaf" "boxes_with_leaf" Y34 f fd) (bl:Bl K mg Y)(qV:Callee P w K mg base 7 "boxes" ["form","deep"] (iJ K Y 7)):aK P w K mg base CX0 8 f fd ["form","deep"] (dB K Y):=by
 refine F.okA Z34 λa4 A a1 s H vs Q E hr h=>?_
 obtain⟨d,X,v,rfl,hF,hd,AB,h6,q⟩:=h;refine⟨_,(ai (aw (fe (aW (aI qV hr U (aa (pv 0) (aa (pv 1) ae)))) (eW (N:=["box","leaf"]) (k:=2) U U (by decide+kernel) (by decide+kernel) (by decide+kernel)) U (λ_ _ _ _=>(lU (K:=K) (n:=2) U U (aM (aE (i:=0) (show(["box","leaf"]:List Str).Nodup by decide+kernel) U (Or.inl U) (Or.inr U)) (aM (aE (i:=1) (show(["box","leaf"]:List Str).Nodup by decide+kernel) U (Or.inl U) (Or.inr U)) bX)))) (λ_ _ _ _=>(i5 (aD (An (K:=K) U hr) (pv 1) (lW U bl.NOTHING_) (aH _)))) (λ_ _ _ _=>(aY (aa (pv 0) (aa (pv 1) ae))))))),?_⟩;refine⟨_,U,_,U,_,_,LPd,d,X,v,U,hF,by lia,by lia,h6,λl xs H1 s1 nl el V=>?_⟩;have L:xs.length=(bxs d X).length:=Paired.length V;generalize a3:bxs d X=BX at V AB L q;refine⟨l,U,⟨_,SqL.of el⟩,ff (xs:=xs) (λD j r b=>au H1 b/\b D=Mw (.lst r)/\BxG (K:=K) LPd b r (cJ (BX.take j))) (λD C=>⟨ag C _,ab,.nil⟩) (λD j r b C _ I=>SqL.of (I.1 _ _ el)) (λD j y r b C e I ts m=>?_) (λD r b C I=>?_)⟩
 .obtain⟨o,T,B⟩:=I;obtain⟨p,eq,tx,G,t,rfl,g1,g2,g3⟩:=cE V e;have hj:j<xs.length:=(IW.mp e).1;obtain⟨S,R,rfl⟩:∃S R,ts=[S,R]:=by
   match ts,m with
   | [S,R],_=>exact⟨S,R,U⟩
  have a2:=B.length;have II:(cJ (BX.take j)).length<=300:=zQ (lG _ _) (by rw[iP];lia);have m:cJ (BX.take (j+1))=cJ (BX.take j)++if p.2=Mx then[] else[p]:=by
   unfold cJ;rw[take_snoc eq,md];by_cases h:p.2=Mx
   .rw[ME h,oD (by simpa using h)];rfl
   .rw[MD h,ow (by simpa using h)];rfl
  refine⟨tx,_,U,SqT.of (o _ _ g1),U,_,_,U,_,_,U,U,⟨[Mw (.ref G),Mw t],U,U⟩,?_⟩;refine⟨_,U,λa0=>LPd.ne (x:=p.2) (y:=Mx) a0 (LPd.mono o.tups g3) U ⟨_,U,?_⟩⟩;refine bD (λg=>?_) (λg=>?_)
  .have W:p.2≠none:=λz=>by rw[z]at g;exact MG g (by decide)
   refine⟨_,U,_,U,bf,λc Z=>?_⟩;have u:=ag Z (.tup [.ref G,t]);have eT:upd b c (.tup [.ref G,t]) c=Mw (.tup [.ref G,t]):=ab;have a:=u _ _ T;have J:=B.mono u.tups;have O:=(g2.mono o.tups).mono u.tups;have M:=LPd.mono u.tups (LPd.mono o.tups g3);generalize upd b c (.tup [.ref G,t])=H3 at u eT a J O M⊢;refine cH.mk hj a (ay (by lia)) ⟨(o.trans u).upd C,ab,?_⟩;rw[m,MD W];exact fi (J.mono (aQ a)) (.cons ⟨c,G,t,U,aQ a _ _ eT,O.mono (aQ a),LPd.mono (aQ a) M⟩ .nil)
  .have W:p.2=none:=by
    by_cases z:p.2=Mx
    .exact z
    .exact MG (show(!MB (p.2=Mx))=Mz by rw[MI z];rfl) g
   refine d9.mk hj ⟨o,T,?_⟩;rw[m,ME W,jQ];exact B
 .obtain⟨o,T,B⟩:=I;rw[L,hE]at B;exact q D r b (s1.trans o) (s1.free C) T B
theorem Hj(F:Fun K "_law_table" "_law_table" Y71 f fd) (bl:Bl K mg Y)(bh:Callee P w K mg base 7 "_law_cell" ["script","k"] (eB K Y)) (a9:br CX0 P w K mg base 6 "Table" Y.k ["self","name","names","domains","outcome","way","rows"] (cB K Y)) (oX:Callee P w K mg base 7 "_law_domain" ["cell","points"] (fY K Y)) (eH:Callee P w K mg base 7 "_law_word" ["cell","k"] (eF K Y)) (oh:Callee P w K mg base 7 "_law_outcome" ["cell","outs"] (ft K Y)) (qW:Callee P w K mg base 7 "_law_spans" ["points","bits"] (gX K Y)):aK P w K mg base CX0 8 f fd ["script","points","outs","way","rows","turn"] (hU K Y):=by
 refine F.okA Z71 λn3 A l4 s H vs Q E hr h=>?_
 obtain⟨a,pl,ol,rl,ns,xs,c,os,rx,a1,wy,wi,tu,rfl,h9,i0,hS,a7,c4,hg,m0,l8,k8,e3,e6,b0,n1,j7,q⟩:=h
 refine⟨_,(aP (ko (i:=6) Z71.nd U (Or.inl U) (aV U bl.range_ (aa (ao aq U bl.len_ Mv (aa (pv 1) ae)) ae)) (bg (N:=["k","script","points"]) (fr:=[0,1]) (cl:=[("script",s.heap.objs.size+1),("points",s.heap.objs.size+1+1)]) U U (by decide+kernel) (by decide+kernel) U (by decide+kernel) U U U (hZ.mpr ⟨U,hZ.mpr ⟨U,jg _⟩⟩) U) U (λ_ _ _ _=>bu) (λ_ _ _ _=>(aI oX hr U (aa (aI bh hr U (aa (pv 1) (aa (av bJ af (pv 0)) ae))) (aa (ax (bN (K:=K) U) (pv 2) (pv 0) (λ_ _=>U)) ae)))))
  (aP (ko (i:=7) Z71.nd U (Or.inl U) (aV U bl.range_ (aa af ae)) (bg (N:=["k","script","turn"]) (fr:=[0,5]) (cl:=[("turn",s.heap.objs.size+1+1+1),("script",s.heap.objs.size+1)]) U U (by decide+kernel) (by decide+kernel) U (by decide+kernel) U U U (hZ.mpr ⟨U,hZ.mpr ⟨U,jg _⟩⟩) U) U (λ_ _ _ _=>bu) (λ_ _ _ _=>(aI eH hr U (aa (av bJ (av bP (aI bh hr U (aa (pv 1) (aa af ae))) af) (pv 2)) (aa (pv 0) ae)))))
  (aj (aJ (i:=8) Z71.nd U (Or.inl U) (aI bh hr U (aa (pv 0) (aa af ae))))
  (aj (aJ (i:=9) Z71.nd U (Or.inl U) (aS ae))
  (aP (bc JZ.never U (aW (pv 4)) (aE (i:=10) Z71.nd U (Or.inr U))
  (ai (aZ (eU PySem.F.plainAttrs_list PySem.F.slot_list_append PySem.F.type_list_append bq (pv 9) (aa (aY (aa (cb (aV U bl.range_ (aa (ao aq U bl.len_ Mv (aa (pv 1) ae)) ae)) (bg (N:=["k","points","row"]) (fr:=[1,10]) (cl:=[("row",s.heap.objs.size+1+1+1+1),("points",s.heap.objs.size+1+1)]) U U (by decide+kernel) (by decide+kernel) U (by decide+kernel) U U U (hZ.mpr ⟨U,hZ.mpr ⟨U,jg _⟩⟩) U) U (λ_ _ _ _=>bu) (λ_ _ _ _=>(aI qW hr U (aa (ax (bN (K:=K) U) (pv 1) (pv 0) (λ_ _=>U)) (aa (ax (bN (K:=K) U) (ax (cO (K:=K) U) (pv 2) af (λ_ _=>U)) (pv 0) (λ_ _=>U)) ae))))) (aa (ax aO (pv 10) af (λ_ _=>U)) ae))) ae)))))
  (ai (aw (rz a9 bT hr U (aa (ax aG (pv 7) af (λ_ _=>U)) (aa (cG dZ (pv 7) dk (dn (ao aq U bl.len_ Mv (aa (pv 1) ae)))) (aa (pv 6) (aa (aI oh hr U (aa (pv 8) (aa (pv 2) ae))) (aa (pv 3) (aa (pv 9) ae)))))))))))))),?_⟩
 dsimp only[cR,Cx.nox,Cx.wish];show(let r5:TS:=_;let r4:TS:=dE _ r5;let r3:TS:=aU _ r4;let r2:TS:=aU _ r3;let r1:TS:=dE _ r2;dE _ r1 _ _ _);intro _ _ _ _ _;have d4:xs.length=c.length:=c4.1;obtain⟨bs,a5⟩:∃bs,bs=c.map λo=>(loP o,hiP o):=⟨_,U⟩
 have j8:bs.length=c.length:=by rw[a5];simp
 refine⟨λa2 l=>au H l/\∃(dl:Js)(dv:List V),l dl=Mw (.lst dv)/\aF dv bs (Dom Y.i Y.j l)/\aF dv (dms ns c) (DmX Y.i Y.j l)/\a2=[Mw (.ref a),Mw (.ref pl),Mw (.ref ol),Mw (.str wy),Mw (.ref rl),Mw (.int tu),Mw (.ref dl),Mx,Mx,Mx,Mx],?_,?_⟩
 .refine⟨_,U,pl,_,U,.inl (SqL.of a7),_,U,(by show -(2^62)<=((xs.length:Nat):Int);lia),(by show((xs.length:Nat):Int)<2^62;lia),bU (λD i G l=>au H l/\l D=Mw (.lst G)/\aF G (bs.take i) (Dom Y.i Y.j l)/\aF G ((dms ns c).take i) (DmX Y.i Y.j (hide l D))) (λD M=>⟨ag M _,ab,aF.nil,aF.nil⟩) (λD i G l M hi L=>?_) (λD G l M L=>?_)⟩
  .obtain⟨I,eD,R,a4⟩:=L;have j5:i<c.length:=by lia
   obtain⟨o,B⟩:∃o,c[i]?=Mw o:=⟨_,IV j5⟩;obtain⟨r,er,i4⟩:=c4.2 i o B;have eb:bs[i]?=Mw (loP o,hiP o):=by rw[a5,gg,B];rfl
   refine⟨_,U,_,U,_,_,U,U,a,ns,_,U,I.seq hS,(by show 0<=1+(0+(i:Int));lia),_,U,_,U,pl,_,_,_,U,U,SqL.of (I _ _ a7),oN er,_,r,o,U,I _ _ i4,hg.pts o (IX B),hg.wrd i o B,λd H2 v hd c7=>?_⟩;have a8:=v _ _ eD;have j1:G.length<=4:=by have:=R.1;rw[iP]at this;lia
   refine cH.mk hi a8 (ay (by lia)) ⟨(I.trans v).upd M,ab,?_,?_⟩
   rotate_left
   .rw[take_snoc (Cs B),nG];exact aF.snoc (aF.mono a4 λ_ _ p=>p.same (lC v)) (c7.hide eD v)
   rw[take_snoc eb];exact aF.mono (aF.snoc (aF.mono R λ_ _ p=>p.same v) hd) λ_ _ p=>p.upd a8
  .obtain⟨I,eD,R,a4⟩:=L;rw[Jc,d4]at R a4;rw[←j8,hE]at R;rw[show c.length=(dms ns c).length by unfold dms;rw[bx,lz],hE]at a4;exact⟨I,D,G,eD,R,aF.mono a4 λ_ _ p=>p.same (qP l D),U⟩
 rintro l7 H1 ⟨s1,dl,dv,l0,e5,Hk,rfl⟩;obtain⟨J,j6⟩:∃J,J=cI ns 0 / 4+tu:=⟨_,U⟩;refine⟨λa2 l=>au H1 l/\∃na:Js,l na=Mw (.lst ((w3s J 5).map V.str))/\a2=[Mw (.ref a),Mw (.ref pl),Mw (.ref ol),Mw (.str wy),Mw (.ref rl),Mw (.int tu),Mw (.ref dl),Mw (.ref na),Mx,Mx,Mx],?_,?_⟩
 .refine⟨_,U,(by decide),(by decide),bU (λD i G l=>au H1 l/\l D=Mw (.lst G)/\G=(w3s J i).map V.str) (λD M=>⟨ag M _,ab,U⟩) (λD i G l M hi L=>?_) (λD G l M L=>?_)⟩
  .obtain⟨I,eD,rfl⟩:=L;have m9:i<5:=hi;refine⟨_,U,a,ns,0,U,(s1.trans I).seq hS,Int.le_refl _,_,_,U,U,⟨by decide,by decide⟩,_,U,_,_,U,U,_,U,_,_,U,(by lia),(by lia),?_⟩;rw[←j6];refine cH.mk hi eD (ay (by rw[bx,fK];lia)) ⟨I.upd M,ab,?_⟩;rw[nA,gI];rfl
  .obtain⟨I,eD,rfl⟩:=L;exact⟨I,D,eD,U⟩
 rintro l6 H2 ⟨v,na,k9,rfl⟩;have a3:=s1.trans v;refine⟨_,U,a,ns,5,U,a3.seq hS,by decide,?_⟩;refine⟨(by show 0<=Ju;decide),λZ e4=>?_⟩;have u3:=ag e4 (.lst []);have e8:upd H2 Z (.lst []) Z=Mw (.lst []):=ab;generalize upd H2 Z (.lst [])=H3 at u3 e8⊢;have f8:=a3.trans u3;refine⟨λa2 l=>au H2 l/\∃(X:List V)(g:List Rw)(c8:Option V),l Z=Mw (.lst X)/\RL NT l X g/\g.length=a1.length/\(∀w∈g,lX bs (o0 os,o4 os) w)/\(∀(k:Nat)(b:List Int×Int)(x:Rw),a1[k]?=Mw b->g[k]?=Mw x->GrR c b x)/\a2=[Mw (.ref a),Mw (.ref pl),Mw (.ref ol),Mw (.str wy),Mw (.ref rl),Mw (.int tu),Mw (.ref dl),Mw (.ref na),Mw (.int (cI ns 5)),Mw (.ref Z),c8],?_,?_⟩
 .refine⟨_,U,rl,U,⟨_,SqL.of (f8 _ _ e6)⟩,bL (xs:=rx) (λi σ l=>au H2 l/\∃(X:List V)(g:List Rw)(c8:Option V),l Z=Mw (.lst X)/\RL (Fr H2 Z) l X g/\g.length=i/\(∀w∈g,lX bs (o0 os,o4 os) w)/\(∀(k:Nat)(b:List Int×Int)(x:Rw),a1[k]?=Mw b->g[k]?=Mw x->GrR c b x)/\σ=[Mw (.ref a),Mw (.ref pl),Mw (.ref ol),Mw (.str wy),Mw (.ref rl),Mw (.int tu),Mw (.ref dl),Mw (.ref na),Mw (.int (cI ns 5)),Mw (.ref Z),c8]) ⟨u3,[],[],_,e8,aF.nil,U,(λw h=>by cases h),(λk b x _ e=>by simp at e),U⟩ (λi σ l _ L=>SqL.of ((a3.trans L.1) _ _ e6)) (λi y σ l e L=>?_) (λσ l L=>?_)⟩
  .obtain⟨I,X,g,c8,em,hR,C,hok,a6,rfl⟩:=L;have sA:=a3.trans I;obtain⟨r,b,rfl,eb,l3,e1,e2⟩:=aF.get b0 e;have hi:i<rx.length:=(IW.mp e).1;obtain⟨n0,k6,k0⟩:=j7 b (IX eb);have l1:=sA _ _ e1;have n2:=sA _ _ e2;have Hl:=sA _ _ a7;refine⟨_,U,.inl ⟨U,_,SqL.of em⟩,_,U,pl,_,U,.inl (SqL.of Hl),_,U,(by show -(2^62)<=((xs.length:Nat):Int);lia),(by show((xs.length:Nat):Int)<2^62;lia),bU (λD j G O=>au l O/\O D=Mw (.lst G)/\∃n:List Prs,CL (Fr l D) O G n/\n.length=j/\(∀(i:Nat)(qs:Prs)(b:Int×Int),n[i]?=Mw qs->bs[i]?=Mw b->∀p∈qs,b.1<=p.1/\p.2<=b.2)/\(∀(i:Nat)(qs:Prs)(o:List Int)(m:Int),n[i]?=Mw qs->c[i]?=Mw o->b.1[i]?=Mw m->SpG o m (o.length-1) qs)) (λD M=>⟨ag M _,ab,[],aF.nil,U,(λi qs b e=>by simp at e),(λi qs o m e=>by simp at e)⟩) (λD j G O M hj L=>?_) (λD G O M L=>?_)⟩
   .obtain⟨T,eD,n,R,a0,c2,c3⟩:=L;have j3:j<c.length:=by lia
    obtain⟨o,B⟩:∃o,c[j]?=Mw o:=⟨_,IV j3⟩;obtain⟨rp,k7,i3⟩:=c4.2 j o B;have sB:=sA.trans T;have j9:atI (b.1.map V.int) (0+(j:Int))=Mw (.int (b.1[j]'(by lia))):=oN (get_map (IV (by lia)));refine⟨_,U,_,U,pl,_,_,_,U,U,SqL.of (sB _ _ a7),oN k7,_,U,r,_,_,_,U,U,SqT.of (sB _ _ e1),U,_,U,l3,_,_,_,U,U,SqL.of (sB _ _ e2),j9,rp,o,_,U,sB _ _ i3,hg.pts o (IX B),k0 _ (lq _),λsp qs n5 b5 d5 j4 i2=>?_⟩;have a8:=b5 _ _ eD;have j1:G.length=j:=by rw[R.1,a0]
    have c1:O sp=none:=d5.1;have nD:sp≠D:=λz=>by rw[z,eD]at c1;cases c1
    refine cH.mk hj a8 (ay (by lia)) ⟨(T.trans b5).upd M,ab,n++[qs],CL.updN (aF.snoc (R.same b5) ⟨⟨T.free c1,nD⟩,d5.2⟩) Fr.out a8,by simp[a0],(λi' b6 b' S W=>?_),λi' b6 g0 m' S W f3=>?_⟩
    rotate_left
    .by_cases c6:i'<n.length
     .rw[je c6]at S;exact c3 i' b6 g0 m' S W f3
     .have c5:i'=n.length:=by
       have:=(IW.mp S).1;simp at this;lia
      subst c5;simp at S;subst S;rw[a0]at W f3;rw[B]at W;cases W;rw[IV (by lia)]at f3;cases f3;exact i2
    by_cases c6:i'<n.length
    .rw[je c6]at S;exact c2 i' b6 b' S W
    .have c5:i'=n.length:=by
      have:=(IW.mp S).1;simp at this;lia
     subst c5;simp at S;subst S;rw[a0,a5,gg,B]at W;cases W;exact j4
   .obtain⟨T,eD,n,R,a0,c2,c3⟩:=L;rw[Jc]at a0;have e9:=T _ _ em;refine⟨_,U,r,_,_,_,U,U,SqT.of (T _ _ l1),U,bf,λt ht=>?_⟩;have ut:=ag ht (.tup [.ref D,.int b.2]);have sC:=T.trans ut;have m2:X.length=i:=by rw[hR.1,C]
    refine⟨Z,_,_,U,U,ut _ _ e9,ay (by lia),?_⟩;have j0:H2 D=none:=I.free M;have i9:D≠Z:=λz=>by rw[z,em]at M;cases M
    have D5:jF (Fr H2 Z) (upd O t (.tup [.ref D,.int b.2])) t (n,b.2):=⟨D,G,ab,⟨j0,i9⟩,ut _ _ eD,(R.same ut).wk λx hx=>⟨I.free hx.1,λz=>by have h1:=hx.1;rw[z,em]at h1;cases h1⟩⟩;have h8:RL (Fr H2 Z) (upd O t (.tup [.ref D,.int b.2])) (X++[.ref t]) (g++[(n,b.2)]):=aF.snoc (hR.same sC) D5;refine⟨(I.trans sC).upd e4,X++[.ref t],g++[(n,b.2)],_,ab,RL.updN h8 Fr.out (ut _ _ e9),by simp[C],(λw hw=>?_),(λk b' x S W=>?_),U⟩
    rotate_left
    .by_cases hk:k<g.length
     .rw[je hk]at W;exact a6 k b' x S W
     .have j2:k=g.length:=by
       have:=(IW.mp W).1;simp at this;lia
      subst j2;simp at W;subst W;rw[C,eb]at S;cases S;exact⟨U,by show n.length=c.length;lia,λj o qs m g1 g2 g3=>c3 j qs o m g2 g1 g3⟩
    rcases ik.mp hw with hw|hw
    .exact hok w hw
    .rw[show w=(n,b.2) by simpa using hw];have ho:=Af e3 b.2 k6;exact⟨by show n.length=bs.length;lia,c2,ho.1,ho.2⟩
  .obtain⟨I,X,g,c8,em,hR,C,hok,a6,rfl⟩:=L;have:rx.length=a1.length:=b0.1;exact⟨I,X,g,c8,em,hR.any,by lia,hok,a6,U⟩
 rintro l5 H4 ⟨t4,X,g,c8,em,hR,C,hok,a6,rfl⟩;have d3:=a3.trans t4;obtain⟨H5,f0⟩:∃H5,H5=H4:=⟨_,U⟩;have t5:au H4 H5:=by rw[f0];exact au.refl _
 rw[←f0];have f5:=t4.trans t5;have h7:atI ((w3s J 5).map V.str) 4=Mw (.str (w3 J (0+4))):=rfl;have D6:=f5 _ _ k9;refine⟨_,U,na,_,_,_,U,U,SqL.of D6,h7,_,U,_,U,pl,_,U,.inl (SqL.of ((d3.trans t5) _ _ a7)),_,U,na,_,U,SqL.of D6,λnn i8=>?_⟩;have Hm:kl ((w3s J 5).map V.str) Mx (Mw ((xs.length:Nat):Int))=(w3s J c.length).map V.str:=by
  rw[d4];have:c.length=1\/c.length=2\/c.length=3\/c.length=4:=by lia
  rcases this with h|h|h|h <;> rw[h] <;> rfl
 rw[Hm];have u6:=ag i8 (.lst ((w3s J c.length).map V.str));have e7:upd H5 nn (.lst ((w3s J c.length).map V.str)) nn=Mw (.lst ((w3s J c.length).map V.str)):=ab;generalize upd H5 nn (.lst ((w3s J c.length).map V.str))=H6 at u6 e7⊢;have d1:=t5.trans u6;have d2:=d3.trans d1;refine⟨_,U,_,U,_,U,_,ol,os,U,d2 _ _ k8,e3,λou H7 s7 e0 Hn Ho=>?_⟩;have b4:=d1.trans s7;refine⟨_,U,_,U,λx dx hx c7 m1=>?_⟩;have s8:au H7 (upd (upd H7 dx (.own x)) x (.ins Y.k dx [])):=(ag c7 _).upd hx;have f6:=s7.trans s8;have b1:(w3 J (0+4) :: w3s J c.length).Nodup/\∀z∈w3 J (0+4) :: w3s J c.length,isw z=true:=by
  constructor
  .rw[mv];refine⟨λh=>?_,pS _ _⟩;unfold w3s at h;obtain⟨j,hj,e⟩:=eK.mp h;have:=jN.mp hj;have:=yF (by lia) (by lia) e;lia
  .intro z R;rcases dV.mp R with rfl|R
   .exact yE _ _ (by lia) (by lia)
   .exact vk (by lia) z R
 have sI:wy=s!"sum" -> ∃dx fs,H7 ou=Mw (.ins Y.i dx fs):=λz=>Hn λe=>i0 e z
 have i1:=fK J c.length;have b3:=(t4.trans b4);refine⟨x,dx,nn,dl,ou,Z,_,_,w3s J c.length,dv,X,bs,(o0 os,o4 os),g,U,ab,f6 _ _ e7,b1.2,b1.1,by lia,by lia,IX h9,λz=>?_,s8 _ _ (b3 _ _ (v _ _ l0)),aF.mono e5 λ_ _ p=>((p.same v).same b3).same s8,e0.same s8,s8 _ _ (b4 _ _ em),(hR.same b4).same s8,?_,by lia,hok,λl fs f9 f4 k1 k2 k3 h6 h5 h4 ⟨g4,l2,h3,h0,g9,g8,g7,g6⟩ g5 k4 k5=>?_⟩
 .obtain⟨d0,c9,e2⟩:=sI z;exact⟨d0,c9,s8 _ _ e2⟩
 .have h1:=hR.1;have h2:rx.length=a1.length:=b0.1;lia
 have s9:au H7 l:=λb u e=>k1 b u (bp e hx) (s8 _ _ e)
 have sT:au H H7:=d2.trans s7;have fr:∀a,upd (upd H7 dx (.own x)) x (.ins Y.k dx []) a=Mx->H a=none:=λa ha=>sT.free (s8.free ha)
 refine⟨U,q x g _ ou _ dv l (sT.trans s9) ⟨f9,dx,g4,l2,fs,f4,k2,k3,h4,h6,h5,h3,h0,g9,g8,k4,aF.mono k5 λr w h=>h.wk λa ha=>fr a ha,fr _ g7,fr _ g6,fr _ g5,?_⟩ ?_ (e0.same s9) ?_ (Ho.same s9) ?_ b1.2 b1.1 i1 C ?_ a6⟩
 .have h1:=k5.1;have h2:rx.length=a1.length:=b0.1;lia
 .rw[←a5];exact aF.mono e5 λ_ _ p=>((p.same v).same b3).same s9
 .exact aF.mono Hk λ_ _ p=>((p.same v).same b3).same s9
 .intro z;obtain⟨d0,c9,e2⟩:=sI z;exact⟨d0,c9,s9 _ _ e2⟩
 .rw[←a5];exact hok
theorem Hq{k n:Nat}(F:Fun K "layered" "layered" Y75 f fd) (bl:Bl K mg Y)(iR:Callee P w K mg base k "closed" ["triples"] (gn K Y)) (lK:Callee P w K mg base k "layered" ["columns","ahead","leaf"] (fu K Y P w mg base n)) (hk:8<=k):aK P w K mg base CX0 (k+1) f fd ["columns","ahead","leaf"] (fu K Y P w mg base (n+1)):=by
 refine F.okA Z75 λc0 A b5 s H vs Q E hr h=>?_
 obtain⟨c,b,f_,xs,a,M,m,L,iL,A,g,J,rfl,hn,hc,hC,hb,a1,b3,b0,hm,Z,hJ,q⟩:=h
 refine⟨_,(aj (aN (bO (dH (pv 0) (by intro _;rfl)))
  (ai (aw (qA (k:=8) (i:=2) (hr.mono hk) U (Or.inr (Or.inl U)) (aa (pv 1) ae))))
  aC)
  (ai (aw (aI iR hr U (aa (fe (aW (ax aG (pv 0) af (λ_ _=>U))) (fI (N:=["low","high","columns","ahead","leaf"]) (k:=2) (fr:=[0,1,2]) (cl:=[("leaf",s.heap.objs.size+1+1+1),("columns",s.heap.objs.size+1),("ahead",s.heap.objs.size+1+1)]) U U (by decide+kernel) (by decide+kernel) U U (hZ.mpr ⟨U,hZ.mpr ⟨U,hZ.mpr ⟨U,jg _⟩⟩⟩) U) U (λ_ _ _ _=>(lU (K:=K) (n:=2) U U (aM (aE (i:=0) (show(["low","high","columns","ahead","leaf"]:List Str).Nodup by decide+kernel) U (Or.inl U) (Or.inr U)) (aM (aE (i:=1) (show(["low","high","columns","ahead","leaf"]:List Str).Nodup by decide+kernel) U (Or.inl U) (Or.inr U)) bX)))) (λ_ _ _ _=>bu) (λ_ _ _ _=>(aY (aa (pv 0) (aa (pv 1) (aa (aI lK hr U (aa (cG (yi (K:=K) U) (pv 2) (dn af) dk) (aa (av dR (pv 3) (aS (aa (pv 0) ae))) (aa (pv 4) ae)))) ae)))))) ae))))),?_⟩
 cases a with
 |nil =>
  have hx:xs=[]:=List.eq_nil_of_length_eq_zero hC.1;subst hx;obtain⟨sp,hF,a9⟩:=Z.fn;refine⟨_,U,_,.inl ⟨_,SqL.of hc,U⟩,d8 ?_⟩;exact⟨f_,sp,U,Z.ob H hJ,hF,_,U,Z.ob H hJ,a9 H b M _ hJ (by rw[hm];rfl) hb λv u h' hv=>q v u h' hv⟩
 |cons y a =>
  obtain⟨r,ex,ts,er,hp⟩:=hC.2 0 y U;obtain⟨l,rfl⟩:∃l,xs=.ref r :: l:=by
   cases xs with
   |nil=>cases ex
   |cons x l=>cases ex;exact⟨l,U⟩
  have b4:CoL H l a:=⟨by simpa using hC.1,λj c e=>by simpa using hC.2 (j+1) c (by simpa using e)⟩;have b6:y.length<=64:=a1 y fw;have a5:ts.length=y.length:=hp.length;have IJ:a.length<=5:=by rw[iQ]at b0;lia
  refine⟨_,U,_,.inl ⟨_,SqL.of hc,U⟩,bB ?_⟩
  refine⟨_,U,c,_,_,_,U,U,SqL.of hc,aL (j:=0) U,r,U,⟨_,SqL.of er⟩,ff (xs:=ts) (λD i G u=>au H u/\u D=Mw (.lst G)/\FmL (FmV A u a.length) u ((y.take i).map λp=>(p.1,p.2,lay g a (M++[p.1]))) G/\G.length<=i)
   (λD hD=>⟨ag hD _,ab,FmL.nil,Az _⟩) (λD i G u hD _ h=>SqL.of (h.1 _ _ er)) (λD i x G u hD e h ss a8=>?_) (λD G u hD h=>?_)⟩
  .obtain⟨I,eD,S,a4⟩:=h;obtain⟨p,t,ep,rfl,ht⟩:=hp.get e;have hi:i<ts.length:=(IW.mp e).1;obtain⟨t0,B,rfl⟩:∃t0 B,ss=[t0,B]:=by
    match ss,a8 with
    | [t0,B],_=>exact⟨t0,B,U⟩
   refine⟨t,_,U,SqT.of (I _ _ ht),U,_,_,U,_,_,U,U,⟨[Mw (.int p.1),Mw (.int p.2)],U,U⟩,?_⟩;refine⟨_,U,_,U,_,U,_,U,c,_,U,SqL.of (I _ _ hc),λc2 b1=>?_⟩;rw[yC];have s2:au u (upd u c2 (.lst l)):=ag b1 _;have a2:upd u c2 (.lst l) c2=Mw (.lst l):=ab;generalize upd u c2 (.lst l)=T at s2 a2⊢;refine⟨_,U,_,U,(by show 1<=Ju;decide),λB a7=>?_⟩;have X:au T (upd T B (.lst [.int p.1])):=ag a7 _;have e1:upd T B (.lst [.int p.1]) B=Mw (.lst [.int p.1]):=ab;generalize upd T B (.lst [.int p.1])=H3 at X e1⊢;refine⟨b,B,_,_,U,U,X _ _ (s2 _ _ (I _ _ hb)),e1,BA (ay (by rw[bx];show M.length+1<=1000;lia)),λR a0=>?_⟩;have s4:au H3 (upd H3 R (.lst (M.map V.int++[.int p.1]))):=ag a0 _;have e2:upd H3 R (.lst (M.map V.int++[.int p.1])) R=Mw (.lst ((M++[p.1]).map V.int)):=by rw[gI];exact ab
   generalize upd H3 R (.lst (M.map V.int++[.int p.1]))=H4 at s4 e2⊢;have O:au u H4:=(s2.trans X).trans s4;have f2:u R=none:=(s2.trans X).free a0;refine⟨_,U,c2,R,f_,l,a,M++[p.1],m,L,iL,A,g,J,U,by rw[iQ]at hn;lia,s4 _ _ (X _ _ a2),b4.same (I.trans O),e2,λz S=>a1 z (jf _ S),by rw[dt,gy];rw[iQ]at b3;lia,by lia,by rw[dt,gy];rw[iQ]at hm;lia,Z,Z.st _ _ hJ (I.trans O),λv H5 h5 hv=>?_⟩;have s5:au u H5:=λd o ed=>h5 d o (λz=>by rw[z,f2]at ed;cases ed) (O _ _ ed)
   refine⟨(by show 3<=Ju;decide),λW a6=>?_⟩;have s6:au H5 (upd H5 W (.tup [.int p.1,.int p.2,v])):=ag a6 _;have e3:upd H5 W (.tup [.int p.1,.int p.2,v]) W=Mw (.tup [.int p.1,.int p.2,v]):=ab;generalize upd H5 W (.tup [.int p.1,.int p.2,v])=H6 at s6 e3⊢;have C:=s5.trans s6;have a3:=C _ _ eD;refine cH.mk hi a3 (ay (by lia)) ⟨(I.trans C).upd hD,ab,?_,by rw[dt,gy];lia⟩;have st:bM H6 (upd H6 D (.lst (G++[.ref W]))):=aQ a3;rw[take_snoc ep,gI];exact(S.mono (λ_ _ z=>FmV.mono (C.tups.trans st) z) (C.tups.trans st)).snoc (st _ _ e3) (FmV.mono (s6.tups.trans st) hv)
  .obtain⟨I,eD,S,a4⟩:=h;rw[a5,hE]at S;refine⟨L,iL,A,a.length,D,G,_,U,by lia,eD,S,by rw[bx];lia,λr2 T s2 hf=>?_⟩;exact q _ T (λd o _ ed=>(I.trans s2) _ _ ed) hf
theorem Hr{k n:Nat}(F:Fun K "mapped" "mapped" Y76 f fd) (bl:Bl K mg Y)(iR:Callee P w K mg base k "closed" ["triples"] (gn K Y)) (oi:Callee P w K mg base k "mapped" ["form","deep","change"] (gu K Y P w mg base n)) (hk:8<=k):aK P w K mg base CX0 (k+1) f fd ["form","deep","change"] (gu K Y P w mg base (n+1)):=by
 refine F.okA Z76 λb1 A a8 s H vs Q E Z h=>?_
 obtain⟨L,M,iL,iM,A,B,h_,J,d,F_,v,f_,rfl,hn,b0,R,a6,m,S,q⟩:=h
 refine⟨_,(aj (aN (aD bA (pv 1) af (aH _))
  (ai (aw (qA (k:=8) (i:=2) (Z.mono hk) U (Or.inr (Or.inl U)) (aa (pv 0) ae))))
  aC)
  (ai (aw (aI iR Z U (aa (fe (tq (pv 0)) (fI (N:=["low","high","beneath","deep","change"]) (k:=3) (fr:=[1,2]) (cl:=[("deep",s.heap.objs.size+1),("change",s.heap.objs.size+1+1)]) U U (by decide+kernel) (by decide+kernel) U U (hZ.mpr ⟨U,hZ.mpr ⟨U,jg _⟩⟩) U) U (λ_ _ _ _=>(lU (K:=K) (n:=3) U U (aM (aE (i:=0) (show(["low","high","beneath","deep","change"]:List Str).Nodup by decide+kernel) U (Or.inl U) (Or.inr U)) (aM (aE (i:=1) (show(["low","high","beneath","deep","change"]:List Str).Nodup by decide+kernel) U (Or.inl U) (Or.inr U)) (aM (aE (i:=2) (show(["low","high","beneath","deep","change"]:List Str).Nodup by decide+kernel) U (Or.inl U) (Or.inr U)) bX))))) (λ_ _ _ _=>bu) (λ_ _ _ _=>(aY (aa (pv 0) (aa (pv 1) (aa (aI oi Z U (aa (pv 2) (aa (av b7 (pv 3) af) (aa (pv 4) ae)))) ae)))))) ae))))),?_⟩
 cases d with
 |zero =>
  obtain⟨sp,hF,a5⟩:=m.fn;refine⟨_,U,U,_,U,fH U ?_⟩;exact⟨f_,sp,U,m.ob H S,hF,_,U,m.ob H S,a5 H v F_ _ S R λu b s' X=>q u b s' X⟩
 |succ d =>
  obtain⟨G,rfl⟩:∃G:List (T3a (Fm L d)),(G:Fm L (d+1))=F_:=⟨F_,U⟩;obtain⟨a9,Av⟩:SmS 300 (SmF 300 d) G:=a6;obtain⟨a,xs,rfl,ha,hG⟩:∃(a:Js)(xs:List V),v=.ref a/\H a=Mw (.tup xs)/\FmL (FmV A H d) H G xs:=R;have a1:=hG.1;refine⟨_,U,U,_,U,cC (λz=>by have:=V.int.inj z;lia) ?_⟩
  refine⟨_,U,a,U,⟨_,SqT.of ha⟩,we (xs:=xs) (λD i g b=>au H b/\b D=Mw (.lst g)/\FmL (FmV B b d) b ((G.take i).map λt=>(t.1,t.2.1,oP h_ d t.2.2)) g/\g.length<=i)
   (λD o=>⟨ag o _,ab,FmL.nil,Az _⟩) (λD i g b o _ h=>SqT.of (h.1 _ _ ha)) (λD i x g b o e h ss a4=>?_) (λD g b o h=>?_)⟩
  .obtain⟨j,eD,O,a0⟩:=h;have hi:i<xs.length:=(IW.mp e).1;obtain⟨t,et⟩:∃t,G[i]?=Mw t:=⟨_,IV (by lia)⟩;obtain⟨r,u,ex,er,X⟩:=hG.2 i t et;rw[e]at ex;cases ex;obtain⟨I,C,y,rfl⟩:∃I C y,ss=[I,C,y]:=by
    match ss,a4 with
    | [I,C,y],_=>exact⟨I,C,y,U⟩
   have a7:=j _ _ er;have a2:=FmV.mono j.tups X;refine⟨r,_,U,SqT.of a7,U,_,_,U,_,_,U,_,_,U,U,⟨[Mw (.int t.1),Mw (.int t.2.1),Mw u],U,U⟩,?_⟩;refine⟨_,U,_,U,_,U,_,U,_,_,U,U,_,U,L,M,iL,iM,A,B,h_,J,d,t.2.2,u,f_,by simp,by lia,by lia,a2,Av t (IX et),m,m.st _ _ S j,λv T s5 R=>?_⟩;refine⟨(by show 3<=Ju;decide),λl a3=>?_⟩;have W:au T (upd T l (.tup [.int t.1,.int t.2.1,v])):=ag a3 _;have e3:upd T l (.tup [.int t.1,.int t.2.1,v]) l=Mw (.tup [.int t.1,.int t.2.1,v]):=ab;generalize upd T l (.tup [.int t.1,.int t.2.1,v])=H6 at W e3⊢;have c:=s5.trans W;have p:=c _ _ eD;refine cH.mk hi p (ay (by lia)) ⟨(j.trans c).upd o,ab,?_,by rw[dt,gy];lia⟩;have st:bM H6 (upd H6 D (.lst (g++[.ref l]))):=aQ p;rw[take_snoc et,gI];exact(O.mono (λ_ _ z=>FmV.mono (c.tups.trans st) z) (c.tups.trans st)).snoc (st _ _ e3) (FmV.mono (W.tups.trans st) R)
  .obtain⟨j,eD,O,a0⟩:=h;rw[a1,hE]at O;refine⟨M,iM,B,d,D,g,_,U,by lia,eD,O,by rw[bx];lia,λr2 H2 s2 hf=>?_⟩;exact q _ H2 (j.trans s2) hf
theorem Hs{k n:Nat}(F:Fun K "paired" "paired" Y79 f fd) (bl:Bl K mg Y)(iR:Callee P w K mg base k "closed" ["triples"] (gn K Y)) (oj:Callee P w K mg base k "paired" ["one","other","deep","pair"] (gv K Y P w mg base n)) (hk:8<=k):aK P w K mg base CX0 (k+1) f fd ["one","other","deep","pair"] (gv K Y P w mg base (n+1)):=by
 refine F.okA Z79 λf4 A e5 s H vs Q E hr h=>?_
 obtain⟨L,M,N,iL,iM,iN,A,B,C,h_,J,d,F_,G_,v,u,X,ps,rfl,hn,f0,hv,hu,c9,DO,c7,Av,hL,hJ,q⟩:=h
 refine⟨_,(aj (aN (aD bA (pv 2) af (aH _))
  (ai (aw (yy (k:=8) (i:=3) (hr.mono hk) U (Or.inl U) (aa (pv 0) (aa (pv 1) ae)))))
  aC)
  (aj (aJ (i:=4) Z79.nd U (Or.inl U) (aS ae))
  (aj (aJ (i:=5) Z79.nd U (Or.inl U) (ax aO (ax aO (pv 0) af (λ_ _=>U)) af (λ_ _=>U)))
  (aj (aJ (i:=6) Z79.nd U (Or.inl U) af)
  (aj (aJ (i:=7) Z79.nd U (Or.inl U) af)
  (aj (xp JZ.never (aD iq (pv 6) (ao aq U bl.len_ Mv (aa (pv 0) ae)) (aH _))
  (aP (aJ (i:=8) Z79.nd U (Or.inl U) (ao (kX U) U bl.min_ PyProof.Rows.boot_min (aa (ax aO (ax aO (pv 0) (pv 6) (λ_ _=>U)) af (λ_ _=>U)) (aa (ax aO (ax aO (pv 1) (pv 7) (λ_ _=>U)) af (λ_ _=>U)) ae))))
  (aP (aZ (eU PySem.F.plainAttrs_list PySem.F.slot_list_append PySem.F.type_list_append bq (pv 4) (aa (aY (aa (pv 5) (aa (pv 8) (aa (aI oj hr U (aa (ax aO (ax aO (pv 0) (pv 6) (λ_ _=>U)) af (λ_ _=>U)) (aa (ax aO (ax aO (pv 1) (pv 7) (λ_ _=>U)) af (λ_ _=>U)) (aa (av b7 (pv 2) af) (aa (pv 3) ae))))) ae)))) ae)))
  (aP (aN (aD bA (ax aO (ax aO (pv 0) (pv 6) (λ_ _=>U)) af (λ_ _=>U)) (pv 8) (aH _))
  (ai (sZ (i:=6) Z79.nd U (Or.inl U) af xo))
  aC)
  (aP (aN (aD bA (ax aO (ax aO (pv 1) (pv 7) (λ_ _=>U)) af (λ_ _=>U)) (pv 8) (aH _))
  (ai (sZ (i:=7) Z79.nd U (Or.inl U) af xo))
  aC)
  (ai (aJ (i:=5) Z79.nd U (Or.inl U) (av bJ (pv 8) af))))))))
  (ai (aw (aI iR hr U (aa (pv 4) ae)))))))))),?_⟩
 dsimp only[cR,Cx.nox,Cx.wish];show(let r6:TS:=_;let r5:TS:=aU _ r6;let r4:TS:=aU _ r5;let r3:TS:=aU _ r4;let r2:TS:=aU _ r3;let r1:TS:=aU _ r2;aU _ r1 _ _ _);intro _ _ _ _ _ _;cases d with
 |zero =>
  obtain⟨sp,hF,a8⟩:=hL.fn;refine⟨_,U,U,_,U,fH U ?_⟩;rcases hL.ob with ob|kk
  .exact .h ⟨X,sp,U,ob H hJ,hF,_,U,_,U,ob H hJ,a8 H v u F_ G_ _ hJ hv hu λr T s' hr=>q r T s' hr⟩
  .exact .k X sp U kk hF ⟨_,U,_,U,a8 H v u F_ G_ _ hJ hv hu λr T s' hr=>q r T s' hr⟩
 |succ d =>
  obtain⟨f,rfl⟩:∃f:List (T3a (Fm L d)),(f:Fm L (d+1))=F_:=⟨F_,U⟩;obtain⟨g,rfl⟩:∃g:List (T3a (Fm M d)),(g:Fm M (d+1))=G_:=⟨G_,U⟩;obtain⟨e6,Ht⟩:SmS 300 (SmF 300 d) f:=c7;obtain⟨Iq,Hu⟩:SmS 300 (SmF 300 d) g:=Av;obtain⟨p,r,rfl,a9,a3,e9,eI⟩:ShS (cc d) f ps:=c9;obtain⟨p',r',e,Ah,qL,Ai,nF⟩:ShS (cc d) g (p :: r):=DO;cases e;obtain⟨a,xs,rfl,ha,hf⟩:∃(a:Js)(xs:List V),v=.ref a/\H a=Mw (.tup xs)/\FmL (FmV A H d) H f xs:=hv;obtain⟨b,ys,rfl,hb,hg⟩:∃(a:Js)(xs:List V),u=.ref a/\H a=Mw (.tup xs)/\FmL (FmV B H d) H g xs:=hu;have e8:=hf.1;have e7:=hg.1;obtain⟨z,ez,hz,d5⟩:=nE (h:=h_) a3 a9 qL;refine⟨_,U,U,_,U,cC (λz=>by have:=V.int.inj z;lia) ?_⟩;obtain⟨t0,f',rfl⟩:∃t0 f',f=t0 :: f':=by
   cases f with
   |nil=>exact MG U a9
   |cons t0 f'=>exact⟨t0,f',U⟩
  obtain⟨r0,u0,d2,d4,_⟩:=hf.2 0 t0 U;have d3:t0.1=p.1:=a3.1;generalize ef:t0 :: f'=f at *
  refine⟨(by show 0<=Ju;decide),λl hl=>?_⟩;have s0:au H (upd H l (.lst [])):=ag hl _;have b3:upd H l (.lst []) l=Mw (.lst []):=ab;generalize upd H l (.lst [])=H0 at s0 b3⊢;refine⟨_,U,a,_,_,_,U,U,SqT.of (s0 _ _ ha),aL (j:=0) d2,r0,_,_,_,U,U,SqT.of (s0 _ _ d4),U,?_⟩;rw[d3]
  refine⟨λm σ T=>∃(i j:Nat)(lo:Int)(G:List (T3a (Fm N d)))(W:List V)(c8:Option V),m=(f.length-i)+(g.length-j)/\i<=f.length/\j<=g.length/\au H T/\T l=Mw (.lst W)/\FmL (FmV C T d) T G W/\z=G++lB (pairF h_ d) lo (f.drop i) (g.drop j)/\Cov (f.drop i) lo p.2/\Cov (g.drop j) lo p.2/\G.length<=i+j/\σ=[Mw (.ref a),Mw (.ref b),Mw (.int ((d+1:Nat):Int)),Mw (.ref X),Mw (.ref l),Mw (.int lo),Mw (.int (i:Int)),Mw (.int (j:Int)),c8],
   ⟨f.length+g.length,0,0,p.1,[],[],Mx,U,Az _,Az _,s0,b3,FmL.nil,ez,a3.cov,qL.cov,Az _,U⟩,?_⟩
  rintro m σ T ⟨i,j,lo,G,W,c8,rfl,hi,hj,O,el,a0,kn,cf,cg,f1,rfl⟩;refine⟨_,U,_,U,a,_,U,.inr (SqT.of (O _ _ ha)),_,_,U,U,_,U,?_⟩;refine bD (λgd=>?_) (λgd=>?_)
  .have a1:i<f.length:=by have:(i:Int)<((xs.length:Nat):Int):=js gd;lia
   have d1:j<g.length:=by
    by_cases d0:j<g.length
    .exact d0
    .exfalso;rw[List.drop_eq_nil_of_le (by lia)]at cg;have cg:lo=p.2+1:=cg;obtain⟨c,es⟩:∃c,f[i]?=Mw c:=⟨_,IV a1⟩;rw[gM es]at cf;have c1:=cf.1;have c2:=cf.2.le;lia
   obtain⟨c,es⟩:∃c,f[i]?=Mw c:=⟨_,IV a1⟩;obtain⟨o,et⟩:∃o,g[j]?=Mw o:=⟨_,IV d1⟩;obtain⟨r1,u1,a5,a7,c5⟩:=hf.2 i c es;obtain⟨r2,u2,a4,a6,c4⟩:=hg.2 j o et;have ms:=IX es;have mt:=IX et;rw[gM es]at cf kn;rw[gM et]at cg kn;obtain⟨f3,b5⟩:=cf;obtain⟨f2,b4⟩:=cg;obtain⟨x,I⟩:∃x:Int,x=if o.2.1<c.2.1 then o.2.1 else c.2.1:=⟨_,U⟩
   refine⟨λD y=>∃m',m'<(f.length-i)+(g.length-j)/\∃(i j:Nat)(lo:Int)(G:List (T3a (Fm N d)))(W:List V)(c8:Option V),m'=(f.length-i)+(g.length-j)/\i<=f.length/\j<=g.length/\au H y/\y l=Mw (.lst W)/\FmL (FmV C y d) y G W/\z=G++lB (pairF h_ d) lo (f.drop i) (g.drop j)/\Cov (f.drop i) lo p.2/\Cov (g.drop j) lo p.2/\G.length<=i+j/\D=[Mw (.ref a),Mw (.ref b),Mw (.int ((d+1:Nat):Int)),Mw (.ref X),Mw (.ref l),Mw (.int lo),Mw (.int (i:Int)),Mw (.int (j:Int)),c8],λD y hh=>hh,?_⟩;refine⟨λD y=>y=T/\D=[Mw (.ref a),Mw (.ref b),Mw (.int ((d+1:Nat):Int)),Mw (.ref X),Mw (.ref l),Mw (.int lo),Mw (.int (i:Int)),Mw (.int (j:Int)),Mw (.int x)],?_,?_⟩
   .refine⟨_,U,_,U,a,_,_,_,U,U,SqT.of (O _ _ ha),aL a5,r1,_,_,_,U,U,SqT.of (O _ _ a7),U,_,U,_,U,b,_,_,_,U,U,SqT.of (O _ _ hb),aL a4,r2,_,_,_,U,U,SqT.of (O _ _ a6),U,_,_,U,U,?_⟩;rw[I];rfl
   rintro c0 H3 ⟨S,rfl⟩;rw[S];clear S;refine⟨λD y=>au H y/\∃a2:List V,y l=Mw (.lst a2)/\FmL (FmV C y d) y (G++[(lo,x,pairF h_ d c.2.2 o.2.2)]) a2/\D=[Mw (.ref a),Mw (.ref b),Mw (.int ((d+1:Nat):Int)),Mw (.ref X),Mw (.ref l),Mw (.int lo),Mw (.int (i:Int)),Mw (.int (j:Int)),Mw (.int x)],?_,?_⟩
   .refine⟨_,U,.inl ⟨U,_,SqL.of el⟩,_,U,_,U,_,U,_,U,a,_,_,_,U,U,SqT.of (O _ _ ha),aL a5,r1,_,_,_,U,U,SqT.of (O _ _ a7),U,_,U,_,U,b,_,_,_,U,U,SqT.of (O _ _ hb),aL a4,r2,_,_,_,U,U,SqT.of (O _ _ a6),U,_,U,_,_,U,U,_,U,L,M,N,iL,iM,iN,A,B,C,h_,J,d,c.2.2,o.2.2,u1,u2,X,r,by simp,by lia,by lia,FmV.mono O.tups c5,FmV.mono O.tups c4,eI c ms,nF o mt,Ht c ms,Hu o mt,hL,hL.st _ _ hJ O,λv H5 s5 hv=>?_⟩;refine⟨(by show 3<=Ju;decide),λt3 c6=>?_⟩;have s6:au H5 (upd H5 t3 (.tup [.int lo,.int x,v])):=ag c6 _;have S:upd H5 t3 (.tup [.int lo,.int x,v]) t3=Mw (.tup [.int lo,.int x,v]):=ab;generalize upd H5 t3 (.tup [.int lo,.int x,v])=H6 at s6 S⊢;have Z:=s5.trans s6;have b1:=Z _ _ el;refine⟨l,W,_,U,U,b1,ay (by have:=a0.1;lia),?_⟩;have st:bM H6 (upd H6 l (.lst (W++[.ref t3]))):=aQ b1;exact⟨(O.trans Z).upd hl,_,ab,(a0.mono (λ_ _ z=>FmV.mono (Z.tups.trans st) z) (Z.tups.trans st)).snoc (t:=(lo,x,pairF h_ d c.2.2 o.2.2)) (st _ _ S) (FmV.mono (s6.tups.trans st) hv),U⟩
   rintro c0 H3 ⟨s3,a2,e0,c3,rfl⟩;refine⟨λD y=>y=H3/\D=[Mw (.ref a),Mw (.ref b),Mw (.int ((d+1:Nat):Int)),Mw (.ref X),Mw (.ref l),Mw (.int lo),Mw (.int ((if c.2.1<=o.2.1 then i+1 else i:Nat):Int)),Mw (.int (j:Int)),Mw (.int x)],?_,?_⟩
   .refine⟨_,U,_,U,a,_,_,_,U,U,SqT.of (s3 _ _ ha),aL a5,r1,_,_,_,U,U,SqT.of (s3 _ _ a7),U,_,U,U,_,U,?_⟩;refine bD (λR=>?_) (λR=>?_)
    .have R:c.2.1=x:=V.int.inj (js R);have e:c.2.1<=o.2.1:=by split at I <;> lia
     rw[ME e];exact⟨_,U,_,_,U,U,U,U⟩
    .have R:¬ c.2.1=x:=λz=>lT R (by rw[z])
     have e:¬ c.2.1<=o.2.1:=by split at I <;> lia
     rw[MD e];exact⟨U,U⟩
   rintro b6 H4 ⟨e4,rfl⟩;rw[e4];clear e4;refine⟨λD y=>y=H3/\D=[Mw (.ref a),Mw (.ref b),Mw (.int ((d+1:Nat):Int)),Mw (.ref X),Mw (.ref l),Mw (.int lo),Mw (.int ((if c.2.1<=o.2.1 then i+1 else i:Nat):Int)),Mw (.int ((if o.2.1<=c.2.1 then j+1 else j:Nat):Int)),Mw (.int x)],?_,?_⟩
   .refine⟨_,U,_,U,b,_,_,_,U,U,SqT.of (s3 _ _ hb),aL a4,r2,_,_,_,U,U,SqT.of (s3 _ _ a6),U,_,U,U,_,U,?_⟩;refine bD (λR=>?_) (λR=>?_)
    .have R:o.2.1=x:=V.int.inj (js R);have e:o.2.1<=c.2.1:=by split at I <;> lia
     rw[ME e];exact⟨_,U,_,_,U,U,U,U⟩
    .have R:¬ o.2.1=x:=λz=>lT R (by rw[z])
     have e:¬ o.2.1<=c.2.1:=by split at I <;> lia
     rw[MD e];exact⟨U,U⟩
   rintro b6 H4 ⟨e4,rfl⟩;rw[e4];clear e4;refine⟨_,U,_,_,U,U,_,?_,_,_,_,_,_,_,U,?_,?_,s3,e0,c3,?_,?_,?_,?_,U⟩
   .split <;> split <;> lia
   .split <;> lia
   .split <;> lia
   .rw[kn,lB,rF];show _=G++(lo,x,pairF h_ d c.2.2 o.2.2) :: _;rw[I];by_cases q1:c.2.1<o.2.1
    .have e1:(if o.2.1<c.2.1 then o.2.1 else c.2.1)=c.2.1:=MD (by lia);have e2:(if c.2.1<=o.2.1 then i+1 else i)=i+1:=ME (by lia);have S:(if o.2.1<=c.2.1 then j+1 else j)=j:=MD (by lia);rw[ME q1,e1,e2,S,gM et];rfl
    .rw[MD q1];by_cases q2:o.2.1<c.2.1
     .have e2:(if c.2.1<=o.2.1 then i+1 else i)=i:=MD (by lia);have S:(if o.2.1<=c.2.1 then j+1 else j)=j+1:=ME (by lia);rw[ME q2,ME q2,e2,S,gM es];rfl
     .have e2:(if c.2.1<=o.2.1 then i+1 else i)=i+1:=ME (by lia);have S:(if o.2.1<=c.2.1 then j+1 else j)=j+1:=ME (by lia);rw[MD q2,MD q2,e2,S];rfl
   .rw[I];by_cases q1:c.2.1<=o.2.1
    .rw[ME q1,MD (by lia)];exact b5.cov
    .rw[MD q1,ME (by lia),gM es];exact⟨by lia,b5⟩
   .rw[I];by_cases q1:o.2.1<=c.2.1
    .rw[ME q1];have e:(if o.2.1<c.2.1 then o.2.1 else c.2.1)=o.2.1:=by split <;> lia
     rw[e];exact b4.cov
    .rw[MD q1,MD (by lia),gM et];exact⟨by lia,b4⟩
   .rw[dt,gy];split <;> split <;> lia
  .have a1:i=f.length:=by have:¬ (i:Int)<((xs.length:Nat):Int):=lT gd;lia
   rw[a1,List.drop_length,lB,jQ]at kn;rw[←kn]at a0;refine⟨_,U,N,iN,C,d,l,W,z,U,by lia,el,a0,by have:=hz.len;lia,λr2 H2 s2 b0=>?_⟩;refine q _ H2 (O.trans s2) ?_;rw[←d5]at b0;exact b0
theorem Hv(F:Fun K "built" "built" Y35 f fd) (bl:Bl K mg Y)(lK:Callee P w K mg base 15 "layered" ["columns","ahead","leaf"] (fu K Y P w mg base 7)) (AE:Callee P w K mg base 15 "grain" ["bounds","marks"] (nZ K Y)) (f6:Callee P w K mg base 15 "cut_columns" ["bounds","marks"] (dM K Y)):aK P w K mg base CX0 16 f fd ["bounds","marks","leaf"] (n4 K Y P w mg base):=by
 refine F.okA Z35 λa1 A T s H vs Q E M h=>?_
 obtain⟨a,b,f_,V,c,as,k,L,iL,A,g,J,rfl,Z,N,X,hM,hok,hg,hL,hJ,q⟩:=h
 refine⟨_,(aj (aN (aD kj (aI AE M U (aa (pv 0) (aa (pv 1) ae))) (lW U bl.MOST_GRAIN_) (aH _))
  (ai bK)
  aC)
  (ai (aw (aI lK M U (aa (aI f6 M U (aa (pv 0) (aa (pv 1) ae))) (aa (aS ae) (aa (pv 2) ae))))))),?_⟩
 have a0:=N.length;obtain⟨y,x,u⟩:=hok;refine⟨_,U,_,U,a,b,V,c,as,k,U,Z,N,X,hM,⟨y,x,u⟩,λH1 m=>?_⟩;refine⟨_,_,U,U,_,U,?_⟩;refine bD (λg=>MG (js g) (by lia)) (λ_=>?_);refine⟨_,U,_,U,a,b,V,c,as,k,U,m _ _ Z,N.mono m.tups,m _ _ X,hM.same m,⟨y,x,u⟩,λl xs G e s2 el R C hx=>?_⟩;refine⟨(by show 0<=Ju;decide),λt W=>?_⟩;have D:au G (upd G t (.lst [])):=ag W _;have et:upd G t (.lst []) t=Mw (.lst []):=ab;generalize upd G t (.lst [])=H3 at D et⊢;have r:=(m.trans s2).trans D;have B:(List.zipWith (λp i=>ck p.1 p.2 i) c e).length=c.length:=by rw[jR];lia
 refine⟨_,U,l,t,f_,xs,_,[],c.length,L,iL,A,g,J,U,by lia,D _ _ el,hx.same D,et,λS Hy=>?_,by rw[B];show 0+c.length<=6;lia,by lia,by rw[B];show c.length=0+c.length;lia,hL,hL.st _ _ hJ r,λv H4 h4 hv=>?_⟩
 .obtain⟨j,n⟩:=jP Hy;have hj:j<(List.zipWith (λp i=>ck p.1 p.2 i) c e).length:=(IW.mp n).1;obtain⟨p,ep⟩:∃p,c[j]?=Mw p:=⟨_,IV (by lia)⟩;obtain⟨i,ec⟩:∃i,e[j]?=Mw i:=⟨_,IV (by lia)⟩;obtain⟨I,em⟩:∃I,k[j]?=Mw I:=⟨_,IV (by lia)⟩;rw[kM,ep,ec]at n;have n:ck p.1 p.2 i=S:=Option.some.inj n;rw[←n,gk];have:=(C j p I i ep em ec).2.2;lia
 .exact q v H4 e (λd o O=>h4 d o (λz=>by have f:=(m.trans s2).free W;rw[z,f]at O;cases O) (r _ _ O)) R C hv
theorem Hz(F:Fun K "changed_boxes" "changed_boxes" Y36 f fd) (bl:Bl K mg Y)(oj:Callee P w K mg base 15 "paired" ["one","other","deep","pair"] (gv K Y P w mg base 7)) (lL:Callee P w K mg base 8 "differing_pair" ["old","new"] (dJ K Y)) (kJ:Callee P w K mg base 15 "boxes_with_leaf" ["form","deep"] (dB K Y)):aK P w K mg base CX0 16 f fd ["old","new","deep"] (dX K Y):=by
 refine F.okA Z36 λc1 A b5 s H vs Q E hr h=>?_
 obtain⟨v,u,d,M,L,ps,rfl,hd,hv,hu,W,V,b0,a9,AB,c0,q⟩:=h
 refine⟨_,(aj (aJ (i:=3) Z36.nd U (Or.inl U) (aI oj hr U (aa (pv 0) (aa (pv 1) (aa (pv 2) (aa (Ca lL U) ae))))))
  (ai (aw (fe (aW (aI kJ hr U (aa (pv 3) (aa (pv 2) ae)))) (eW (N:=["box","told"]) (k:=2) U U (by decide+kernel) (by decide+kernel) (by decide+kernel)) U (λ_ _ _ _=>(lU (K:=K) (n:=2) U U (aM (aE (i:=0) (show(["box","told"]:List Str).Nodup by decide+kernel) U (Or.inl U) (Or.inr U)) (aM (aE (i:=1) (show(["box","told"]:List Str).Nodup by decide+kernel) U (Or.inl U) (Or.inr U)) bX)))) (λ_ _ _ _=>bu) (λ_ _ _ _=>(aY (aa (pv 0) (aa (ax (cO (K:=K) U) (pv 1) af (λ_ _=>U)) (aa (ax (cO (K:=K) U) (pv 1) af (λ_ _=>U)) ae))))))))),?_⟩
 refine⟨_,U,_,U,_,U,λf_ b3 b1=>?_⟩;have hP:DI (K':=K) LVd LVd LPd P w K mg base f_ dpr (λ_=>True):=⟨⟨_,b3,λH0 v0 u0 x0 y0 Q0 _ a3 a4 k0=>by
  obtain⟨l,rfl,h1⟩:=a3;obtain⟨g,rfl,h2⟩:=a4;exact⟨l,g,x0,y0,U,h1,h2,λv1 H1 s1 e1=>k0 v1 H1 s1 e1⟩⟩,.inr b1,λ_ _ _ _=>trivial⟩
 refine⟨SI,SI,Option (SI×SI),inferInstance,inferInstance,inferInstance,LVd,LVd,LPd,dpr,_,d,M,L,v,u,f_,ps,U,by lia,by lia,hv,hu,W,V,b0,a9,hP,trivial,λr H1 s1 b4=>?_⟩;have a8:=mF (h:=dpr) W V;refine⟨_,U,_,U,d,_,r,U,b4,by lia,AB,(λq_ hq=>by rw[(sf a8 q_ hq).1.len];lia),λl2 ys H2 s2 b6 a1 hB=>?_⟩;have T:ys.length=(cJ (bxs d (pairF dpr d M L))).length:=Paired.length hB;have a7:(cJ (bxs d (pairF dpr d M L))).length<=300:=zQ (lG _ _) AB;have X:∀q_∈cJ (bxs d (pairF dpr d M L)),q_.2≠none:=λq_ hq=>MJ (jZ.mp hq).2
 generalize cJ (bxs d (pairF dpr d M L))=TL at hB T a7 X q;refine⟨l2,U,⟨_,SqL.of a1⟩,ff (xs:=ys) (λD j c b=>au H2 b/\b D=Mw (.lst c)/\ChL K b c (TL.take j)) (λD x=>⟨ag x _,ab,.nil⟩) (λD j c b x _ J=>SqL.of (J.1 _ _ a1)) (λD j y c b x e J ts a6=>?_) (λD c b x J=>?_)⟩
 .obtain⟨t,eD,I⟩:=J;obtain⟨qx,eq,tx,B,wx,rfl,g1,g2,g3⟩:=cE hB e;have hj:j<ys.length:=(IW.mp e).1;obtain⟨t0,t1,rfl⟩:∃t0 t1,ts=[t0,t1]:=by
   match ts,a6 with
   | [t0,t1],_=>exact⟨t0,t1,U⟩
  obtain⟨p,ep⟩:∃p,qx.2=Mw p:=by
   cases z:qx.2 with
   |none=>exact MG z (X qx (IX eq))
   |some p=>exact⟨p,U⟩
  have g3:RPd K H2 qx.2 wx:=g3;rw[ep]at g3;obtain⟨m,rfl,l,g,a0,v1,v2⟩:=g3;have a2:c.length=(TL.take j).length:=Paired.length I;rw[iP]at a2;refine⟨tx,_,U,SqT.of (t _ _ g1),U,_,_,U,_,_,U,U,⟨[Mw (.ref B),Mw (.ref m)],U,U⟩,?_⟩;refine⟨_,U,_,U,m,_,_,_,U,U,SqT.of (t _ _ a0),U,_,U,m,_,_,_,U,U,SqT.of (t _ _ a0),U,(by show 3<=Ju;decide),λa a5=>?_⟩;have s3:=ag a5 (.tup [.ref B,.ref l,.ref g]);have eT:upd b a (.tup [.ref B,.ref l,.ref g]) a=Mw (.tup [.ref B,.ref l,.ref g]):=ab;have o:=s3 _ _ eD;have S:=I.mono s3.tups;have G:=t.trans s3;have Z:=g2.mono G.tups;have R:=v1.mono G.tups;have O:=v2.mono G.tups;generalize upd b a (.tup [.ref B,.ref l,.ref g])=H3 at s3 eT o S G Z R O⊢;refine cH.mk hj o (ay (by lia)) ⟨G.upd x,ab,?_⟩;rw[take_snoc eq];have C:bM H3 (upd H3 D (.lst (c++[.ref a]))):=aQ o;exact fi (S.mono C) (.cons ⟨a,B,l,g,p,U,ep,C _ _ eT,Z.mono C,R.mono C,O.mono C⟩ .nil)
 .obtain⟨t,eD,I⟩:=J;rw[T,hE]at I;exact q D c b ((s1.trans s2).trans t) ((s1.trans s2).free x) eD I
theorem kK{c' c_0:Js}{doc pm ctv:Jp}(bl:Bl K mg Y)(n:Callee P w K mg base 7 "mask" ["table","codes"] (kG K Y)) (inj:∀x y c,([("table",c_0)]:List (Str×Js)).lookup x=Mw c->([("table",c_0)]:List (Str×Js)).lookup y=Mw c->x=y):HFn P w K mg base 8 f (gw K Y f c' c_0 doc pm ctv):=by
 have Z87:=@Z87 c_0;refine yx (qual := "row_form.<locals>.<lambda>") (e:=Y86) (c':=c') (cl:=[("table",c_0)]) (pm:=pm) (ctv:=ctv) Z87 inj (λr v=>match r,v with | [D],_=>rfl) (λp H Q E h=>?_) (λA g s H p Q E z h=>?_)
 .obtain⟨a,t,m,b,i,o,rfl,d,l,k,j,q⟩:=h;rfl
 obtain⟨a,t,m,b,i,o,rfl,d,l,k,j,q⟩:=h;refine⟨_,d,ve U,λC=>⟨_,(aI n z U (aa (pv 1) (aa (pv 0) ae))),?_⟩⟩;have B:=d.2.2.fzs;have so:=So.hide B;exact⟨_,U,_,U,t,a,b,i,o,m,U,Tbl.so so l,SqL.of (so.lst k),j,λF u _=>q _ (m7 u)⟩
theorem HA(F:Fun K "row_form" "row_form" s_row_form f fd) (bl:Bl K mg Y)(AF:Callee P w K mg base 16 "built" ["bounds","marks","leaf"] (n4 K Y P w mg base)) (oo:Callee P w K mg base 16 "table_bounds" ["table"] (eP K Y)) (oY:Callee P w K mg base 16 "table_marks" ["table"] (fq K Y)) (zq:Callee P w K mg base 16 "mask" ["table","codes"] (kG K Y)) {cL tP:Js}(a4:fd.code=.ref cL)(ht:W.tabIn K "row_form" = Mw (cL,tP)) (hT:W.CodeHd base cL tP/\base.BuiltinsAt mg tP)(CC:Callee P w K mg base 7 "mask" ["table","codes"] (kG K Y)):aK P w K mg base CX0 17 f fd ["table"] (iK K Y):=by
 refine F.okT a4 Z86 (λvs H Q E h=>?_) (λA b6 s H vs Q E hr h=>?_)
 .obtain⟨t,dv,bs,g,L,i,o,rfl,G,T,h4,V,lF,J,S,O,q⟩:=h;rfl
 obtain⟨t,dv,bs,g,L,i,o,rfl,G,T,h4,V,lF,J,S,O,q⟩:=h;refine⟨_,(ai (aw (yk (zs:=[("table",0,s.heap.objs.size+1)]) AF hr U (aa (aI oo hr U (aa (pv 0) ae)) (aa (aI oY hr U (aa (pv 0) ae)) (aa (yw (clos:=[("table",s.heap.objs.size+1)]) U hT.1 hT.2 U (hZ.mpr ⟨U,jg _⟩)) ae))) (hZ.mpr ⟨⟨U,Or.inl U,U,Or.inl U⟩,jg _⟩)))),?_⟩;have a6:∀(c:Nat)(b:Int×Int),bs[c]?=Mw b->(L c).length<64/\∀x,MkC g c b x->x∈L c:=λc b e=>⟨D0 (J c b e).1 (by decide),(J c b e).2⟩
 refine⟨_,U,t,dv,bs,g,U,G,by lia,λl1 ys H1 s1 n1 e1 a5=>?_⟩;refine⟨_,U,t,dv,bs,g,L,U,G.same s1,by lia,V,lF,a6,λl2 as r H2 s2 n2 e2 hM R y=>?_⟩;have n:=s1.trans s2;have D7:=(O _ ht).same n;obtain⟨c0,b0,_⟩:=id D7;refine⟨[(rT Y86,"row_form.<locals>.<lambda>")],fw,?_,D7,λZ c' oc pm ctv M hf kp ef ec a2 yn inj=>?_⟩
 .intro p hp _ _;rw[iv.mp hp];rfl
 have m:So H2 M:=λd o p e=>kp d o (λz=>by rw[z,b0]at e;cases e;exact p) e
 refine λos u hz ho=>?_
 have l:=ni u hz;have a8:∃o,iB M ((([("table",0,s.heap.objs.size+1)]:List (Str×Nat×Js)).map (·.2.2)).zip os) (s.heap.objs.size+1)=Mw (.frz o TTh):=by
  obtain⟨o,_,e⟩:=gK (H:=M) (fz:=(([("table",0,s.heap.objs.size+1)]:List (Str×Nat×Js)).map (·.2.2)).zip os) (b:=s.heap.objs.size+1) (by rw[nh u];exact fw);exact⟨o,e⟩
 have a3:=rQ (H:=M) (cl:=[("table",s.heap.objs.size+1)]) (ws:=[("table",.ref t)]) u (by simp) ho (λc hc=>by
  simp only[jS,qf,dV,jY,or_false]at hc;exact⟨_,fw,hc.symm⟩) (λx v e=>by
  unfold List.lookup at e;split at e
  .rename_i C
   cases e;rw[eq_of_beq C];exact⟨_,fw,U,U⟩
  .cases e)
 have om:jw (iB M ((([("table",0,s.heap.objs.size+1)]:List (Str×Nat×Js)).map (·.2.2)).zip os)) Z c' (W.kla_obj "<lambda>" "row_form.<locals>.<lambda>" (qH Y86) (oM Y86) (kx Y86) [("table",s.heap.objs.size+1)] pm c' ctv) "row_form.<locals>.<lambda>" [("table",s.heap.objs.size+1)] [("table",.ref t)]:=⟨l _ _ ef,⟨oc,l _ _ ec,a2⟩,a3⟩;have hN:Ci (K':=K) yu P w K mg base Z bs.length (λcd=>((msk (jd g cd) g.length:Nat):Int)) (λN=>jw N Z c' (W.kla_obj "<lambda>" "row_form.<locals>.<lambda>" (qH Y86) (oM Y86) (kx Y86) [("table",s.heap.objs.size+1)] pm c' ctv) "row_form.<locals>.<lambda>" [("table",s.heap.objs.size+1)] [("table",.ref t)]/\Tbl Y.k Y.i Y.j N t g i o) :=
  ⟨⟨_,kK (doc:=.none) (pm:=pm) (ctv:=ctv) (c':=c') (c_0:=s.heap.objs.size+1) bl CC inj,λN a cd Q0 D hl ha k=>⟨a,t,cd,g,i,o,U,D.1,D.2,ha,(λx C=>by rw[(lF x C).1,hl]),λb5 X=>k _ _ (λb o _ e=>X b o e) U⟩⟩,λN D=>⟨_,_,D.1.1,U⟩,λN b5 D X=>⟨D.1.same X,Tbl.same D.2 X⟩⟩
 have HB:MOK bs r:=⟨R.symm,by lia,λB a0=>by
  obtain⟨c,ec⟩:=jP a0;have hc:=(IW.mp ec).1;obtain⟨b,eb⟩:∃b,bs[c]?=Mw b:=⟨_,IV (by lia)⟩;obtain⟨pw,hm⟩:=y c b B eb ec;exact zQ (yT pw λx C=>(J c b eb).2 x ((hm x).mp C)) (J c b eb).1⟩
 refine⟨l1,l2,Z,ys,bs,as,r,Int,inferInstance,yu,_,_,U,(So.lst m (s2 _ _ e1) |> λe=>l _ _ e),((a5.mono s2.tups).mono m.tups).mono l.tups,l _ _ (m.lst e2),(MLs.so m hM).same l,HB,S r R y,hN,⟨om,Tbl.same (Tbl.so m (Tbl.same T n)) l⟩,λv H4 b4 s4 HC a1 a7=>?_⟩;have hs:=L2.hide_same u hz s4;obtain⟨o2,b1⟩:=a8;have a9:Fzs H4 [s.heap.objs.size+1]:=λd hd=>by rw[iv.mp hd];exact⟨o2,s4 _ _ b1⟩
 refine q v _ b4 (((So.of n).trans m).trans (So.of hs)) (λz ez=>?_) ⟨_,ht⟩ HC (λj p cs ep b3=>?_) (a7.mono (So.hide a9).tups)
 .rw[ht]at ez;cases ez;exact⟨yn.same hs,λd o hd e=>hs _ _ (kp d o hd (n _ _ e))⟩
 .obtain⟨B,I⟩:∃B,r[j]?=Mw B:=⟨_,IV (by have:=(IW.mp ep).1;lia)⟩;obtain⟨pw,hm,_⟩:=a1 j p B cs ep I b3;refine⟨pw,λx=>(hm x).trans ⟨λh=>((y j p B ep I).2 x).mp h.1,λh=>⟨((y j p B ep I).2 x).mpr h,?_⟩⟩⟩;obtain⟨w_,_,C⟩:=h;have:=(jZ.mp C).2;rw[IZ,ML,ML]at this;exact this
theorem ig{c' c_0:Js}{doc pm ctv:Jp}(bl:Bl K mg Y)(n:Callee P w K mg base 7 "judged" ["table","rows"] (gq K Y)) (inj:∀x y c,([("table",c_0)]:List (Str×Js)).lookup x=Mw c->([("table",c_0)]:List (Str×Js)).lookup y=Mw c->x=y):HFn P w K mg base 8 f (eG K Y f c' c_0 doc pm ctv):=by
 have Z92:=@Z92 c_0;refine yx (qual := "verdict_form.<locals>.<lambda>") (e:=Y90) (c':=c') (cl:=[("table",c_0)]) (pm:=pm) (ctv:=ctv) Z92 inj (λl v=>match l,v with | [F],_=>rfl) (λk H Q E h=>?_) (λA g s H k Q E z h=>?_)
 .obtain⟨m,t,a,i,o,rfl,b,j,q⟩:=h;rfl
 obtain⟨m,t,a,i,o,rfl,b,j,q⟩:=h;refine⟨_,b,ve U,λD=>⟨_,(aI n z U (aa (pv 1) (aa (pv 0) ae))),?_⟩⟩;have C:=b.2.2.fzs;have so:=So.hide C;refine⟨_,U,_,U,t,a,i,o,m,U,Tbl.so so j,λr G p d u=>q r _ (m7 p) ?_⟩;rcases d with e|e
 .exact .inl ((de λB=>by have:=u r B;rw[e]at this;cases this).trans e)
 .exact .inr e
theorem HD(F:Fun K "verdict_form" "verdict_form" s_verdict_form f fd) (bl:Bl K mg Y)(oi:Callee P w K mg base 17 "mapped" ["form","deep","change"] (gu K Y P w mg base 7)) (uJ:Callee P w K mg base 17 "row_form" ["table"] (iK K Y)) (sJ:Callee P w K mg base 17 "judged" ["table","rows"] (gq K Y)) {cL tP:Js}(c2:fd.code=.ref cL)(ht:W.tabIn K "verdict_form" = Mw (cL,tP)) (hT:W.CodeHd base cL tP/\base.BuiltinsAt mg tP)(zr:Callee P w K mg base 7 "judged" ["table","rows"] (gq K Y)):aK P w K mg base CX0 18 f fd ["table"] (eS K Y):=by
 refine F.okT c2 Z91 (λvs H Q E h=>?_) (λA d4 s H vs Q E hr h=>?_)
 .obtain⟨t,dv,bs,a,L,kk,i,o,rfl,h,N,a0,q⟩:=h;rfl
 obtain⟨t,dv,bs,a,L,kk,i,o,rfl,h,N,a0,q⟩:=h;refine⟨_,(ai (aw (yk (zs:=[("table",0,s.heap.objs.size+1)]) oi hr U (aa (aI uJ hr U (aa (pv 0) ae)) (aa (ao aq U bl.len_ Mv (aa (bo (pv 0) U) ae)) (aa (yw (clos:=[("table",s.heap.objs.size+1)]) U hT.1 hT.2 U (hZ.mpr ⟨U,jg _⟩)) ae))) (hZ.mpr ⟨⟨U,Or.inl U,U,Or.inl U⟩,jg _⟩)))),?_⟩;have e0:=h.b4;obtain⟨rl,dx,dl,fs,xs,b1,f1,f2,d2,b6,e3,hR⟩:=id h.td;have c0:dv.length=bs.length:=b6.1;refine⟨_,U,t,dv,bs,a,L,i,o,U,h.td,h.tb,h.b4,h.r60,h.row,(λc b e=>⟨zQ (h.mrk c b e).1 h.k57,(h.mrk c b e).2⟩),h.gr,N,λv H1 O y b3 a8 a3 D a4=>?_⟩;generalize vD:List.zipWith (λp l=>ck p.1 p.2 l) bs O=cols at a4;have hok:gi cols bs:=by
  rw[←vD];exact uB a3 h.le λj p l e1 e2=>⟨(D j p l e1 e2).1,λc r=>yU (((D j p l e1 e2).2 c).mp r)⟩
 have a2:cols.length=bs.length:=by rw[←vD,jR];lia
 have I:∀c∈cols,c.length<=kk+1:=λc r=>by
  rw[←vD]at r;obtain⟨j,T⟩:=jP r;have m:=(IW.mp T).1;rw[jR]at m;obtain⟨p,ep⟩:∃p,bs[j]?=Mw p:=⟨_,IV (by lia)⟩;obtain⟨l,ec⟩:∃l,O[j]?=Mw l:=⟨_,IV (by lia)⟩;rw[kM,ep,ec]at T;have T:ck p.1 p.2 l=c:=Option.some.inj T;rw[←T,gk];obtain⟨pw,hm⟩:=D j p l ep ec;have:=yT pw λx S=>(h.mrk j p ep).2 x ((hm x).mp S)
  have:=(h.mrk j p ep).1;lia
 have r:DJ bs a cols:=⟨hok,O,a3,vD.symm,D⟩;refine⟨_,U,t,_,_,_,_,U,y.ins b1,bl.k_Table,bl.na_Table_domains,f2,dl,_,U,.inl (SqL.of (y.lst d2)),?_⟩;obtain⟨z_,G⟩:=a8;obtain⟨b0,b5⟩:=b3 z_ G;have X:=bl.nt0 z_ _ G ht;have a1:dD H1 tP [(rT Y90,"verdict_form.<locals>.<lambda>")]:=by
  obtain⟨pz,d0,_⟩:=N z_ G;exact tab_keep (a0 _ ht) X.symm d0 b5
 obtain⟨d5,a6,_⟩:=id a1;refine⟨[(rT Y90,"verdict_form.<locals>.<lambda>")],fw,?_,a1,λf_ c' oc pm ctv R hf kp ef ec c1 yn inj=>?_⟩
 .intro p hp _ _;rw[iv.mp hp];rfl
 have J:So H1 R:=λd o p e=>kp d o (λz=>by rw[z,a6]at e;cases e;exact p) e
 have HE:dD R z_.2 [(rT Y86,"row_form.<locals>.<lambda>")]:=tab_keep b0 X a6 kp;refine λos B hz ho=>?_
 have C:=ni B hz;have c4:∃o,iB R ((([("table",0,s.heap.objs.size+1)]:List (Str×Nat×Js)).map (·.2.2)).zip os) (s.heap.objs.size+1)=Mw (.frz o TTh):=by
  obtain⟨o,_,e⟩:=gK (H:=R) (fz:=(([("table",0,s.heap.objs.size+1)]:List (Str×Nat×Js)).map (·.2.2)).zip os) (b:=s.heap.objs.size+1) (by rw[nh B];exact fw);exact⟨o,e⟩
 have HF:=rQ (H:=R) (cl:=[("table",s.heap.objs.size+1)]) (ws:=[("table",.ref t)]) B (by simp) ho (λc r=>by
  simp only[jS,qf,dV,jY,or_false]at r;exact⟨_,fw,r.symm⟩) (λx v e=>by
  unfold List.lookup at e;split at e
  .rename_i S
   cases e;rw[eq_of_beq S];exact⟨_,fw,U,U⟩
  .cases e)
 have om:jw (iB R ((([("table",0,s.heap.objs.size+1)]:List (Str×Nat×Js)).map (·.2.2)).zip os)) f_ c' (W.kla_obj "<lambda>" "verdict_form.<locals>.<lambda>" (qH Y90) (oM Y90) (kx Y90) [("table",s.heap.objs.size+1)] pm c' ctv) "verdict_form.<locals>.<lambda>" [("table",s.heap.objs.size+1)] [("table",.ref t)]:=⟨C _ _ ef,⟨oc,C _ _ ec,c1⟩,HF⟩;have hN:DH (K':=K) yu LVd P w K mg base f_ (vdm a i o) (λV=>jw V f_ c' (W.kla_obj "<lambda>" "verdict_form.<locals>.<lambda>" (qH Y90) (oM Y90) (kx Y90) [("table",s.heap.objs.size+1)] pm c' ctv) "verdict_form.<locals>.<lambda>" [("table",s.heap.objs.size+1)] [("table",.ref t)]/\Tbl Y.k Y.i Y.j V t a i o) :=
  ⟨⟨_,ig (doc:=.none) (pm:=pm) (ctv:=ctv) (c':=c') (c_0:=s.heap.objs.size+1) bl zr inj,λV v x Q0 m hv k=>by
   have hv:v=.int x:=hv;subst hv;exact⟨x,t,a,i,o,U,m.1,m.2,λr_ d3 s0 a9=>k _ _ s0 ⟨r_,U,a9⟩⟩⟩,λV m=>⟨_,_,m.1.1,U⟩,λV d3 m s0=>⟨m.1.same s0,Tbl.same m.2 s0⟩⟩
 refine⟨Int,SI,inferInstance,inferInstance,yu,LVd,vdm a i o,_,cols.length,lay (mkg a) cols [],v,f_,?_,by lia,by lia,?_,?_,hN,⟨om,Tbl.same (Tbl.so J (Tbl.so y h.tb)) C⟩,λu H4 s4 a5=>?_⟩
 .rw[c0,←a2]
 .exact(a4.mono J.tups).mono C.tups
 .exact(uA hok I []).le (by have:=h.few;have:=h.k57;lia)
 rw[Ao hok]at a5;have M:=L2.hide_same B hz s4;obtain⟨o2,d1⟩:=c4;have c5:Fzs H4 [s.heap.objs.size+1]:=λd hd=>by rw[iv.mp hd];exact⟨o2,s4 _ _ d1⟩
 have c3:=a5.mono (So.hide c5).tups;have a7:So H (hideL H4 [s.heap.objs.size+1]):=(y.trans J).trans (So.of M);obtain⟨F',c9,c8,c7,c6⟩:=Bj a2 (lay (λcd=>vdm a i o (mkg a cd)) cols []) (λn F=>FmV (K:=K) LVd (hideL H4 [s.heap.objs.size+1]) n F u/\cc n F bs/\SmF 300 n F/\∀l,InB l bs->Tel n F l (vdm a i o (mkg a l))) ⟨c3,nj hok [],(uA hok I []).le (by have:=h.few;have:=h.k57;lia),λl Z=>by
  have:=mD (g:=λcd=>vdm a i o (mkg a cd)) hok [] l Z;rw[zy,Am r (λx S=>(h.row x S).1) Z]at this;exact this⟩
 refine q u F' _ a7 (λz e=>?_) (λz e=>?_) c9 c8 c7 c6
 .rw[G]at e;cases e;exact HE.same M
 .rw[ht]at e;cases e;exact yn.same M
theorem HG(F:Fun K "changes" "changes" Y37 f fd) (bl:Bl K mg Y)(mj:Callee P w K mg base 18 "refuse_unlike" ["one","other"] (dW K Y)) (ml:Callee P w K mg base 18 "changed_boxes" ["old","new","deep"] (dX K Y)) (iS:Callee P w K mg base 18 "verdict_form" ["table"] (eS K Y)):aK P w K mg base CX0 19 f fd ["one","other"] (jL K Y):=by
 refine F.okA Z37 λb0 A a7 s H vs Q E C h=>?_
 obtain⟨t,u,bs,c,k,i,j,o,gc,rfl,a5,a1,a0,q⟩:=h
 refine⟨_,(aj (aZ (aI mj C U (aa (pv 0) (aa (pv 1) ae))))
  (ai (aw (aI ml C U (aa (aI iS C U (aa (pv 0) ae)) (aa (aI iS C U (aa (pv 1) ae)) (aa (ao aq U bl.len_ Mv (aa (bo (pv 0) U) ae)) ae))))))),?_⟩
 obtain⟨⟨R,ev,L,L',kk,D,hB,a2,ou,pu,ds,d,e1,e2,e3,e4,e5,e6,e7⟩,O,k2,k3,k4⟩:=a5;have a8:=D.b4;refine⟨_,U,_,U,t,u,R,ev,ou,pu,ds,d,U,e1,e2,e3,e4,e5,e6,e7,λH1 N=>?_⟩;have p:=So.of N;refine⟨_,U,t,R,bs,c,L,kk,i,o,U,D.so p,a1.same N,a0.same N,λv F H2 Z X V f1 J f3 f4=>?_⟩;have D8:=p.trans Z;refine⟨_,U,u,ev,bs,k,L',kk,j,o,U,hB.so D8,X,V,λw_ G H3 m W T g1 I g3 g4=>?_⟩;have S:=D8.trans m;obtain⟨rl,dx,dl,fs,xs,ht,j1,j2,a6,a3,a9,hR⟩:=(D.so S).td;have a4:R.length=bs.length:=a3.1;obtain⟨G0,p1,p2,p3⟩:=Bj k2 (lay (dif c k i j o) gc []) (λn F=>cc n F bs/\(bxs n F).length<=300/\∀b,InB b bs->Tel n F b (dif c k i j o b)) ⟨nj O [],zQ (yR O a2 []) (by rw[k2];exact D.few),λb a=>by
  have:=mD (g:=dif c k i j o) O [] b a;rw[zy]at this;unfold dif at this⊢;rw[k3 b a,k4 b a]at this;exact this⟩
 have r:∀b,InB b bs->Tel bs.length (pairF dpr bs.length F G) b (dif c k i j o b):=λb a=>yK (f4 b a) (g4 b a) J I a
 have B:pairF dpr bs.length F G=G0:=jb (mF J I) p1 λb a x y hx hy=>(fL hx (r b a)).trans (fL hy (p3 b a)).symm
 refine⟨_,U,t,_,_,_,_,U,ht,bl.k_Table,bl.na_Table_domains,j2,dl,_,U,.inl (SqL.of a6),v,w_,bs.length,F,G,bs,by rw[a4],by lia,f1.mono m.tups,g1,J,I,f3,g3,by rw[B];exact p2,by lia,λl ys H4 M nl el hC=>?_⟩;exact q l ys (pairF dpr bs.length F G) H4 (S.trans (So.of M)) (λo_ po e=>MG (nl.symm.trans (S l o_ po e)) (by intro z;cases z)) (W.same M) (T.same M) el ⟨mF J I,r,by rw[B];exact p2⟩ hC
theorem HH(F:Fun K "law" "law" Y50 f fd) (bl:Bl K mg Y)(jW:Callee P w K mg base 19 "_law_grid_points" ["script","most"] (dA K Y)) (sL:Callee P w K mg base 19 "_law_outs" ["cell"] (iE K Y)) (kL:Callee P w K mg base 19 "_law_table" ["script","points","outs","way","rows","turn"] (hU K Y)) (qe:Callee P w K mg base 19 "changes" ["one","other"] (jL K Y)) (bh:Callee P w K mg base 19 "_law_cell" ["script","k"] (eB K Y)) (jX:Callee P w K mg base 19 "_law_way" ["cell","words"] (jI K Y)) (jM:Callee P w K mg base 19 "_law_row" ["cell","points","outs"] (gW K Y)) (qX:Callee P w K mg base 19 "_law_other" ["rows","cell","points","outs"] (gZ K Y)) (uK:Callee P w K mg base 19 "_law_box" ["points","at"] (jJ K Y)) (sM:Callee P w K mg base 19 "_law_just" ["told","tiles","due","points"] (iI K Y)) (oq:Callee P w K mg base 19 "_law_numbers" ["script","start","most"] (fk K Y)) (fZ:Callee P w K mg base 19 "_law_places" ["points"] (d7 K Y)) (sN:Callee P w K mg base 19 "_law_dues" ["points","two","ways","outs"] (iH K Y)) (fN:Callee P w K mg base 19 "_law_is_verdict" ["told"] (dN K Y)):aK P w K mg base CX0 20 f fd ["script"] (J18 K):=by
 refine F.ok Z50 (λvs H Q E h=>?_) (λcdv A w7 s H vs Q E W h=>?_)
 .obtain⟨a,S,rfl,hS,h63,l5,l3,q⟩:=h;rfl
 obtain⟨a,S,rfl,hS,h63,l5,l3,q⟩:=h;refine'⟨?tt,?r0,?rd⟩
 case' r0=>refine' aP ?st0 ?r1
 case' r1=>refine' aP ?st1 ?r2
 case' r2=>refine' aP ?st2 ?r3
 case' r3=>refine' aP ?st3 ?r4
 case' r4=>refine' aP ?st4 ?r5
 case' r5=>refine' aP ?st5 ?r6
 case' r6=>refine' aP ?st6 ?r7
 case' r7=>refine' aP ?st7 ?r8
 case' r8=>refine' aP ?st8 ?r9
 case' r9=>refine' aP ?st9 ?r10
 case' r10=>refine' aP ?st10 ?r11
 case' r11=>refine' aP ?st11 ?r12
 case' r12=>refine' aP ?st12 ?r13
 case' r13=>refine' aP ?st13 ?r14
 case' r14=>refine' aP ?st14 ?r15
 case' r15=>refine' aP ?st15 ?r16
 case' r16=>refine' ai ?st16
 case' st0 =>
  refine' aJ (i:=1) ?u2a ?u2b ?u2c ?h1 ?u2d ?u2e
  case' u2a=>exact Z50.nd
  case' u2b=>exact U
  case' u2c=>exact(Or.inr U)
  case' h1=>refine' aI jW W U ?h3
  case' h3=>refine' aa ?h4 ?h5 ?h6
  case' h4=>exact(pv 0)
  case' h5=>refine' aa ?h7 ?h8 ?h9
  case' h7=>refine' ax aG ?h10 ?h11 (λ_ _=>U)
  case' h10=>refine' aS ?h12
  case' h12=>refine' aa ?h13 ?h14 ?h15
  case' h13=>refine' aS ?h16
  case' h16=>refine' aa ?h17 ?h18 ?h19
  case' h17=>exact af
  case' h18=>exact ae
  case' h19=>exact U
  case' h14=>refine' aa ?h20 ?h21 ?h22
  case' h20=>refine' aS ?h23
  case' h23=>refine' aa ?h24 ?h25 ?h26
  case' h24=>exact af
  case' h25=>refine' aa ?h27 ?h28 ?h29
  case' h27=>exact af
  case' h28=>exact ae
  case' h29=>exact U
  case' h26=>exact U
  case' h21=>refine' aa ?h30 ?h31 ?h32
  case' h30=>refine' aS ?h33
  case' h33=>refine' aa ?h34 ?h35 ?h36
  case' h34=>exact af
  case' h35=>refine' aa ?h37 ?h38 ?h39
  case' h37=>exact af
  case' h38=>refine' aa ?h40 ?h41 ?h42
  case' h40=>exact af
  case' h41=>exact ae
  case' h42=>exact U
  case' h39=>exact U
  case' h36=>exact U
  case' h31=>refine' aa ?h43 ?h44 ?h45
  case' h43=>refine' aS ?h46
  case' h46=>refine' aa ?h47 ?h48 ?h49
  case' h47=>exact af
  case' h48=>refine' aa ?h50 ?h51 ?h52
  case' h50=>exact af
  case' h51=>refine' aa ?h53 ?h54 ?h55
  case' h53=>exact af
  case' h54=>refine' aa ?h56 ?h57 ?h58
  case' h56=>exact af
  case' h57=>exact ae
  case' h58=>exact U
  case' h55=>exact U
  case' h52=>exact U
  case' h49=>exact U
  case' h44=>exact ae
  case' h45=>exact U
  case' h32=>exact U
  case' h22=>exact U
  case' h15=>exact U
  case' h11=>refine' av ?h59 ?h60 ?h61
  case' h59=>exact aR
  case' h60=>refine' aI bh W U ?h62
  case' h62=>refine' aa ?h63 ?h64 ?h65
  case' h63=>exact(pv 0)
  case' h64=>refine' aa ?h66 ?h67 ?h68
  case' h66=>exact af
  case' h67=>exact ae
  case' h68=>exact U
  case' h65=>exact U
  case' h61=>exact af
  case' h8=>exact ae
  case' h9=>exact U
  case' h6=>exact U
  case' u2d=>exact U
  case' u2e=>first|exact .inl U|exact .inr U
 case' st1=>exact(aJ (i:=2) Z50.nd U (Or.inr U) (aI sL W U (aa (aI bh W U (aa (pv 0) (aa af ae))) ae)))
 case' st2=>exact(aJ (i:=3) Z50.nd U (Or.inl U) (fE bA (av aR (aI bh W U (aa (pv 0) (aa af ae))) af) af (aH _)))
 case' st3=>exact(aJ (i:=4) Z50.nd U (Or.inl U) (aS (aa (aI jX W U (aa (aI bh W U (aa (pv 0) (aa af ae))) (aa (pv 3) ae))) (aa (aI jX W U (aa (aI bh W U (aa (pv 0) (aa af ae))) (aa (pv 3) ae))) ae))))
 case' st4=>exact(aN (aD bA (av aR (av bP (aI bh W U (aa (pv 0) (aa af ae))) af) af) af (aH _))
 (ai (kT (aI jX W U (aa (av bP (aI bh W U (aa (pv 0) (aa af ae))) af) (aa (pv 3) ae))) (kS (pv 4) af set_list)))
 aC)
 case' st5=>exact(ko (i:=5) Z50.nd U (Or.inl U) (aW (aI oq W U (aa (pv 0) (aa af (aa af ae))))) (bg (N:=["cell","points","outs"]) (fr:=[1,2]) (cl:=[("points",s.heap.objs.size+1),("outs",s.heap.objs.size+1+1)]) U U (by decide+kernel) (by decide+kernel) U (by decide+kernel) U U U (hZ.mpr ⟨U,hZ.mpr ⟨U,jg _⟩⟩) U) U (λ_ _ _ _=>bu) (λ_ _ _ _=>(aI jM W U (aa (pv 0) (aa (pv 1) (aa (pv 2) ae))))))
 case' st6=>exact(aJ (i:=6) Z50.nd U (Or.inl U) (aS (aa (pv 5) (aa (aI qX W U (aa (pv 5) (aa (aI bh W U (aa (pv 0) (aa af ae))) (aa (pv 1) (aa (pv 2) ae))))) ae))))
 case' st7=>exact(aJ (i:=7) Z50.nd U (Or.inl U) (aI kL W U (aa (pv 0) (aa (pv 1) (aa (pv 2) (aa (ax aG (pv 4) af (λ_ _=>U)) (aa (ax aG (pv 6) af (λ_ _=>U)) (aa af ae))))))))
 case' st8=>exact(aJ (i:=8) Z50.nd U (Or.inl U) (aI kL W U (aa (pv 0) (aa (pv 1) (aa (pv 2) (aa (ax aG (pv 4) af (λ_ _=>U)) (aa (ax aG (pv 6) af (λ_ _=>U)) (aa af ae))))))))
 case' st9=>exact(ko (i:=9) Z50.nd U (Or.inl U) (aW (aI fZ W U (aa (pv 1) ae))) (bg (N:=["at","points"]) (fr:=[1]) (cl:=[("points",s.heap.objs.size+1)]) U U (by decide+kernel) (by decide+kernel) U (by decide+kernel) U U U (hZ.mpr ⟨U,jg _⟩) U) U (λ_ _ _ _=>bu) (λ_ _ _ _=>(aI uK W U (aa (pv 1) (aa (pv 0) ae)))))
 case' st10=>exact(aJ (i:=10) Z50.nd U (Or.inl U) (aI qe W U (aa (pv 7) (aa (pv 8) ae))))
 case' st11=>exact(aN (bO (bI (ao bG U bl.isinstance_ PyProof.Rows.boot_isinstance (aa (pv 10) (aa (dY (v:=.ty "list") U bl.list_ PyProof.Rows.boot_list U) ae)))))
 (ai (aw cP))
 aC)
 case' st12=>exact(bc JZ.never U (aW (pv 10)) (aE (i:=11) Z50.nd U (Or.inl U))
 (aj (aN (PW.pt (jm (bO (bI (ao bG U bl.isinstance_ PyProof.Rows.boot_isinstance (aa (pv 11) (aa (dY (v:=.ty "tuple") U bl.tuple_ PyProof.Rows.boot_tuple U) ae))))) (gE (aD lQ (ao aq U bl.len_ Mv (aa (pv 11) ae)) af (aH _)))))
 (ai (aw cP))
 aC)
 (ai (aN (PW.pt (jm (bO (bI (aI fN W U (aa (ax aO (pv 11) af (λ_ _=>U)) ae)))) (gE (bO (bI (aI fN W U (aa (ax aO (pv 11) af (λ_ _=>U)) ae)))))))
 (ai (aw cP))
 aC))))
 case' st13=>exact(ko (i:=12) Z50.nd U (Or.inl U) (aW (pv 10)) (dC U (by decide+kernel) (by decide+kernel) (by decide+kernel) U) U (λ_ _ _ _=>bu) (λ_ _ _ _=>(aY (aa (ax (cO (K:=K) U) (pv 0) af (λ_ _=>U)) (aa (aY (aa (ax (cO (K:=K) U) (pv 0) af (λ_ _=>U)) (aa (ax (cO (K:=K) U) (pv 0) af (λ_ _=>U)) ae))) ae)))))
 case' st14=>exact(aN (bO (bI (aI sM W U (aa (pv 12) (aa (pv 9) (aa (aI sN W U (aa (pv 1) (aa (pv 6) (aa (pv 4) (aa (pv 2) ae))))) (aa (pv 1) ae)))))))
 (ai (aw cP))
 aC)
 case' st15=>exact(aZ (BN PySem.F.plainAttrs_list PySem.F.slot_list_clear PySem.F.type_list_clear xJ (pv 10)))
 case' st16=>exact(aw (fE (zU W) (cb (aW (aI qe W U (aa (pv 7) (aa (pv 8) ae)))) (dC U (by decide+kernel) (by decide+kernel) (by decide+kernel) U) U (λ_ _ _ _=>bu) (λ_ _ _ _=>(aY (aa (ax (cO (K:=K) U) (pv 0) af (λ_ _=>U)) (aa (aY (aa (ax (cO (K:=K) U) (pv 0) af (λ_ _=>U)) (aa (ax (cO (K:=K) U) (pv 0) af (λ_ _=>U)) ae))) ae))))) (pv 12) (aH _)))
 case rd =>
  dsimp only[cR,Cx.nox,Cx.wish];show(let r16:TS:=_;let r15:TS:=dE _ r16;let r14:TS:=dE _ r15;let r13:TS:=dE _ r14;let r12:TS:=dE _ r13;let r11:TS:=dE _ r12;let r10:TS:=dE _ r11;let r9:TS:=dE _ r10;let r8:TS:=dE _ r9;let r7:TS:=dE _ r8;let r6:TS:=dE _ r7;let r5:TS:=dE _ r6;let r4:TS:=dE _ r5;let r3:TS:=dE _ r4;let r2:TS:=dE _ r3;let r1:TS:=dE _ r2;dE _ r1 _ _ _);intro _ _ _ _ _ _ _ _ _ _ _ _ _ _ _ _;refine⟨λC B=>au H B/\∃(T:Js)(xs:List V)(g:List (List Int))(kk:Nat),B T=Mw (.lst xs)/\PTL B xs g/\qI S g/\1<=g.length/\g.length<=4/\(∀I∈g,I.length<=kk)/\(kk+1)^g.length<=300/\kk<=57/\(∀I∈g,∀x∈I,∀y∈I,y-x<=12*10^56)/\C=[Mw (.ref a),Mw (.ref T),Mx,Mx,Mx,Mx,Mx,Mx,Mx,Mx,Mx,Mx,Mx],?_,?_⟩
  .refine⟨_,U,(by show 1<=Ju;decide),λp1 h1=>?_⟩;have s1:=ag h1 (.lst ([12].map V.int));have e1:upd H p1 (.lst ([12].map V.int)) p1=Mw (.lst ([12].map V.int)):=ab;have ee:upd H p1 (.lst [.int 12])=upd H p1 (.lst ([12].map V.int)):=rfl;rw[ee];generalize upd H p1 (.lst ([12].map V.int))=H1 at s1 e1⊢;clear ee;refine⟨(by show 2<=Ju;decide),λp2 h2=>?_⟩;have s2:=ag h2 (.lst ([5,5].map V.int));have e2:upd H1 p2 (.lst ([5,5].map V.int)) p2=Mw (.lst ([5,5].map V.int)):=ab;have ee:upd H1 p2 (.lst [.int 5,.int 5])=upd H1 p2 (.lst ([5,5].map V.int)):=rfl;rw[ee];generalize upd H1 p2 (.lst ([5,5].map V.int))=H2 at s2 e2⊢;clear ee;refine⟨(by show 3<=Ju;decide),λp3 h3=>?_⟩;have s3:=ag h3 (.lst ([3,3,3].map V.int));have e3:upd H2 p3 (.lst ([3,3,3].map V.int)) p3=Mw (.lst ([3,3,3].map V.int)):=ab;have ee:upd H2 p3 (.lst [.int 3,.int 3,.int 3])=upd H2 p3 (.lst ([3,3,3].map V.int)):=rfl;rw[ee];generalize upd H2 p3 (.lst ([3,3,3].map V.int))=H3 at s3 e3⊢;clear ee;refine⟨(by show 4<=Ju;decide),λp4 h4=>?_⟩;have s4:=ag h4 (.lst ([2,2,2,2].map V.int));have e4:upd H3 p4 (.lst ([2,2,2,2].map V.int)) p4=Mw (.lst ([2,2,2,2].map V.int)):=ab;have ee:upd H3 p4 (.lst [.int 2,.int 2,.int 2,.int 2])=upd H3 p4 (.lst ([2,2,2,2].map V.int)):=rfl;rw[ee];generalize upd H3 p4 (.lst ([2,2,2,2].map V.int))=H4 at s4 e4⊢;clear ee;refine⟨(by show 4<=Ju;decide),λp hp=>?_⟩;have s5:=ag hp (.lst [.ref p1,.ref p2,.ref p3,.ref p4]);have e5:upd H4 p (.lst [.ref p1,.ref p2,.ref p3,.ref p4]) p=Mw (.lst [.ref p1,.ref p2,.ref p3,.ref p4]):=ab;generalize upd H4 p (.lst [.ref p1,.ref p2,.ref p3,.ref p4])=H5 at s5 e5⊢;have k0:=s4.trans s5;have k4:=s3.trans k0;have k5:=s2.trans k4;have CF:=s1.trans k5;refine⟨_,U,a,S,0,U,CF.seq hS,Int.le_refl _,_,_,U,U,(by show(0:Int)<4;decide),?_⟩;obtain⟨m,qs,kk,hv,em,hq,hl1,q8,q9,f3,wO⟩:∃(m:Js)(qs:List Int)(kk:Nat),atI [V.ref p1,.ref p2,.ref p3,.ref p4] (cI S 0%4)=Mw (.ref m)/\H5 m=Mw (.lst (qs.map V.int))/\(∀x∈qs,1<=x/\x<=12)/\1<=qs.length/\qs.length<=4/\(∀x∈qs,x+1<=(kk:Int))/\(kk+1)^qs.length<=300/\kk<=57:=by
    have x0:=Ja (cI S 0) (show(4:Int)≠0 by decide);have x1:=Jb (cI S 0) (show(0:Int)<4 by decide);generalize cI S 0%4=k at x0 x1⊢;have:k=0\/k=1\/k=2\/k=3:=by lia
    rcases this with rfl|rfl|rfl|rfl
    .exact⟨p1,_,13,U,k5 _ _ e1,by decide,by decide,by decide,by decide,by decide,by decide⟩
    .exact⟨p2,_,6,U,k4 _ _ e2,by decide,by decide,by decide,by decide,by decide,by decide⟩
    .exact⟨p3,_,4,U,k0 _ _ e3,by decide,by decide,by decide,by decide,by decide,by decide⟩
    .exact⟨p4,_,3,U,s5 _ _ e4,by decide,by decide,by decide,by decide,by decide,by decide⟩
   refine⟨p,_,_,_,U,U,SqL.of e5,hv,a,m,S,qs,U,CF.seq hS,SqL.of em,hq,q8,λl xs g B s' el hx hg n7 c4 g9=>⟨CF.trans s',l,xs,g,kk,el,hx,hg,by lia,by lia,(λI f2=>?_),by rw[n7];exact f3,wO,g9,U⟩⟩;obtain⟨j,ej⟩:=jP f2;have hj:=(IW.mp ej).1;have ex:=IV (l:=qs) (i:=j) (by lia);have:=c4 j I _ ej ex;have:=q9 _ (IX ex);lia
  rintro z3 H1 ⟨s1,T,xs,g,kk,u4,l8,hg,g2,a1,c4,f3,wO,g9,rfl⟩;have z7:xs.length=g.length:=l8.1;refine⟨λC B=>au H1 B/\∃(ol:Js)(G:List Int),B ol=Mw (.lst (G.map V.int))/\gL (cI S 5) G/\C=[Mw (.ref a),Mw (.ref T),Mw (.ref ol),Mx,Mx,Mx,Mx,Mx,Mx,Mx,Mx,Mx,Mx],?_,?_⟩
  .exact⟨_,U,a,S,5,U,s1.seq hS,by decide,_,U,λl G B s' el ho=>⟨s',l,G,el,ho,U⟩⟩
  rintro z2 H2 ⟨t2,ol,G,u5,c5,rfl⟩;have s2:=s1.trans t2;have Aw:=t2 _ _ u4;have HI:=l8.same t2;have Ap:o0 G<=o4 G:=by
   obtain⟨x0,x1,x2,x3,x4,rfl,IK,h12,h23,h34,_⟩:=id c5;show x0<=x4;lia
  obtain⟨wb,l0⟩:∃wb,wb=MB (V.int (cI S 5%3)=V.int 1):=⟨_,U⟩;refine⟨λC B=>B=H2/\C=[Mw (.ref a),Mw (.ref T),Mw (.ref ol),Mw (.bl wb),Mx,Mx,Mx,Mx,Mx,Mx,Mx,Mx,Mx],⟨_,U,a,S,5,U,s2.seq hS,by decide,_,_,U,U,(by show(0:Int)<3;decide),U,U,by rw[l0];rfl⟩,?_⟩;rintro y6 H3 ⟨e3,rfl⟩;subst e3;refine⟨λC B=>au H3 B/\∃(Z:Js)(w0 w1:Str)(i0 i1:Nat),H3 Z=Mx/\B Z=Mw (.lst [.str w0,.str w1])/\six[i0]?=Mw w0/\six[i1]?=Mw w1/\(wb=Mz->w0≠s!"sum")/\(wb=Mz->w1≠s!"sum")/\C=[Mw (.ref a),Mw (.ref T),Mw (.ref ol),Mw (.bl wb),Mw (.ref Z),Mx,Mx,Mx,Mx,Mx,Mx,Mx,Mx],?_,?_⟩
  .refine⟨_,U,a,S,6,U,s2.seq hS,by decide,_,U,_,wb,U,λw0 i0 H4 s4 d5 h0=>?_⟩;refine⟨_,U,a,S,6,U,(s2.trans s4).seq hS,by decide,_,U,_,wb,U,λw1 i1 H5 s5 b4 f0=>⟨(by show 2<=Ju;decide),λZ k9=>?_⟩⟩;exact⟨(s4.trans s5).trans (ag k9 _),Z,w0,w1,i0,i1,(s4.trans s5).free k9,ab,d5,b4,h0,f0,U⟩
  rintro y5 H4 ⟨t4,Z,w0,n8,i0,p5,o6,Ea,d5,HJ,h0,HK,rfl⟩;refine⟨λC B=>au H3 B/\∃(w1:Str)(i1:Nat),B Z=Mw (.lst [.str w0,.str w1])/\six[i1]?=Mw w1/\(wb=Mz->w1≠s!"sum")/\C=[Mw (.ref a),Mw (.ref T),Mw (.ref ol),Mw (.bl wb),Mw (.ref Z),Mx,Mx,Mx,Mx,Mx,Mx,Mx,Mx],?_,?_⟩
  .refine⟨_,U,a,S,6,U,(s2.trans t4).seq hS,by decide,_,_,U,U,⟨by decide,by decide⟩,_,_,U,U,(by show(0:Int)<3;decide),U,_,U,?_⟩;refine bD (λ_=>?_) (λ_=>⟨t4,n8,p5,Ea,HJ,HK,U⟩);refine⟨_,U,a,S,6,U,(s2.trans t4).seq hS,by decide,_,_,U,U,⟨by decide,by decide⟩,_,U,_,wb,U,λw1 i1 H5 s5 b4 f0=>?_⟩;refine⟨_,U,Z,_,_,_,U,U,s5 _ _ Ea,vm (j:=1) (by show 1<2;decide),?_⟩;exact⟨(t4.trans s5).upd o6,w1,i1,ab,b4,f0,U⟩
  rintro y4 Hw ⟨g1,w1,i1,u3,b4,f0,rfl⟩;have sw:=s2.trans g1;have Eb:=g1 _ _ Aw;have Ec:=HI.same g1;have Ed:=g1 _ _ u5;refine⟨λC B=>au Hw B/\∃(rl:Js)(rx:List V)(J:List (List Int×Int)),B rl=Mw (.lst rx)/\BRL B rx J/\rx.length<=24/\(∀b∈J,b.1.length=g.length/\b.2∈G/\∀x∈b.1,0<=x)/\C=[Mw (.ref a),Mw (.ref T),Mw (.ref ol),Mw (.bl wb),Mw (.ref Z),Mw (.ref rl),Mx,Mx,Mx,Mx,Mx,Mx,Mx],?_,?_⟩
  .refine⟨_,U,a,S,U,sw.seq hS,h63,λc1 ms H3 u1 e1 IM=>?_⟩;have z9:(ms.map V.int).length=ms.length:=bx _;refine⟨c1,U,⟨_,SqL.of e1⟩,cA (xs:=ms.map V.int) (λD i M B=>au H3 B/\B D=Mw (.lst M)/\M.length=i/\∃J:List (List Int×Int),aF M J (λr b=>∃bl:Js,bl≠D/\B r=Mw (.tup [.ref bl,.int b.2])/\B bl=Mw (.lst (b.1.map V.int)))/\∀b∈J,b.1.length=g.length/\b.2∈G/\∀x∈b.1,0<=x) (λD X=>⟨ag X _,ab,U,[],aF.nil,(λb h=>by cases h)⟩) (λD i M B X _ hh=>SqL.of (hh.1 _ _ e1)) (λD i y M B X e hh=>?_) (λD M B X hh=>?_)⟩
   .obtain⟨sm,eD,hl,J,hz,hb⟩:=hh;obtain⟨c,rfl⟩:=uv e;have hi:i<(ms.map V.int).length:=(IW.mp e).1;have sA:=u1.trans sm;refine⟨_,U,_,U,_,U,c,T,ol,xs,g,G,_,U,sA _ _ Eb,Ec.same sA,a1,hg.pts,sA _ _ Ed,c5,λr n3 mm cd n6 s' nr nb er eb q7 q6 t1=>?_⟩;have c8:=s' _ _ eD;have p0:n3≠D:=λz=>by rw[z,eD]at nb;cases nb
    refine cH.mk hi c8 (ay (by lia)) ⟨(sm.trans s').upd X,ab,by rw[dt,gy,hl],J++[(mm,cd)],?_,λb f6=>?_⟩
    .have q0:aF (M++[.ref r]) (J++[(mm,cd)]) (λr b=>∃bl:Js,bl≠D/\n6 r=Mw (.tup [.ref bl,.int b.2])/\n6 bl=Mw (.lst (b.1.map V.int))):=aF.snoc (aF.mono hz λr b ⟨bl,n,e,f⟩=>⟨bl,n,s' _ _ e,s' _ _ f⟩) ⟨n3,p0,er,eb⟩;exact aF.mono q0 λr b ⟨bl,n,e,f⟩=>⟨bl,n,(az (dG e c8 (by intro z;cases z))).trans e,(az n).trans f⟩
    .rcases ik.mp f6 with f6 | f6
     .exact hb b f6
     .rw[show b=(mm,cd) by simpa using f6];exact⟨q7,t1,q6⟩
   .obtain⟨sm,eD,hl,J,hz,hb⟩:=hh;exact⟨u1.trans sm,D,M,J,eD,aF.mono hz λr b ⟨bl,_,e,f⟩=>⟨bl,e,f⟩,by lia,hb,U⟩
  rintro y3 H6 ⟨t6,rl,rx,J,Ee,CG,IP,f5,rfl⟩;have s6:=sw.trans t6;have Ef:=t6 _ _ Eb;have Eg:=Ec.same t6;have Eh:=t6 _ _ Ed;have HL:=t6 _ _ u3;have z8:rx.length=J.length:=CG.1;refine⟨λC B=>au H6 B/\∃(tw r2:Js)(a0:List V)(mn:List (List Int×Int)),B tw=Mw (.lst [.ref rl,.ref r2])/\B r2=Mw (.lst a0)/\BRL B a0 mn/\a0.length<=31/\wL g G mn/\C=[Mw (.ref a),Mw (.ref T),Mw (.ref ol),Mw (.bl wb),Mw (.ref Z),Mw (.ref rl),Mw (.ref tw),Mx,Mx,Mx,Mx,Mx,Mx],?_,?_⟩
  .refine⟨_,U,_,U,_,U,a,S,7,U,s6.seq hS,by decide,_,U,_,U,rl,T,ol,_,rx,J,xs,g,G,_,U,Ee,CG,by lia,f5,Ef,Eg,hg.pts,g2,a1,Eh,c5,λr2 a0 mn H7 s7 g5 f1 m0 w6=>⟨(by show 2<=Ju;decide),λtw q3=>?_⟩⟩;have u:=ag q3 (.lst [.ref rl,.ref r2]);exact⟨s7.trans u,tw,r2,a0,mn,ab,u _ _ g5,f1.same u,m0,w6,U⟩
  rintro y2 H7 ⟨t7,tw,r2,a0,mn,j6,g5,f1,m0,w6,rfl⟩;have s7:=s6.trans t7;have CH:=t7 _ _ Ef;have CI:=Eg.same t7;have CJ:=t7 _ _ Eh;have CK:=t7 _ _ HL;have Ei:=t7 _ _ Ee;have Ej:BRL H7 rx J:=CG.same t7;have IQ:a0.length=mn.length:=f1.1;have k8:∀{w_:Str},(wb=Mz->w_≠s!"sum")->cI S 5%3=1->w_≠s!"sum" := λ{w_} h e=>h (by rw[l0,e];exact MH U)
  refine⟨λC B=>au H7 B/\∃(t ou:Js)(R:List Rw)(nm:Str)(M:List Str)(dv:List V),mh (λ_=>True) Y.k B t R nm w0 ou M dv/\aF dv (g.map λI=>(loP I,hiP I)) (Dom Y.i Y.j B)/\Dom Y.i Y.j B ou (o0 G,o4 G)/\aF dv (dms S g) (DmX Y.i Y.j B)/\DmX Y.i Y.j B ou (dmO (cI S 5) G)/\R.length=J.length/\(∀w∈R,lX (g.map λI=>(loP I,hiP I)) (o0 G,o4 G) w)/\(∀(k:Nat)(b:List Int×Int)(x:Rw),J[k]?=Mw b->R[k]?=Mw x->GrR g b x)/\C=[Mw (.ref a),Mw (.ref T),Mw (.ref ol),Mw (.bl wb),Mw (.ref Z),Mw (.ref rl),Mw (.ref tw),Mw (.ref t),Mx,Mx,Mx,Mx,Mx],?_,?_⟩
  .refine⟨_,U,_,U,_,U,_,U,Z,_,_,_,U,U,SqL.of CK,aL (j:=0) U,_,U,tw,_,_,_,U,U,SqL.of j6,aL (j:=0) U,a,T,ol,rl,S,xs,g,G,rx,J,w0,i0,0,U,d5,k8 h0,s7.seq hS,CH,CI,hg,g2,a1,CJ,c5,Ei,Ej,by lia,f5,λt R nm ou M dv B s' hT j1 i8 j0 i4 _ _ _ _ HM hok f4=>?_⟩;exact⟨s',t,ou,R,nm,M,dv,hT.wk,j1,i8,j0,i4,HM,hok,f4,U⟩
  rintro y1 H8 ⟨t8,t,ou,R,nm,M,dv,hT,j1,i8,j0,i4,i2,hok,f4,rfl⟩;have s8:=s7.trans t8;refine⟨λC B=>au H8 B/\∃(t_ d2:Js)(mq:List Rw)(g8:Str)(a6:List Str)(g0:List V),mh (λ_=>True) Y.k B t_ mq g8 w1 d2 a6 g0/\aF g0 (g.map λI=>(loP I,hiP I)) (Dom Y.i Y.j B)/\Dom Y.i Y.j B d2 (o0 G,o4 G)/\aF g0 (dms S g) (DmX Y.i Y.j B)/\DmX Y.i Y.j B d2 (dmO (cI S 5) G)/\mq.length=mn.length/\(∀w∈mq,lX (g.map λI=>(loP I,hiP I)) (o0 G,o4 G) w)/\(∀(k:Nat)(b:List Int×Int)(x:Rw),mn[k]?=Mw b->mq[k]?=Mw x->GrR g b x)/\C=[Mw (.ref a),Mw (.ref T),Mw (.ref ol),Mw (.bl wb),Mw (.ref Z),Mw (.ref rl),Mw (.ref tw),Mw (.ref t),Mw (.ref t_),Mx,Mx,Mx,Mx],?_,?_⟩
  .refine⟨_,U,_,U,_,U,_,U,Z,_,_,_,U,U,SqL.of (t8 _ _ CK),aL (j:=1) U,_,U,tw,_,_,_,U,U,SqL.of (t8 _ _ j6),aL (j:=1) U,a,T,ol,r2,S,xs,g,G,a0,mn,w1,i1,1,U,b4,k8 f0,s8.seq hS,t8 _ _ CH,CI.same t8,hg,g2,a1,t8 _ _ CJ,c5,t8 _ _ g5,f1.same t8,by lia,w6,λt_ mq g8 d2 a6 g0 B s' u0 HN HP uI HQ _ _ _ _ Ek HR HS=>?_⟩;exact⟨s',t_,d2,mq,g8,a6,g0,u0.wk,HN,HP,uI,HQ,Ek,HR,HS,U⟩
  rintro y0 H9 ⟨t9,u,k6,xa,z6,z4,n2,m2,HU,HV,HW,HX,CM,El,CN,rfl⟩;have s9:=s8.trans t9;have a3:=t8.trans t9;have j4:∀b∈J,b.1.length=g.length:=λb hb=>(f5 b hb).1
  have j3:∀b∈mn,b.1.length=g.length:=λb hb=>(w6 b hb).1
  have hA:=(zc hT j1 i8 d5 i2 hok f4 j4 hg.pts Ap a1 (by lia) c4 f3 wO).so (So.of t9);have hB:=zc m2 HU HV b4 CM El CN j3 hg.pts Ap a1 (by lia) c4 f3 wO;have t0:(dms S g).length<=10:=by unfold dms;rw[bx,lz];lia
  have o2:TDo Y.k H9 t dv ou:=by
   obtain⟨o5,dx,na,dl,fs,g6,e1,e2,e3,e4,e5,e6,e7,e8,e9,v8,v6,_⟩:=hT.same t9;exact⟨dx,dl,fs,e1,e7,e5,e9⟩
  have o1:TDo Y.k H9 u n2 k6:=by
   obtain⟨o5,dx,na,dl,fs,g6,e1,e2,e3,e4,e5,e6,e7,e8,e9,v8,v6,_⟩:=id m2;exact⟨dx,dl,fs,e1,e7,e5,e9⟩
  have Em:∀{mq:List Rw}{AG:List (List Int×Int)},mq.length=AG.length->(∀(k:Nat)(b:List Int×Int)(x:Rw),AG[k]?=Mw b->mq[k]?=Mw x->GrR g b x)->(∀b∈AG,b.1.length=g.length)->∀cs,InB cs (g.map λI=>(loP I,hiP I))->mkg mq (List.zipWith cj (ie g) cs)=mkg mq cs:=λ{mq AG} h1 h2 h3 cs a2=>by
   obtain⟨O,c6,En⟩:=DK hg.pts a2;rw[uE hg.pts h1 h2 h3 En,uE hg.pts h1 h2 h3 (wN hg.pts c6 a2 En)]
  have t5:yZ K Y.k Y.i Y.j H9 t u (g.map λI=>(loP I,hiP I)) R xa i0 i1 (o0 G,o4 G) (ie g):=⟨⟨dv,n2,_,_,kk,hA,hB,wM hg.pts c4,ou,k6,dms S g,dmO (cI S 5) G,o2,o1,aF.mono j0 λ_ _ p=>p.same t9,HW,i4.same t9,HX,t0⟩,za hg.pts,by rw[pW,bx],Em i2 f4 j4,Em CM CN j3⟩;have o3:oQ K H9:=λz e=>(dD.new (l5 z e)).same s9
  have n9:oS K H9:=λz e=>(dD.new (l3 z e)).same s9
  obtain⟨d0,g4⟩:∃d0:RwD,d0=⟨rl,rx,J,w0,i0⟩:=⟨_,U⟩;obtain⟨d1,g3⟩:∃d1:RwD,d1=⟨r2,a0,mn,w1,i1⟩:=⟨_,U⟩;have v3:nK H9 g d0:=by rw[g4];exact⟨a3 _ _ Ei,Ej.same a3,by show rx.length<=60;lia,λb hb=>⟨(f5 b hb).1,(f5 b hb).2.2⟩,d5⟩
  have v2:nK H9 g d1:=by rw[g3];exact⟨a3 _ _ g5,f1.same a3,by show a0.length<=60;lia,λb hb=>⟨(w6 b hb).1,(w6 b hb).2.2⟩,b4⟩
  have v0:∀p,vdd G d0 p=vdp J i0 G p:=λp=>by rw[g4];rfl
  have v1:∀p,vdd G d1 p=vdp mn i1 G p:=λp=>by rw[g3];rfl
  have AH:=a3 _ _ CH;have AI:=CI.same a3;generalize b5:((cy (gls g)).map λp=>(dF g p,dpr (vdd G d0 p) (vdd G d1 p)))=IL;have Eo:IL.length<=300:=by
   rw[←b5,bx];refine zQ (qc (b:=kk+1) U λn hn=>?_) (by unfold gls;rw[bx];exact f3);obtain⟨I,f2,rfl⟩:=eK.mp hn;have:=c4 I f2;lia
  refine⟨λC B=>au H9 B/\∃(il:Js)(tx:List V),B il=Mw (.lst tx)/\aF tx (IL.map (·.1)) (BxA B)/\C=[Mw (.ref a),Mw (.ref T),Mw (.ref ol),Mw (.bl wb),Mw (.ref Z),Mw (.ref rl),Mw (.ref tw),Mw (.ref t),Mw (.ref u),Mw (.ref il),Mx,Mx,Mx],?_,?_⟩
  .refine⟨_,U,T,xs,g,U,AH,AI,hg.pts,a1,λql a6 c3 b1 eq hq=>?_⟩;have q4:a6.length=(cy (gls g)).length:=hq.1;refine⟨ql,U,⟨_,SqL.of eq⟩,cA (xs:=a6) (λD i M B=>au c3 B/\B D=Mw (.lst M)/\aF M ((IL.take i).map (·.1)) (BxA B)) (λD X=>⟨ag X _,ab,aF.nil⟩) (λD i M B X _ hh=>SqL.of (hh.1 _ _ eq)) (λD i y M B X e hh=>?_) (λD M B X hh=>?_)⟩
   .obtain⟨sm,eD,hz⟩:=hh;obtain⟨al,p,rfl,ep,_,t3⟩:=aF.get hq e;have hi:i<a6.length:=(IW.mp e).1;have n1:IL[i]?=Mw (dF g p,dpr (vdd G d0 p) (vdd G d1 p)):=by rw[←b5,gg,ep];rfl
    have hjl:i<IL.length:=(IW.mp n1).1;have d3:=hz.1;rw[bx,iP]at d3;have sA:=b1.trans sm;refine⟨_,U,_,U,T,al,xs,g,p,U,sA _ _ AH,AI.same sA,a1,IX ep,sm _ _ t3,λb H2_ g7 HY=>?_⟩;have c8:=g7 _ _ eD;refine cH.mk hi c8 (ay (by lia)) ⟨(sm.trans g7).upd X,ab,?_⟩;rw[take_snoc n1,gI];exact aF.snoc (aF.mono hz λ_ _ q_=>(BxA.mono q_ g7.tups).mono (aQ c8)) (HY.mono (aQ c8))
   .obtain⟨sm,eD,hz⟩:=hh;rw[show a6.length=IL.length by rw[q4,←b5,bx],hE]at hz;exact⟨b1.trans sm,D,M,eD,hz,U⟩
  rintro x9 c3 ⟨b1,il,tx,u6,q2,rfl⟩;have zt:=t5.so (So.of b1);have HZ:=o3.same b1;have Ia:=n9.same b1;obtain⟨bs,j2⟩:∃bs,bs=g.map λI=>(loP I,hiP I):=⟨_,U⟩
  rw[←j2]at zt;refine⟨λC B=>So c3 B/\oQ K B/\oS K B/\∃(fo:Js)(fx:List V)(PF:Fm OP bs.length),(∀o,uC o->c3 fo≠Mw o)/\B fo=Mw (.lst fx)/\DM bs R xa i0 i1 (o0 G,o4 G) PF/\ChL K B fx (cJ (bxs bs.length PF))/\C=[Mw (.ref a),Mw (.ref T),Mw (.ref ol),Mw (.bl wb),Mw (.ref Z),Mw (.ref rl),Mw (.ref tw),Mw (.ref t),Mw (.ref u),Mw (.ref il),Mw (.ref fo),Mx,Mx],?_,?_⟩
  .exact⟨_,U,_,U,t,u,bs,R,xa,i0,i1,_,ie g,U,zt,HZ,Ia,λl g6 PF B so nl tb vb el X hC=>⟨so,tb,vb,l,g6,PF,nl,el,X,hC,U⟩⟩
  rintro x8 w5 ⟨Ep,Ib,Ic,fo,fx,PF,o8,c0,X,hC,rfl⟩;refine⟨λC B=>B=w5/\C=[Mw (.ref a),Mw (.ref T),Mw (.ref ol),Mw (.bl wb),Mw (.ref Z),Mw (.ref rl),Mw (.ref tw),Mw (.ref t),Mw (.ref u),Mw (.ref il),Mw (.ref fo),Mx,Mx],⟨_,U,_,_,_,_,Mz,U,.ty _,.inl (.lst c0),(by first|rfl|with_unfolding_all rfl|decide+kernel),_,U,bB ⟨U,U⟩⟩,?_⟩;rintro x7 n5 ⟨v5,rfl⟩;subst v5;have q5:∀q_∈cJ (bxs bs.length PF),q_.2≠none:=λq_ hq=>MJ (jZ.mp hq).2
  have Ie:(cJ (bxs bs.length PF)).length<=300:=zQ (lG _ _) X.few;have Ig:fx.length=(cJ (bxs bs.length PF)).length:=Paired.length hC;refine⟨λC B=>B=n5/\∃a7:Option V,C=[Mw (.ref a),Mw (.ref T),Mw (.ref ol),Mw (.bl wb),Mw (.ref Z),Mw (.ref rl),Mw (.ref tw),Mw (.ref t),Mw (.ref u),Mw (.ref il),Mw (.ref fo),a7,Mx],?_,?_⟩
  .refine⟨_,U,fo,U,⟨_,SqL.of c0⟩,bL (xs:=fx) (λi σ B=>B=n5/\∃a7:Option V,σ=[Mw (.ref a),Mw (.ref T),Mw (.ref ol),Mw (.bl wb),Mw (.ref Z),Mw (.ref rl),Mw (.ref tw),Mw (.ref t),Mw (.ref u),Mw (.ref il),Mw (.ref fo),a7,Mx]) ⟨U,_,U⟩ (λi σ B _ h=>by rw[h.1];exact SqL.of c0) (λi y σ B e h=>?_) (λσ B h=>h)⟩;obtain⟨e1,a7,rfl⟩:=h;rw[e1];obtain⟨qx,eq,tt,b,r1,L,p,rfl,ep,et,hb,b0,a9⟩:=cE hC e;refine⟨_,U,_,_,_,_,Mz,U,.ty _,.inl (.tup et),(by first|rfl|with_unfolding_all rfl|decide+kernel),_,U,bB ?_⟩;refine⟨_,U,tt,_,U,.inr (SqT.of et),U,MA,U,bB ?_⟩;refine⟨_,U,tt,_,_,_,U,U,SqT.of et,U,r1,_,U,b0,_,U,bB ?_⟩;exact⟨_,U,tt,_,_,_,U,U,SqT.of et,U,L,_,U,a9,_,U,bB ⟨U,_,U⟩⟩
  rintro x6 j8 ⟨v4,a7,rfl⟩;subst v4;have Bo:∀{Hx:Hp}{ys:List V}{TL:List (List (Int×Int)×OP)},ChL K Hx ys TL->∀{i:Nat}{y:V},ys[i]?=Mw y->∃(qx:List (Int×Int)×OP)(tt b r1 L:Js)(p:SI×SI),TL[i]?=Mw qx/\y=.ref tt/\qx.2=Mw p/\Hx tt=Mw (.tup [.ref b,.ref r1,.ref L])/\BxA Hx b qx.1/\Vd K Hx r1 p.1/\Vd K Hx L p.2:=λ{Hx ys TL} h {i y} e=>by
   obtain⟨qx,eq,tt,b,r1,L,p,e1,ep,et,hb,b0,a9⟩:=cE h e;exact⟨qx,tt,b,r1,L,p,eq,e1,ep,et,hb,b0,a9⟩
  refine⟨λC B=>au j8 B/\∃(tl:Js)(ux:List V),j8 tl=Mx/\B tl=Mw (.lst ux)/\BxG (K:=K) LPd B ux (cJ (bxs bs.length PF))/\C=[Mw (.ref a),Mw (.ref T),Mw (.ref ol),Mw (.bl wb),Mw (.ref Z),Mw (.ref rl),Mw (.ref tw),Mw (.ref t),Mw (.ref u),Mw (.ref il),Mw (.ref fo),a7,Mw (.ref tl)],?_,?_⟩
  .refine⟨_,U,fo,U,⟨_,SqL.of c0⟩,cA (xs:=fx) (λD i M B=>au j8 B/\B D=Mw (.lst M)/\BxG (K:=K) LPd B M ((cJ (bxs bs.length PF)).take i)) (λD X=>⟨ag X _,ab,.nil⟩) (λD i M B X _ hh=>SqL.of (hh.1 _ _ c0)) (λD i y M B c7 e hh=>?_) (λD M B c7 hh=>?_)⟩
   .obtain⟨sm,eD,hz⟩:=hh;have hi:i<fx.length:=(IW.mp e).1;obtain⟨qx,tt,b,r1,L,p,eq,rfl,ep,et,hb,b0,a9⟩:=Bo hC e;have b6:=sm _ _ et;refine⟨_,U,tt,_,_,_,U,U,SqT.of b6,U,_,U,tt,_,_,_,U,U,SqT.of b6,U,_,U,tt,_,_,_,U,U,SqT.of b6,U,bf,λpr i3=>?_⟩;have c9:=ag i3 (.tup [.ref r1,.ref L]);have f8:upd B pr (.tup [.ref r1,.ref L]) pr=Mw (.tup [.ref r1,.ref L]):=ab;generalize upd B pr (.tup [.ref r1,.ref L])=H3_ at c9 f8⊢;refine⟨bf,λnt i9=>?_⟩;have b3:=ag i9 (.tup [.ref b,.ref pr]);have f9:upd H3_ nt (.tup [.ref b,.ref pr]) nt=Mw (.tup [.ref b,.ref pr]):=ab;have zw:=b3 _ _ f8;have a5:=c9.trans b3;have c2:=a5 _ _ eD;have d4:=hz.mono a5.tups;have sA:=sm.trans a5;generalize upd H3_ nt (.tup [.ref b,.ref pr])=H4_ at b3 f9 zw a5 c2 d4 sA⊢;have d3:=hz.length;rw[iP]at d3;refine cH.mk hi c2 (ay (by lia)) ⟨sA.upd c7,ab,?_⟩;rw[take_snoc eq];have st:bM H4_ (upd H4_ D (.lst (M++[.ref nt]))):=aQ c2;refine fi (d4.mono st) (.cons ⟨nt,b,.ref pr,U,st _ _ f9,(hb.mono sA.tups).mono st,?_⟩ .nil);show RPd K _ qx.2 _;rw[ep];exact⟨pr,U,r1,L,st _ _ zw,(b0.mono sA.tups).mono st,(a9.mono sA.tups).mono st⟩
   .obtain⟨sm,eD,hz⟩:=hh;rw[Ig,hE]at hz;exact⟨sm,D,M,c7,eD,hz,U⟩
  rintro x5 j7 ⟨j9,tl,ux,k7,n0,l4,rfl⟩;have Er:So c3 j7:=Ep.trans (So.of j9);have l7:So H9 j7:=(So.of b1).trans Er;have Ir:∀w∈R,w.1.length=g.length:=λw hw=>by rw[(hok w hw).len,bx]
  have Es:∀(I:List Int),I∈g->∀i j:Nat,i<I.length->j<I.length->I.getD j 0-I.getD i 0<=12*10^56:=λI f2 i j hi hj=>by
   rw[dO,dO,IV hi,IV hj];exact g9 I f2 _ (lq hi) _ (lq hj)
  have z5:(12:Int)*10^56<=10^58:=by decide
  have e0:cc bs.length PF (g.map λI=>(loP I,hiP I)):=Eq.rec (motive:=λx _=>cc bs.length PF x) X.sh j2;have Ih:=X.tel;have m1:∀O cd,kE g O cd->dif R xa i0 i1 (o0 G,o4 G) cd=dpr (vdd G d0 O) (vdd G d1 O):=λO cd h=>by
   unfold dif;rw[y7 hg.pts i2 f4 j4 h,y7 hg.pts CM CN j3 h,v0,v1]
  have Bp:∀cs,InB cs (g.map λI=>(loP I,hiP I))->Tel bs.length PF cs (dif R xa i0 i1 (o0 G,o4 G) cs):=λcs a2=>Ih cs (by rw[j2];exact a2)
  refine⟨λC B=>au j7 B/\C=[Mw (.ref a),Mw (.ref T),Mw (.ref ol),Mw (.bl wb),Mw (.ref Z),Mw (.ref rl),Mw (.ref tw),Mw (.ref t),Mw (.ref u),Mw (.ref il),Mw (.ref fo),a7,Mw (.ref tl)],?_,?_⟩
  .refine⟨_,U,_,U,_,U,_,U,_,U,_,U,T,tw,Z,ol,d0,d1,xs,g,G,_,IL,U,l7.lst AH,(aF.mono AI λ_ _ e=>l7.lst e),hg.pts,g2,a1,by rw[g4,g3];exact l7.lst (a3 _ _ j6),by rw[g4,g3];exact l7.lst (a3 _ _ CK),v3.so l7,v2.so l7,l7.lst (a3 _ _ CJ),c5,b5.symm,Eo,λdl dx a8 a4 u8 s0=>?_⟩;have AJ:=Er.trans (So.of a4);have Bq:=l7.trans (So.of a4);refine⟨_,U,tl,il,dl,T,ux,cJ (bxs bs.length PF),tx,IL,dx,xs,g,U,a4 _ _ n0,l4.mono a4.tups,AJ.lst u6,(aF.mono q2 λ_ _ q_=>BxA.mono q_ AJ.tups),u8,s0,Bq.lst AH,(aF.mono AI λ_ _ e=>Bq.lst e),hg.pts,a1,?_,?_,?_,?_,?_,Ie,Eo,λB s'=>⟨_,U,bB ⟨a4.trans s',U⟩⟩⟩
   .exact List.Pairwise.filter _ (yP e0)
   .intro q_ hq;obtain⟨h1,h2⟩:=jZ.mp hq;exact⟨(sf e0 q_ h1).1,MJ h2⟩
   .intro q_ hq;rcases hq with hq|hq
    .have a2:=(sf e0 q_ (jZ.mp hq).1).1;have hl:=a2.len;rw[bx]at hl;refine⟨hl,λp hp=>?_⟩;obtain⟨j,ej⟩:=jP hp;have hj:j<g.length:=by have:=(IW.mp ej).1;lia
     have e2:=IV hj;obtain⟨k1,k2,k3⟩:=a2.get j p _ ej (by rw[gg,e2];rfl);have hm:=IX e2;have h2:=(hg.pts _ hm).two;have:=Es _ hm 0 (g[j].length-1) (by lia) (by lia);have k1:g[j].getD 0 0<=p.1:=k1;have k3:p.2<=g[j].getD (g[j].length-1) 0-1:=k3;lia
    .rw[←b5]at hq;obtain⟨O,c6,rfl⟩:=eK.mp hq;obtain⟨l1,l2⟩:=vy hg.pts c6;refine⟨l1,λp hp=>⟨by have:=l2 p hp;lia,?_⟩⟩;obtain⟨j,ej⟩:=jP hp;have ej:(dF g O)[j]?=Mw p:=ej;unfold dF at ej;have hj:=(IW.mp ej).1;rw[jR]at hj;have e1:=IV (l:=g) (i:=j) (by lia);have e2:=IV (l:=O) (i:=j) (by lia);rw[kM,e1,e2]at ej;have ej:(g[j].getD O[j] 0,g[j].getD (O[j]+1) 0-1)=p:=Option.some.inj ej;have ha:O[j]<g[j].length-1:=(lD.iff.mp c6).2 j _ _ e2 (by unfold gls;rw[gg,e1];rfl);have:=Es _ (IX e1) O[j] (O[j]+1) (by lia) (by lia);rw[←ej];show g[j].getD (O[j]+1) 0-1-g[j].getD O[j] 0<=10^58;lia
   .intro q_ hq r_ l6 hm;rw[←b5]at l6;obtain⟨O,c6,rfl⟩:=eK.mp l6;exact wU hg.pts e0 Bp m1 (jZ.mp hq).1 c6 hm
   .rw[zh hg.pts e0 Bp m1,←b5,vC];rfl
  rintro w9 a8 ⟨a4,rfl⟩;have vE:=j9.trans a4;have sO:=vE _ _ c0;refine⟨λC B=>B=upd a8 fo (.lst [])/\C=[Mw (.ref a),Mw (.ref T),Mw (.ref ol),Mw (.bl wb),Mw (.ref Z),Mw (.ref rl),Mw (.ref tw),Mw (.ref t),Mw (.ref u),Mw (.ref il),Mw (.ref fo),a7,Mw (.ref tl)],⟨_,U,.inl ⟨U,_,SqL.of sO⟩,fo,_,U,U,sO,U,U⟩,?_⟩;rintro w8 H16 ⟨rfl,rfl⟩;have o7:tl≠fo:=λz=>by rw[z,c0]at k7;cases k7
  have AJ:So c3 a8:=Ep.trans (So.of vE);have Ii:So c3 (upd a8 fo (.lst [])):=λd o po e=>(az λz=>o8 o po (by rw[←z];exact e)).trans (AJ d o po e)
  have Ij:oQ K (upd a8 fo (.lst [])):=λz e=>sF ((Ib z e).same vE) sO
  have Ik:oS K (upd a8 fo (.lst [])):=λz e=>sF ((Ic z e).same vE) sO
  have Et:BxG (K:=K) LPd (upd a8 fo (.lst [])) ux (cJ (bxs bs.length PF)):=(l4.mono a4.tups).mono (aQ sO);have Eu:upd a8 fo (.lst []) tl=Mw (.lst ux):=(az o7).trans (a4 _ _ n0);refine⟨_,U,_,U,t,u,bs,R,xa,i0,i1,_,ie g,U,zt.so Ii,Ij,Ik,λl ys w2 w4 Ew IS IT IU Ex m9 j5=>?_⟩;have u2:w2=PF:=jb m9.sh X.sh λcs a2 x y hx hy=>(fL hx (m9.tel cs a2)).trans (fL hy (X.tel cs a2)).symm
  rw[u2]at j5;have q1:ys.length=(cJ (bxs bs.length PF)).length:=Paired.length j5;have Br:=Et.mono Ew.tups;have Ey:=Ew.lst Eu;refine⟨l,U,⟨_,SqL.of Ex⟩,cA (xs:=ys) (λD i M B=>au w4 B/\B D=Mw (.lst M)/\BxG (K:=K) LPd B M ((cJ (bxs bs.length PF)).take i)) (λD X=>⟨ag X _,ab,.nil⟩) (λD i M B X _ hh=>SqL.of (hh.1 _ _ Ex)) (λD i y M B c7 e hh=>?_) (λD M B c7 hh=>?_)⟩
  .obtain⟨sm,eD,hz⟩:=hh;have hi:i<ys.length:=(IW.mp e).1;obtain⟨qx,tt,b,r1,L,p,eq,rfl,ep,et,hb,b0,a9⟩:=Bo j5 e;have b6:=sm _ _ et;refine⟨_,U,tt,_,_,_,U,U,SqT.of b6,U,_,U,tt,_,_,_,U,U,SqT.of b6,U,_,U,tt,_,_,_,U,U,SqT.of b6,U,bf,λpr i3=>?_⟩;have c9:=ag i3 (.tup [.ref r1,.ref L]);have f8:upd B pr (.tup [.ref r1,.ref L]) pr=Mw (.tup [.ref r1,.ref L]):=ab;generalize upd B pr (.tup [.ref r1,.ref L])=H3_ at c9 f8⊢;refine⟨bf,λnt i9=>?_⟩;have b3:=ag i9 (.tup [.ref b,.ref pr]);have f9:upd H3_ nt (.tup [.ref b,.ref pr]) nt=Mw (.tup [.ref b,.ref pr]):=ab;have zw:=b3 _ _ f8;have a5:=c9.trans b3;have c2:=a5 _ _ eD;have d4:=hz.mono a5.tups;have sA:=sm.trans a5;generalize upd H3_ nt (.tup [.ref b,.ref pr])=H4_ at b3 f9 zw a5 c2 d4 sA⊢;have d3:=hz.length;rw[iP]at d3;refine cH.mk hi c2 (ay (by lia)) ⟨sA.upd c7,ab,?_⟩;rw[take_snoc eq];have st:bM H4_ (upd H4_ D (.lst (M++[.ref nt]))):=aQ c2;refine fi (d4.mono st) (.cons ⟨nt,b,.ref pr,U,st _ _ f9,(hb.mono sA.tups).mono st,?_⟩ .nil);show RPd K _ qx.2 _;rw[ep];exact⟨pr,U,r1,L,st _ _ zw,(b0.mono sA.tups).mono st,(a9.mono sA.tups).mono st⟩
  .obtain⟨sm,eD,hz⟩:=hh;rw[q1,hE]at hz;exact⟨_,U,wF (SqL.of eD) (SqL.of (sm _ _ Ey)) (by rw[hz.length,Br.length]) (λj x y e1 e2=>Au q5 hz (Br.mono sm.tups) e1 e2) (q _)⟩
end
structure FF(K:W.Frag)(Y:AD):Prop where
 (h0:GF K "all_among" "all_among" Y32)
 (h1:GF K "is_word" "is_word" Y48)
 (h2:GF K "is_whole" "is_whole" Y47)
 (h3:GF K "alike" "alike" Y31)
 (h4:GF K "holds" "holds" Y46)
 (h5:GF K "edges" "edges" Y42)
 (h6:GF K "stretches" "stretches" Y87)
 (h7:GF K "grain" "grain" Y45)
 (h8:GF K "cut_columns" "cut_columns" Y40)
 (h9:GF K "built" "built" Y35)
 (h10:GF K "layered" "layered" Y75)
 (h11:GF K "closed" "closed" Y38)
 (h12:GF K "mapped" "mapped" Y76)
 (h13:GF K "paired" "paired" Y79)
 (h14:GF K "boxes" "boxes" Y33)
 (h15:GF K "gathered" "gathered" Y44)
 (h16:GF K "way_by" "way_by" Y91)
 (h17:GF K "refuse_names" "refuse_names" Y81)
 (h18:GF K "refuse_counts" "refuse_counts" Y80)
 (h19:GF K "refuse_way" "refuse_way" Y85)
 (h20:GF K "refuse_row" "refuse_row" Y82)
 (h21:GF K "own_row" "own_row" Y78)
 (h22:GF K "fits" "fits" Y43)
 (h23:GF K "mask" "mask" Y77)
 (h24:GF K "judged" "judged" Y49)
 (h25:GF K "table_bounds" "table_bounds" Y88)
 (h26:GF K "table_marks" "table_marks" Y89)
 (h27:GF K "column_marks" "column_marks" Y39)
 (h30:GF K "boxes_with_leaf" "boxes_with_leaf" Y34)
 (h31:GF K "changes" "changes" Y37)
 (h32:GF K "changed_boxes" "changed_boxes" Y36)
 (h33:GF K "differing_pair" "differing_pair" Y41)
 (h34:GF K "refuse_unlike" "refuse_unlike" Y83)
 (h35:GF K "refuse_unlike_domains" "refuse_unlike_domains" Y84)
 (h36:GF K "_law_cell" "_law_cell" Y52)
 (h37:GF K "_law_numbers" "_law_numbers" Y62)
 (h38:GF K "_law_points" "_law_points" Y67)
 (h39:GF K "_law_grid_points" "_law_grid_points" Y57)
 (h40:GF K "_law_word" "_law_word" Y74)
 (h41:GF K "_law_domain" "_law_domain" Y53)
 (h42:GF K "_law_outs" "_law_outs" Y65)
 (h43:GF K "_law_outcome" "_law_outcome" Y64)
 (h44:GF K "_law_way" "_law_way" Y72)
 (h45:GF K "_law_row" "_law_row" Y68)
 (h46:GF K "_law_spans" "_law_spans" Y70)
 (h47:GF K "_law_table" "_law_table" Y71)
 (h48:GF K "_law_other" "_law_other" Y63)
 (h49:GF K "_law_places" "_law_places" Y66)
 (h50:GF K "_law_box" "_law_box" Y51)
 (h51:GF K "_law_fitting" "_law_fitting" Y56)
 (h52:GF K "_law_due" "_law_due" Y54)
 (h53:GF K "_law_whole" "_law_whole" Y73)
 (h54:GF K "_law_is_box" "_law_is_box" Y58)
 (h55:GF K "_law_meet" "_law_meet" Y61)
 (h56:GF K "_law_size" "_law_size" Y69)
 (h57:GF K "_law_just" "_law_just" Y60)
 (h58:GF K "_law_dues" "_law_dues" Y55)
 (h59:GF K "_law_is_verdict" "_law_is_verdict" Y59)
 (h91:GF K "law" "law" Y50)
 (m73:MF K Y.i "has_code" "Domain.has_code" Y2)
 (m74:MF K Y.j "has_code" "Domain.has_code" Y3)
 (m79:MF K Y.b "verdict" "Way.verdict" Y24)
 (m80:MF K Y.b "chosen" "First.chosen" Y5)
 (m81:MF K Y.c "verdict" "Way.verdict" Y28)
 (m82:MF K Y.c "chosen" "Only.chosen" Y14)
 (m83:MF K Y.d "verdict" "Way.verdict" Y26)
 (m84:MF K Y.d "chosen" "Like.chosen" Y9)
 (m85:MF K Y.e "verdict" "Way.verdict" Y27)
 (m86:MF K Y.e "chosen" "Low.chosen" Y11)
 (m87:MF K Y.f "verdict" "Way.verdict" Y25)
 (m88:MF K Y.f "chosen" "High.chosen" Y7)
 (m89:MF K Y.g "verdict" "Way.verdict" Y29)
 (m90:MF K Y.g "chosen" "Sum.chosen" Y16)
 (k60:KF K Y.k "Table" "Table.__init__" Y17)
 (k61:KF K Y.b "First" "First.__init__" Y4)
 (k63:KF K Y.c "Only" "Only.__init__" Y13)
 (k65:KF K Y.d "Like" "Like.__init__" Y8)
 (k67:KF K Y.e "Low" "Low.__init__" Y10)
 (k69:KF K Y.f "High" "High.__init__" Y6)
 (k71:KF K Y.g "Sum" "Sum.__init__" Y15)
 (k75:KF K Y.i "Numbers" "Numbers.__init__" Y12)
 (k77:KF K Y.j "Words" "Words.__init__" Y30)
 (b62:BF K Y.a "Way" "__init__" "Way.__init__" Y18)
 (b64:BF K Y.a "Way" "__init__" "Way.__init__" Y22)
 (b66:BF K Y.a "Way" "__init__" "Way.__init__" Y20)
 (b68:BF K Y.a "Way" "__init__" "Way.__init__" Y21)
 (b70:BF K Y.a "Way" "__init__" "Way.__init__" Y19)
 (b72:BF K Y.a "Way" "__init__" "Way.__init__" Y23)
 (b76:BF K Y.h "Domain" "__init__" "Domain.__init__" Y0)
 (b78:BF K Y.h "Domain" "__init__" "Domain.__init__" Y1)
 (t28:TFn K "row_form" s_row_form)
 (t29:TFn K "verdict_form" s_verdict_form)
 (z0:W.nsIn K Jx "len" = Mw Mx)
 (z1:W.nsIn K Jx "isinstance" = Mw Mx)
 (z2:W.nsIn K Jx "int" = Mw Mx)
 (z3:W.nsIn K Jx "bool" = Mw Mx)
 (z4:W.nsIn K Jx "sorted" = Mw Mx)
 (z5:W.nsIn K Jx "list" = Mw Mx)
 (z6:W.nsIn K Jx "set" = Mw Mx)
 (z7:W.nsIn K Jx "zip" = Mw Mx)
 (z8:W.nsIn K Jx "tuple" = Mw Mx)
 (z9:W.nsIn K Jx "min" = Mw Mx)
 (z10:W.nsIn K Jx "sum" = Mw Mx)
 (z11:W.nsIn K Jx "range" = Mw Mx)
 (z12:W.nsIn K Jx "enumerate" = Mw Mx)
 (z13:W.nsIn K Jx "reversed" = Mw Mx)
 (z14:W.nsIn K Jx "max" = Mw Mx)
 (z15:W.nsIn K Jx "str" = Mw Mx)
 (y0:∃u,W.nsIn K Jx "MOST_SIGNS" = Mw (Mw u)/\RelV (V.int 12) u)
 (y1:∃u,W.nsIn K Jx "SMALL_LETTERS" = Mw (Mw u)/\RelV (V.str "abcdefghijklmnopqrstuvwxyz") u)
 (y2:∃u,W.nsIn K Jx "MOST_GRAIN" = Mw (Mw u)/\RelV (V.int 300) u)
 (y3:∃u,W.nsIn K Jx "MOST_ROWS" = Mw (Mw u)/\RelV (V.int 200) u)
 (y4:∃u,W.nsIn K Jx "MOST_COLUMNS" = Mw (Mw u)/\RelV (V.int 4) u)
 (y5:∃u,W.nsIn K Jx "NOTHING" = Mw (Mw u)/\RelV (V.int 0) u)
 (y6:∃u,W.nsIn K Jx "MOST_WORDS" = Mw (Mw u)/\RelV (V.int 40) u)
local macro_rules|`(tactic|trivial)=>`(tactic|exact λF=>F.binds λ_ _ _ _ _ _=>by first|exact L2.lb0 rfl|exact L2.lb1 λ_=>U|exact L2.lb2 λ_ _=>U|exact L2.lb3 λ_ _ _=>U|exact L2.lb4 λ_ _ _ _=>U|exact L2.lb5 λ_ _ _ _ _=>U|exact L2.lb6 λ_ _ _ _ _ _=>U|exact L2.lb7 λ_ _ _ _ _ _ _=>U|exact L2.lb8 λ_ _ _ _ _ _ _ _=>U|exact L2.lb9 λ_ _ _ _ _ _ _ _ _=>U)
theorem all_mk{l:W.OpenLaw}{w:Jq}{K:W.Frag}{h:Jt}{f:Str->Option Jp}{I:Js}{Y:AD}(X:K.In h)(G:h.Ns Jx f)(m:f "law" = Mw (.ref I)) (b:Bk K Y)(u:FF K Y)
  : ∃g:Kx,(∀(s:JB)(v:Jp),Ky s g ⟨[v],[]⟩ [("script",v)])/\∀d:Jt,K.In d->d.Ns Jx f->(∀q∈(W.tabIn K "row_form").toList++(W.tabIn K "verdict_form").toList,W.CodeHd d q.1 q.2/\d.BuiltinsAt f q.2)->aK l.prog w K f d CX0 20 I g ["script"] (J18 K):=by
 cases u.h91 with | @mk _ g a F =>
 cases m.symm.trans (W.mg_of X G a);have bl:Bl K f Y:=⟨b,W.mg_of X G b.n_Way,W.mg_of X G b.n_First,W.mg_of X G b.n_Only,W.mg_of X G b.n_Like,W.mg_of X G b.n_Low,W.mg_of X G b.n_High,W.mg_of X G b.n_Sum,W.mg_of X G b.n_Domain,W.mg_of X G b.n_Numbers,W.mg_of X G b.n_Words,W.mg_of X G b.n_Table,W.mg_of X G b.n_NONE,W.mg_of X G b.n_CLASH,W.mg_none_of X G u.z0,W.mg_none_of X G u.z1,W.mg_none_of X G u.z2,W.mg_none_of X G u.z3,W.mg_none_of X G u.z4,W.mg_none_of X G u.z5,W.mg_none_of X G u.z6,W.mg_none_of X G u.z7,W.mg_none_of X G u.z8,W.mg_none_of X G u.z9,W.mg_none_of X G u.z10,W.mg_none_of X G u.z11,W.mg_none_of X G u.z12,W.mg_none_of X G u.z13,W.mg_none_of X G u.z14,W.mg_none_of X G u.z15,(let ⟨_,y,x⟩:=u.y0;⟨_,W.mg_of X G y,x⟩),(let ⟨_,y,x⟩:=u.y1;⟨_,W.mg_of X G y,x⟩),(let ⟨_,y,x⟩:=u.y2;⟨_,W.mg_of X G y,x⟩),(let ⟨_,y,x⟩:=u.y3;⟨_,W.mg_of X G y,x⟩),(let ⟨_,y,x⟩:=u.y4;⟨_,W.mg_of X G y,x⟩),(let ⟨_,y,x⟩:=u.y5;⟨_,W.mg_of X G y,x⟩),(let ⟨_,y,x⟩:=u.y6;⟨_,W.mg_of X G y,x⟩)⟩;refine⟨g,λs v=>by obtain⟨_,_,_,_,_,_,_,_,_,e,_,_⟩:=F.ex;rw[e];exact .of_eq U,λd _ _ H=>?_⟩;have z:Zb l.prog w K f d:=⟨X,G⟩;have sP:=mkC z u.h0 λF=>Fx F bl
 have B:=mkC z u.h2 λF=>Fy F bl
 have AK:=mkC z u.h3 λF=>Fz F bl
 have AL:=mkC z u.h4 λF=>FA F bl
 have AM:=mkC z u.h5 λF=>FC F bl
 have sQ:=mkC z u.h6 λF=>FD F bl
 have i:=mkC z u.h11 λF=>FG F bl
 have uL:=mkC z u.h15 λF=>FH F bl
 have mr:=mkC z u.h18 λF=>FI F bl
 have T:=mkC z u.h21 λF=>FJ F bl
 have ox:=mkC z u.h25 λF=>FK F bl
 have lM:=mkC z u.h33 λF=>FL F bl
 have k:=mkC z u.h36 λF=>FN F bl
 have oZ:=mkC z u.h37 λF=>FO F bl
 have qY:=mkC z u.h38 λF=>FP F bl
 have j:=mkC z u.h40 λF=>FT F bl
 have uM:=mkC z u.h42 λF=>FU F bl
 have S:=mkC z u.h44 λF=>FV F bl
 have A:=mkC z u.h45 λF=>FW F bl
 have sR:=mkC z u.h46 λF=>FY F bl
 have D:=mkC z u.h49 λF=>FZ F bl
 have R:=mkC z u.h50 λF=>F1 F bl
 have o6:=mkC z u.h51 λF=>F4 F bl
 have Q:=mkC z u.h52 λF=>F5 F bl
 have C:=mkC z u.h53 λF=>F6 F bl
 have uN:=mkC z u.h55 λF=>F7 F bl
 have uO:=mkC z u.h56 λF=>F8 F bl
 have iT:=mkB z u.b62 λF=>F9 F bl
 have ji:=mkB z u.b64 λF=>Ga F bl
 have jj:=mkB z u.b66 λF=>Gb F bl
 have j3:=mkB z u.b68 λF=>Gd F bl
 have jk:=mkB z u.b70 λF=>Ge F bl
 have j4:=mkB z u.b72 λF=>Gf F bl
 have fB:=mkB z u.b76 λF=>O_0 F bl
 have gA:=mkB z u.b78 λF=>O_1 F bl
 have iU:=mkM z u.m80 λF=>O_5 F bl
 have j5:=mkM z u.m82 λF=>Gg F bl
 have j6:=mkM z u.m84 λF=>O_9 F bl
 have lN:=mkM z u.m86 λF=>Gh F bl
 have ka:=mkM z u.m88 λF=>O_7 F bl
 have lO:=mkM z u.m90 λF=>Gi F bl
 have t:=mkC z u.h1 λF=>Gj F bl sP.up
 have E:=mkC z u.h8 λF=>Gk F bl sQ.up
 have CO:=mkC z u.h22 λF=>Gn F bl AL.up
 have oy:=mkC z u.h27 λF=>Gp F bl uL.up AM.up
 have gB:=mkC z u.h35 λF=>Gq F bl AK.up
 have kN:=mkC z u.h39 λF=>Gr F bl k.up qY.up
 have sS:=mkC z u.h48 λF=>Gs F bl A.up
 have qZ:=mkC z u.h54 λF=>Gz F bl C.up
 have uP:=mkC z u.h58 λF=>GB F bl D.up Q.up o6.up
 have lP:=mkC z u.h59 λF=>GH F bl C.up
 have hV:=mkK z u.k61 λF=>O_4 F bl iT.up
 have iV:=mkK z u.k63 λF=>GI F bl ji.up
 have iW:=mkK z u.k65 λF=>O_8 F bl jj.up
 have kb:=mkK z u.k67 λF=>GJ F bl j3.up
 have iX:=mkK z u.k69 λF=>O_6 F bl jk.up
 have kc:=mkK z u.k71 λF=>GK F bl j4.up
 have fC:=mkM z u.m73 λF=>O_2 F bl B.up
 have gC:=mkM z u.m74 λF=>O_3 F bl B.up
 have L:=mkK z u.k75 λF=>GL F bl fB.up
 have jl:=mkM z u.m79 λF=>GN F bl iU.up
 have ke:=mkM z u.m81 λF=>GO F bl j5.up
 have kf:=mkM z u.m83 λF=>GP F bl j6.up
 have kO:=mkM z u.m85 λF=>GQ F bl lN.up
 have kg:=mkM z u.m87 λF=>GR F bl ka.up
 have kP:=mkM z u.m89 λF=>GS F bl lO.up
 have AN:=mkC z u.h7 λF=>GU F bl E.up
 have oz:=mkC z u.h17 λF=>GV F bl t.up
 have q8:=mkC z u.h20 λF=>GW F bl fC.up gC.up
 have o:=mkC z u.h23 λF=>GX F bl CO.up
 have o7:=mkC z u.h26 λF=>GY F bl oy.up
 have mw:=mkC z u.h34 λF=>GZ F bl gB.up
 have Z:=mkC z u.h57 λF=>G5 F bl uO.up uN.up qZ.up
 have J:=mkK z u.k77 λF=>Ha F bl gA.up t.up
 have r:=mkC z u.h16 λF=>Hb F bl hV.up iV.up iW.up kb.up iX.up kc.up
 have q9:=mkC z u.h19 λF=>Hc F bl r.up
 have p:=mkC z u.h24 λF=>Hd F bl jl.up ke.up kf.up kO.up kg.up kP.up r.up
 have rb:=mkC z u.h41 λF=>He F bl L.up J.up j.up
 have o8:=mkC z u.h43 λF=>Hf F bl L.up J.up j.up
 have hX:=mkK z u.k60 λF=>Hg F bl oz.up mr.up q9.up q8.up T.up
 have AO:=mkR z u.h14 0 7 zm λn F c=>Hh F bl c
 have kQ:=mkC z u.h30 λF=>Hi F bl AO.up
 have sW:=mkC z u.h47 λF=>Hj F bl k.up hX.up rb.up j.up o8.up sR.up
 have P:=mkR z u.h10 8 7 uG λn F c=>Hq F bl (i.mono (by lia)) c (by lia)
 have M:=mkR z u.h12 8 7 wW λn F c=>Hr F bl (i.mono (by lia)) c (by lia)
 have N:=mkR z u.h13 8 7 wX λn F c=>Hs F bl (i.mono (by lia)) c (by lia)
 have AQ:=mkC z u.h9 λF=>Hv F bl P.up AN.up E.up
 have my:=mkC z u.h32 λF=>Hz F bl N.up lM.up kQ.up
 have V:=mkT z u.t28 (λq h=>H q (by simp only[ik];simp[h])) λF h1 h2 h3=>HA F bl AQ.up ox.up o7.up o.up h1 h2 h3 o.up
 have oA:=mkT z u.t29 (λq h=>H q (by simp only[ik];simp[h])) λF h1 h2 h3=>HD F bl M.up V.up p.up h1 h2 h3 p.up
 have O:=mkC z u.h31 λF=>HG F bl mw.up my.up oA.up
 exact HH F bl kN.up uM.up sW.up O.up k.up S.up A.up sS.up R.up Z.up oZ.up D.up uP.up lP.up
theorem walk{l:W.OpenLaw}{q:Jr}{c:List Str}{XP:(Str->Option Jp)->Jt->Prop}{y:Jq->Jt->Prop}{d:DefRec}{K:K3->W.Frag}(B:l.most=Mw 63)(m:d.params.defaults=[])
  (D:∀(w:Jq)(h:Jt),y w h->(K w.params).In h)(j:∀p:K3,W.noTabs (K p)=Mz)(i:∃d',(PyProof.Rows.recsOf q).find? (λe=>e.name == ("row_form" : Str))=Mw d') (G:∃d',(PyProof.Rows.recsOf q).find? (λe=>e.name == ("verdict_form" : Str))=Mw d')
  (F:∀(w:Jq)(g:Str->Option Jp)(v:Js)(h:Jt),(K w.params).In h->h.Ns Jx g->g d.name=Mw (.ref v) ->
   ∃r:Kx,(∀(s:JB)(u:Jp),Ky s r ⟨[u],[]⟩ [("script",u)])/\∀b:Jt,(K w.params).In b->b.Ns Jx g->(∀q∈(W.tabIn (K w.params) "row_form").toList++(W.tabIn (K w.params) "verdict_form").toList,W.CodeHd b q.1 q.2/\b.BuiltinsAt g q.2)->aK l.prog w (K w.params) g b CX0 20 v r ["script"] (J18 (K w.params))) :
  W.WalkO q c XP y l.row.toRowW d [] (λf vs=>PySem.call f vs) :=
 L2.walk_ofT (n:=63) (k:=20) (x := "script") (CX:=λ_=>CX0) (sp:=λw=>J18 (K w.params)) (tabs:=λp=>(W.tabIn (K p) "row_form").toList++(W.tabIn (K p) "verdict_form").toList) (xs:=["row_form","verdict_form"]) B (by decide) m ⟨U,by decide,by decide⟩ D j (hZ.mpr ⟨i,hZ.mpr ⟨G,jg _⟩⟩)
  (λp t h=>(ik.mp h).elim (λh=>⟨_,fw,vg h⟩) λh=>⟨_,(jf _ fw),vg h⟩) F
  (λw H a A C _ E o=>⟨a,A,U,E,C,λz e=>o z (ik.mpr (.inl (by rw[e];exact fw))),λz e=>o z (ik.mpr (.inr (by rw[e];exact fw))),λ_=>U⟩) λ_ _ _ _ _ z=>z
end My
set_option genSizeOf false in
set_option genInjectivity false in
structure PySem.W.Fast:Prop where (tw14556329424929654889 tw13966719434701713439 tw17011613407629462822 tw919609618297017010 tw15646652622707749201 tw7755738612048370304 tw4491746716485346433 tw15598872459521135958 tw14413401081074454171 tw2376365840744247898 tw4401509619414394398 tw10576599634233498135 tw5255419837954454258 tw119734862241355070 tw8639326772164844745 tw1401423182837530542 tw16417623784339489005 tw7695923389393869701 tw11549441525159507049 tw5976856840872624077 tw4476135486888104358 tw7741440345369844616 tw14952385479661486671 tw368233196335698966 tw17279225906294287356 tw17397388693839855017 tw6449868278242522405 tw17071553051461373498 tw10648554134552585761 tw80168864046121031 tw8479729553484769177 tw5008129665537491353 tw4846247158853970822 tw7589060047087742097 tw1932860710060082272 tw2802183622609214161 tw331921997842236494 tw10836877552029681626 tw3488056881235739424 tw3741730281574473451 tw11265731094929483459 tw7066439084970367617 tw1166508602330298098 tw4562951854911843153 tw16968014676345055795 tw6993963285887517608 tw2302884735146470433 tw8701801514661679211 tw13926047323491864818 tw5484725875009379203 tw3681532894469140223 tw11549125980723620659 tw3645173786362842018 tw11638442104933016861 tw12360614993188646062 tw1883797357780427660 tw5192917181536964562 tw2671759742103608066 tw15285279260180318947 tw8878670476150774681 tw3591750666379932652 tw1969690209555117490 tw4701172357732387486 tw3940278973837418043 tw1433466886295603497 tw5549897518793677392 tw4069145501917555409 tw14172890820986731999 tw396139300115526349 tw12920745972130937730 tw389507060503283286 tw4211083734035391172 tw7244852305257936772 tw13133884530553449927 tw13648703057223406866 tw10847487483186016598 tw3161459709401534146 tw2080849475445745717 tw9900838399596916278 tw8335415142019234565 tw8600203654607179181 tw16072251595782505711 tw3855473644182038919 tw5022125873755540804 tw16818060096061479225 tw12313186690108575259 tw1695723023054677580 tw13363453525597309244 tw7659790758287982501 tw5875984925570716408 tw9761697756277727227 tw1836293790574318236 tw195232534939019466 tw16579399125662833034 tw6652457231510663714 tw6168204351061336573 tw18137094931757332603 tw12779636924733920057 tw1268152802950712967 tw11983709513700234526 tw839412882159752742 tw15350590449066009341 tw13879123736275180968 tw5599603161603945485 tw16280735599367258937 tw15602583891838633791 tw13448263544815694856 tw2597062178861450597 tw11290037857015587297 tw17640222364932942210 tw3345420219619861981 tw10633536746483604037 tw6234828197923593346 tw11982273116356255710 tw4858051228876290960 tw4688108206346416840 tw688852674535690823 tw14906486864452926405 tw7705904135123436696 tw4579667422380539554 tw11758362016411958919 tw7129619968980904332 tw16636810254502514558 tw18330444282361711467 tw17919193018025715903 tw10803662519153501799 tw564521145341858588 tw15729122390361766870 tw12901806823071956999 tw15232472080702687826 tw4153825390109849425 tw9449640014999787225 tw17432987409345510904 tw746147403434974382 tw12369918226028057398 tw5392046412539381158 tw6776687389928188233 tw9583440422201629804 tw6838112776383516184 tw3168643284519797721 tw7860785016468444476 tw5354466840217294629 tw4197134142833957550 tw10208535887904896372 tw2413134897485933858 tw7636403536844174685 tw11072417038453272073 tw2560693386837045318 tw7163518918704510493 tw4354203626500583099 tw10568315400127478587 tw17527295754477546753 tw695908977453195189 tw5820560900824719350 tw12803941678200850693 tw11677891959738356972 tw5708062114720135427 tw3766894790381755803 tw16846103496265351570 tw8570127483787027833 tw5447933697816433765 tw11613948804742470772 tw14594364751658542617 tw17561094262017247673 tw15223047875076663311 tw3188105576266229706 tw2390904635009435332 tw15739037847930385525 tw11554735855864450514 tw17513220477571706126 tw9052834773267179115 tw4189014897826015547 tw4392203169728477120 tw12399010827467784356 tw9519985070602131134 tw3883729736396860700 tw16991059515076125012 tw894459593804931956 tw1676846078215789852 tw17072527797324028946 tw7065465789712408491 tw2944416652185382783 tw11699005161141191048 tw2604009756290374842 tw1595298855224535565 tw17471305274714551407 tw2410268807565220307 tw12149940533985356853 tw15697419531076747122 tw11659714989031725179 tw16303437850322394054 tw647613289957799585 tw15865835486732369228 tw16430757905172628669 tw5578656759872569740 tw1699011103757588917 tw10441182466851133033 tw13721796700122545799 tw9938596599705469963 tw17357492838370222676 tw9037705678011276728 tw1915358705759182443 tw12633067886894165686 tw15331816979979585376 tw752154399370255880 tw2886759100511831338 tw2461432139537935689 tw16518476147511708875 tw1894634362760578592 tw6278537779040168058 tw9684965920813914317 tw7427628003449006118 tw17798384964276170348 tw14352037831101605115 tw7084536760298101108 tw12741639685633076750 tw4032330806108328824 tw12713772368966457939 tw12390737527187896299 tw4087331152281035989 tw1582789936048766662 tw930452163175312021 tw8549253329902480837 tw16910417236064988917 tw15891299646224178753 tw5076692143587214923 tw3859884959000767860 tw18407152501633058118 tw12410629990428999619 tw16525155947305566358 tw3019181716428770507 tw1118522308482253409 tw7758497478643937081 tw11706846127909714856 tw15160369285518968157 tw6730160736955919101 tw1554211676284183161 tw17271461462313190026 tw16431369284491300583 tw17765018457341219315 tw2354154147077753927 tw12535782172580691755 tw4848257484644774396 tw4287369965277582055 tw12930789672698358705 tw9672138928267649757 tw16383229593446216369 tw11323218394350510299 tw10934020201043521249 tw15271039150312645330 tw8195789517722068115 tw6095244575974845392 tw15634939234615794946 tw7416836539794898306 tw9155240549149574514 tw10560394946548232095 tw3549535418724784500 tw14773598049401372002 tw7572370245953831852 tw2442102703592366777 tw7701395253269755195 tw1768499659993541216 tw13177957920762049075 tw9061644356658778090 tw4562144005427178928 tw10421449454056381092 tw17873194500303740328 tw3191346960981701004 tw13795764345076453283 tw4839686512711790507 tw12182721132115965284 tw17036903384331453708 tw3411831317753604811 tw11372975988394349640 tw16476081341939617691 tw1346979332024208851 tw14513091344276006258 tw15962848576023430975 tw6069585297948659137 tw5689813822501142813 tw16034219004024736194 tw14855362758712074727 tw15182861068177173531 tw5689301170881349230 tw15532149304408620275 tw10137327806696661957 tw15940337552842707321 tw6230426938544317954 tw12532131005248732888 tw6093293478837805716 tw7990471491226859800 tw18000392485486927463 tw9410814380656896983 tw10774921047758841388 tw16556164136590519552 tw434135240613312722 tw1563327473387971231 tw7937124837859989177 tw8241256502386008707 tw14749453878927919413 tw7514976584049360302 tw13870616470130792952 tw10336419221452137931 tw13977289761513544716 tw8713045974881544003 tw14603302108274291736 tw11504895158045106828 tw9761925966085627675 tw13289835577660662382 tw8060491123371450942 tw18386200611620689467 tw12202873691073436942 tw8467262129316064281 tw16969142069789087153 tw11935470059510680260 tw11484413779515963192 tw12555287367871653013 tw17148507198157058217 tw17067026804890670310 tw10236584710734782755 tw4351924157617361373 tw153666126136236305 tw18311999819729311712 tw5373423992440781329 tw18291692949006828154 tw9938148946600709211 tw11495813108379568824 tw14813060777340304413 tw7552972985523681513 tw11321333828479696920 tw1603384294091233894 tw1066081071862887883 tw14785458012780986593 tw171365785690444807 tw15517624431140134748 tw9614146341500281152 tw11603642151676467283 tw10616457326466303308 tw505002224764599206 tw5700851415827525233 tw1671137433455844818 tw9030147500014850351 tw11465158298451170450 tw10792163406197457720 tw5722317735137630139 tw6265400525412193545 tw17908021247749130009 tw14073027149827643504 tw12839271272846669926 tw4850414085759738346 tw13839957002081145195 tw3610146689083231157 tw10312392749871434922 tw1982458177986098445 tw12465741681967728621 tw3091162732226791627 tw14104381647234671001 tw9151045507548928514 tw14580532010678207981 tw3012905908961441204 tw16139768140390991212 tw17481382555829761831 tw3967136317989712852 tw9931952365352768864 tw15307267549720830142 tw18378948947296462544 tw15777266722034336867 tw17320492716582871845 tw9926980749906060848 tw16890079361197693292 tw8073383463833200889 tw960129527208016027 tw14553558849566949074 tw4132912085387575387 tw16715113693954486790 tw1604086730620629308 tw14766709257523197868 tw10954874796711431433 tw8305427461410866007 tw17065772696926737303 tw11520277131835703768 tw9749617722090065943 tw18062207079444227956 tw7064183540905495352 tw18357449654645057339 tw423861693302164693 tw13424659560133537007 tw14872192787178299174 tw9119803032068251605 tw9759696760981399143 tw12305987923091330570 tw7716215012864629380 tw11213383669622819331 tw5560992130296522357 tw5836452084450137449 tw6804260968870981750 tw11303118276947513667 tw8050174253995101062 tw8181242830795491972 tw9469378195770325738 tw10345578969584972593 tw1626116510315827005 tw4566445200021724657 tw1226542840704648327 tw1731100357766007626 tw1551497590599835710 tw10541466706685557798 tw349078222012302978 tw7072009826897633593 tw18244232086806745519 tw8201681595691400492 tw10890502387315186463 tw10112192677726455063 tw7654624076073110928 tw5907593758604473354 tw9393805613209725484 tw13209214552773468466 tw6590872535110014094 tw14126176597890487697 tw8187658530791117460 tw9418849680103209425 tw10119677896710906384 tw8576151328894021607 tw12603892176356858288 tw4387502572616137797 tw17564763020320295184 tw9684085213939620381 tw13947741575197946474 tw8521109467573952689 tw15972839486872006723 tw14880346415571577054 tw1126662290352817620 tw17773947787666301693 tw7803242542399173895 tw14578957849679341742 tw11842171952304015193 tw15045722360415437579 tw6177005409186241460 tw5896570580387855835 tw12169657227888098542 tw9815676016756150573 tw1548572335639259916 tw12688821289082848970 tw11302043073372842937 tw14448517605936018059 tw16970874904911395510 tw11921180159235795233 tw16254479009586869723 tw1476893092543015636 tw13238562013373034483 tw1424529898352898432 tw9780431552618477843 tw6762495087281975943 tw15434195764292174313 tw12051598250120061789 tw12380778725044145210 tw1126631439098409277 tw3337453908484836048 tw17140638479308308150 tw7090759983286654832 tw7010882469740359474 tw6735147724732984478 tw13722294626338174142 tw17616793235141258372 tw2186030992139200849 tw2993549191355368248 tw6262424257637740110 tw11420691241948227221 tw7042012746459473135 tw16075440993095250655 tw5862963857532822767 tw15787419585369636746 tw2184450014539510034 tw16784257818139914564 tw13360076566597284596 tw4033528537038448563 tw15738346515670962603 tw2079583652398971079 tw17398344409166348433 tw5498104920552340380 tw15100345668650208356 tw12044780078326008676 tw7730633914697477877 tw16762258156914681119 tw17606472951037955354 tw4082129199932386885 tw11065134279499448615 tw4139832125858665439 tw10788611584878216378 tw1084705526889869134 tw5619526310463599816 tw3117334420335268553 tw11879811101596296611 tw4885280945292276654 tw13414477272015384380 tw1287670576332165694 tw4683039185740826075 tw16734206677252531227 tw9849024507447789615 tw515457143272555213 tw7595817048442807907 tw5517114651169805160 tw14941338468621681347:True)
open PySem PySem.W PyProof.Rows
set_option maxRecDepth 100000 in
set_option maxHeartbeats 0 in
theorem PySem.Challenge.cw_rowjudge_k47_whole_changes_holds : PySem.Challenge.rw_rowjudge_k47_whole_changes.Holds := by
 w_on;o_law;k_head;(case hw=>w_witness2)
 k_fill
 refine My.walk (l:=PySem.Challenge.rw_rowjudge_k47_whole_changes) rfl rfl (λw h Y=>PySem.W.km_in_of Y) ?hnK ?hxs ?CP ?F
 case hnK=>intro p;first|rfl|decide+kernel|with_unfolding_all rfl
 case hxs=>exact⟨_,rfl⟩
 case CP=>exact⟨_,rfl⟩
 case F =>
  intro w mg fa h KX G hmg;refine' My.all_mk (Y:=.mk ..) KX G hmg ?b ?u
  case b =>
   constructor
   all_goals try dsimp only
   iterate 13 (k_is)
   iterate 9 (constructor <;> first|k_is|rfl|with_unfolding_all rfl)
   iterate 9 (refine'⟨⟨?_,?_,?_,?_⟩,?_,?_,?_,?_⟩ <;> first|k_is|rfl|with_unfolding_all rfl)
   refine' L2.ModT.mk ?lk ?sz ?vs
   (case lk=>k_is)
   (case sz=>decide)
   (case vs=>exact(.cons ⟨_,rfl⟩ (.cons ⟨_,rfl⟩ .nil)))
   refine' L2.ModT.mk ?lk ?sz ?vs
   (case lk=>k_is)
   (case sz=>decide)
   (case vs=>exact(.cons ⟨_,rfl⟩ (.cons ⟨_,rfl⟩ .nil)))
   iterate 18 (delta L2.NoAttr;k_is)
   iterate 4 (first|k_is|rfl|with_unfolding_all rfl)
   refine' My.tab_ne (L2.tab_mk (qual := "row_form") (st:=My.s_row_form) ?a1 ?l1 ?c1 ?e1) (L2.tab_mk (qual := "verdict_form") (st:=My.s_verdict_form) ?a2 ?l2 ?c2 ?e2) ?ne
   (case a1|l1|c1=>k_is)
   (case e1=>rfl)
   (case a2|l2|c2=>k_is)
   (case e2=>rfl)
   (case ne=>first|decide|(intro h;cases h))
  case u =>
   constructor
   all_goals try dsimp only
   iterate 59 (refine' L2.GF.mk ?a1 (L2.fun_mk ?l ?c ?k);(case a1=>k_is);(case l=>k_is);(case c=>k_is);(case k=>k_is))
   iterate 14 (refine' L2.MF.mk ?a1 ?a2 (L2.fun_mk ?l ?c ?k);(case a1=>k_is);(case a2=>k_is);(case l=>k_is);(case c=>k_is);(case k=>k_is))
   iterate 9 (refine' L2.KF.mk ?a1 ?a2 ?a3 ?a4 ?a5 (L2.fun_mk ?l ?c ?k);(case a1=>k_is);(case a2=>k_is);(case a3=>k_is);(case a4=>k_is);(case a5=>k_is);(case l=>k_is);(case c=>k_is);(case k=>k_is))
   iterate 8 (refine' L2.BF.mk ?a1 ?a2 ?a3 ?a4 (L2.fun_mk ?l ?c ?k);(case a1=>k_is);(case a2=>k_is);(case a3=>k_is);(case a4=>k_is);(case l=>k_is);(case c=>k_is);(case k=>k_is))
   iterate 2 (refine' L2.tfn_mk ?l1 ?l2 ?l3 ?l4 ?l5 ?l6;(case l1=>k_is);(case l2=>k_is);(case l3=>k_is);(case l4=>k_is);(case l5=>k_is);(case l6=>rfl))
   iterate 16 (k_is)
   iterate 7 (refine' L2.gv_mk ?a1 ?a2;(case a1=>k_is);(case a2=>exact⟨_,rfl⟩))
